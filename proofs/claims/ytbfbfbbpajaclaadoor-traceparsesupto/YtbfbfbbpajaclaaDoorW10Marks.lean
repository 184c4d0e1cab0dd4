
/-
  ScratchMarks, walked: the answer is true. Condition: the slice reads as its numbers.
-/
import Derived.Test.YtbfbfbbpajaclaaDoorS10Awake
namespace Go.Proofs.YtbfbfbbpajaclaaDoor
open Go.RowKit
set_option linter.unusedVariables false
set_option linter.unusedSimpArgs false
set_option maxRecDepth 100000

/-- The counters behind the first marks. -/
def markStep (cs : List Int) (a : Int) : List Int := if inB a then oneUp cs a.toNat else cs
def marksL (cs : List Int) (xs : List Int) : List Int := xs.foldl markStep cs
theorem markStep_len {cs : List Int} (a : Int) (h : cs.length = 16) : (markStep cs a).length = 16 := by
  unfold markStep oneUp; split <;> simp [h]
theorem marks_len {cs : List Int} : ∀ (xs : List Int), cs.length = 16 → (marksL cs xs).length = 16 := by
  intro xs
  unfold marksL
  induction xs generalizing cs with
  | nil => intro h; exact h
  | cons x xs ih => intro h; exact ih (markStep_len x h)
theorem marks_take (cs xs : List Int) {k : Nat} (h : k < xs.length) : marksL cs (xs.take (k + 1)) = markStep (marksL cs (xs.take k)) (xs.getD k 0) := by
  rw [take_at xs k h]
  unfold marksL
  rw [List.foldl_append]
  rfl
/-- All within 64 bits. -/
def W64L (cs : List Int) : Prop := ∀ i, 0 ≤ cs.getD i 0 ∧ cs.getD i 0 < 18446744073709551616
theorem addW_in (a b : Int) : 0 ≤ addW a b ∧ addW a b < 18446744073709551616 := by unfold addW; omega
theorem getD_set_any (xs : List Int) (k i : Nat) (n : Int) : (xs.set k n).getD i 0 = if i = k ∧ k < xs.length then n else xs.getD i 0 := by
  by_cases h : k < xs.length
  · rw [getD_setI _ _ _ h]
    by_cases hi : i = k
    · rw [if_pos hi, if_pos ⟨hi, h⟩]
    · rw [if_neg hi, if_neg (fun e => hi e.1)]
  · rw [List.set_eq_of_length_le (by omega), if_neg (fun e => h e.2)]
theorem W64L.mark {cs : List Int} (h : W64L cs) (a : Int) : W64L (markStep cs a) := by
  unfold markStep oneUp
  split
  · intro i
    rw [getD_set_any]
    split
    · exact addW_in _ _
    · exact h i
  · exact h
theorem W64L.marks {cs : List Int} : ∀ (xs : List Int), W64L cs → W64L (marksL cs xs) := by
  intro xs
  unfold marksL
  induction xs generalizing cs with
  | nil => intro h; exact h
  | cons x xs ih => intro h; exact ih (h.mark x)
theorem W64L.nought : W64L nought := by
  intro i
  have : Go.Proofs.YtbfbfbbpajaclaaDoor.nought.getD i 0 = 0 := by
    by_cases h : i < 16
    · exact (by decide : ∀ k : Fin 16, Go.Proofs.YtbfbfbbpajaclaaDoor.nought.getD k 0 = 0) ⟨i, h⟩
    · rw [List.getD_eq_getElem?_getD, List.getElem?_eq_none (by show 16 ≤ i; omega)]; rfl
  rw [this]; omega
theorem W64L.wf {cs : List Int} (h : W64L cs) : ∀ x ∈ cs, (Lit.int .u64 x).wf = true := by
  intro x hx
  obtain ⟨i, hi, rfl⟩ := List.getElem_of_mem hx
  have := h i
  simp only [List.getD, List.getElem?_eq_getElem hi, Option.getD_some] at this
  exact WalkArith.wf_u64 (by omega)
theorem tot_one {cs : List Int} (hl : cs.length = 16) (h : W64L cs) : totL [some cs] = cs := by
  show raiseU nought cs 16 = cs
  refine list16 (raiseU_len _ _ _) hl fun i hi => ?_
  rw [raiseU_at _ _ _ hi, if_pos (by omega)]
  have e0 : nought.getD i 0 = 0 := (by decide : ∀ k : Fin 16, nought.getD k 0 = 0) ⟨i, hi⟩
  have := h i
  rw [e0]
  unfold addW
  omega
end Go.Proofs.YtbfbfbbpajaclaaDoor
