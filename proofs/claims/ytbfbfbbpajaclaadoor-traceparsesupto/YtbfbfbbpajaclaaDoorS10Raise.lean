
/-
  The landed scratch: Raise. Condition: the numbers don't lie in the scratch itself.
-/
import Derived.Test.YtbfbfbbpajaclaaDoorS10Meth
namespace Go.Proofs.YtbfbfbbpajaclaaDoor
open Go.RowKit
set_option linter.unusedVariables false
set_option linter.unusedSimpArgs false
set_option maxRecDepth 100000

/-- The first k counters are raised. -/
def raiseU (cs xs : List Int) (k : Nat) : List Int := (List.range 16).map fun i => if i < k ∧ i < xs.length then addW (cs.getD i 0) (xs.getD i 0) else cs.getD i 0
def raiseL (cs xs : List Int) : List Int := raiseU cs xs 16
theorem raiseU_len (cs xs : List Int) (k : Nat) : (raiseU cs xs k).length = 16 := by simp [raiseU]
theorem raiseU_at (cs xs : List Int) (k : Nat) {i : Nat} (h : i < 16) : (raiseU cs xs k).getD i 0 = if i < k ∧ i < xs.length then addW (cs.getD i 0) (xs.getD i 0) else cs.getD i 0 := by
  simp [raiseU, List.getD, List.getElem?_range h]
theorem list16 {xs ys : List Int} (h1 : xs.length = 16) (h2 : ys.length = 16) (h : ∀ i, i < 16 → xs.getD i 0 = ys.getD i 0) : xs = ys := by
  apply List.ext_getElem (by omega)
  intro i hi hj
  have := h i (by omega)
  simpa [List.getD, List.getElem?_eq_getElem hi, List.getElem?_eq_getElem hj] using this
theorem getD_setI {xs : List Int} (k i : Nat) (n : Int) (h : k < xs.length) : (xs.set k n).getD i 0 = if i = k then n else xs.getD i 0 := by
  by_cases hik : i = k
  · subst hik; simp [List.getD, h]
  · simp [List.getD, List.getElem?_set, hik, Ne.symm hik]
theorem raise_zero {cs : List Int} (xs : List Int) (h : cs.length = 16) : raiseU cs xs 0 = cs := list16 (raiseU_len _ _ _) h fun i hi => by rw [raiseU_at _ _ _ hi, if_neg (by omega)]
theorem raise_step {cs xs : List Int} {k : Nat} (hk : k < 16) (hx : k < xs.length) : (raiseU cs xs k).set k (addW ((raiseU cs xs k).getD k 0) (xs.getD k 0)) = raiseU cs xs (k + 1) := list16 (by simp [raiseU_len]) (raiseU_len _ _ _) fun i hi => by
  rw [getD_setI _ _ _ (by rw [raiseU_len]; exact hk), raiseU_at _ _ _ hi, raiseU_at _ _ _ hi, raiseU_at _ _ _ hk]
  by_cases hik : i = k
  · subst hik
    rw [if_pos rfl, if_neg (by omega), if_pos (by omega)]
  · rw [if_neg hik]
    by_cases h : i < k ∧ i < xs.length
    · rw [if_pos h, if_pos (by omega)]
    · rw [if_neg h, if_neg (by omega)]
theorem raise_all {cs xs : List Int} {m : Nat} (h : (m : Int) = min (xs.length : Int) 16) : raiseU cs xs m = raiseL cs xs := list16 (raiseU_len _ _ _) (raiseU_len _ _ _) fun i hi => by
  unfold raiseL
  rw [raiseU_at _ _ _ hi, raiseU_at _ _ _ hi]
  by_cases h2 : i < m ∧ i < xs.length
  · rw [if_pos h2, if_pos (by omega)]
  · rw [if_neg h2, if_neg (by omega)]
theorem Sees.grown {k : IntKind} {w w' : World} {g o n c b : Nat} {xs : List Int} (h : Sees k w (.slice (some ⟨g, o, none⟩) n c) xs) (hg : w.grownBy w' (some b)) (hne : g ≠ b) : Sees k w' (.slice (some ⟨g, o, none⟩) n c) xs := by
  obtain ⟨a, cap, hv, hl, hm, hn0, hw, hs⟩ := h
  refine ⟨a, cap, hv, hl, hm, hn0, hw, fun hn => ?_⟩
  obtain ⟨b', off, rfl, hlt, hc⟩ := hs hn
  injection hv with e1 e2 e3
  injection e1 with e1
  injection e1 with e1 e4
  subst e1 e4
  exact ⟨_, _, rfl, Nat.lt_of_lt_of_le hlt hg.size, fun i hi => (World.cell?_of_block (hg.block _ hlt (fun e => hne (by injection e)))).trans (hc i hi)⟩
end Go.Proofs.YtbfbfbbpajaclaaDoor
