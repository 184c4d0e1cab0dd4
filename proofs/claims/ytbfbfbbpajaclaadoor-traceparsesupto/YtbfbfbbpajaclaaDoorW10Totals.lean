
/-
  ScratchTotals, walked: the answer is true. Condition: the slices read as their numbers.
-/
import Derived.Test.YtbfbfbbpajaclaaDoorW10Marks
namespace Go.Proofs.YtbfbfbbpajaclaaDoor
open Go.RowKit
set_option linter.unusedVariables false
set_option linter.unusedSimpArgs false
set_option maxRecDepth 100000

theorem nought_at0 (k : Nat) : nought.getD k 0 = 0 := by
  by_cases h : k < 16
  · exact (by decide : ∀ k : Fin 16, nought.getD k 0 = 0) ⟨k, h⟩
  · rw [List.getD_eq_getElem?_getD, List.getElem?_eq_none (by show 16 ≤ k; omega)]; rfl
theorem raiseL_at (cs xs : List Int) {i : Nat} (h : i < 16) : (raiseL cs xs).getD i 0 = if i < xs.length then addW (cs.getD i 0) (xs.getD i 0) else cs.getD i 0 := by
  unfold raiseL
  rw [raiseU_at _ _ _ h]
  by_cases h2 : i < xs.length
  · rw [if_pos ⟨h, h2⟩, if_pos h2]
  · rw [if_neg (fun e => h2 e.2), if_neg h2]
theorem raiseL_len (cs xs : List Int) : (raiseL cs xs).length = 16 := raiseU_len _ _ _
theorem W64L.of16 {cs : List Int} (hl : cs.length = 16) (h : ∀ i, i < 16 → 0 ≤ cs.getD i 0 ∧ cs.getD i 0 < 18446744073709551616) : W64L cs := fun i => by
  by_cases hi : i < 16
  · exact h i hi
  · rw [List.getD_eq_getElem?_getD, List.getElem?_eq_none (by omega)]
    show (0 : Int) ≤ 0 ∧ (0 : Int) < 18446744073709551616
    omega
theorem W64L.raise {cs xs : List Int} (h : W64L cs) : W64L (raiseL cs xs) := W64L.of16 (raiseL_len _ _) fun i hi => by
  rw [raiseL_at _ _ hi]
  split
  · exact addW_in _ _
  · exact h i
theorem W64L.tot (ss : List (Option (List Int))) : W64L (totL ss) := by
  unfold totL
  have : ∀ (ss : List (Option (List Int))) (a : List Int), W64L a → W64L (ss.foldl totStep a) := by
    intro ss
    induction ss with
    | nil => intro a h; exact h
    | cons o ss ih =>
      intro a h
      refine ih _ ?_
      cases o with
      | none => exact h
      | some cs => exact h.raise
  exact this ss _ W64L.nought
theorem add3 (p q r : Prop) [Decidable p] [Decidable q] [Decidable r] (a b c : Int) :
    addW (addW 0 (if r then addW (if p then addW 0 a else 0) c else if p then addW 0 a else 0)) (if q then addW 0 b else 0) = addW 0 (if p then addW (if q then addW (if r then addW 0 c else 0) b else if r then addW 0 c else 0) a else if q then addW (if r then addW 0 c else 0) b else if r then addW 0 c else 0) := by
  unfold addW
  by_cases hp : p <;> by_cases hq : q <;> by_cases hr : r <;> simp only [hp, hq, hr, if_true, if_false] <;> omega
theorem add3' (p q r : Prop) [Decidable p] [Decidable q] [Decidable r] (a b c : Int) :
    addW (addW 0 (if q then addW 0 b else 0)) (if r then addW (if p then addW 0 a else 0) c else if p then addW 0 a else 0) = addW 0 (if p then addW (if q then addW (if r then addW 0 c else 0) b else if r then addW 0 c else 0) a else if q then addW (if r then addW 0 c else 0) b else if r then addW 0 c else 0) := by
  unfold addW
  by_cases hp : p <;> by_cases hq : q <;> by_cases hr : r <;> simp only [hp, hq, hr, if_true, if_false] <;> omega
def xL (a c : List Int) : List Int := raiseL (raiseL nought a) c
def oL (a b c : List Int) : List Int := raiseL (raiseL (raiseL nought c) b) a
theorem tot_two (p q : List Int) : totL [some p, some q] = raiseL (raiseL nought p) q := rfl
theorem tot_two' (p : List Int) : totL [some p, none] = raiseL nought p := rfl
theorem tot_xy (a b c : List Int) : totL [some (xL a c), some (raiseL nought b)] = totL [some (oL a b c), none] := by
  rw [tot_two, tot_two']
  refine list16 (raiseL_len _ _) (raiseL_len _ _) fun i hi => ?_
  unfold xL oL
  simp only [raiseL_at _ _ hi, raiseL_len, if_pos hi, nought_at0]
  exact add3 _ _ _ _ _ _
theorem tot_yx (a b c : List Int) : totL [some (raiseL nought b), some (xL a c)] = totL [some (oL a b c), none] := by
  rw [tot_two, tot_two']
  refine list16 (raiseL_len _ _) (raiseL_len _ _) fun i hi => ?_
  unfold xL oL
  simp only [raiseL_at _ _ hi, raiseL_len, if_pos hi, nought_at0]
  exact add3' _ _ _ _ _ _
theorem own_baseS {w : World} {base base' : Nat} {e : TypeId} {size : Nat} {v : Value} {n : Nat} {xs : List Value} (h : w.ownsRow base' e size v n xs) (hb : base ≤ base') : w.ownsRow base e size v n xs := by
  rcases h with ⟨h1, h2 | ⟨g, cap, cur, hv, hg, r⟩⟩
  · exact ⟨h1, .inl h2⟩
  · exact ⟨h1, .inr ⟨g, cap, cur, hv, by omega, r⟩⟩
end Go.Proofs.YtbfbfbbpajaclaaDoor
