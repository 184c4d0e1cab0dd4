
/-
  What the laws of layer 14 share: numbers, pairs, at; their arguments opened. No condition.
-/
import Derived.Test.YtpbfgebecgikjaaGOpen
import Derived.Test.YtpbfgebecgikjaaB13Ref
import Derived.Test.YtpbfgebecgikjaaGSees
namespace Go.Proofs.Ytpbfgebecgikjaa
open Go.ChangeShapes Go.WideShapes Go.ChangeAt Go.RowKit
set_option linter.unusedVariables false
set_option linter.unusedSimpArgs false
set_option maxRecDepth 100000

/-- A number of a row of numbers. -/
abbrev uC (x : Int) : List Value := [.int .u64 x]
theorem uC_len (x : Int) : (uC x).length = 1 := rfl
theorem uC_one (x : Int) : ∀ u ∈ uC x, u.oneCell' = true := by intro u hu; simp at hu; subst hu; rfl
/-- The place of a number, or -1. -/
def atI (key : Int) : List Int → Int
  | [] => -1
  | x :: l => if x = key then 0 else if atI key l < 0 then -1 else atI key l + 1
theorem atI_ge (key : Int) (A : List Int) : -1 ≤ atI key A := by
  induction A with
  | nil => simp [atI]
  | cons x l ih => unfold atI; split; omega; split <;> omega
theorem atI_has (key : Int) (A : List Int) : (0 ≤ atI key A ↔ key ∈ A) := by
  induction A with
  | nil => simp [atI]
  | cons x l ih =>
    unfold atI
    by_cases e : x = key
    · rw [if_pos e, e]; simp
    · rw [if_neg e, List.mem_cons]
      have hn : ¬ key = x := fun h => e h.symm
      by_cases hl : atI key l < 0
      · rw [if_pos hl]
        constructor
        · intro h; omega
        · rintro (h | h)
          · exact absurd h hn
          · have := ih.2 h; omega
      · rw [if_neg hl]
        constructor
        · intro _; exact .inr (ih.1 (by omega))
        · intro _; omega
theorem atI_is {key : Int} : ∀ {A : List Int} {j : Nat}, j < A.length → A.getD j 0 = key → (∀ i, i < j → A.getD i 0 ≠ key) → atI key A = j := by
  intro A
  induction A with
  | nil => intro j h; simp at h
  | cons x l ih =>
    intro j hj h hn
    unfold atI
    cases j with
    | zero =>
      rw [if_pos (by simpa using h)]
      rfl
    | succ j =>
      have h0 := hn 0 (by omega)
      rw [if_neg (by simpa using h0)]
      have := ih (j := j) (by simpa using hj) (by simpa using h) (fun i hi => by have := hn (i + 1) (by omega); simpa using this)
      rw [this, if_neg (by omega)]
      omega
theorem atI_none {key : Int} {A : List Int} (hn : ∀ i, i < A.length → A.getD i 0 ≠ key) : atI key A = -1 := by
  have h1 := atI_ge key A
  rcases Int.lt_or_le (atI key A) 0 with g | g
  · omega
  · obtain ⟨i, hi, e⟩ := List.mem_iff_getElem.1 ((atI_has key A).1 g)
    exact absurd (by rw [List.getD_eq_getElem?_getD, List.getElem?_eq_getElem hi]; exact e) (hn i hi)
end Go.Proofs.Ytpbfgebecgikjaa
