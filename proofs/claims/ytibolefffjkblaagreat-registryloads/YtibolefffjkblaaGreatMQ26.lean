
/-
 What slices.Equal of instructions does: it says whether two slices are the same, and only draws. Condition: the slices read as instructions.
-/
import Derived.Test.YtibolefffjkblaaGreatMQ24
import Derived.Deep.RegionHeld3
namespace Go.Proofs.YtibolefffjkblaaGreat
open Go.RowKit
set_option linter.unusedVariables false
set_option maxRecDepth 100000
set_option linter.unusedSimpArgs false

def sameI_w : List In -> List In -> Bool
 | [], [] => true
 | x :: xs, y :: ys => !neI x y && sameI_w xs ys
 | _, _ => false
theorem neI_iff_w (i j : In) : neI i j = false ↔ i = j := by
 obtain ⟨o, d, a, b, m⟩ := i
 obtain ⟨o', d', a', b', m'⟩ := j
 simp [neI]
theorem sameI_iff_w : ∀ xs ys : List In, sameI_w xs ys = true ↔ xs = ys
 | [], [] => by simp [sameI_w]
 | [], y :: ys => by simp [sameI_w]
 | x :: xs, [] => by simp [sameI_w]
 | x :: xs, y :: ys => by
  simp only [sameI_w, Bool.and_eq_true, Bool.not_eq_true', neI_iff_w, sameI_iff_w xs ys, List.cons.injEq]
theorem sameI_true_w {xs ys : List In} (h : xs = ys) : sameI_w xs ys = true := (sameI_iff_w xs ys).2 h
theorem sameI_false_w {xs ys : List In} (h : xs ≠ ys) : sameI_w xs ys = false := by
 cases hh : sameI_w xs ys
 ·rfl
 ·exact absurd ((sameI_iff_w xs ys).1 hh) h
theorem take_in_w (xs : List In) (k : Nat) (h : k < xs.length) : xs.take (k + 1) = xs.take k ++ [xs.getD k In.nil] := by
 rw [List.take_succ_eq_append_getElem h]; simp [List.getD, h]

end Go.Proofs.YtibolefffjkblaaGreat
