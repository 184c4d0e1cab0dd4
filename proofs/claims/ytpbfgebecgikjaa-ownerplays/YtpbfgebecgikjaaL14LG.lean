
/-
  The landed LRU of layer 14: Fill, Touch. Condition: it lies where the pointer says, its rows are the call's own; what is handed in lies apart from it.
-/
import Derived.Test.YtpbfgebecgikjaaL14LF
namespace Go.Proofs.Ytpbfgebecgikjaa
open Go.RowKit
set_option linter.unusedVariables false
set_option linter.unusedSimpArgs false
set_option maxRecDepth 100000

/-- Puts, one behind the other. -/
def fillA (cap : Nat) : List Pp × List Int → List Pp → List Pp × List Int
  | s, [] => s
  | s, p :: ps => fillA cap (doA cap s.1 s.2 2 p.k p.v).2 ps
theorem fillA_app (cap : Nat) (ps : List Pp) (p : Pp) : ∀ s, fillA cap s (ps ++ [p]) = (doA cap (fillA cap s ps).1 (fillA cap s ps).2 2 p.k p.v).2 := by
  induction ps with
  | nil => intro s; rfl
  | cons q qs ih => intro s; exact ih _
theorem fillA_inv {cap : Nat} (ps : List Pp) : ∀ {s : List Pp × List Int}, InvA cap s.1 s.2 → InvA cap (fillA cap s ps).1 (fillA cap s ps).2 := by
  induction ps with
  | nil => intro s h; exact h
  | cons q qs ih => intro s h; exact ih (h.do 2 q.k q.v)
/-- Gets, one behind the other: how many were found. -/
def touchA (cap : Nat) : List Pp × List Int → List Int → Nat × List Pp × List Int
  | s, [] => (0, s)
  | s, k :: ks => ((touchA cap (doA cap s.1 s.2 0 k 0).2 ks).1 + (if (doA cap s.1 s.2 0 k 0).1.f = true then 1 else 0), (touchA cap (doA cap s.1 s.2 0 k 0).2 ks).2)
theorem touchA_app (cap : Nat) (ks : List Int) (k : Int) : ∀ s, touchA cap s (ks ++ [k]) = ((touchA cap s ks).1 + (if (doA cap (touchA cap s ks).2.1 (touchA cap s ks).2.2 0 k 0).1.f = true then 1 else 0), (doA cap (touchA cap s ks).2.1 (touchA cap s ks).2.2 0 k 0).2) := by
  induction ks with
  | nil => intro s; simp only [List.nil_append, touchA, Nat.zero_add]; rfl
  | cons q qs ih =>
    intro s
    rw [List.cons_append, touchA, ih, touchA]
    simp only
    congr 1
    omega
theorem touchA_inv {cap : Nat} (ks : List Int) : ∀ {s : List Pp × List Int}, InvA cap s.1 s.2 → InvA cap (touchA cap s ks).2.1 (touchA cap s ks).2.2 := by
  induction ks with
  | nil => intro s h; exact h
  | cons q qs ih => intro s h; exact ih (h.do 0 q 0)
theorem touchA_le (cap : Nat) (ks : List Int) : ∀ s, (touchA cap s ks).1 ≤ ks.length := by
  induction ks with
  | nil => intro s; simp [touchA]
  | cons q qs ih =>
    intro s
    have := ih (doA cap s.1 s.2 0 q 0).2
    unfold touchA
    simp only [List.length_cons]
    split <;> omega
/-- What is handed to a Get besides does not matter. -/
theorem doA_get (cap : Nat) (S : List Pp) (R : List Int) (key v v' : Int) : doA cap S R 0 key v = doA cap S R 0 key v' := by
  unfold doA
  rw [do_get, do_get]
section
variable {w : World} {B l cap : Nat} {S : List Pp} {R : List Int} {F : Ft}
end
end Go.Proofs.Ytpbfgebecgikjaa
