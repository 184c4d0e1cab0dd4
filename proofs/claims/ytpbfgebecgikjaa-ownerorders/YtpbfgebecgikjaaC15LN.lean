
/-
  The landed map of layer 15: New. Condition: none.
-/
import Derived.Test.YtpbfgebecgikjaaC15LM
namespace Go.Proofs.Ytpbfgebecgikjaa
open Go.RowKit
set_option linter.unusedVariables false
set_option linter.unusedSimpArgs false
set_option maxRecDepth 100000

abbrev defW (k c : Int) : Value := .agg #[.int .i64 k, .int .i64 c]
def kindJ (κ : Bool) : Int := if κ = true then 1 else 0
def defNoL (k c : Int) : Prop := (k ≠ 0 ∧ k ≠ 1) ∨ c < 1 ∨ 16 < c
theorem Sh.shape {w : World} {B : Nat} {v : Value} {κ : Bool} {cap : Nat} {s : Sr} {F : Ft} (h : Sh w B v κ cap s F) : ∃ t u, v = .iface t u := by
  rcases h with ⟨_, b, rfl, _⟩ | ⟨_, l, rfl, _⟩
  · exact ⟨_, _, rfl⟩
  · exact ⟨_, _, rfl⟩
theorem Sh.one {w : World} {B : Nat} {v : Value} {κ : Bool} {cap : Nat} {s : Sr} {F : Ft} (h : Sh w B v κ cap s F) : ∀ u ∈ ifC v, u.oneCell' = true := by
  rcases h with ⟨_, b, rfl, _⟩ | ⟨_, l, rfl, _⟩
  · intro u hu; simp at hu; subst hu; rfl
  · intro u hu; simp at hu; subst hu; rfl
section
variable {w0 w w2 : World} {B r cap : Nat} {κ : Bool} {k : Int} {rv v2 : Value} {ps : List Value} {st : List Sr} {F : Nat → Ft}
end
end Go.Proofs.Ytpbfgebecgikjaa
