
/-
  The arguments of layer 14's laws, opened: calls, numbers. No condition.
-/
import Derived.Test.YtpbfgebecgikjaaW13Open
import Derived.Test.YtpbfgebecgikjaaW14Kit
namespace Go.Proofs.Ytpbfgebecgikjaa
open Go.ChangeShapes Go.WideShapes Go.ChangeAt Go.RowKit
set_option linter.unusedVariables false
set_option maxRecDepth 100000

theorem u64_cells {H : Type} {enc : TypeId × Value → H} {W : World} {base fuel : Nat} {sp : Nat → Bool} {held : Bool} {cs : List Value} {x : DataW H × List MemPlace}
    (h : DataW.trod enc Try.prog W base sp held fuel 41 cs = some x) : ∃ a : Int, cs = uC a ∧ True := by
  obtain ⟨a, e0, _, _⟩ := DataW.trod_int Try.underlying41 h
  exact ⟨a, e0, trivial⟩
theorem opens_U64 {H : Type} {enc : TypeId × Value → H} {W : World} {base : Nat} {v : Value} {d : DataW H} {p : List MemPlace}
    (hok : Value.okWide Try.prog W .any base 94 v) (h : DataW.Trod enc Try.prog W 0 (fun _ => true) true 94 v d p) :
    ∃ xs, SeesG uC 1 0 W v xs ∧ (∀ x ∈ xs, True) ∧ ((d.weights Try.prog 94).all (· ≤ reachBytes) = true → xs.length * 8 ≤ 140737488351232) :=
  opensG (0 : Int) (R := fun _ => True) Try.underlying94 (by kernel_rfl) (by decide) uC_len (by kernel_rfl) u64_cells hok h
end Go.Proofs.Ytpbfgebecgikjaa
