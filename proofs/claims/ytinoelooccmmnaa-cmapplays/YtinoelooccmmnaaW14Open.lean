
/-
  The arguments of layer 14's laws, opened: calls, numbers. No condition.
-/
import Derived.Test.YtinoelooccmmnaaW13Open
import Derived.Test.YtinoelooccmmnaaW14Kit
namespace Go.Proofs.Ytinoelooccmmnaa
open Go.ChangeShapes Go.WideShapes Go.ChangeAt Go.RowKit
set_option linter.unusedVariables false
set_option maxRecDepth 100000

theorem u64_cells {H : Type} {enc : TypeId × Value → H} {W : World} {base fuel : Nat} {sp : Nat → Bool} {held : Bool} {cs : List Value} {x : DataW H × List MemPlace}
    (h : DataW.trod enc Try.prog W base sp held fuel 35 cs = some x) : ∃ a : Int, cs = uC a ∧ True := by
  obtain ⟨a, e0, _, _⟩ := DataW.trod_int Try.underlying35 h
  exact ⟨a, e0, trivial⟩
theorem opens_U64 {H : Type} {enc : TypeId × Value → H} {W : World} {base : Nat} {v : Value} {d : DataW H} {p : List MemPlace}
    (hok : Value.okWide Try.prog W .any base 74 v) (h : DataW.Trod enc Try.prog W 0 (fun _ => true) true 74 v d p) :
    ∃ xs, SeesG uC 1 0 W v xs ∧ (∀ x ∈ xs, True) ∧ ((d.weights Try.prog 74).all (· ≤ reachBytes) = true → xs.length * 8 ≤ 140737488351232) :=
  opensG (0 : Int) (R := fun _ => True) Try.underlying74 (by kernel_rfl) (by decide) uC_len (by kernel_rfl) u64_cells hok h
end Go.Proofs.Ytinoelooccmmnaa
