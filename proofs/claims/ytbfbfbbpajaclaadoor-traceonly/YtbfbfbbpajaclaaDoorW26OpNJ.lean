
/-
  Arguments that are numbers, opened with their size. No condition.
-/
import Derived.Test.YtbfbfbbpajaclaaDoorMB32
import Derived.Test.YtbfbfbbpajaclaaDoorMB42
namespace Go.Proofs.YtbfbfbbpajaclaaDoor
open Go.ChangeShapes Go.WideShapes Go.ChangeAt Go.RowKit
set_option linter.unusedVariables false
set_option linter.unusedSimpArgs false
set_option maxRecDepth 100000
theorem opens_Nb {H : Type} {enc : TypeId × Value → H} {W : World} {base : Nat} {v : Value} {d : DataW H} {p : List MemPlace}
    (hok : Value.okWide Tryd.prog W .any base 50 v) (h : DataW.Trod enc Tryd.prog W 0 (fun _ => true) true 50 v d p) :
    ∃ xs, SeesG nbC 1 0 W v xs ∧ (∀ x ∈ xs, True) ∧ ((d.weights Tryd.prog 50).all (· ≤ reachBytes) = true → xs.length * 8 ≤ 140737488351232 ∧ ∀ x ∈ xs, True) :=
  opensGW (f := nbC) (z := 1) (bytes := 8) (te := 3) (0 : Int) (R := fun _ => True) (Q := fun _ => True) Tryd.underlying50 (by kernel_rfl) (by decide) (fun _ => rfl) (by kernel_rfl) (fun h => by obtain ⟨n, h1, h2, h3⟩ := DataW.trod_int Tryd.underlying3 h; exact ⟨n, h1, trivial, fun _ => trivial⟩) hok h
end Go.Proofs.YtbfbfbbpajaclaaDoor
