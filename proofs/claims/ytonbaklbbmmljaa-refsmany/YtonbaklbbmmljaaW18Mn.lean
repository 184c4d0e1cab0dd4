
/-
  RefsMany, walked. Condition: none but the arguments' reading.
-/
import Derived.Test.YtonbaklbbmmljaaW18MnA
import Derived.Test.YtonbaklbbmmljaaW18MnB
namespace Go.Proofs.Ytonbaklbbmmljaa
open Go.RowKit
theorem refsMany_walk (sv : Value) (is : List Ow) (pv : Value) (ps : List Int) (w : World) (hs : Scr w sv is) (hlen : is.length * 40 ≤ 140737488351232 ∧ ∀ x ∈ is, x.ws.length * 8 ≤ 140737488351232) (hp : Sees .i64 w pv ps) (hpl : ps.length * 8 ≤ 140737488351232) :
    Calls Try.prog 5 #[sv, pv] w fun e w' => e = .returned (.bool true) ∧ Below w.heap.size w w' := by
  by_cases h : is.length ≤ 300
  · exact refsMany_a sv pv is ps w hs hp hlen.1 hlen.2 hpl h
  · exact refsMany_b sv pv is ps w hs hp hlen.1 hlen.2 hpl (by omega)
end Go.Proofs.Ytonbaklbbmmljaa
