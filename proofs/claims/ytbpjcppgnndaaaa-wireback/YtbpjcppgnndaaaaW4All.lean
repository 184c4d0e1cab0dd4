/-
  The laws' walks with their arguments in the order in which the last texts hand them over. Conditions: as in the walks.
-/
import Derived.Test.YtbpjcppgnndaaaaW4WBack
import Derived.Test.YtbpjcppgnndaaaaW4Open
namespace Go.Proofs.Ytbpjcppgnndaaaa
open Go.RowKit
set_option linter.unusedVariables false

theorem back_all (vm vc : Value) (ms : List Int) (is : List In) (vb : Value) (bs : List Int) (x : Int) (w : World) (h : SeesM w vm vc ms is) (z : ms.length * 8 ≤ 140737488351232 ∧ is.length * 40 ≤ 140737488355328) (hb : Sees .u8 w vb bs) (zb : bs.length * Try.prog.bytesOf 5 ≤ reachBytes) (hx : 0 ≤ x ∧ x ≤ 255) :
    Calls Try.prog 5 #[modV vm vc, vb, .int .u8 x] w fun e w' => e = .returned (.bool true) ∧ Below w.heap.size w w' := back_law vm vc vb ms is bs x w h hb hx.1 hx.2
end Go.Proofs.Ytbpjcppgnndaaaa
