
/-
  What the project's shape.fits does, at every shape. No condition beyond the numbers' kinds.
-/
import Derived.Test.YtbfbfbbpajaclaaDoorO2Small
namespace Go.Proofs.YtbfbfbbpajaclaaDoor
open Go.RowKit
set_option linter.unusedVariables false
set_option maxHeartbeats 800000

def fitsB (dest source : Bool) (fl fm il im d a b imm : Int) : Bool := (if dest then regB d else hasB fl fm d) && (regB a && (regB b || b == 8)) && (source || hasB il im imm)

end Go.Proofs.YtbfbfbbpajaclaaDoor
