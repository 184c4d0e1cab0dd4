
/-
  What the project's shape.named and shape.fits do, at the ten shapes that there are. No condition beyond the numbers' kinds.
-/
import Derived.Test.YtbfbfbbpajaclaaDoorO2Small
namespace Go.Proofs.YtbfbfbbpajaclaaDoor
open Go.RowKit
set_option linter.unusedVariables false
set_option maxHeartbeats 800000

end Go.Proofs.YtbfbfbbpajaclaaDoor
