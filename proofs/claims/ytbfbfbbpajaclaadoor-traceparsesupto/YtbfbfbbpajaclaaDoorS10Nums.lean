
/-
  What the law's comparison of numbers does: it says whether two lists are the same, and only draws. Condition: the numbers lie where the slices say.
-/
import Derived.Test.YtbfbfbbpajaclaaDoorGKit
namespace Go.Proofs.YtbfbfbbpajaclaaDoor
open Go.RowKit
set_option linter.unusedVariables false

end Go.Proofs.YtbfbfbbpajaclaaDoor
