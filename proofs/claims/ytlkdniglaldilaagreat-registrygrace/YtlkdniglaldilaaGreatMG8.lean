/-
  S10Meth
  S10Raise
  S10Totals
  S10Awake
  W10Marks
  W10Totals
  S10Ask
-/
import Derived.Test.YtlkdniglaldilaaGreatMG7
import Derived.Test.YtlkdniglaldilaaGreatMG6
import Derived.Deep.RegionHeld3
import Derived.Lib.MinMax
import Derived.Lib.SliceRun
namespace Go.Proofs.YtlkdniglaldilaaGreat
open Go.RowKit
set_option linter.unusedVariables false
set_option linter.unusedSimpArgs false
set_option maxRecDepth 100000
end Go.Proofs.YtlkdniglaldilaaGreat
