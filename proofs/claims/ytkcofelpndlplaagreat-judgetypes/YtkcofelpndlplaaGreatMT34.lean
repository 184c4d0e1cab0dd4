
/-
 What the document's Same answers for two modules that read alike. Condition: the modules' slices read as the same numbers and the same instructions.
-/
import Derived.Test.YtkcofelpndlplaaGreatMT33
import Derived.Test.YtkcofelpndlplaaGreatMT31
import Derived.BigQuiet
import Derived.Deep.QuietTactic
namespace Go.Proofs.YtkcofelpndlplaaGreat
open Go.RowKit
set_option linter.unusedVariables false
set_option linter.unusedSimpArgs false
set_option maxRecDepth 100000

end Go.Proofs.YtkcofelpndlplaaGreat
