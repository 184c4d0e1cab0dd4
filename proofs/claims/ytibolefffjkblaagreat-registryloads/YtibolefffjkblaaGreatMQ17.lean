/-
  KE17LB
  KE17LC
-/
import Derived.Test.YtibolefffjkblaaGreatMQ0
import Derived.Test.YtibolefffjkblaaGreatMQ16
namespace Go.Proofs.YtibolefffjkblaaGreat
open Go.RowKit
set_option linter.unusedVariables false
set_option linter.unusedSimpArgs false
set_option maxRecDepth 100000
section
variable {w w' : World} {b g : Nat} {c : Ck}
end
section
variable {w w' : World} {b g : Nat} {c : Ck}
end
end Go.Proofs.YtibolefffjkblaaGreat
