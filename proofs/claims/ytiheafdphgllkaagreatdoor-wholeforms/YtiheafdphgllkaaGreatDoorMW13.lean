/-
  KR3Line
  KR3Lines
-/
import Derived.Test.YtiheafdphgllkaaGreatDoorMW12
import Derived.Test.YtiheafdphgllkaaGreatDoorMW6
import Derived.Deep.RegionHeld3
namespace Go.Proofs.YtiheafdphgllkaaGreatDoor
open Go.RowKit
set_option linter.unusedVariables false
abbrev i64R (n : Int) : Prop := -9223372036854775808 <= n /\ n <= 9223372036854775807
end Go.Proofs.YtiheafdphgllkaaGreatDoor
