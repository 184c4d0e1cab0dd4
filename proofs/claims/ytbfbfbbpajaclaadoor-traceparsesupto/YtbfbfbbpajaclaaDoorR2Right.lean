
/-
  What the document's reg, sourced, Three, Jump and Right do. No condition beyond the numbers' kinds.
-/
import Derived.Test.YtbfbfbbpajaclaaDoorRows
import Derived.Test.YtbfbfbbpajaclaaDoorR2Plain
import Derived.WalkSpells
import Derived.OpenShut
import Derived.Below
namespace Go.Proofs.YtbfbfbbpajaclaaDoor
open Go.RowKit
set_option linter.unusedVariables false

/-- An instruction as a value. -/
abbrev instV (op d a b imm : Int) : Value := .agg #[.int .i64 op, .int .i64 d, .int .i64 a, .int .i64 b, .int .i64 imm]

end Go.Proofs.YtbfbfbbpajaclaaDoor
