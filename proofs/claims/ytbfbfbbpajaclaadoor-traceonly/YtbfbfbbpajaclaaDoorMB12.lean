
/-
  An argument that is an instruction, or a slice of them, opened. No condition.
-/
import Derived.Test.YtbfbfbbpajaclaaDoorMB9
import Derived.Deep.MidRow
import Derived.ProofKit
namespace Go.Proofs.YtbfbfbbpajaclaaDoor
open Go.ChangeShapes Go.WideShapes Go.ChangeAt Go.RowKit
set_option linter.unusedVariables false
set_option maxRecDepth 100000

abbrev In.cells (i : In) : List Value := [.int .i64 i.op, .int .i64 i.d, .int .i64 i.a, .int .i64 i.b, .int .i64 i.imm]
abbrev In.data {H : Type} (i : In) : DataW H := .agg [.lit (.int .i64 i.op), .lit (.int .i64 i.d), .lit (.int .i64 i.a), .lit (.int .i64 i.b), .lit (.int .i64 i.imm)]
end Go.Proofs.YtbfbfbbpajaclaaDoor
