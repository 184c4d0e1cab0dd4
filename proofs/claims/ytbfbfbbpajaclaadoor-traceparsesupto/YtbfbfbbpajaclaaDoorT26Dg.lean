
/-
  Layer 26, landed, plain: a field's digits. No Go text in sight.
-/
import Derived.Test.YtbfbfbbpajaclaaDoorX26Plain
namespace Go.Proofs.YtbfbfbbpajaclaaDoor
open Go.RowKit
/-- A field's digits. -/
def dgE (e : En) (c : UInt8) : List UInt8 := if (unE e c.toNat).2 = true then digF 20 (unE e c.toNat).1.toNat else numL (sgE e c.toNat)
end Go.Proofs.YtbfbfbbpajaclaaDoor
