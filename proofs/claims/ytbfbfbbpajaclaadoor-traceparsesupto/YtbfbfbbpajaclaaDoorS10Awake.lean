
/-
  The landed scratch's answers as letters; the law's awake. No condition.
-/
import Derived.Test.YtbfbfbbpajaclaaDoorS10Totals
import Derived.Test.YtbfbfbbpajaclaaDoorS10Nums
namespace Go.Proofs.YtbfbfbbpajaclaaDoor
open Go.RowKit
set_option linter.unusedVariables false
set_option linter.unusedSimpArgs false
set_option maxRecDepth 100000

theorem own_grown {w w' w0 : World} {b : Nat} (hb : Below w0.heap.size w0 w) (hg : w.grownBy w' (some b)) (h : w0.heap.size ≤ b) : Below w0.heap.size w0 w' := hb.trans (grown_to_below hg h hb.size)
theorem below_alloc10 (w : World) (o : Obj) : Below w.heap.size w (w.alloc o) := (Below.refl _ _).alloc (Nat.le_refl _) _
end Go.Proofs.YtbfbfbbpajaclaaDoor
