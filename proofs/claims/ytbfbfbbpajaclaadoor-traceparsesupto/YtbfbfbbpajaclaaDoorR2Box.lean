
/-
  An instruction that is boxed: its five cells, and that they stay. No Go text in sight.
-/
import Derived.Test.YtbfbfbbpajaclaaDoorR2Right
namespace Go.Proofs.YtbfbfbbpajaclaaDoor
open Go.RowKit
set_option linter.unusedVariables false

theorem box_below {w w1 : World} {o : Obj} (h : Below (w.alloc o).heap.size (w.alloc o) w1) : Below w.heap.size w w1 := ((Below.refl _ _).alloc (Nat.le_refl _) o).trans (h.mono (by simp))
end Go.Proofs.YtbfbfbbpajaclaaDoor
