
/-
  What the document's Line does: the line of an instruction. Condition: the numbers are of their kinds.
-/
import Derived.Test.YtbfbfbbpajaclaaDoorKR3Line
namespace Go.Proofs.YtbfbfbbpajaclaaDoor
open Go.RowKit
set_option linter.unusedVariables false

theorem box_size1 {w w1 : World} {o : Obj} (h : Below (w.alloc o).heap.size (w.alloc o) w1) : w.heap.size < w1.heap.size := by
  have h1 := h.size
  rw [World.size_alloc] at h1
  omega

end Go.Proofs.YtbfbfbbpajaclaaDoor
