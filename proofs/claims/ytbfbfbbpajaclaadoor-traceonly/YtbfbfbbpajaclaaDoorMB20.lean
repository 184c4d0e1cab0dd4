/-
  KR3Line
  KR3Lines
-/
import Derived.Test.YtbfbfbbpajaclaaDoorMB19
import Derived.Test.YtbfbfbbpajaclaaDoorMB6
import Derived.Deep.RegionHeld3
/-
  What the document's r, source and Line do: the line of an instruction. Condition: the numbers are of their kinds.
-/
namespace Go.Proofs.YtbfbfbbpajaclaaDoor
open Go.RowKit
set_option linter.unusedVariables false

abbrev i64R (n : Int) : Prop := -9223372036854775808 ≤ n ∧ n ≤ 9223372036854775807
/-- Number, its answer a letter. -/
theorem number_let (n : Int) (w : World) (hn : i64R n) : Calls Tryd.prog 43 #[.int .i64 n] w fun e w' => (∃ l, e = .returned (.string (str l)) ∧ Hid (l = numL n) ∧ l.length ≤ 21) ∧ w = w' :=
  (number_any_l n w hn).mono fun e w' ⟨he, hw⟩ => ⟨⟨_, he, rfl, numL_len n⟩, hw⟩
end Go.Proofs.YtbfbfbbpajaclaaDoor
/-
  What the document's Line does: the line of an instruction. Condition: the numbers are of their kinds.
-/
namespace Go.Proofs.YtbfbfbbpajaclaaDoor
open Go.RowKit
set_option linter.unusedVariables false

theorem box_size1 {w w1 : World} {o : Obj} (h : Below (w.alloc o).heap.size (w.alloc o) w1) : w.heap.size < w1.heap.size := by
  have h1 := h.size
  rw [World.size_alloc] at h1
  omega

end Go.Proofs.YtbfbfbbpajaclaaDoor
