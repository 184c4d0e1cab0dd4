/-
  The walk of LebBack at all arguments that a call may be handed. No condition.
-/
import Derived.Test.YtbhiaclgakhcdaaVBack
import Derived.Test.YtbhiaclgakhcdaaVOpen
namespace Go.Proofs.Ytbhiaclgakhcdaa
open Go.RowKit
set_option linter.unusedVariables false

theorem back_all (v : Value) (ns : List Int) (u : Value) (ms : List Int) (w : World) (hs : Sees .u64 w v ns) (z : ns.length * Try.prog.bytesOf 31 ≤ reachBytes) (hu : Sees .u8 w u ms) (z' : ms.length * Try.prog.bytesOf 5 ≤ reachBytes) :
    Calls Try.prog 4 #[v, u] w fun e w' => e = .returned (.bool true) ∧ Below w.heap.size w w' := by
  have b8 : Try.prog.bytesOf 31 = 8 := by kernel_rfl
  have b1 : Try.prog.bytesOf 5 = 1 := by kernel_rfl
  rw [b8] at z
  rw [b1] at z'
  unfold reachBytes at z z'
  exact back_walk v ns u ms w hs (by omega) hu (by omega)
end Go.Proofs.Ytbhiaclgakhcdaa
