/-
  The walks of LebOrders and LebPuts at all arguments that a call may be handed. No condition.
-/
import Derived.Test.YtbhiaclgakhcdaaVOrders
import Derived.Test.YtbhiaclgakhcdaaVPuts
import Derived.Test.YtbhiaclgakhcdaaVOpen
namespace Go.Proofs.Ytbhiaclgakhcdaa
open Go.RowKit
set_option linter.unusedVariables false

theorem reach_eight {n : Nat} {t : TypeId} (b : Try.prog.bytesOf t = 8) (z : n * Try.prog.bytesOf t ≤ reachBytes) : n ≤ 17592186043904 := by
  rw [b] at z
  unfold reachBytes at z
  omega
theorem orders_all (a b : Int) (v : Value) (ns : List Int) (w : World) (ha : 0 ≤ a ∧ a ≤ 18446744073709551615) (hb : 0 ≤ b ∧ b ≤ 18446744073709551615) (hs : Sees .u64 w v ns) (z : ns.length * Try.prog.bytesOf 31 ≤ reachBytes) :
    Calls Try.prog 5 #[.int .u64 a, .int .u64 b, v] w fun e w' => e = .returned (.bool true) ∧ Below w.heap.size w w' :=
  orders_walk a b v ns w ha hb hs (reach_eight (by kernel_rfl) z)
theorem puts_all (v : Value) (ns : List Int) (u : Value) (ss : List Int) (w : World) (hs : Sees .u64 w v ns) (z : ns.length * Try.prog.bytesOf 31 ≤ reachBytes) (hu : Sees .i64 w u ss) (z' : ss.length * Try.prog.bytesOf 2 ≤ reachBytes) :
    Calls Try.prog 3 #[v, u] w fun e w' => e = .returned (.bool true) ∧ Below w.heap.size w w' :=
  puts_walk v ns u ss w hs (reach_eight (by kernel_rfl) z) hu (reach_eight (by kernel_rfl) z')
end Go.Proofs.Ytbhiaclgakhcdaa
