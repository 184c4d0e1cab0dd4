
/-
  The landed scratch: New and the methods of words and counters. No condition but that the scratch lies where the pointer says.
-/
import Derived.Test.YtbfbfbbpajaclaaDoorHp10
import Derived.Deep.RegionHeld3
import Derived.Lib.MinMax
import Derived.Lib.SliceRun
namespace Go.Proofs.YtbfbfbbpajaclaaDoor
open Go.RowKit
set_option linter.unusedVariables false
set_option linter.unusedSimpArgs false
set_option maxRecDepth 100000

/-- A scratch at a block: its sixteen words and its sixteen counters. -/
def nums (xs : List Int) : List Value := xs.map (Value.int .u64)
def nought : List Int := List.replicate 16 0
theorem nums_len (xs : List Int) : (nums xs).length = xs.length := by simp [nums]
theorem nums_at (xs : List Int) {k : Nat} (h : k < xs.length) : (nums xs)[k]? = some (.int .u64 (xs.getD k 0)) := by
  simp [nums, List.getD, List.getElem?_eq_getElem h]
theorem nums_set (xs : List Int) (k : Nat) (n : Int) : (nums xs).set k (.int .u64 n) = nums (xs.set k n) := by
  simp [nums, List.map_set]
def inB (at' : Int) : Bool := decide (0 ≤ at' ∧ at' < 16)
theorem wiped (ws : List Int) (cs : List Int) (h : ws.length = 16) : splice (nums ws ++ nums cs) 0 (List.replicate 16 (Value.int .u64 0)) = nums nought ++ nums cs := by
  rw [splice_ahead _ _ _ _ (by simp [nums_len, h]), splice_all _ _ (by simp [nums_len, h])]
  rfl
/-- One more, modulo 2^64. -/
def addW (a b : Int) : Int := (a + b) % 18446744073709551616
def oneUp (cs : List Int) (k : Nat) : List Int := cs.set k (addW (cs.getD k 0) 1)
end Go.Proofs.YtbfbfbbpajaclaaDoor
