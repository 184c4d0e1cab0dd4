
/-
  What the project's register, bounds.has and shapeOf do. No condition beyond the numbers' kinds.
-/
import Derived.Test.YtbfbfbbpajaclaaDoorR2Box
import Derived.Handy
namespace Go.Proofs.YtbfbfbbpajaclaaDoor
open Go.RowKit
set_option linter.unusedVariables false

abbrev boundsV (l m : Int) : Value := .agg #[.int .i64 l, .int .i64 m]
def hasB (l m n : Int) : Bool := decide (l ≤ n) && decide (n ≤ m)
/-- An operation's shape. -/
structure Shape where
  dest : Bool
  first : Bool
  source : Bool
  farL : Int
  farM : Int
  immL : Int
  immM : Int
abbrev Shape.v (s : Shape) : Value := .agg #[.bool s.dest, .bool s.first, .bool s.source, .int .i64 s.farL, .int .i64 s.farM, .int .i64 s.immL, .int .i64 s.immM]
def shapeL (op : Int) : Shape :=
  if op = 0 ∨ op = 11 then ⟨true, false, true, 0, 0, 0, 0⟩
  else if 1 ≤ op ∧ op ≤ 10 then ⟨true, true, true, 0, 0, 0, 0⟩
  else if op = 12 then ⟨false, true, true, 0, 0, 0, 0⟩
  else if op = 13 then ⟨true, false, false, 0, 0, 0, 1⟩
  else if op = 14 then ⟨true, false, false, 0, 0, 0, 3⟩
  else if op = 15 then ⟨false, false, false, 0, 63, 0, 0⟩
  else if 16 ≤ op ∧ op ≤ 19 then ⟨false, true, true, 0, 63, 0, 0⟩
  else if op = 20 then ⟨false, true, false, 1, 63, 1, 255⟩
  else if op = 21 then ⟨false, false, false, 0, 0, 0, 6⟩
  else if op = 22 then ⟨false, true, false, 0, 0, 0, 0⟩
  else ⟨false, false, false, 0, 0, 0, 0⟩

theorem shapeL_none {op : Int} (h : op < 0 ∨ 22 < op) : shapeL op = ⟨false, false, false, 0, 0, 0, 0⟩ := by
  unfold shapeL
  rw [if_neg (by omega), if_neg (by omega), if_neg (by omega), if_neg (by omega), if_neg (by omega), if_neg (by omega), if_neg (by omega), if_neg (by omega), if_neg (by omega), if_neg (by omega)]
end Go.Proofs.YtbfbfbbpajaclaaDoor
