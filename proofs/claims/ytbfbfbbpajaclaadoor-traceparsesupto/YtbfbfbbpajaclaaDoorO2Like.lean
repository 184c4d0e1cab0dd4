
/-
  The project's shape.named at every operation's shape, in one contract: what comes back is like what went in just where nothing is left over. No condition beyond the numbers' kinds.
-/
import Derived.Test.YtbfbfbbpajaclaaDoorO2Named
import Derived.Test.YtbfbfbbpajaclaaDoorO2Plain
namespace Go.Proofs.YtbfbfbbpajaclaaDoor
open Go.RowKit
set_option linter.unusedVariables false
set_option linter.unusedSimpArgs false

theorem zero_op {op : Int} (h : (shapeL op).zero = false) : 0 ≤ op ∧ op ≤ 22 := by
  by_cases hx : op < 0 ∨ 22 < op
  · rw [shapeL_none hx] at h; cases h
  · omega
theorem cases_op {op : Int} (h : 0 ≤ op ∧ op ≤ 22) : (op = 0 ∨ op = 11) ∨ (1 ≤ op ∧ op ≤ 10) ∨ op = 12 ∨ op = 13 ∨ op = 14 ∨ op = 15 ∨ (16 ≤ op ∧ op ≤ 19) ∨ op = 20 ∨ op = 21 ∨ op = 22 := by omega
theorem zero_right {op d a b imm : Int} (h : (shapeL op).zero = true) : rightB op d a b imm = false := by
  by_cases hx : op < 0 ∨ 22 < op
  · exact rightB_none hx
  · exfalso
    rcases cases_op (op := op) (by omega) with hop | hop | rfl | rfl | rfl | rfl | hop | rfl | rfl | rfl
    · rw [shape_A hop] at h; cases h
    · rw [shape_B hop] at h; cases h
    · cases h
    · cases h
    · cases h
    · cases h
    · rw [shape_G hop] at h; cases h
    · cases h
    · cases h
    · cases h
end Go.Proofs.YtbfbfbbpajaclaaDoor
