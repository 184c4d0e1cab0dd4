/-
  An instruction that is boxed: its five cells, and that they stay. No Go text in sight.
-/
import Derived.Test.YtfmibjgihicedaaR2Right
namespace Go.Proofs.Ytfmibjgihicedaa
open Go.RowKit
set_option linter.unusedVariables false

/-- The box of an instruction. -/
abbrev instO (op d a b imm : Int) : Obj := .cells #[.int .i64 op, .int .i64 d, .int .i64 a, .int .i64 b, .int .i64 imm] 32
theorem box_below {w w1 : World} {o : Obj} (h : Below (w.alloc o).heap.size (w.alloc o) w1) : Below w.heap.size w w1 := ((Below.refl _ _).alloc (Nat.le_refl _) o).trans (h.mono (by simp))
theorem box_cell {w w1 : World} {op d a b imm : Int} (h : Below (w.alloc (instO op d a b imm)).heap.size (w.alloc (instO op d a b imm)) w1) :
    w1.cell? ⟨w.heap.size, 0, none⟩ = some (.int .i64 op) ∧ w1.cell? ⟨w.heap.size, 1, none⟩ = some (.int .i64 d) ∧ w1.cell? ⟨w.heap.size, 2, none⟩ = some (.int .i64 a) ∧ w1.cell? ⟨w.heap.size, 3, none⟩ = some (.int .i64 b) ∧ w1.cell? ⟨w.heap.size, 4, none⟩ = some (.int .i64 imm) := by
  refine ⟨?_, ?_, ?_, ?_, ?_⟩ <;> (rw [h.cell (by simp)]; simp)

end Go.Proofs.Ytfmibjgihicedaa
