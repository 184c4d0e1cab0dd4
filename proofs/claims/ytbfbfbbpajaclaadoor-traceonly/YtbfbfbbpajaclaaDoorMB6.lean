/-
  R2Right
  R2Box
  R2Boxes
-/
import Derived.Test.YtbfbfbbpajaclaaDoorMB1
import Derived.Test.YtbfbfbbpajaclaaDoorRows
import Derived.WalkSpells
import Derived.OpenShut
import Derived.Below
/-
  What the document's reg, sourced, Three, Jump and Right do. No condition beyond the numbers' kinds.
-/
namespace Go.Proofs.YtbfbfbbpajaclaaDoor
open Go.RowKit
set_option linter.unusedVariables false

/-- An instruction as a value. -/
abbrev instV (op d a b imm : Int) : Value := .agg #[.int .i64 op, .int .i64 d, .int .i64 a, .int .i64 b, .int .i64 imm]

end Go.Proofs.YtbfbfbbpajaclaaDoor
/-
  An instruction that is boxed: its five cells, and that they stay. No Go text in sight.
-/
namespace Go.Proofs.YtbfbfbbpajaclaaDoor
open Go.RowKit
set_option linter.unusedVariables false

theorem box_below {w w1 : World} {o : Obj} (h : Below (w.alloc o).heap.size (w.alloc o) w1) : Below w.heap.size w w1 := ((Below.refl _ _).alloc (Nat.le_refl _) o).trans (h.mono (by simp))
end Go.Proofs.YtbfbfbbpajaclaaDoor
/-
  The five cells of an instruction that is boxed, in later worlds. No Go text in sight.
-/
namespace Go.Proofs.YtbfbfbbpajaclaaDoor
open Go.RowKit
set_option linter.unusedVariables false

/-- The five cells of an instruction that is boxed. -/
abbrev Box (w : World) (n : Nat) (op d a b imm : Int) : Prop := w.cell? ⟨n, 0, none⟩ = some (.int .i64 op) ∧ w.cell? ⟨n, 1, none⟩ = some (.int .i64 d) ∧ w.cell? ⟨n, 2, none⟩ = some (.int .i64 a) ∧ w.cell? ⟨n, 3, none⟩ = some (.int .i64 b) ∧ w.cell? ⟨n, 4, none⟩ = some (.int .i64 imm)
theorem Box.below {w w' : World} {n B : Nat} {op d a b imm : Int} (h : Box w n op d a b imm) (hb : Below B w w') (hB : n < B) : Box w' n op d a b imm := by
  unfold Box
  rw [hb.cell (p := ⟨n, 0, none⟩) hB, hb.cell (p := ⟨n, 1, none⟩) hB, hb.cell (p := ⟨n, 2, none⟩) hB, hb.cell (p := ⟨n, 3, none⟩) hB, hb.cell (p := ⟨n, 4, none⟩) hB]
  exact h
end Go.Proofs.YtbfbfbbpajaclaaDoor
