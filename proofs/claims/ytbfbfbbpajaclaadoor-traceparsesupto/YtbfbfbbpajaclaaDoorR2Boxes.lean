
/-
  The five cells of an instruction that is boxed, in later worlds. No Go text in sight.
-/
import Derived.Test.YtbfbfbbpajaclaaDoorR2Box
namespace Go.Proofs.YtbfbfbbpajaclaaDoor
open Go.RowKit
set_option linter.unusedVariables false

/-- The five cells of an instruction that is boxed. -/
abbrev Box (w : World) (n : Nat) (op d a b imm : Int) : Prop := w.cell? ⟨n, 0, none⟩ = some (.int .i64 op) ∧ w.cell? ⟨n, 1, none⟩ = some (.int .i64 d) ∧ w.cell? ⟨n, 2, none⟩ = some (.int .i64 a) ∧ w.cell? ⟨n, 3, none⟩ = some (.int .i64 b) ∧ w.cell? ⟨n, 4, none⟩ = some (.int .i64 imm)
theorem Box.below {w w' : World} {n B : Nat} {op d a b imm : Int} (h : Box w n op d a b imm) (hb : Below B w w') (hB : n < B) : Box w' n op d a b imm := by
  unfold Box
  rw [hb.cell (p := ⟨n, 0, none⟩) hB, hb.cell (p := ⟨n, 1, none⟩) hB, hb.cell (p := ⟨n, 2, none⟩) hB, hb.cell (p := ⟨n, 3, none⟩) hB, hb.cell (p := ⟨n, 4, none⟩) hB]
  exact h
end Go.Proofs.YtbfbfbbpajaclaaDoor
