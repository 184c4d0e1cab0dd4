/-
  R2Right
  R2Box
  R2Boxes
  J9Src
-/
import Derived.Test.YtkondcjmhlppiaaGreatMW4
import Derived.Test.YtkondcjmhlppiaaGreatRows
import Derived.WalkSpells
import Derived.OpenShut
import Derived.Below
namespace Go.Proofs.YtkondcjmhlppiaaGreat
open Go.RowKit
set_option linter.unusedVariables false
abbrev instV (op d a b imm : Int) : Value := .agg #[.int .i64 op, .int .i64 d, .int .i64 a, .int .i64 b, .int .i64 imm]

abbrev instO (op d a b imm : Int) : Obj := .cells #[.int .i64 op, .int .i64 d, .int .i64 a, .int .i64 b, .int .i64 imm] 60
theorem box_below {w w1 : World} {o : Obj} (h : Below (w.alloc o).heap.size (w.alloc o) w1) : Below w.heap.size w w1 := ((Below.refl _ _).alloc (Nat.le_refl _) o).trans (h.mono (by simp))
theorem box_cell {w w1 : World} {op d a b imm : Int} (h : Below (w.alloc (instO op d a b imm)).heap.size (w.alloc (instO op d a b imm)) w1) :
  w1.cell? ⟨w.heap.size, 0, none⟩ = some (.int .i64 op) /\ w1.cell? ⟨w.heap.size, 1, none⟩ = some (.int .i64 d) /\ w1.cell? ⟨w.heap.size, 2, none⟩ = some (.int .i64 a) /\ w1.cell? ⟨w.heap.size, 3, none⟩ = some (.int .i64 b) /\ w1.cell? ⟨w.heap.size, 4, none⟩ = some (.int .i64 imm) := by
 refine ⟨?_, ?_, ?_, ?_, ?_⟩ <;> (rw [h.cell (by simp)]; simp)

abbrev Box (w : World) (n : Nat) (op d a b imm : Int) : Prop := w.cell? ⟨n, 0, none⟩ = some (.int .i64 op) /\ w.cell? ⟨n, 1, none⟩ = some (.int .i64 d) /\ w.cell? ⟨n, 2, none⟩ = some (.int .i64 a) /\ w.cell? ⟨n, 3, none⟩ = some (.int .i64 b) /\ w.cell? ⟨n, 4, none⟩ = some (.int .i64 imm)
theorem Box.below {w w' : World} {n B : Nat} {op d a b imm : Int} (h : Box w n op d a b imm) (hb : Below B w w') (hB : n < B) : Box w' n op d a b imm := by
 unfold Box
 rw [hb.cell (p := ⟨n, 0, none⟩) hB, hb.cell (p := ⟨n, 1, none⟩) hB, hb.cell (p := ⟨n, 2, none⟩) hB, hb.cell (p := ⟨n, 3, none⟩) hB, hb.cell (p := ⟨n, 4, none⟩) hB]
 exact h
theorem ret2ib {a a' : Int} {b b' : Bool} (h1 : a = a') (h2 : b = b') : Ending.returned (.tuple #[.int .i64 a, .bool b]) = .returned (.tuple #[.int .i64 a', .bool b']) := by rw [h1, h2]

end Go.Proofs.YtkondcjmhlppiaaGreat
