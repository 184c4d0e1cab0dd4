
/-
 What the document's Read does: a line's instruction, and whether it is one's. Condition: the line is of four million bytes at most.
-/
import Derived.Test.YtiheafdphgllkaaGreatDoorMW16
import Derived.Test.YtiheafdphgllkaaGreatDoorMW12
import Derived.Test.YtiheafdphgllkaaGreatDoorMW13
import Derived.Test.YtiheafdphgllkaaGreatDoorMW31
import Derived.Deep.CutRange
import Derived.Deep.CutBlock
namespace Go.Proofs.YtiheafdphgllkaaGreatDoor
open Go.RowKit
set_option linter.unusedVariables false
set_option maxRecDepth 100000

abbrev Wbox (w : World) (n : Nat) (op d a b imm : Int) : Prop := Box w n op d a b imm /\ w.frozen? ⟨n, 0, none⟩ = false /\ w.frozen? ⟨n, 1, none⟩ = false /\ w.frozen? ⟨n, 2, none⟩ = false /\ w.frozen? ⟨n, 3, none⟩ = false /\ w.frozen? ⟨n, 4, none⟩ = false
theorem run_box {w : World} {n : Nat} {op d a b imm : Int} (h : Box w n op d a b imm) : (loadVar 59 ⟨n, 0, none⟩).run Tryz.prog w = .ok (instV op d a b imm) w := by
 refine run_loadVar_mid w n 0 59 [.int .i64 op, .int .i64 d, .int .i64 a, .int .i64 b, .int .i64 imm] _ ?_ Tryz.underlying59 rfl (by kernel_rfl)
 intro j v hv
 obtain ⟨h0, h1, h2, h3, h4⟩ := h
 rw [Nat.zero_add]
 have hj : j < 5 := (List.getElem?_eq_some_iff.1 hv).1
 have hc : j = 0 ∨ j = 1 ∨ j = 2 ∨ j = 3 ∨ j = 4 := by omega
 rcases hc with rfl | rfl | rfl | rfl | rfl <;> simp at hv <;> subst hv <;> assumption
theorem box_set5 {w : World} {n : Nat} {op d a b imm : Int} (h : Box w n op d a b imm) (o' d' a' b' i' : Int) :
  Box (((((w.setCell ⟨n, 0, none⟩ (.int .i64 o')).setCell ⟨n, 1, none⟩ (.int .i64 d')).setCell ⟨n, 2, none⟩ (.int .i64 a')).setCell ⟨n, 3, none⟩ (.int .i64 b')).setCell ⟨n, 4, none⟩ (.int .i64 i')) n o' d' a' b' i' := by
 obtain ⟨h0, h1, h2, h3, h4⟩ := h
 refine ⟨?_, ?_, ?_, ?_, ?_⟩ <;> simp [World.cell?_setCell_other, World.cell?_setCell_same', *]
end Go.Proofs.YtiheafdphgllkaaGreatDoor
