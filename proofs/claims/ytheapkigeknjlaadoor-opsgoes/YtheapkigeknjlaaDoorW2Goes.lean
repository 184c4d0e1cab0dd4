/-
  The law OpsGoes, walked: it answers true. Condition: the package-level variable 'names' reads as it is laid.
-/
import Derived.Test.YtheapkigeknjlaaDoorO2Awake
import Derived.Test.YtheapkigeknjlaaDoorO2Open
namespace Go.Proofs.YtheapkigeknjlaaDoor
open Go.RowKit
set_option linter.unusedVariables false

set_option maxHeartbeats 800000 in
theorem goes_walk5 (op d a b imm : Int) (w : World) (h : Named w) : Calls Tryd.prog 6 #[instV op d a b imm] w fun e w' => e = .returned (.bool true) ∧ Below w.heap.size w w' := by
  have HN : Hid (Named (w.alloc (instO op d a b imm))) := h.below ((Below.refl w.heap.size w).alloc (Nat.le_refl _) _) h.1
  clear h
  go_enter Tryd.func6, Tryd.ntmps6
  go_wp2_with (first
    | (go_at_call 8; go_must (refine (awake_any _ HN.out).mono ?_); rintro e w1 ⟨rfl, hb1⟩; go_must (have hB1 := box_below hb1; obtain ⟨c0, c1, c2, c3, c4⟩ := box_cell hb1; have hz1 := box_size hb1; clear hb1))
    | (go_at_call 22; go_must (refine (ogoes_any op d a b imm _).mono ?_); rintro e w2 ⟨rfl, hb2⟩; go_must (have hB2 := hB1.trans (hb2.mono hB1.size); rw [← hb2.cell (by exact hz1)] at c0 c1 c2 c3 c4; clear hb2))
    | (go_at_call 23; go_must (refine (goes_any op d a b imm _).mono ?_); rintro e w3 ⟨rfl, hb3⟩; have hB3 := hB2.trans (hb3.mono hB2.size)))
  go_ret
  exact ⟨r2b (by simp), hB3⟩
theorem goes_walk (i : In) (w : World) (_ : i.wf) (h : Named w) : Calls Tryd.prog 6 #[i.v] w fun e w' => e = .returned (.bool true) ∧ Below w.heap.size w w' := goes_walk5 i.op i.d i.a i.b i.imm w h
end Go.Proofs.YtheapkigeknjlaaDoor
