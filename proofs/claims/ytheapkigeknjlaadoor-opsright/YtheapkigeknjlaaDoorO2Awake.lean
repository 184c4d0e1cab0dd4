/-
  The law's own look at the document's examples: it answers true. Condition: the package-level variable 'names' reads as it is laid.
-/
import Derived.Test.YtheapkigeknjlaaDoorO2Goes
import Derived.Test.YtheapkigeknjlaaDoorO2Find
namespace Go.Proofs.YtheapkigeknjlaaDoor
open Go.RowKit
set_option linter.unusedVariables false

theorem find_exit : findL ⟨#[101, 120, 105, 116]⟩ = (22, true) := by decide +kernel
theorem name_jlt : nameF 18 = ⟨#[106, 108, 116]⟩ := rfl
theorem goes_15 : goesL 15 3 0 0 0 = (4, true, false) := by decide +kernel
theorem right_set : rightB 0 3 0 8 (-5) = true := by decide +kernel

set_option maxHeartbeats 800000 in
theorem awake_any (w : World) (h : Named w) : Calls Tryd.prog 8 #[] w fun e w' => e = .returned (.bool true) ∧ Below w.heap.size w w' := by
  have HN : Hid (Named w) := h
  have h0 := h.1
  clear h
  go_enter Tryd.func8, Tryd.ntmps8
  go_wp2_with (first
    | (go_at_call 9; go_must (refine (ofind_any _ _ HN.out).mono ?_); rintro e w' ⟨rfl, rfl⟩; rw [find_exit])
    | (go_at_call 22; go_must (refine (ogoes_any 15 3 0 0 0 _).mono ?_); rintro e w1 ⟨rfl, hB1⟩; rw [goes_15]; have hz1 := hB1.size)
    | (go_at_call 11; go_must (refine (oname_any 18 _ (HN.out.below hB1 h0)).mono ?_); rintro e w' ⟨rfl, rfl⟩; rw [name_jlt])
    | (go_at_call 14; go_must (refine (right_one 0 3 0 8 (-5) _ _ (by simp)).mono ?_); rintro e w2 ⟨rfl, hb2⟩; rw [right_set]; have hB2 := hB1.trans (hb2.mono hz1); clear hb2))
  go_ret
  exact ⟨rfl, hB2⟩
end Go.Proofs.YtheapkigeknjlaaDoor
