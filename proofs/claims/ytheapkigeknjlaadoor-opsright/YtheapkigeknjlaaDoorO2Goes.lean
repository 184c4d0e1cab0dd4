/-
  What the project's Goes does. No condition beyond the numbers' kinds.
-/
import Derived.Test.YtheapkigeknjlaaDoorO2One
namespace Go.Proofs.YtheapkigeknjlaaDoor
open Go.RowKit
set_option linter.unusedVariables false

set_option maxHeartbeats 3200000 in
theorem ogoes_any (op d a b imm : Int) (w : World) : Calls Tryd.prog 22 #[instV op d a b imm] w fun e w' => e = .returned (.tuple #[.int .i64 (goesL op d a b imm).1, .bool (goesL op d a b imm).2.1, .bool (goesL op d a b imm).2.2]) ∧ Below w.heap.size w w' := by
  cases hr : rightB op d a b imm
  · have HE : Hid (goesL op d a b imm = (0, false, false)) := by show _ = _; unfold goesL; rw [if_pos hr]
    go_enter Tryd.func22, Tryd.ntmps22
    go_wp2_with (go_at_call 14; go_must (refine (right_one op d a b imm _ _ (by simp)).mono ?_); rintro e w1 ⟨rfl, hb1⟩; go_must (have hB := box_below hb1; obtain ⟨c0, c1, c2, c3, c4⟩ := box_cell hb1; clear hb1))
    go_ret3
    exact ⟨ret3ibb (by rw [HE.out]) (by rw [HE.out]) (by rw [HE.out]), hB⟩
  by_cases h15 : 15 ≤ op ∧ op ≤ 20
  · have hd := right_far hr h15
    have hc : op = 15 ∨ op = 16 ∨ op = 17 ∨ op = 18 ∨ op = 19 ∨ op = 20 := by omega
    clear h15
    rcases hc with rfl | rfl | rfl | rfl | rfl | rfl

    · have HE : Hid (goesL 15 d a b imm = (d + 1, true, false)) := by show _ = _; unfold goesL; rw [hr]; rfl
      go_enter Tryd.func22, Tryd.ntmps22
      go_wp2_with (go_at_call 14; go_must (refine (right_one 15 d a b imm _ _ (by simp)).mono ?_); rintro e w1 ⟨rfl, hb1⟩; go_must (have hB := box_below hb1; obtain ⟨c0, c1, c2, c3, c4⟩ := box_cell hb1; clear hb1))
      go_ret3
      exact ⟨ret3ibb (by rw [HE.out]) (by rw [HE.out]) (by rw [HE.out]), hB⟩
    · have HE : Hid (goesL 16 d a b imm = (d + 1, true, true)) := by show _ = _; unfold goesL; rw [hr]; rfl
      go_enter Tryd.func22, Tryd.ntmps22
      go_wp2_with (go_at_call 14; go_must (refine (right_one 16 d a b imm _ _ (by simp)).mono ?_); rintro e w1 ⟨rfl, hb1⟩; go_must (have hB := box_below hb1; obtain ⟨c0, c1, c2, c3, c4⟩ := box_cell hb1; clear hb1))
      go_ret3
      exact ⟨ret3ibb (by rw [HE.out]) (by rw [HE.out]) (by rw [HE.out]), hB⟩
    · have HE : Hid (goesL 17 d a b imm = (d + 1, true, true)) := by show _ = _; unfold goesL; rw [hr]; rfl
      go_enter Tryd.func22, Tryd.ntmps22
      go_wp2_with (go_at_call 14; go_must (refine (right_one 17 d a b imm _ _ (by simp)).mono ?_); rintro e w1 ⟨rfl, hb1⟩; go_must (have hB := box_below hb1; obtain ⟨c0, c1, c2, c3, c4⟩ := box_cell hb1; clear hb1))
      go_ret3
      exact ⟨ret3ibb (by rw [HE.out]) (by rw [HE.out]) (by rw [HE.out]), hB⟩
    · have HE : Hid (goesL 18 d a b imm = (d + 1, true, true)) := by show _ = _; unfold goesL; rw [hr]; rfl
      go_enter Tryd.func22, Tryd.ntmps22
      go_wp2_with (go_at_call 14; go_must (refine (right_one 18 d a b imm _ _ (by simp)).mono ?_); rintro e w1 ⟨rfl, hb1⟩; go_must (have hB := box_below hb1; obtain ⟨c0, c1, c2, c3, c4⟩ := box_cell hb1; clear hb1))
      go_ret3
      exact ⟨ret3ibb (by rw [HE.out]) (by rw [HE.out]) (by rw [HE.out]), hB⟩
    · have HE : Hid (goesL 19 d a b imm = (d + 1, true, true)) := by show _ = _; unfold goesL; rw [hr]; rfl
      go_enter Tryd.func22, Tryd.ntmps22
      go_wp2_with (go_at_call 14; go_must (refine (right_one 19 d a b imm _ _ (by simp)).mono ?_); rintro e w1 ⟨rfl, hb1⟩; go_must (have hB := box_below hb1; obtain ⟨c0, c1, c2, c3, c4⟩ := box_cell hb1; clear hb1))
      go_ret3
      exact ⟨ret3ibb (by rw [HE.out]) (by rw [HE.out]) (by rw [HE.out]), hB⟩
    · have HE : Hid (goesL 20 d a b imm = (-d, true, true)) := by show _ = _; unfold goesL; rw [hr]; rfl
      go_enter Tryd.func22, Tryd.ntmps22
      go_wp2_with (go_at_call 14; go_must (refine (right_one 20 d a b imm _ _ (by simp)).mono ?_); rintro e w1 ⟨rfl, hb1⟩; go_must (have hB := box_below hb1; obtain ⟨c0, c1, c2, c3, c4⟩ := box_cell hb1; clear hb1))
      go_ret3
      exact ⟨ret3ibb (by rw [HE.out]) (by rw [HE.out]) (by rw [HE.out]), hB⟩
  · have HE : Hid (goesL op d a b imm = (0, false, op != 22)) := by
      show _ = _; unfold goesL; rw [if_neg (by simp [hr]), if_neg (by omega), if_neg (by omega), if_neg (by omega)]
    have h16 : (op == 16) = false := by simp; omega
    have h17 : (op == 17) = false := by simp; omega
    have h18 : (op == 18) = false := by simp; omega
    have h19 : (op == 19) = false := by simp; omega
    have h20 : (op == 20) = false := by simp; omega
    have h15b : (op == 15) = false := by simp; omega
    clear h15
    go_enter Tryd.func22, Tryd.ntmps22
    go_wp2_with (go_at_call 14; go_must (refine (right_one op d a b imm _ _ (by simp)).mono ?_); rintro e w1 ⟨rfl, hb1⟩; go_must (have hB := box_below hb1; obtain ⟨c0, c1, c2, c3, c4⟩ := box_cell hb1; clear hb1))
    go_region
    go_wp2
    go_ret3
    exact ⟨ret3ibb (by rw [HE.out]) (by rw [HE.out]) (by rw [HE.out]), hB.drew⟩
end Go.Proofs.YtheapkigeknjlaaDoor
