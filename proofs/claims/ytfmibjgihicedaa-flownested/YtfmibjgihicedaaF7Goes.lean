/-
  What the document's Goes and the project's Goes do. No condition beyond the numbers' kinds.
-/
import Derived.Test.YtfmibjgihicedaaR2Box
import Derived.Test.YtfmibjgihicedaaO2One
namespace Go.Proofs.Ytfmibjgihicedaa
open Go.RowKit
set_option linter.unusedVariables false

theorem ret3ibb {a a' : Int} {b b' c c' : Bool} (h1 : a = a') (h2 : b = b') (h3 : c = c') : Ending.returned (.tuple #[.int .i64 a, .bool b, .bool c]) = .returned (.tuple #[.int .i64 a', .bool b', .bool c']) := by rw [h1, h2, h3]

set_option maxHeartbeats 800000 in
theorem goes_any (op d a b imm : Int) (w : World) : Calls Try.prog 28 #[instV op d a b imm] w fun e w' => e = .returned (.tuple #[.int .i64 (goesL op d a b imm).1, .bool (goesL op d a b imm).2.1, .bool (goesL op d a b imm).2.2]) ∧ Below w.heap.size w w' := by
  by_cases hr : rightB op d a b imm = true
  · by_cases h15 : op = 15
    · subst h15
      have hd := right_far hr (by omega)
      have HE : Hid (goesL 15 d a b imm = (d + 1, true, false)) := by show _ = _; unfold goesL; rw [if_neg (by simp [hr]), if_pos rfl]
      go_enter Try.func28, Try.ntmps28
      go_wp2_with (first
        | (go_at_call 27; refine (right_any _ d a b imm _).mono ?_; rintro e w1 ⟨rfl, hbe⟩; have hB := box_below hbe; obtain ⟨c0, c1, c2, c3, c4⟩ := box_cell hbe; clear hbe)
        | (go_at_call 41; refine (jump_any _ _).mono ?_; rintro e w' ⟨rfl, rfl⟩))
      go_ret3
      exact ⟨ret3ibb (by rw [HE.out]) (by rw [HE.out]) (by rw [HE.out]), hB⟩
    have h15b : (op == 15) = false := by simp; omega
    by_cases hj : 16 ≤ op ∧ op ≤ 19
    · have hd := right_far hr (by omega)
      have hju : jumpB op = true := by simp [jumpB]; omega
      have HE : Hid (goesL op d a b imm = (d + 1, true, true)) := by show _ = _; unfold goesL; rw [if_neg (by simp [hr]), if_neg h15, if_pos hj]
      go_enter Try.func28, Try.ntmps28
      go_wp2_with (first
        | (go_at_call 27; refine (right_any _ d a b imm _).mono ?_; rintro e w1 ⟨rfl, hbe⟩; have hB := box_below hbe; obtain ⟨c0, c1, c2, c3, c4⟩ := box_cell hbe; clear hbe)
        | (go_at_call 41; refine (jump_any _ _).mono ?_; rintro e w' ⟨rfl, rfl⟩))
      go_ret3
      exact ⟨ret3ibb (by rw [HE.out]) (by rw [HE.out]) (by rw [HE.out]), hB⟩
    have hju : jumpB op = false := by simp [jumpB]; omega
    by_cases h20 : op = 20
    · subst h20
      have hd := right_far hr (by omega)
      have HE : Hid (goesL 20 d a b imm = (-d, true, true)) := by show _ = _; unfold goesL; rw [if_neg (by simp [hr]), if_neg h15, if_neg hj, if_pos rfl]
      go_enter Try.func28, Try.ntmps28
      go_wp2_with (first
        | (go_at_call 27; refine (right_any _ d a b imm _).mono ?_; rintro e w1 ⟨rfl, hbe⟩; have hB := box_below hbe; obtain ⟨c0, c1, c2, c3, c4⟩ := box_cell hbe; clear hbe)
        | (go_at_call 41; refine (jump_any _ _).mono ?_; rintro e w' ⟨rfl, rfl⟩))
      go_ret3
      exact ⟨ret3ibb (by rw [HE.out]) (by rw [HE.out]) (by rw [HE.out]), hB⟩
    have h20b : (op == 20) = false := by simp; omega
    have HE : Hid (goesL op d a b imm = (0, false, op != 22)) := by show _ = _; unfold goesL; rw [if_neg (by simp [hr]), if_neg h15, if_neg hj, if_neg h20]
    go_enter Try.func28, Try.ntmps28
    go_wp2_with (first
      | (go_at_call 27; refine (right_any _ d a b imm _).mono ?_; rintro e w1 ⟨rfl, hbe⟩; have hB := box_below hbe; obtain ⟨c0, c1, c2, c3, c4⟩ := box_cell hbe; clear hbe)
      | (go_at_call 41; refine (jump_any _ _).mono ?_; rintro e w' ⟨rfl, rfl⟩))
    go_ret3
    exact ⟨ret3ibb (by rw [HE.out]) (by rw [HE.out]) (by rw [HE.out]), hB⟩
  · have hr := eq_false_of_ne_true hr
    have HE : Hid (goesL op d a b imm = (0, false, false)) := by show _ = _; unfold goesL; rw [if_pos hr]
    go_enter Try.func28, Try.ntmps28
    go_wp2_with (first
      | (go_at_call 27; refine (right_any _ d a b imm _).mono ?_; rintro e w1 ⟨rfl, hbe⟩; have hB := box_below hbe; obtain ⟨c0, c1, c2, c3, c4⟩ := box_cell hbe; clear hbe)
      | (go_at_call 41; refine (jump_any _ _).mono ?_; rintro e w' ⟨rfl, rfl⟩))
    go_ret3
    exact ⟨ret3ibb (by rw [HE.out]) (by rw [HE.out]) (by rw [HE.out]), hB⟩

set_option maxHeartbeats 3200000 in
theorem ogoes_any (op d a b imm : Int) (w : World) : Calls Try.prog 34 #[instV op d a b imm] w fun e w' => e = .returned (.tuple #[.int .i64 (goesL op d a b imm).1, .bool (goesL op d a b imm).2.1, .bool (goesL op d a b imm).2.2]) ∧ Below w.heap.size w w' := by
  cases hr : rightB op d a b imm
  · have HE : Hid (goesL op d a b imm = (0, false, false)) := by show _ = _; unfold goesL; rw [if_pos hr]
    go_enter Try.func34, Try.ntmps34
    go_wp2_with (go_at_call 36; go_must (refine (right_one op d a b imm _ _ (by simp)).mono ?_); rintro e w1 ⟨rfl, hb1⟩; go_must (have hB := box_below hb1; obtain ⟨c0, c1, c2, c3, c4⟩ := box_cell hb1; clear hb1))
    go_ret3
    exact ⟨ret3ibb (by rw [HE.out]) (by rw [HE.out]) (by rw [HE.out]), hB⟩
  by_cases h15 : 15 ≤ op ∧ op ≤ 20
  · have hd := right_far hr h15
    have hc : op = 15 ∨ op = 16 ∨ op = 17 ∨ op = 18 ∨ op = 19 ∨ op = 20 := by omega
    clear h15
    rcases hc with rfl | rfl | rfl | rfl | rfl | rfl

    · have HE : Hid (goesL 15 d a b imm = (d + 1, true, false)) := by show _ = _; unfold goesL; rw [hr]; rfl
      go_enter Try.func34, Try.ntmps34
      go_wp2_with (go_at_call 36; go_must (refine (right_one 15 d a b imm _ _ (by simp)).mono ?_); rintro e w1 ⟨rfl, hb1⟩; go_must (have hB := box_below hb1; obtain ⟨c0, c1, c2, c3, c4⟩ := box_cell hb1; clear hb1))
      go_ret3
      exact ⟨ret3ibb (by rw [HE.out]) (by rw [HE.out]) (by rw [HE.out]), hB⟩
    · have HE : Hid (goesL 16 d a b imm = (d + 1, true, true)) := by show _ = _; unfold goesL; rw [hr]; rfl
      go_enter Try.func34, Try.ntmps34
      go_wp2_with (go_at_call 36; go_must (refine (right_one 16 d a b imm _ _ (by simp)).mono ?_); rintro e w1 ⟨rfl, hb1⟩; go_must (have hB := box_below hb1; obtain ⟨c0, c1, c2, c3, c4⟩ := box_cell hb1; clear hb1))
      go_ret3
      exact ⟨ret3ibb (by rw [HE.out]) (by rw [HE.out]) (by rw [HE.out]), hB⟩
    · have HE : Hid (goesL 17 d a b imm = (d + 1, true, true)) := by show _ = _; unfold goesL; rw [hr]; rfl
      go_enter Try.func34, Try.ntmps34
      go_wp2_with (go_at_call 36; go_must (refine (right_one 17 d a b imm _ _ (by simp)).mono ?_); rintro e w1 ⟨rfl, hb1⟩; go_must (have hB := box_below hb1; obtain ⟨c0, c1, c2, c3, c4⟩ := box_cell hb1; clear hb1))
      go_ret3
      exact ⟨ret3ibb (by rw [HE.out]) (by rw [HE.out]) (by rw [HE.out]), hB⟩
    · have HE : Hid (goesL 18 d a b imm = (d + 1, true, true)) := by show _ = _; unfold goesL; rw [hr]; rfl
      go_enter Try.func34, Try.ntmps34
      go_wp2_with (go_at_call 36; go_must (refine (right_one 18 d a b imm _ _ (by simp)).mono ?_); rintro e w1 ⟨rfl, hb1⟩; go_must (have hB := box_below hb1; obtain ⟨c0, c1, c2, c3, c4⟩ := box_cell hb1; clear hb1))
      go_ret3
      exact ⟨ret3ibb (by rw [HE.out]) (by rw [HE.out]) (by rw [HE.out]), hB⟩
    · have HE : Hid (goesL 19 d a b imm = (d + 1, true, true)) := by show _ = _; unfold goesL; rw [hr]; rfl
      go_enter Try.func34, Try.ntmps34
      go_wp2_with (go_at_call 36; go_must (refine (right_one 19 d a b imm _ _ (by simp)).mono ?_); rintro e w1 ⟨rfl, hb1⟩; go_must (have hB := box_below hb1; obtain ⟨c0, c1, c2, c3, c4⟩ := box_cell hb1; clear hb1))
      go_ret3
      exact ⟨ret3ibb (by rw [HE.out]) (by rw [HE.out]) (by rw [HE.out]), hB⟩
    · have HE : Hid (goesL 20 d a b imm = (-d, true, true)) := by show _ = _; unfold goesL; rw [hr]; rfl
      go_enter Try.func34, Try.ntmps34
      go_wp2_with (go_at_call 36; go_must (refine (right_one 20 d a b imm _ _ (by simp)).mono ?_); rintro e w1 ⟨rfl, hb1⟩; go_must (have hB := box_below hb1; obtain ⟨c0, c1, c2, c3, c4⟩ := box_cell hb1; clear hb1))
      go_ret3
      exact ⟨ret3ibb (by rw [HE.out]) (by rw [HE.out]) (by rw [HE.out]), hB⟩
  · have HE : Hid (goesL op d a b imm = (0, false, op != 22)) := by
      show _ = _; unfold goesL; rw [if_neg (by simp [hr]), if_neg (by omega), if_neg (by omega), if_neg (by omega)]
    have h16 : (op == 16) = false := by simp; omega
    have h17 : (op == 17) = false := by simp; omega
    have h18 : (op == 18) = false := by simp; omega
    have h19 : (op == 19) = false := by simp; omega
    have h20 : (op == 20) = false := by simp; omega
    have h15b : (op == 15) = false := by simp; omega
    clear h15
    go_enter Try.func34, Try.ntmps34
    go_wp2_with (go_at_call 36; go_must (refine (right_one op d a b imm _ _ (by simp)).mono ?_); rintro e w1 ⟨rfl, hb1⟩; go_must (have hB := box_below hb1; obtain ⟨c0, c1, c2, c3, c4⟩ := box_cell hb1; clear hb1))
    go_region
    go_wp2
    go_ret3
    exact ⟨ret3ibb (by rw [HE.out]) (by rw [HE.out]) (by rw [HE.out]), hB.drew⟩
end Go.Proofs.Ytfmibjgihicedaa
