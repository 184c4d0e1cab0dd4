/-
  What the document's Source, Writes and Goes do. No condition beyond the numbers' kinds.
-/
import Derived.Test.YtheapkigeknjlaaDoorR2Right
namespace Go.Proofs.YtheapkigeknjlaaDoor
open Go.RowKit
set_option linter.unusedVariables false

/-- The box of an instruction. -/
abbrev instO (op d a b imm : Int) : Obj := .cells #[.int .i64 op, .int .i64 d, .int .i64 a, .int .i64 b, .int .i64 imm] 34
theorem box_below {w w1 : World} {o : Obj} (h : Below (w.alloc o).heap.size (w.alloc o) w1) : Below w.heap.size w w1 := ((Below.refl _ _).alloc (Nat.le_refl _) o).trans (h.mono (by simp))
theorem box_cell {w w1 : World} {op d a b imm : Int} (h : Below (w.alloc (instO op d a b imm)).heap.size (w.alloc (instO op d a b imm)) w1) :
    w1.cell? ⟨w.heap.size, 0, none⟩ = some (.int .i64 op) ∧ w1.cell? ⟨w.heap.size, 1, none⟩ = some (.int .i64 d) ∧ w1.cell? ⟨w.heap.size, 2, none⟩ = some (.int .i64 a) ∧ w1.cell? ⟨w.heap.size, 3, none⟩ = some (.int .i64 b) ∧ w1.cell? ⟨w.heap.size, 4, none⟩ = some (.int .i64 imm) := by
  refine ⟨?_, ?_, ?_, ?_, ?_⟩ <;> (rw [h.cell (by simp)]; simp)

set_option maxHeartbeats 800000 in
theorem source_any (op d a b imm : Int) (w : World) : Calls Tryd.prog 16 #[instV op d a b imm] w fun e w' => e = .returned (.bool (sourceB op d a b imm)) ∧ Below w.heap.size w w' := by
  by_cases hr : rightB op d a b imm = true
  · by_cases h12 : op ≤ 12
    · go_enter Tryd.func16, Tryd.ntmps16
      go_wp2_with (first
        | (go_at_call 13; refine (right_any op d a b imm _).mono ?_; rintro e w1 ⟨rfl, hbe⟩; have hB := box_below hbe; clear hbe)
        | (go_at_call 28; refine (jump_any _ _).mono ?_; rintro e w' ⟨rfl, rfl⟩))
      go_ret
      exact ⟨r2b (by simp [sourceB, hr, h12]), hB⟩
    · go_enter Tryd.func16, Tryd.ntmps16
      go_wp2_with (first
        | (go_at_call 13; refine (right_any op d a b imm _).mono ?_; rintro e w1 ⟨rfl, hbe⟩; have hB := box_below hbe; clear hbe)
        | (go_at_call 28; refine (jump_any _ _).mono ?_; rintro e w' ⟨rfl, rfl⟩))
      go_ret
      exact ⟨r2b (by simp [sourceB, hr]), hB⟩
  · have hr := eq_false_of_ne_true hr
    go_enter Tryd.func16, Tryd.ntmps16
    go_wp2_with (first
      | (go_at_call 13; refine (right_any op d a b imm _).mono ?_; rintro e w1 ⟨rfl, hbe⟩; have hB := box_below hbe; clear hbe)
      | (go_at_call 28; refine (jump_any _ _).mono ?_; rintro e w' ⟨rfl, rfl⟩))
    go_ret
    exact ⟨r2b (by simp [sourceB, hr]), hB⟩

theorem ret2ib {a a' : Int} {b b' : Bool} (h1 : a = a') (h2 : b = b') : Ending.returned (.tuple #[.int .i64 a, .bool b]) = .returned (.tuple #[.int .i64 a', .bool b']) := by rw [h1, h2]
theorem ret3ibb {a a' : Int} {b b' c c' : Bool} (h1 : a = a') (h2 : b = b') (h3 : c = c') : Ending.returned (.tuple #[.int .i64 a, .bool b, .bool c]) = .returned (.tuple #[.int .i64 a', .bool b', .bool c']) := by rw [h1, h2, h3]

set_option maxHeartbeats 800000 in
theorem writes_any (op d a b imm : Int) (w : World) : Calls Tryd.prog 21 #[instV op d a b imm] w fun e w' => e = .returned (.tuple #[.int .i64 (writesL op d a b imm).1, .bool (writesL op d a b imm).2]) ∧ Below w.heap.size w w' := by
  by_cases hr : rightB op d a b imm = true
  · by_cases h11 : op ≤ 11
    · have HE : Hid (writesL op d a b imm = (d, true)) := by show _ = _; unfold writesL; rw [if_neg (by simp [hr]), if_pos (.inl h11)]
      go_enter Tryd.func21, Tryd.ntmps21
      go_wp2_with (go_at_call 13; refine (right_any op d a b imm _).mono ?_; rintro e w1 ⟨rfl, hbe⟩; have hB := box_below hbe; obtain ⟨c0, c1, c2, c3, c4⟩ := box_cell hbe; clear hbe)
      go_ret2
      exact ⟨ret2ib (by rw [HE.out]) (by rw [HE.out]), hB⟩
    · by_cases h13 : op = 13 ∨ op = 14
      · have HE : Hid (writesL op d a b imm = (d, true)) := by show _ = _; unfold writesL; rw [if_neg (by simp [hr]), if_pos (.inr h13)]
        rcases h13 with rfl | rfl
        all_goals
          go_enter Tryd.func21, Tryd.ntmps21
          go_wp2_with (go_at_call 13; refine (right_any _ d a b imm _).mono ?_; rintro e w1 ⟨rfl, hbe⟩; have hB := box_below hbe; obtain ⟨c0, c1, c2, c3, c4⟩ := box_cell hbe; clear hbe)
          go_ret2
          exact ⟨ret2ib (by rw [HE.out]) (by rw [HE.out]), hB⟩
      · have HE : Hid (writesL op d a b imm = (0, op == 21)) := by show _ = _; unfold writesL; rw [if_neg (by simp [hr]), if_neg (by omega)]
        have h13b : (op == 13) = false := by simp; omega
        have h14b : (op == 14) = false := by simp; omega
        clear h13
        go_enter Tryd.func21, Tryd.ntmps21
        go_wp2_with (go_at_call 13; refine (right_any op d a b imm _).mono ?_; rintro e w1 ⟨rfl, hbe⟩; have hB := box_below hbe; obtain ⟨c0, c1, c2, c3, c4⟩ := box_cell hbe; clear hbe)
        go_ret2
        exact ⟨ret2ib (by rw [HE.out]) (by rw [HE.out]), hB⟩
  · have hr := eq_false_of_ne_true hr
    have HE : Hid (writesL op d a b imm = (0, false)) := by show _ = _; unfold writesL; rw [if_pos hr]
    go_enter Tryd.func21, Tryd.ntmps21
    go_wp2_with (go_at_call 13; refine (right_any op d a b imm _).mono ?_; rintro e w1 ⟨rfl, hbe⟩; have hB := box_below hbe; clear hbe)
    go_ret2
    exact ⟨ret2ib (by rw [HE.out]) (by rw [HE.out]), hB⟩

set_option maxHeartbeats 800000 in
theorem goes_any (op d a b imm : Int) (w : World) : Calls Tryd.prog 23 #[instV op d a b imm] w fun e w' => e = .returned (.tuple #[.int .i64 (goesL op d a b imm).1, .bool (goesL op d a b imm).2.1, .bool (goesL op d a b imm).2.2]) ∧ Below w.heap.size w w' := by
  by_cases hr : rightB op d a b imm = true
  · by_cases h15 : op = 15
    · subst h15
      have hd := right_far hr (by omega)
      have HE : Hid (goesL 15 d a b imm = (d + 1, true, false)) := by show _ = _; unfold goesL; rw [if_neg (by simp [hr]), if_pos rfl]
      go_enter Tryd.func23, Tryd.ntmps23
      go_wp2_with (first
        | (go_at_call 13; refine (right_any _ d a b imm _).mono ?_; rintro e w1 ⟨rfl, hbe⟩; have hB := box_below hbe; obtain ⟨c0, c1, c2, c3, c4⟩ := box_cell hbe; clear hbe)
        | (go_at_call 28; refine (jump_any _ _).mono ?_; rintro e w' ⟨rfl, rfl⟩))
      go_ret3
      exact ⟨ret3ibb (by rw [HE.out]) (by rw [HE.out]) (by rw [HE.out]), hB⟩
    have h15b : (op == 15) = false := by simp; omega
    by_cases hj : 16 ≤ op ∧ op ≤ 19
    · have hd := right_far hr (by omega)
      have hju : jumpB op = true := by simp [jumpB]; omega
      have HE : Hid (goesL op d a b imm = (d + 1, true, true)) := by show _ = _; unfold goesL; rw [if_neg (by simp [hr]), if_neg h15, if_pos hj]
      go_enter Tryd.func23, Tryd.ntmps23
      go_wp2_with (first
        | (go_at_call 13; refine (right_any _ d a b imm _).mono ?_; rintro e w1 ⟨rfl, hbe⟩; have hB := box_below hbe; obtain ⟨c0, c1, c2, c3, c4⟩ := box_cell hbe; clear hbe)
        | (go_at_call 28; refine (jump_any _ _).mono ?_; rintro e w' ⟨rfl, rfl⟩))
      go_ret3
      exact ⟨ret3ibb (by rw [HE.out]) (by rw [HE.out]) (by rw [HE.out]), hB⟩
    have hju : jumpB op = false := by simp [jumpB]; omega
    by_cases h20 : op = 20
    · subst h20
      have hd := right_far hr (by omega)
      have HE : Hid (goesL 20 d a b imm = (-d, true, true)) := by show _ = _; unfold goesL; rw [if_neg (by simp [hr]), if_neg h15, if_neg hj, if_pos rfl]
      go_enter Tryd.func23, Tryd.ntmps23
      go_wp2_with (first
        | (go_at_call 13; refine (right_any _ d a b imm _).mono ?_; rintro e w1 ⟨rfl, hbe⟩; have hB := box_below hbe; obtain ⟨c0, c1, c2, c3, c4⟩ := box_cell hbe; clear hbe)
        | (go_at_call 28; refine (jump_any _ _).mono ?_; rintro e w' ⟨rfl, rfl⟩))
      go_ret3
      exact ⟨ret3ibb (by rw [HE.out]) (by rw [HE.out]) (by rw [HE.out]), hB⟩
    have h20b : (op == 20) = false := by simp; omega
    have HE : Hid (goesL op d a b imm = (0, false, op != 22)) := by show _ = _; unfold goesL; rw [if_neg (by simp [hr]), if_neg h15, if_neg hj, if_neg h20]
    go_enter Tryd.func23, Tryd.ntmps23
    go_wp2_with (first
      | (go_at_call 13; refine (right_any _ d a b imm _).mono ?_; rintro e w1 ⟨rfl, hbe⟩; have hB := box_below hbe; obtain ⟨c0, c1, c2, c3, c4⟩ := box_cell hbe; clear hbe)
      | (go_at_call 28; refine (jump_any _ _).mono ?_; rintro e w' ⟨rfl, rfl⟩))
    go_ret3
    exact ⟨ret3ibb (by rw [HE.out]) (by rw [HE.out]) (by rw [HE.out]), hB⟩
  · have hr := eq_false_of_ne_true hr
    have HE : Hid (goesL op d a b imm = (0, false, false)) := by show _ = _; unfold goesL; rw [if_pos hr]
    go_enter Tryd.func23, Tryd.ntmps23
    go_wp2_with (first
      | (go_at_call 13; refine (right_any _ d a b imm _).mono ?_; rintro e w1 ⟨rfl, hbe⟩; have hB := box_below hbe; obtain ⟨c0, c1, c2, c3, c4⟩ := box_cell hbe; clear hbe)
      | (go_at_call 28; refine (jump_any _ _).mono ?_; rintro e w' ⟨rfl, rfl⟩))
    go_ret3
    exact ⟨ret3ibb (by rw [HE.out]) (by rw [HE.out]) (by rw [HE.out]), hB⟩
end Go.Proofs.YtheapkigeknjlaaDoor
