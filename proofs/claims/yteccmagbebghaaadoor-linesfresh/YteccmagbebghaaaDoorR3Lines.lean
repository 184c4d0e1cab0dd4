/-
  What the document's Line does: the line of an instruction. Condition: the numbers are of their kinds.
-/
import Derived.Test.YteccmagbebghaaaDoorR3Line
namespace Go.Proofs.YteccmagbebghaaaDoor
open Go.RowKit
set_option linter.unusedVariables false

theorem name_let (op : Int) (w : World) : Calls Tryd.prog 37 #[.int .i64 op] w fun e w' => (∃ l, e = .returned (.string (str l)) ∧ Hid (l = nmL op) ∧ l.length ≤ 5) ∧ Below w.heap.size w w' :=
  (name_any op w).mono fun e w' ⟨he, hb⟩ => ⟨⟨nmL op, by rw [he, nmL_str], rfl, nmL_len op⟩, hb⟩
theorem box_size1 {w w1 : World} {o : Obj} (h : Below (w.alloc o).heap.size (w.alloc o) w1) : w.heap.size < w1.heap.size := by
  have h1 := h.size
  rw [World.size_alloc] at h1
  omega

set_option maxRecDepth 100000 in
set_option maxHeartbeats 1600000 in
theorem line_0 (op d a b imm : Int) (w : World) (hd : i64R d) (ha : i64R a) (hb : i64R b) (himm : i64R imm) (HT : Hid (lineL 0 d a b imm = nmL 0 ++ 32 :: (rL d ++ 32 :: srcL b imm))) : Calls Tryd.prog 21 #[instV 0 d a b imm] w fun e w' => e = .returned (.string (str (lineL 0 d a b imm))) ∧ Below w.heap.size w w' := by
  go_enter Tryd.func21, Tryd.ntmps21
  go_wp2_with (first | (go_at_call 37; go_must (refine (name_let 0 _).mono ?_); rintro e w1 ⟨⟨l0, rfl, Hl0, hl0⟩, hb1⟩; go_must (have hB1 := box_below hb1; have HX : Hid (Box w1 w.heap.size 0 d a b imm) := box_cell hb1; obtain ⟨c0, c1, c2, c3, c4⟩ := HX.out; have hz1 := box_size1 hb1; clear hb1; have P1 : Hid True := trivial)))
  go_region_held3 (fun w' => w'.cell? ⟨w.heap.size, 0, none⟩ = some (.int .i64 0) ∧ w'.cell? ⟨w.heap.size, 1, none⟩ = some (.int .i64 d) ∧ w'.cell? ⟨w.heap.size, 2, none⟩ = some (.int .i64 a) ∧ w'.cell? ⟨w.heap.size, 3, none⟩ = some (.int .i64 b) ∧ w'.cell? ⟨w.heap.size, 4, none⟩ = some (.int .i64 imm)) (exact Box.below (B := w1.heap.size) HX.out (by go_grown) hz1) (first | (go_at_call 38; have hq := P1; clear hq; go_must (refine (r_any d _ hd).mono ?_); rintro e w' ⟨⟨l1, rfl, Hl1, hl1⟩, rfl⟩; go_must (have q0a : ¬ 9223372036854775807 < l0.length + 1 + l1.length := (by omega); have q0b : ¬ 9223372036854775807 < l0.length + 1 + l1.length + 1 := (by omega); clear P1; have P2 : Hid True := trivial)) | (go_at_call 39; have hq := P2; clear hq; go_must (refine (rsource_any 0 d a b imm _ hb himm).mono ?_); rintro e w' ⟨⟨l2, rfl, Hl2, hl2⟩, rfl⟩; go_must (have q1a : ¬ 9223372036854775807 < l0.length + 1 + l1.length + 1 + l2.length := (by omega); clear P2; have P3 : Hid True := trivial)))
  go_wp2
  go_ret
  exact ⟨retstr (by rw [HT.out, ← Hl0.out, ← Hl1.out, ← Hl2.out]; simp only [str_app, List.append_assoc, List.cons_append, List.nil_append]), by go_grown⟩
set_option maxRecDepth 100000 in
set_option maxHeartbeats 1600000 in
theorem line_11 (op d a b imm : Int) (w : World) (hd : i64R d) (ha : i64R a) (hb : i64R b) (himm : i64R imm) (HT : Hid (lineL 11 d a b imm = nmL 11 ++ 32 :: (rL d ++ 32 :: srcL b imm))) : Calls Tryd.prog 21 #[instV 11 d a b imm] w fun e w' => e = .returned (.string (str (lineL 11 d a b imm))) ∧ Below w.heap.size w w' := by
  go_enter Tryd.func21, Tryd.ntmps21
  go_wp2_with (first | (go_at_call 37; go_must (refine (name_let 11 _).mono ?_); rintro e w1 ⟨⟨l0, rfl, Hl0, hl0⟩, hb1⟩; go_must (have hB1 := box_below hb1; have HX : Hid (Box w1 w.heap.size 11 d a b imm) := box_cell hb1; obtain ⟨c0, c1, c2, c3, c4⟩ := HX.out; have hz1 := box_size1 hb1; clear hb1; have P1 : Hid True := trivial)))
  go_region_held3 (fun w' => w'.cell? ⟨w.heap.size, 0, none⟩ = some (.int .i64 11) ∧ w'.cell? ⟨w.heap.size, 1, none⟩ = some (.int .i64 d) ∧ w'.cell? ⟨w.heap.size, 2, none⟩ = some (.int .i64 a) ∧ w'.cell? ⟨w.heap.size, 3, none⟩ = some (.int .i64 b) ∧ w'.cell? ⟨w.heap.size, 4, none⟩ = some (.int .i64 imm)) (exact Box.below (B := w1.heap.size) HX.out (by go_grown) hz1) (first | (go_at_call 38; have hq := P1; clear hq; go_must (refine (r_any d _ hd).mono ?_); rintro e w' ⟨⟨l1, rfl, Hl1, hl1⟩, rfl⟩; go_must (have q0a : ¬ 9223372036854775807 < l0.length + 1 + l1.length := (by omega); have q0b : ¬ 9223372036854775807 < l0.length + 1 + l1.length + 1 := (by omega); clear P1; have P2 : Hid True := trivial)) | (go_at_call 39; have hq := P2; clear hq; go_must (refine (rsource_any 11 d a b imm _ hb himm).mono ?_); rintro e w' ⟨⟨l2, rfl, Hl2, hl2⟩, rfl⟩; go_must (have q1a : ¬ 9223372036854775807 < l0.length + 1 + l1.length + 1 + l2.length := (by omega); clear P2; have P3 : Hid True := trivial)))
  go_wp2
  go_ret
  exact ⟨retstr (by rw [HT.out, ← Hl0.out, ← Hl1.out, ← Hl2.out]; simp only [str_app, List.append_assoc, List.cons_append, List.nil_append]), by go_grown⟩
set_option maxRecDepth 100000 in
set_option maxHeartbeats 1600000 in
theorem line_three (op d a b imm : Int) (w : World) (hd : i64R d) (ha : i64R a) (hb : i64R b) (himm : i64R imm) (h0 : (op == 0) = false) (h11 : (op == 11) = false) (h10 : op ≤ 10) (HT : Hid (lineL op d a b imm = nmL op ++ 32 :: (rL d ++ 32 :: (rL a ++ 32 :: srcL b imm)))) : Calls Tryd.prog 21 #[instV op d a b imm] w fun e w' => e = .returned (.string (str (lineL op d a b imm))) ∧ Below w.heap.size w w' := by
  go_enter Tryd.func21, Tryd.ntmps21
  go_wp2_with (first | (go_at_call 37; go_must (refine (name_let op _).mono ?_); rintro e w1 ⟨⟨l0, rfl, Hl0, hl0⟩, hb1⟩; go_must (have hB1 := box_below hb1; have HX : Hid (Box w1 w.heap.size op d a b imm) := box_cell hb1; obtain ⟨c0, c1, c2, c3, c4⟩ := HX.out; have hz1 := box_size1 hb1; clear hb1; have P1 : Hid True := trivial)))
  go_region_held3 (fun w' => w'.cell? ⟨w.heap.size, 0, none⟩ = some (.int .i64 op) ∧ w'.cell? ⟨w.heap.size, 1, none⟩ = some (.int .i64 d) ∧ w'.cell? ⟨w.heap.size, 2, none⟩ = some (.int .i64 a) ∧ w'.cell? ⟨w.heap.size, 3, none⟩ = some (.int .i64 b) ∧ w'.cell? ⟨w.heap.size, 4, none⟩ = some (.int .i64 imm)) (exact Box.below (B := w1.heap.size) HX.out (by go_grown) hz1) (first | (go_at_call 38; have hq := P1; clear hq; go_must (refine (r_any d _ hd).mono ?_); rintro e w' ⟨⟨l1, rfl, Hl1, hl1⟩, rfl⟩; go_must (have q0a : ¬ 9223372036854775807 < l0.length + 1 + l1.length := (by omega); have q0b : ¬ 9223372036854775807 < l0.length + 1 + l1.length + 1 := (by omega); clear P1; have P2 : Hid True := trivial)) | (go_at_call 38; have hq := P2; clear hq; go_must (refine (r_any a _ ha).mono ?_); rintro e w' ⟨⟨l2, rfl, Hl2, hl2⟩, rfl⟩; go_must (have q1a : ¬ 9223372036854775807 < l0.length + 1 + l1.length + 1 + l2.length := (by omega); have q1b : ¬ 9223372036854775807 < l0.length + 1 + l1.length + 1 + l2.length + 1 := (by omega); clear P2; have P3 : Hid True := trivial)) | (go_at_call 39; have hq := P3; clear hq; go_must (refine (rsource_any op d a b imm _ hb himm).mono ?_); rintro e w' ⟨⟨l3, rfl, Hl3, hl3⟩, rfl⟩; go_must (have q2a : ¬ 9223372036854775807 < l0.length + 1 + l1.length + 1 + l2.length + 1 + l3.length := (by omega); clear P3; have P4 : Hid True := trivial)))
  go_wp2
  go_ret
  exact ⟨retstr (by rw [HT.out, ← Hl0.out, ← Hl1.out, ← Hl2.out, ← Hl3.out]; simp only [str_app, List.append_assoc, List.cons_append, List.nil_append]), by go_grown⟩
set_option maxRecDepth 100000 in
set_option maxHeartbeats 1600000 in
theorem line_12 (op d a b imm : Int) (w : World) (hd : i64R d) (ha : i64R a) (hb : i64R b) (himm : i64R imm) (HT : Hid (lineL 12 d a b imm = nmL 12 ++ 32 :: (rL a ++ 32 :: srcL b imm))) : Calls Tryd.prog 21 #[instV 12 d a b imm] w fun e w' => e = .returned (.string (str (lineL 12 d a b imm))) ∧ Below w.heap.size w w' := by
  go_enter Tryd.func21, Tryd.ntmps21
  go_wp2_with (first | (go_at_call 37; go_must (refine (name_let 12 _).mono ?_); rintro e w1 ⟨⟨l0, rfl, Hl0, hl0⟩, hb1⟩; go_must (have hB1 := box_below hb1; have HX : Hid (Box w1 w.heap.size 12 d a b imm) := box_cell hb1; obtain ⟨c0, c1, c2, c3, c4⟩ := HX.out; have hz1 := box_size1 hb1; clear hb1; have P1 : Hid True := trivial)))
  go_region_held3 (fun w' => w'.cell? ⟨w.heap.size, 0, none⟩ = some (.int .i64 12) ∧ w'.cell? ⟨w.heap.size, 1, none⟩ = some (.int .i64 d) ∧ w'.cell? ⟨w.heap.size, 2, none⟩ = some (.int .i64 a) ∧ w'.cell? ⟨w.heap.size, 3, none⟩ = some (.int .i64 b) ∧ w'.cell? ⟨w.heap.size, 4, none⟩ = some (.int .i64 imm)) (exact Box.below (B := w1.heap.size) HX.out (by go_grown) hz1) (first | (go_at_call 38; have hq := P1; clear hq; go_must (refine (r_any a _ ha).mono ?_); rintro e w' ⟨⟨l1, rfl, Hl1, hl1⟩, rfl⟩; go_must (have q0a : ¬ 9223372036854775807 < l0.length + 1 + l1.length := (by omega); have q0b : ¬ 9223372036854775807 < l0.length + 1 + l1.length + 1 := (by omega); clear P1; have P2 : Hid True := trivial)) | (go_at_call 39; have hq := P2; clear hq; go_must (refine (rsource_any 12 d a b imm _ hb himm).mono ?_); rintro e w' ⟨⟨l2, rfl, Hl2, hl2⟩, rfl⟩; go_must (have q1a : ¬ 9223372036854775807 < l0.length + 1 + l1.length + 1 + l2.length := (by omega); clear P2; have P3 : Hid True := trivial)))
  go_wp2
  go_ret
  exact ⟨retstr (by rw [HT.out, ← Hl0.out, ← Hl1.out, ← Hl2.out]; simp only [str_app, List.append_assoc, List.cons_append, List.nil_append]), by go_grown⟩
set_option maxRecDepth 100000 in
set_option maxHeartbeats 1600000 in
theorem line_13 (op d a b imm : Int) (w : World) (hd : i64R d) (ha : i64R a) (hb : i64R b) (himm : i64R imm) (HT : Hid (lineL 13 d a b imm = nmL 13 ++ 32 :: (rL d ++ 32 :: numL imm))) : Calls Tryd.prog 21 #[instV 13 d a b imm] w fun e w' => e = .returned (.string (str (lineL 13 d a b imm))) ∧ Below w.heap.size w w' := by
  go_enter Tryd.func21, Tryd.ntmps21
  go_wp2_with (first | (go_at_call 37; go_must (refine (name_let 13 _).mono ?_); rintro e w1 ⟨⟨l0, rfl, Hl0, hl0⟩, hb1⟩; go_must (have hB1 := box_below hb1; have HX : Hid (Box w1 w.heap.size 13 d a b imm) := box_cell hb1; obtain ⟨c0, c1, c2, c3, c4⟩ := HX.out; have hz1 := box_size1 hb1; clear hb1; have P1 : Hid True := trivial)))
  go_region_held3 (fun w' => w'.cell? ⟨w.heap.size, 0, none⟩ = some (.int .i64 13) ∧ w'.cell? ⟨w.heap.size, 1, none⟩ = some (.int .i64 d) ∧ w'.cell? ⟨w.heap.size, 2, none⟩ = some (.int .i64 a) ∧ w'.cell? ⟨w.heap.size, 3, none⟩ = some (.int .i64 b) ∧ w'.cell? ⟨w.heap.size, 4, none⟩ = some (.int .i64 imm)) (exact Box.below (B := w1.heap.size) HX.out (by go_grown) hz1) (first | (go_at_call 38; have hq := P1; clear hq; go_must (refine (r_any d _ hd).mono ?_); rintro e w' ⟨⟨l1, rfl, Hl1, hl1⟩, rfl⟩; go_must (have q0a : ¬ 9223372036854775807 < l0.length + 1 + l1.length := (by omega); have q0b : ¬ 9223372036854775807 < l0.length + 1 + l1.length + 1 := (by omega); clear P1; have P2 : Hid True := trivial)) | (go_at_call 40; have hq := P2; clear hq; go_must (refine (number_let imm _ himm).mono ?_); rintro e w' ⟨⟨l2, rfl, Hl2, hl2⟩, rfl⟩; go_must (have q1a : ¬ 9223372036854775807 < l0.length + 1 + l1.length + 1 + l2.length := (by omega); clear P2; have P3 : Hid True := trivial)))
  go_wp2
  go_ret
  exact ⟨retstr (by rw [HT.out, ← Hl0.out, ← Hl1.out, ← Hl2.out]; simp only [str_app, List.append_assoc, List.cons_append, List.nil_append]), by go_grown⟩
set_option maxRecDepth 100000 in
set_option maxHeartbeats 1600000 in
theorem line_14 (op d a b imm : Int) (w : World) (hd : i64R d) (ha : i64R a) (hb : i64R b) (himm : i64R imm) (HT : Hid (lineL 14 d a b imm = nmL 14 ++ 32 :: (rL d ++ 32 :: numL imm))) : Calls Tryd.prog 21 #[instV 14 d a b imm] w fun e w' => e = .returned (.string (str (lineL 14 d a b imm))) ∧ Below w.heap.size w w' := by
  go_enter Tryd.func21, Tryd.ntmps21
  go_wp2_with (first | (go_at_call 37; go_must (refine (name_let 14 _).mono ?_); rintro e w1 ⟨⟨l0, rfl, Hl0, hl0⟩, hb1⟩; go_must (have hB1 := box_below hb1; have HX : Hid (Box w1 w.heap.size 14 d a b imm) := box_cell hb1; obtain ⟨c0, c1, c2, c3, c4⟩ := HX.out; have hz1 := box_size1 hb1; clear hb1; have P1 : Hid True := trivial)))
  go_region_held3 (fun w' => w'.cell? ⟨w.heap.size, 0, none⟩ = some (.int .i64 14) ∧ w'.cell? ⟨w.heap.size, 1, none⟩ = some (.int .i64 d) ∧ w'.cell? ⟨w.heap.size, 2, none⟩ = some (.int .i64 a) ∧ w'.cell? ⟨w.heap.size, 3, none⟩ = some (.int .i64 b) ∧ w'.cell? ⟨w.heap.size, 4, none⟩ = some (.int .i64 imm)) (exact Box.below (B := w1.heap.size) HX.out (by go_grown) hz1) (first | (go_at_call 38; have hq := P1; clear hq; go_must (refine (r_any d _ hd).mono ?_); rintro e w' ⟨⟨l1, rfl, Hl1, hl1⟩, rfl⟩; go_must (have q0a : ¬ 9223372036854775807 < l0.length + 1 + l1.length := (by omega); have q0b : ¬ 9223372036854775807 < l0.length + 1 + l1.length + 1 := (by omega); clear P1; have P2 : Hid True := trivial)) | (go_at_call 40; have hq := P2; clear hq; go_must (refine (number_let imm _ himm).mono ?_); rintro e w' ⟨⟨l2, rfl, Hl2, hl2⟩, rfl⟩; go_must (have q1a : ¬ 9223372036854775807 < l0.length + 1 + l1.length + 1 + l2.length := (by omega); clear P2; have P3 : Hid True := trivial)))
  go_wp2
  go_ret
  exact ⟨retstr (by rw [HT.out, ← Hl0.out, ← Hl1.out, ← Hl2.out]; simp only [str_app, List.append_assoc, List.cons_append, List.nil_append]), by go_grown⟩
set_option maxRecDepth 100000 in
set_option maxHeartbeats 1600000 in
theorem line_15 (op d a b imm : Int) (w : World) (hd : i64R d) (ha : i64R a) (hb : i64R b) (himm : i64R imm) (HT : Hid (lineL 15 d a b imm = nmL 15 ++ 32 :: (numL d))) : Calls Tryd.prog 21 #[instV 15 d a b imm] w fun e w' => e = .returned (.string (str (lineL 15 d a b imm))) ∧ Below w.heap.size w w' := by
  go_enter Tryd.func21, Tryd.ntmps21
  go_wp2_with (first | (go_at_call 37; go_must (refine (name_let 15 _).mono ?_); rintro e w1 ⟨⟨l0, rfl, Hl0, hl0⟩, hb1⟩; go_must (have hB1 := box_below hb1; have HX : Hid (Box w1 w.heap.size 15 d a b imm) := box_cell hb1; obtain ⟨c0, c1, c2, c3, c4⟩ := HX.out; have hz1 := box_size1 hb1; clear hb1; have P1 : Hid True := trivial)) | (go_at_call 40; have hq := P1; clear hq; go_must (refine (number_let d _ hd).mono ?_); rintro e w' ⟨⟨l1, rfl, Hl1, hl1⟩, rfl⟩; go_must (have q0a : ¬ 9223372036854775807 < l0.length + 1 + l1.length := (by omega); clear P1; have P2 : Hid True := trivial)))
  go_ret
  exact ⟨retstr (by rw [HT.out, ← Hl0.out, ← Hl1.out]; simp only [str_app, List.append_assoc, List.cons_append, List.nil_append]), by go_grown⟩
set_option maxRecDepth 100000 in
set_option maxHeartbeats 1600000 in
theorem line_jump (op d a b imm : Int) (w : World) (hd : i64R d) (ha : i64R a) (hb : i64R b) (himm : i64R imm) (h0 : (op == 0) = false) (h11 : (op == 11) = false) (h10 : ¬ op ≤ 10) (h12 : (op == 12) = false) (h13 : (op == 13) = false) (h14 : (op == 14) = false) (h15 : (op == 15) = false) (h19 : op ≤ 19) (HT : Hid (lineL op d a b imm = nmL op ++ 32 :: (rL a ++ 32 :: (srcL b imm ++ 32 :: numL d)))) : Calls Tryd.prog 21 #[instV op d a b imm] w fun e w' => e = .returned (.string (str (lineL op d a b imm))) ∧ Below w.heap.size w w' := by
  go_enter Tryd.func21, Tryd.ntmps21
  go_wp2_with (first | (go_at_call 37; go_must (refine (name_let op _).mono ?_); rintro e w1 ⟨⟨l0, rfl, Hl0, hl0⟩, hb1⟩; go_must (have hB1 := box_below hb1; have HX : Hid (Box w1 w.heap.size op d a b imm) := box_cell hb1; obtain ⟨c0, c1, c2, c3, c4⟩ := HX.out; have hz1 := box_size1 hb1; clear hb1; have P1 : Hid True := trivial)))
  go_region_held3 (fun w' => w'.cell? ⟨w.heap.size, 0, none⟩ = some (.int .i64 op) ∧ w'.cell? ⟨w.heap.size, 1, none⟩ = some (.int .i64 d) ∧ w'.cell? ⟨w.heap.size, 2, none⟩ = some (.int .i64 a) ∧ w'.cell? ⟨w.heap.size, 3, none⟩ = some (.int .i64 b) ∧ w'.cell? ⟨w.heap.size, 4, none⟩ = some (.int .i64 imm)) (exact Box.below (B := w1.heap.size) HX.out (by go_grown) hz1) (first | (go_at_call 38; have hq := P1; clear hq; go_must (refine (r_any a _ ha).mono ?_); rintro e w' ⟨⟨l1, rfl, Hl1, hl1⟩, rfl⟩; go_must (have q0a : ¬ 9223372036854775807 < l0.length + 1 + l1.length := (by omega); have q0b : ¬ 9223372036854775807 < l0.length + 1 + l1.length + 1 := (by omega); clear P1; have P2 : Hid True := trivial)) | (go_at_call 39; have hq := P2; clear hq; go_must (refine (rsource_any op d a b imm _ hb himm).mono ?_); rintro e w' ⟨⟨l2, rfl, Hl2, hl2⟩, rfl⟩; go_must (have q1a : ¬ 9223372036854775807 < l0.length + 1 + l1.length + 1 + l2.length := (by omega); have q1b : ¬ 9223372036854775807 < l0.length + 1 + l1.length + 1 + l2.length + 1 := (by omega); clear P2; have P3 : Hid True := trivial)) | (go_at_call 40; have hq := P3; clear hq; go_must (refine (number_let d _ hd).mono ?_); rintro e w' ⟨⟨l3, rfl, Hl3, hl3⟩, rfl⟩; go_must (have q2a : ¬ 9223372036854775807 < l0.length + 1 + l1.length + 1 + l2.length + 1 + l3.length := (by omega); clear P3; have P4 : Hid True := trivial)))
  go_wp2
  go_ret
  exact ⟨retstr (by rw [HT.out, ← Hl0.out, ← Hl1.out, ← Hl2.out, ← Hl3.out]; simp only [str_app, List.append_assoc, List.cons_append, List.nil_append]), by go_grown⟩
set_option maxRecDepth 100000 in
set_option maxHeartbeats 1600000 in
theorem line_20 (op d a b imm : Int) (w : World) (hd : i64R d) (ha : i64R a) (hb : i64R b) (himm : i64R imm) (HT : Hid (lineL 20 d a b imm = nmL 20 ++ 32 :: (rL a ++ 32 :: (numL d ++ 32 :: numL imm)))) : Calls Tryd.prog 21 #[instV 20 d a b imm] w fun e w' => e = .returned (.string (str (lineL 20 d a b imm))) ∧ Below w.heap.size w w' := by
  go_enter Tryd.func21, Tryd.ntmps21
  go_wp2_with (first | (go_at_call 37; go_must (refine (name_let 20 _).mono ?_); rintro e w1 ⟨⟨l0, rfl, Hl0, hl0⟩, hb1⟩; go_must (have hB1 := box_below hb1; have HX : Hid (Box w1 w.heap.size 20 d a b imm) := box_cell hb1; obtain ⟨c0, c1, c2, c3, c4⟩ := HX.out; have hz1 := box_size1 hb1; clear hb1; have P1 : Hid True := trivial)))
  go_region_held3 (fun w' => w'.cell? ⟨w.heap.size, 0, none⟩ = some (.int .i64 20) ∧ w'.cell? ⟨w.heap.size, 1, none⟩ = some (.int .i64 d) ∧ w'.cell? ⟨w.heap.size, 2, none⟩ = some (.int .i64 a) ∧ w'.cell? ⟨w.heap.size, 3, none⟩ = some (.int .i64 b) ∧ w'.cell? ⟨w.heap.size, 4, none⟩ = some (.int .i64 imm)) (exact Box.below (B := w1.heap.size) HX.out (by go_grown) hz1) (first | (go_at_call 38; have hq := P1; clear hq; go_must (refine (r_any a _ ha).mono ?_); rintro e w' ⟨⟨l1, rfl, Hl1, hl1⟩, rfl⟩; go_must (have q0a : ¬ 9223372036854775807 < l0.length + 1 + l1.length := (by omega); have q0b : ¬ 9223372036854775807 < l0.length + 1 + l1.length + 1 := (by omega); clear P1; have P2 : Hid True := trivial)) | (go_at_call 40; have hq := P2; clear hq; go_must (refine (number_let d _ hd).mono ?_); rintro e w' ⟨⟨l2, rfl, Hl2, hl2⟩, rfl⟩; go_must (have q1a : ¬ 9223372036854775807 < l0.length + 1 + l1.length + 1 + l2.length := (by omega); have q1b : ¬ 9223372036854775807 < l0.length + 1 + l1.length + 1 + l2.length + 1 := (by omega); clear P2; have P3 : Hid True := trivial)) | (go_at_call 40; have hq := P3; clear hq; go_must (refine (number_let imm _ himm).mono ?_); rintro e w' ⟨⟨l3, rfl, Hl3, hl3⟩, rfl⟩; go_must (have q2a : ¬ 9223372036854775807 < l0.length + 1 + l1.length + 1 + l2.length + 1 + l3.length := (by omega); clear P3; have P4 : Hid True := trivial)))
  go_wp2
  go_ret
  exact ⟨retstr (by rw [HT.out, ← Hl0.out, ← Hl1.out, ← Hl2.out, ← Hl3.out]; simp only [str_app, List.append_assoc, List.cons_append, List.nil_append]), by go_grown⟩
set_option maxRecDepth 100000 in
set_option maxHeartbeats 1600000 in
theorem line_21 (op d a b imm : Int) (w : World) (hd : i64R d) (ha : i64R a) (hb : i64R b) (himm : i64R imm) (HT : Hid (lineL 21 d a b imm = nmL 21 ++ 32 :: (numL imm))) : Calls Tryd.prog 21 #[instV 21 d a b imm] w fun e w' => e = .returned (.string (str (lineL 21 d a b imm))) ∧ Below w.heap.size w w' := by
  go_enter Tryd.func21, Tryd.ntmps21
  go_wp2_with (first | (go_at_call 37; go_must (refine (name_let 21 _).mono ?_); rintro e w1 ⟨⟨l0, rfl, Hl0, hl0⟩, hb1⟩; go_must (have hB1 := box_below hb1; have HX : Hid (Box w1 w.heap.size 21 d a b imm) := box_cell hb1; obtain ⟨c0, c1, c2, c3, c4⟩ := HX.out; have hz1 := box_size1 hb1; clear hb1; have P1 : Hid True := trivial)) | (go_at_call 40; have hq := P1; clear hq; go_must (refine (number_let imm _ himm).mono ?_); rintro e w' ⟨⟨l1, rfl, Hl1, hl1⟩, rfl⟩; go_must (have q0a : ¬ 9223372036854775807 < l0.length + 1 + l1.length := (by omega); clear P1; have P2 : Hid True := trivial)))
  go_ret
  exact ⟨retstr (by rw [HT.out, ← Hl0.out, ← Hl1.out]; simp only [str_app, List.append_assoc, List.cons_append, List.nil_append]), by go_grown⟩
set_option maxRecDepth 100000 in
set_option maxHeartbeats 1600000 in
theorem line_last (op d a b imm : Int) (w : World) (hd : i64R d) (ha : i64R a) (hb : i64R b) (himm : i64R imm) (h0 : (op == 0) = false) (h11 : (op == 11) = false) (h10 : ¬ op ≤ 10) (h12 : (op == 12) = false) (h13 : (op == 13) = false) (h14 : (op == 14) = false) (h15 : (op == 15) = false) (h19 : ¬ op ≤ 19) (h20 : (op == 20) = false) (h21 : (op == 21) = false) (HT : Hid (lineL op d a b imm = nmL op ++ 32 :: (rL a))) : Calls Tryd.prog 21 #[instV op d a b imm] w fun e w' => e = .returned (.string (str (lineL op d a b imm))) ∧ Below w.heap.size w w' := by
  go_enter Tryd.func21, Tryd.ntmps21
  go_wp2_with (first | (go_at_call 37; go_must (refine (name_let op _).mono ?_); rintro e w1 ⟨⟨l0, rfl, Hl0, hl0⟩, hb1⟩; go_must (have hB1 := box_below hb1; have HX : Hid (Box w1 w.heap.size op d a b imm) := box_cell hb1; obtain ⟨c0, c1, c2, c3, c4⟩ := HX.out; have hz1 := box_size1 hb1; clear hb1; have P1 : Hid True := trivial)) | (go_at_call 38; have hq := P1; clear hq; go_must (refine (r_any a _ ha).mono ?_); rintro e w' ⟨⟨l1, rfl, Hl1, hl1⟩, rfl⟩; go_must (have q0a : ¬ 9223372036854775807 < l0.length + 1 + l1.length := (by omega); clear P1; have P2 : Hid True := trivial)))
  go_ret
  exact ⟨retstr (by rw [HT.out, ← Hl0.out, ← Hl1.out]; simp only [str_app, List.append_assoc, List.cons_append, List.nil_append]), by go_grown⟩
/-- The document's Line. -/
theorem line_any (op d a b imm : Int) (w : World) (hd : i64R d) (ha : i64R a) (hb : i64R b) (himm : i64R imm) : Calls Tryd.prog 21 #[instV op d a b imm] w fun e w' => e = .returned (.string (str (lineL op d a b imm))) ∧ Below w.heap.size w w' := by
  have tl : ∀ t, tailL op d a b imm = t → lineL op d a b imm = nmL op ++ 32 :: t := fun t ht => by unfold lineL; rw [ht]
  by_cases h0 : op = 0
  · subst h0; exact line_0 0 d a b imm w hd ha hb himm (tl _ rfl)
  by_cases h11 : op = 11
  · subst h11; exact line_11 11 d a b imm w hd ha hb himm (tl _ rfl)
  by_cases h10 : op ≤ 10
  · exact line_three op d a b imm w hd ha hb himm (by simp [h0]) (by simp [h11]) h10 (tl _ (by unfold tailL; rw [if_neg (by omega), if_pos h10]))
  by_cases h12 : op = 12
  · subst h12; exact line_12 12 d a b imm w hd ha hb himm (tl _ rfl)
  by_cases h13 : op = 13
  · subst h13; exact line_13 13 d a b imm w hd ha hb himm (tl _ rfl)
  by_cases h14 : op = 14
  · subst h14; exact line_14 14 d a b imm w hd ha hb himm (tl _ rfl)
  by_cases h15 : op = 15
  · subst h15; exact line_15 15 d a b imm w hd ha hb himm (tl _ rfl)
  by_cases h19 : op ≤ 19
  · exact line_jump op d a b imm w hd ha hb himm (by simp [h0]) (by simp [h11]) h10 (by simp [h12]) (by simp [h13]) (by simp [h14]) (by simp [h15]) h19 (tl _ (by unfold tailL; rw [if_neg (by omega), if_neg h10, if_neg h12, if_neg (by omega), if_neg h15, if_pos h19]))
  by_cases h20 : op = 20
  · subst h20; exact line_20 20 d a b imm w hd ha hb himm (tl _ rfl)
  by_cases h21 : op = 21
  · subst h21; exact line_21 21 d a b imm w hd ha hb himm (tl _ rfl)
  exact line_last op d a b imm w hd ha hb himm (by simp [h0]) (by simp [h11]) h10 (by simp [h12]) (by simp [h13]) (by simp [h14]) (by simp [h15]) h19 (by simp [h20]) (by simp [h21]) (tl _ (by unfold tailL; rw [if_neg (by omega), if_neg h10, if_neg h12, if_neg (by omega), if_neg h15, if_neg h19, if_neg h20, if_neg h21]))
end Go.Proofs.YteccmagbebghaaaDoor
