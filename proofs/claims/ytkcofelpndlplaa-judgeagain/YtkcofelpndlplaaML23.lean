
/-
  What the landed Do answers, a theorem a way. Condition: spans of numbers of 64 bits.
-/
import Derived.Test.YtkcofelpndlplaaML22
import Derived.Test.YtkcofelpndlplaaML14
namespace Go.Proofs.Ytkcofelpndlplaa
open Go.RowKit
set_option linter.unusedVariables false
set_option maxRecDepth 20000

theorem two_right {r : Bool} {x X y Y : Int} (h : Hid (r = (decide (x ≤ X) && decide (y ≤ Y)))) (v : Value) (w : World) (hs : SeesS w v [(x, X), (y, Y)]) : Calls Try.prog 60 #[v] w fun e w' => e = .returned (.bool r) ∧ Below w.heap.size w w' := by
  have h1 := lallRight_any v [(x, X), (y, Y)] w hs (by simp)
  rw [show [(x, X), (y, Y)].all okS = r by rw [h.out]; simp [okS]] at h1
  exact h1
theorem two_one {r : Bool} {x X y Y : Int} (h : Hid (r = ((x == X) && (y == Y)))) (v : Value) (w : World) (hs : SeesS w v [(x, X), (y, Y)]) : Calls Try.prog 62 #[v] w fun e w' => e = .returned (.bool r) ∧ Below w.heap.size w w' := by
  have h1 := lallSingle_any v [(x, X), (y, Y)] w hs (by simp)
  rw [show [(x, X), (y, Y)].all oneS = r by rw [h.out]; simp [oneS]] at h1
  exact h1
/-- Three boxes, one behind the other: two spans and the answer's. -/
def B3 (w : World) (n : Nat) (a A b B : Int) : Prop := Bx w n a A ∧ Bx w (n + 1) b B ∧ Bx w (n + 1 + 1) 0 0 ∧ n + 1 + 1 < w.heap.size
theorem b3_new (w : World) (a A b B : Int) : B3 (((w.alloc (spO a A)).alloc (spO b B)).alloc (spO 0 0)) w.heap.size a A b B :=
  ⟨⟨⟨by go_cell, by go_cell⟩, by go_simp, by go_simp⟩, ⟨⟨by go_cell, by go_cell⟩, by go_simp, by go_simp⟩, ⟨⟨by go_cell, by go_cell⟩, by go_simp, by go_simp⟩, by simp⟩
theorem B3.al {w : World} {n : Nat} {a A b B : Int} (h : B3 w n a A b B) (o : Obj) : B3 (w.alloc o) n a A b B :=
  ⟨h.1.al (by have := h.2.2.2; omega), h.2.1.al (by have := h.2.2.2; omega), h.2.2.1.al h.2.2.2, by have := h.2.2.2; simp; omega⟩
theorem B3.below {w w' : World} {n : Nat} {a A b B : Int} (h : B3 w n a A b B) (hb : Below w.heap.size w w') : B3 w' n a A b B :=
  ⟨h.1.below hb (by have := h.2.2.2; omega), h.2.1.below hb (by have := h.2.2.2; omega), h.2.2.1.below hb h.2.2.2, by have := h.2.2.2; have := hb.size; omega⟩
/-- Behind them a list, and a call. -/
theorem B3.next {w w' : World} {n : Nat} {a A b B : Int} {o : Obj} (h : B3 w n a A b B) (hb : Below (w.alloc o).heap.size (w.alloc o) w') : B3 w' n a A b B := (h.al o).below hb
theorem grow4 {w w1 : World} {o1 o2 o3 o4 : Obj} (hb1 : Below ((((w.alloc o1).alloc o2).alloc o3).alloc o4).heap.size ((((w.alloc o1).alloc o2).alloc o3).alloc o4) w1) : Below w.heap.size w w1 := boxS_below (boxS_below (boxS_below (boxS_below hb1)))
theorem grow1 {B : Nat} {w w1 w2 : World} {o : Obj} (h : Below B w w1) (hB : B ≤ w1.heap.size) (hb : Below (w1.alloc o).heap.size (w1.alloc o) w2) : Below B w w2 := h.trans ((boxS_below hb).mono hB)

theorem ldo_no1 (op : Int) (a A b B n : Int) (w : World) (ha : 0 ≤ a ∧ a ≤ 18446744073709551615) (hb : 0 ≤ b ∧ b ≤ 18446744073709551615) (HO : Hid (false = isOp op)) (HN : Hid (n = doL op a b)) :
    Calls Try.prog 66 #[.int .i64 op, .agg #[.int .u64 a, .int .u64 A], .agg #[.int .u64 b, .int .u64 B]] w fun e w' => e = .returned (.tuple #[.agg #[.int .u64 0, .int .u64 0], .bool false]) ∧ Below w.heap.size w w' := by
  go_enter Try.func66, Try.ntmps66
  go_wp2_with (first
    | (go_at_call 70; go_must (refine (do_as HN HO _ ha hb).mono ?_); rintro e w' ⟨rfl, rfl⟩))
  refine bodyPost_ret (v := .tuple #[.agg #[.int .u64 0, .int .u64 0], .bool false]) ?_ rfl ⟨rfl, by go_grown⟩
  rw [results_cell_tmp rfl]
  simp [asAddr, Result.andThen]
  rw [run_boxS (a := 0) (A := 0)]
  all_goals go_cell
theorem ldo_no2 (op : Int) (a A b B n : Int) (w : World) (ha : 0 ≤ a ∧ a ≤ 18446744073709551615) (hb : 0 ≤ b ∧ b ≤ 18446744073709551615) (HO : Hid (true = isOp op)) (HN : Hid (n = doL op a b)) (HR : Hid (false = (decide (a ≤ A) && decide (b ≤ B)))) :
    Calls Try.prog 66 #[.int .i64 op, .agg #[.int .u64 a, .int .u64 A], .agg #[.int .u64 b, .int .u64 B]] w fun e w' => e = .returned (.tuple #[.agg #[.int .u64 0, .int .u64 0], .bool false]) ∧ Below w.heap.size w w' := by
  go_enter Try.func66, Try.ntmps66
  go_wp2_with (first
    | (go_at_call 70; go_must (refine (do_as HN HO _ ha hb).mono ?_); rintro e w' ⟨rfl, rfl⟩)
    | (go_at_call 60; go_must (refine (two_right HR _ _ (sees_two _ _ a A b B _ (by simp))).mono ?_); rintro e w1 ⟨rfl, hb1⟩; go_must (have H3 : Hid (B3 w1 w.heap.size a A b B) := (b3_new w a A b B).next hb1; obtain ⟨⟨⟨c0, c1⟩, _, _⟩, ⟨⟨d0, d1⟩, _, _⟩, ⟨⟨r0, r1⟩, f0, f1⟩, hz⟩ := H3.out; have hz1 : w.heap.size + 1 < w1.heap.size := (by omega); have hz0 : w.heap.size < w1.heap.size := (by omega); have hbe : Below w.heap.size w w1 := grow4 hb1; clear hb1; have HT : Hid _ := set_two (x := .int .u64 0) (y := .int .u64 0) r0 r1)))
  refine bodyPost_ret (v := .tuple #[.agg #[.int .u64 0, .int .u64 0], .bool false]) ?_ rfl ⟨rfl, below_set (below_set hbe (by omega)) (by omega)⟩
  rw [results_cell_tmp rfl]
  simp [asAddr, Result.andThen]
  rw [run_boxS HT.out.1 HT.out.2]
theorem ldo_one (op : Int) (a A b B n : Int) (w : World) (ha : 0 ≤ a ∧ a ≤ 18446744073709551615) (hb : 0 ≤ b ∧ b ≤ 18446744073709551615) (HO : Hid (true = isOp op)) (HN : Hid (n = doL op a b)) (HR : Hid (true = (decide (a ≤ A) && decide (b ≤ B)))) (HS : Hid (true = ((a == A) && (b == B)))) :
    Calls Try.prog 66 #[.int .i64 op, .agg #[.int .u64 a, .int .u64 A], .agg #[.int .u64 b, .int .u64 B]] w fun e w' => e = .returned (.tuple #[.agg #[.int .u64 n, .int .u64 n], .bool true]) ∧ Below w.heap.size w w' := by
  go_enter Try.func66, Try.ntmps66
  go_wp2_with (first
    | (go_at_call 70; go_must (refine (do_as HN HO _ ha hb).mono ?_); rintro e w' ⟨rfl, rfl⟩)
    | (go_at_call 60; go_must (refine (two_right HR _ _ (sees_two _ _ a A b B _ (by simp))).mono ?_); rintro e w1 ⟨rfl, hb1⟩; go_must (have H3 : Hid (B3 w1 w.heap.size a A b B) := (b3_new w a A b B).next hb1; obtain ⟨⟨⟨c0, c1⟩, _, _⟩, ⟨⟨d0, d1⟩, _, _⟩, ⟨⟨r0, r1⟩, f0, f1⟩, hz⟩ := H3.out; have hz1 : w.heap.size + 1 < w1.heap.size := (by omega); have hz0 : w.heap.size < w1.heap.size := (by omega); have hbe : Below w.heap.size w w1 := grow4 hb1; clear hb1))
    | (go_at_call 62; go_must (refine (two_one HS _ _ (sees_two _ _ a A b B _ (by simp))).mono ?_); rintro e w2 ⟨rfl, hb2⟩; go_must (have H4 : Hid (B3 w2 w.heap.size a A b B) := H3.out.next hb2; have hbe2 : Below w.heap.size w w2 := grow1 hbe (by omega) hb2; clear hb2 hbe H3 c0 c1 d0 d1 r0 r1 f0 f1 hz hz0 hz1; obtain ⟨⟨⟨c0, c1⟩, _, _⟩, ⟨⟨d0, d1⟩, _, _⟩, ⟨⟨r0, r1⟩, f0, f1⟩, hz⟩ := H4.out; have hz1 : w.heap.size + 1 < w2.heap.size := (by omega); have hz0 : w.heap.size < w2.heap.size := (by omega)))
    | (go_at_call 50; go_must (refine (lsingle_any n _).mono ?_); rintro e w3 ⟨rfl, hb3⟩; go_must (have H5 : Hid (B3 w3 w.heap.size a A b B) := H4.out.below hb3; have hbe3 : Below w.heap.size w w3 := hbe2.trans (hb3.mono (by omega)); clear hb3 hbe2 H4 c0 c1 d0 d1 r0 r1 f0 f1 hz hz0 hz1; obtain ⟨⟨⟨c0, c1⟩, _, _⟩, ⟨⟨d0, d1⟩, _, _⟩, ⟨⟨r0, r1⟩, f0, f1⟩, hz⟩ := H5.out; have hz1 : w.heap.size + 1 < w3.heap.size := (by omega); have hz0 : w.heap.size < w3.heap.size := (by omega); have HT : Hid _ := set_two (x := .int .u64 n) (y := .int .u64 n) r0 r1)))
  refine bodyPost_ret (v := .tuple #[.agg #[.int .u64 n, .int .u64 n], .bool true]) ?_ rfl ⟨rfl, below_set (below_set hbe3 (by omega)) (by omega)⟩
  rw [results_cell_tmp rfl]
  simp [asAddr, Result.andThen]
  rw [run_boxS HT.out.1 HT.out.2]
theorem ldo_sum (a A b B n : Int) (w : World) (ha : 0 ≤ a ∧ a ≤ 18446744073709551615) (hb : 0 ≤ b ∧ b ≤ 18446744073709551615) (HO : Hid (true = isOp 1)) (HN : Hid (n = doL 1 a b)) (HR : Hid (true = (decide (a ≤ A) && decide (b ≤ B)))) (HS : Hid (false = ((a == A) && (b == B)))) (p q : Int) (HK : Hid (∀ w, Calls Try.prog 71 #[.agg #[.int .u64 a, .int .u64 A], .agg #[.int .u64 b, .int .u64 B]] w fun e w' => e = .returned (.agg #[.int .u64 p, .int .u64 q]) ∧ Below w.heap.size w w')) :
    Calls Try.prog 66 #[.int .i64 1, .agg #[.int .u64 a, .int .u64 A], .agg #[.int .u64 b, .int .u64 B]] w fun e w' => e = .returned (.tuple #[.agg #[.int .u64 p, .int .u64 q], .bool true]) ∧ Below w.heap.size w w' := by
  go_enter Try.func66, Try.ntmps66
  go_wp2_with (first
    | (go_at_call 70; go_must (refine (do_as HN HO _ ha hb).mono ?_); rintro e w' ⟨rfl, rfl⟩)
    | (go_at_call 60; go_must (refine (two_right HR _ _ (sees_two _ _ a A b B _ (by simp))).mono ?_); rintro e w1 ⟨rfl, hb1⟩; go_must (have H3 : Hid (B3 w1 w.heap.size a A b B) := (b3_new w a A b B).next hb1; obtain ⟨⟨⟨c0, c1⟩, _, _⟩, ⟨⟨d0, d1⟩, _, _⟩, ⟨⟨r0, r1⟩, f0, f1⟩, hz⟩ := H3.out; have hz1 : w.heap.size + 1 < w1.heap.size := (by omega); have hz0 : w.heap.size < w1.heap.size := (by omega); have hbe : Below w.heap.size w w1 := grow4 hb1; clear hb1))
    | (go_at_call 62; go_must (refine (two_one HS _ _ (sees_two _ _ a A b B _ (by simp))).mono ?_); rintro e w2 ⟨rfl, hb2⟩; go_must (have H4 : Hid (B3 w2 w.heap.size a A b B) := H3.out.next hb2; have hbe2 : Below w.heap.size w w2 := grow1 hbe (by omega) hb2; clear hb2 hbe H3 c0 c1 d0 d1 r0 r1 f0 f1 hz hz0 hz1; obtain ⟨⟨⟨c0, c1⟩, _, _⟩, ⟨⟨d0, d1⟩, _, _⟩, ⟨⟨r0, r1⟩, f0, f1⟩, hz⟩ := H4.out; have hz1 : w.heap.size + 1 < w2.heap.size := (by omega); have hz0 : w.heap.size < w2.heap.size := (by omega)))
    | (go_at_call 71; go_must (refine (HK.out _).mono ?_); rintro e w3 ⟨rfl, hb3⟩; go_must (have H5 : Hid (B3 w3 w.heap.size a A b B) := H4.out.below hb3; have hbe3 : Below w.heap.size w w3 := hbe2.trans (hb3.mono (by omega)); clear hb3 hbe2 H4 c0 c1 d0 d1 r0 r1 f0 f1 hz hz0 hz1; obtain ⟨⟨⟨c0, c1⟩, _, _⟩, ⟨⟨d0, d1⟩, _, _⟩, ⟨⟨r0, r1⟩, f0, f1⟩, hz⟩ := H5.out; have hz1 : w.heap.size + 1 < w3.heap.size := (by omega); have hz0 : w.heap.size < w3.heap.size := (by omega); have HT : Hid _ := set_two (x := .int .u64 p) (y := .int .u64 q) r0 r1)))
  refine bodyPost_ret (v := .tuple #[.agg #[.int .u64 p, .int .u64 q], .bool true]) ?_ rfl ⟨rfl, below_set (below_set hbe3 (by omega)) (by omega)⟩
  rw [results_cell_tmp rfl]
  simp [asAddr, Result.andThen]
  rw [run_boxS HT.out.1 HT.out.2]
theorem ldo_difference (a A b B n : Int) (w : World) (ha : 0 ≤ a ∧ a ≤ 18446744073709551615) (hb : 0 ≤ b ∧ b ≤ 18446744073709551615) (HO : Hid (true = isOp 2)) (HN : Hid (n = doL 2 a b)) (HR : Hid (true = (decide (a ≤ A) && decide (b ≤ B)))) (HS : Hid (false = ((a == A) && (b == B)))) (p q : Int) (HK : Hid (∀ w, Calls Try.prog 72 #[.agg #[.int .u64 a, .int .u64 A], .agg #[.int .u64 b, .int .u64 B]] w fun e w' => e = .returned (.agg #[.int .u64 p, .int .u64 q]) ∧ Below w.heap.size w w')) :
    Calls Try.prog 66 #[.int .i64 2, .agg #[.int .u64 a, .int .u64 A], .agg #[.int .u64 b, .int .u64 B]] w fun e w' => e = .returned (.tuple #[.agg #[.int .u64 p, .int .u64 q], .bool true]) ∧ Below w.heap.size w w' := by
  go_enter Try.func66, Try.ntmps66
  go_wp2_with (first
    | (go_at_call 70; go_must (refine (do_as HN HO _ ha hb).mono ?_); rintro e w' ⟨rfl, rfl⟩)
    | (go_at_call 60; go_must (refine (two_right HR _ _ (sees_two _ _ a A b B _ (by simp))).mono ?_); rintro e w1 ⟨rfl, hb1⟩; go_must (have H3 : Hid (B3 w1 w.heap.size a A b B) := (b3_new w a A b B).next hb1; obtain ⟨⟨⟨c0, c1⟩, _, _⟩, ⟨⟨d0, d1⟩, _, _⟩, ⟨⟨r0, r1⟩, f0, f1⟩, hz⟩ := H3.out; have hz1 : w.heap.size + 1 < w1.heap.size := (by omega); have hz0 : w.heap.size < w1.heap.size := (by omega); have hbe : Below w.heap.size w w1 := grow4 hb1; clear hb1))
    | (go_at_call 62; go_must (refine (two_one HS _ _ (sees_two _ _ a A b B _ (by simp))).mono ?_); rintro e w2 ⟨rfl, hb2⟩; go_must (have H4 : Hid (B3 w2 w.heap.size a A b B) := H3.out.next hb2; have hbe2 : Below w.heap.size w w2 := grow1 hbe (by omega) hb2; clear hb2 hbe H3 c0 c1 d0 d1 r0 r1 f0 f1 hz hz0 hz1; obtain ⟨⟨⟨c0, c1⟩, _, _⟩, ⟨⟨d0, d1⟩, _, _⟩, ⟨⟨r0, r1⟩, f0, f1⟩, hz⟩ := H4.out; have hz1 : w.heap.size + 1 < w2.heap.size := (by omega); have hz0 : w.heap.size < w2.heap.size := (by omega)))
    | (go_at_call 72; go_must (refine (HK.out _).mono ?_); rintro e w3 ⟨rfl, hb3⟩; go_must (have H5 : Hid (B3 w3 w.heap.size a A b B) := H4.out.below hb3; have hbe3 : Below w.heap.size w w3 := hbe2.trans (hb3.mono (by omega)); clear hb3 hbe2 H4 c0 c1 d0 d1 r0 r1 f0 f1 hz hz0 hz1; obtain ⟨⟨⟨c0, c1⟩, _, _⟩, ⟨⟨d0, d1⟩, _, _⟩, ⟨⟨r0, r1⟩, f0, f1⟩, hz⟩ := H5.out; have hz1 : w.heap.size + 1 < w3.heap.size := (by omega); have hz0 : w.heap.size < w3.heap.size := (by omega); have HT : Hid _ := set_two (x := .int .u64 p) (y := .int .u64 q) r0 r1)))
  refine bodyPost_ret (v := .tuple #[.agg #[.int .u64 p, .int .u64 q], .bool true]) ?_ rfl ⟨rfl, below_set (below_set hbe3 (by omega)) (by omega)⟩
  rw [results_cell_tmp rfl]
  simp [asAddr, Result.andThen]
  rw [run_boxS HT.out.1 HT.out.2]
theorem ldo_product (a A b B n : Int) (w : World) (ha : 0 ≤ a ∧ a ≤ 18446744073709551615) (hb : 0 ≤ b ∧ b ≤ 18446744073709551615) (HO : Hid (true = isOp 3)) (HN : Hid (n = doL 3 a b)) (HR : Hid (true = (decide (a ≤ A) && decide (b ≤ B)))) (HS : Hid (false = ((a == A) && (b == B)))) (p q : Int) (HK : Hid (∀ w, Calls Try.prog 73 #[.agg #[.int .u64 a, .int .u64 A], .agg #[.int .u64 b, .int .u64 B]] w fun e w' => e = .returned (.agg #[.int .u64 p, .int .u64 q]) ∧ Below w.heap.size w w')) :
    Calls Try.prog 66 #[.int .i64 3, .agg #[.int .u64 a, .int .u64 A], .agg #[.int .u64 b, .int .u64 B]] w fun e w' => e = .returned (.tuple #[.agg #[.int .u64 p, .int .u64 q], .bool true]) ∧ Below w.heap.size w w' := by
  go_enter Try.func66, Try.ntmps66
  go_wp2_with (first
    | (go_at_call 70; go_must (refine (do_as HN HO _ ha hb).mono ?_); rintro e w' ⟨rfl, rfl⟩)
    | (go_at_call 60; go_must (refine (two_right HR _ _ (sees_two _ _ a A b B _ (by simp))).mono ?_); rintro e w1 ⟨rfl, hb1⟩; go_must (have H3 : Hid (B3 w1 w.heap.size a A b B) := (b3_new w a A b B).next hb1; obtain ⟨⟨⟨c0, c1⟩, _, _⟩, ⟨⟨d0, d1⟩, _, _⟩, ⟨⟨r0, r1⟩, f0, f1⟩, hz⟩ := H3.out; have hz1 : w.heap.size + 1 < w1.heap.size := (by omega); have hz0 : w.heap.size < w1.heap.size := (by omega); have hbe : Below w.heap.size w w1 := grow4 hb1; clear hb1))
    | (go_at_call 62; go_must (refine (two_one HS _ _ (sees_two _ _ a A b B _ (by simp))).mono ?_); rintro e w2 ⟨rfl, hb2⟩; go_must (have H4 : Hid (B3 w2 w.heap.size a A b B) := H3.out.next hb2; have hbe2 : Below w.heap.size w w2 := grow1 hbe (by omega) hb2; clear hb2 hbe H3 c0 c1 d0 d1 r0 r1 f0 f1 hz hz0 hz1; obtain ⟨⟨⟨c0, c1⟩, _, _⟩, ⟨⟨d0, d1⟩, _, _⟩, ⟨⟨r0, r1⟩, f0, f1⟩, hz⟩ := H4.out; have hz1 : w.heap.size + 1 < w2.heap.size := (by omega); have hz0 : w.heap.size < w2.heap.size := (by omega)))
    | (go_at_call 73; go_must (refine (HK.out _).mono ?_); rintro e w3 ⟨rfl, hb3⟩; go_must (have H5 : Hid (B3 w3 w.heap.size a A b B) := H4.out.below hb3; have hbe3 : Below w.heap.size w w3 := hbe2.trans (hb3.mono (by omega)); clear hb3 hbe2 H4 c0 c1 d0 d1 r0 r1 f0 f1 hz hz0 hz1; obtain ⟨⟨⟨c0, c1⟩, _, _⟩, ⟨⟨d0, d1⟩, _, _⟩, ⟨⟨r0, r1⟩, f0, f1⟩, hz⟩ := H5.out; have hz1 : w.heap.size + 1 < w3.heap.size := (by omega); have hz0 : w.heap.size < w3.heap.size := (by omega); have HT : Hid _ := set_two (x := .int .u64 p) (y := .int .u64 q) r0 r1)))
  refine bodyPost_ret (v := .tuple #[.agg #[.int .u64 p, .int .u64 q], .bool true]) ?_ rfl ⟨rfl, below_set (below_set hbe3 (by omega)) (by omega)⟩
  rw [results_cell_tmp rfl]
  simp [asAddr, Result.andThen]
  rw [run_boxS HT.out.1 HT.out.2]
theorem ldo_quotient (a A b B n : Int) (w : World) (ha : 0 ≤ a ∧ a ≤ 18446744073709551615) (hb : 0 ≤ b ∧ b ≤ 18446744073709551615) (HO : Hid (true = isOp 4)) (HN : Hid (n = doL 4 a b)) (HR : Hid (true = (decide (a ≤ A) && decide (b ≤ B)))) (HS : Hid (false = ((a == A) && (b == B)))) (p q : Int) (HK : Hid (∀ w, Calls Try.prog 74 #[.agg #[.int .u64 a, .int .u64 A], .agg #[.int .u64 b, .int .u64 B]] w fun e w' => e = .returned (.agg #[.int .u64 p, .int .u64 q]) ∧ Below w.heap.size w w')) :
    Calls Try.prog 66 #[.int .i64 4, .agg #[.int .u64 a, .int .u64 A], .agg #[.int .u64 b, .int .u64 B]] w fun e w' => e = .returned (.tuple #[.agg #[.int .u64 p, .int .u64 q], .bool true]) ∧ Below w.heap.size w w' := by
  go_enter Try.func66, Try.ntmps66
  go_wp2_with (first
    | (go_at_call 70; go_must (refine (do_as HN HO _ ha hb).mono ?_); rintro e w' ⟨rfl, rfl⟩)
    | (go_at_call 60; go_must (refine (two_right HR _ _ (sees_two _ _ a A b B _ (by simp))).mono ?_); rintro e w1 ⟨rfl, hb1⟩; go_must (have H3 : Hid (B3 w1 w.heap.size a A b B) := (b3_new w a A b B).next hb1; obtain ⟨⟨⟨c0, c1⟩, _, _⟩, ⟨⟨d0, d1⟩, _, _⟩, ⟨⟨r0, r1⟩, f0, f1⟩, hz⟩ := H3.out; have hz1 : w.heap.size + 1 < w1.heap.size := (by omega); have hz0 : w.heap.size < w1.heap.size := (by omega); have hbe : Below w.heap.size w w1 := grow4 hb1; clear hb1))
    | (go_at_call 62; go_must (refine (two_one HS _ _ (sees_two _ _ a A b B _ (by simp))).mono ?_); rintro e w2 ⟨rfl, hb2⟩; go_must (have H4 : Hid (B3 w2 w.heap.size a A b B) := H3.out.next hb2; have hbe2 : Below w.heap.size w w2 := grow1 hbe (by omega) hb2; clear hb2 hbe H3 c0 c1 d0 d1 r0 r1 f0 f1 hz hz0 hz1; obtain ⟨⟨⟨c0, c1⟩, _, _⟩, ⟨⟨d0, d1⟩, _, _⟩, ⟨⟨r0, r1⟩, f0, f1⟩, hz⟩ := H4.out; have hz1 : w.heap.size + 1 < w2.heap.size := (by omega); have hz0 : w.heap.size < w2.heap.size := (by omega)))
    | (go_at_call 74; go_must (refine (HK.out _).mono ?_); rintro e w3 ⟨rfl, hb3⟩; go_must (have H5 : Hid (B3 w3 w.heap.size a A b B) := H4.out.below hb3; have hbe3 : Below w.heap.size w w3 := hbe2.trans (hb3.mono (by omega)); clear hb3 hbe2 H4 c0 c1 d0 d1 r0 r1 f0 f1 hz hz0 hz1; obtain ⟨⟨⟨c0, c1⟩, _, _⟩, ⟨⟨d0, d1⟩, _, _⟩, ⟨⟨r0, r1⟩, f0, f1⟩, hz⟩ := H5.out; have hz1 : w.heap.size + 1 < w3.heap.size := (by omega); have hz0 : w.heap.size < w3.heap.size := (by omega); have HT : Hid _ := set_two (x := .int .u64 p) (y := .int .u64 q) r0 r1)))
  refine bodyPost_ret (v := .tuple #[.agg #[.int .u64 p, .int .u64 q], .bool true]) ?_ rfl ⟨rfl, below_set (below_set hbe3 (by omega)) (by omega)⟩
  rw [results_cell_tmp rfl]
  simp [asAddr, Result.andThen]
  rw [run_boxS HT.out.1 HT.out.2]
theorem ldo_rest (a A b B n : Int) (w : World) (ha : 0 ≤ a ∧ a ≤ 18446744073709551615) (hb : 0 ≤ b ∧ b ≤ 18446744073709551615) (HO : Hid (true = isOp 5)) (HN : Hid (n = doL 5 a b)) (HR : Hid (true = (decide (a ≤ A) && decide (b ≤ B)))) (HS : Hid (false = ((a == A) && (b == B)))) (p q : Int) (HK : Hid (∀ w, Calls Try.prog 75 #[.agg #[.int .u64 a, .int .u64 A], .agg #[.int .u64 b, .int .u64 B]] w fun e w' => e = .returned (.agg #[.int .u64 p, .int .u64 q]) ∧ Below w.heap.size w w')) :
    Calls Try.prog 66 #[.int .i64 5, .agg #[.int .u64 a, .int .u64 A], .agg #[.int .u64 b, .int .u64 B]] w fun e w' => e = .returned (.tuple #[.agg #[.int .u64 p, .int .u64 q], .bool true]) ∧ Below w.heap.size w w' := by
  go_enter Try.func66, Try.ntmps66
  go_wp2_with (first
    | (go_at_call 70; go_must (refine (do_as HN HO _ ha hb).mono ?_); rintro e w' ⟨rfl, rfl⟩)
    | (go_at_call 60; go_must (refine (two_right HR _ _ (sees_two _ _ a A b B _ (by simp))).mono ?_); rintro e w1 ⟨rfl, hb1⟩; go_must (have H3 : Hid (B3 w1 w.heap.size a A b B) := (b3_new w a A b B).next hb1; obtain ⟨⟨⟨c0, c1⟩, _, _⟩, ⟨⟨d0, d1⟩, _, _⟩, ⟨⟨r0, r1⟩, f0, f1⟩, hz⟩ := H3.out; have hz1 : w.heap.size + 1 < w1.heap.size := (by omega); have hz0 : w.heap.size < w1.heap.size := (by omega); have hbe : Below w.heap.size w w1 := grow4 hb1; clear hb1))
    | (go_at_call 62; go_must (refine (two_one HS _ _ (sees_two _ _ a A b B _ (by simp))).mono ?_); rintro e w2 ⟨rfl, hb2⟩; go_must (have H4 : Hid (B3 w2 w.heap.size a A b B) := H3.out.next hb2; have hbe2 : Below w.heap.size w w2 := grow1 hbe (by omega) hb2; clear hb2 hbe H3 c0 c1 d0 d1 r0 r1 f0 f1 hz hz0 hz1; obtain ⟨⟨⟨c0, c1⟩, _, _⟩, ⟨⟨d0, d1⟩, _, _⟩, ⟨⟨r0, r1⟩, f0, f1⟩, hz⟩ := H4.out; have hz1 : w.heap.size + 1 < w2.heap.size := (by omega); have hz0 : w.heap.size < w2.heap.size := (by omega)))
    | (go_at_call 75; go_must (refine (HK.out _).mono ?_); rintro e w3 ⟨rfl, hb3⟩; go_must (have H5 : Hid (B3 w3 w.heap.size a A b B) := H4.out.below hb3; have hbe3 : Below w.heap.size w w3 := hbe2.trans (hb3.mono (by omega)); clear hb3 hbe2 H4 c0 c1 d0 d1 r0 r1 f0 f1 hz hz0 hz1; obtain ⟨⟨⟨c0, c1⟩, _, _⟩, ⟨⟨d0, d1⟩, _, _⟩, ⟨⟨r0, r1⟩, f0, f1⟩, hz⟩ := H5.out; have hz1 : w.heap.size + 1 < w3.heap.size := (by omega); have hz0 : w.heap.size < w3.heap.size := (by omega); have HT : Hid _ := set_two (x := .int .u64 p) (y := .int .u64 q) r0 r1)))
  refine bodyPost_ret (v := .tuple #[.agg #[.int .u64 p, .int .u64 q], .bool true]) ?_ rfl ⟨rfl, below_set (below_set hbe3 (by omega)) (by omega)⟩
  rw [results_cell_tmp rfl]
  simp [asAddr, Result.andThen]
  rw [run_boxS HT.out.1 HT.out.2]
theorem ldo_raised (a A b B n : Int) (w : World) (ha : 0 ≤ a ∧ a ≤ 18446744073709551615) (hb : 0 ≤ b ∧ b ≤ 18446744073709551615) (HO : Hid (true = isOp 9)) (HN : Hid (n = doL 9 a b)) (HR : Hid (true = (decide (a ≤ A) && decide (b ≤ B)))) (HS : Hid (false = ((a == A) && (b == B)))) (p q : Int) (HK : Hid (∀ w, Calls Try.prog 77 #[.agg #[.int .u64 a, .int .u64 A], .agg #[.int .u64 b, .int .u64 B]] w fun e w' => e = .returned (.agg #[.int .u64 p, .int .u64 q]) ∧ Below w.heap.size w w')) :
    Calls Try.prog 66 #[.int .i64 9, .agg #[.int .u64 a, .int .u64 A], .agg #[.int .u64 b, .int .u64 B]] w fun e w' => e = .returned (.tuple #[.agg #[.int .u64 p, .int .u64 q], .bool true]) ∧ Below w.heap.size w w' := by
  go_enter Try.func66, Try.ntmps66
  go_wp2_with (first
    | (go_at_call 70; go_must (refine (do_as HN HO _ ha hb).mono ?_); rintro e w' ⟨rfl, rfl⟩)
    | (go_at_call 60; go_must (refine (two_right HR _ _ (sees_two _ _ a A b B _ (by simp))).mono ?_); rintro e w1 ⟨rfl, hb1⟩; go_must (have H3 : Hid (B3 w1 w.heap.size a A b B) := (b3_new w a A b B).next hb1; obtain ⟨⟨⟨c0, c1⟩, _, _⟩, ⟨⟨d0, d1⟩, _, _⟩, ⟨⟨r0, r1⟩, f0, f1⟩, hz⟩ := H3.out; have hz1 : w.heap.size + 1 < w1.heap.size := (by omega); have hz0 : w.heap.size < w1.heap.size := (by omega); have hbe : Below w.heap.size w w1 := grow4 hb1; clear hb1))
    | (go_at_call 62; go_must (refine (two_one HS _ _ (sees_two _ _ a A b B _ (by simp))).mono ?_); rintro e w2 ⟨rfl, hb2⟩; go_must (have H4 : Hid (B3 w2 w.heap.size a A b B) := H3.out.next hb2; have hbe2 : Below w.heap.size w w2 := grow1 hbe (by omega) hb2; clear hb2 hbe H3 c0 c1 d0 d1 r0 r1 f0 f1 hz hz0 hz1; obtain ⟨⟨⟨c0, c1⟩, _, _⟩, ⟨⟨d0, d1⟩, _, _⟩, ⟨⟨r0, r1⟩, f0, f1⟩, hz⟩ := H4.out; have hz1 : w.heap.size + 1 < w2.heap.size := (by omega); have hz0 : w.heap.size < w2.heap.size := (by omega)))
    | (go_at_call 77; go_must (refine (HK.out _).mono ?_); rintro e w3 ⟨rfl, hb3⟩; go_must (have H5 : Hid (B3 w3 w.heap.size a A b B) := H4.out.below hb3; have hbe3 : Below w.heap.size w w3 := hbe2.trans (hb3.mono (by omega)); clear hb3 hbe2 H4 c0 c1 d0 d1 r0 r1 f0 f1 hz hz0 hz1; obtain ⟨⟨⟨c0, c1⟩, _, _⟩, ⟨⟨d0, d1⟩, _, _⟩, ⟨⟨r0, r1⟩, f0, f1⟩, hz⟩ := H5.out; have hz1 : w.heap.size + 1 < w3.heap.size := (by omega); have hz0 : w.heap.size < w3.heap.size := (by omega); have HT : Hid _ := set_two (x := .int .u64 p) (y := .int .u64 q) r0 r1)))
  refine bodyPost_ret (v := .tuple #[.agg #[.int .u64 p, .int .u64 q], .bool true]) ?_ rfl ⟨rfl, below_set (below_set hbe3 (by omega)) (by omega)⟩
  rw [results_cell_tmp rfl]
  simp [asAddr, Result.andThen]
  rw [run_boxS HT.out.1 HT.out.2]
end Go.Proofs.Ytkcofelpndlplaa
