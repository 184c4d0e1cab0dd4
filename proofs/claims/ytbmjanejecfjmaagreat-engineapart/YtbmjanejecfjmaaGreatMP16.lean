/-
  S6LDoA
  S6LDoB
  S6LDo
-/
import Derived.Test.YtbmjanejecfjmaaGreatMP15
import Derived.Test.YtbmjanejecfjmaaGreatMP8
import Derived.Deep.RegionHeldLaw
namespace Go.Proofs.YtbmjanejecfjmaaGreat
open Go.RowKit
set_option linter.unusedVariables false
set_option maxRecDepth 20000
theorem qAy {r : Bool} {x X y Y : Int} (h : Hid (r = (decide (x <= X) && decide (y <= Y)))) (v : Value) (w : World) (hs : SeesS w v [(x, X), (y, Y)]) : Calls Tryz.prog 160 #[v] w fun e w' => e = .returned (.bool r) /\ Below w.heap.size w w' := by
 have h1 := lallRight_any v [(x, X), (y, Y)] w hs (by simp)
 rw [show [(x, X), (y, Y)].all okS = r by rw [h.out]; simp [okS]] at h1
 exact h1
theorem two_one {r : Bool} {x X y Y : Int} (h : Hid (r = ((x == X) && (y == Y)))) (v : Value) (w : World) (hs : SeesS w v [(x, X), (y, Y)]) : Calls Tryz.prog 163 #[v] w fun e w' => e = .returned (.bool r) /\ Below w.heap.size w w' := by
 have h1 := lallSingle_any v [(x, X), (y, Y)] w hs (by simp)
 rw [show [(x, X), (y, Y)].all oneS = r by rw [h.out]; simp [oneS]] at h1
 exact h1
def B3 (w : World) (n : Nat) (a A b B : Int) : Prop := Bx w n a A /\ Bx w (n + 1) b B /\ Bx w (n + 1 + 1) 0 0 /\ n + 1 + 1 < w.heap.size
theorem b3_new (w : World) (a A b B : Int) : B3 (((w.alloc (spO a A)).alloc (spO b B)).alloc (spO 0 0)) w.heap.size a A b B :=
 ⟨⟨⟨by go_cell, by go_cell⟩, by go_simp, by go_simp⟩, ⟨⟨by go_cell, by go_cell⟩, by go_simp, by go_simp⟩, ⟨⟨by go_cell, by go_cell⟩, by go_simp, by go_simp⟩, by simp⟩
theorem B3.al {w : World} {n : Nat} {a A b B : Int} (h : B3 w n a A b B) (o : Obj) : B3 (w.alloc o) n a A b B :=
 ⟨h.1.al (by have := h.2.2.2; omega), h.2.1.al (by have := h.2.2.2; omega), h.2.2.1.al h.2.2.2, by have := h.2.2.2; simp; omega⟩
theorem B3.below {w w' : World} {n : Nat} {a A b B : Int} (h : B3 w n a A b B) (hb : Below w.heap.size w w') : B3 w' n a A b B :=
 ⟨h.1.below hb (by have := h.2.2.2; omega), h.2.1.below hb (by have := h.2.2.2; omega), h.2.2.1.below hb h.2.2.2, by have := h.2.2.2; have := hb.size; omega⟩
theorem B3.next {w w' : World} {n : Nat} {a A b B : Int} {o : Obj} (h : B3 w n a A b B) (hb : Below (w.alloc o).heap.size (w.alloc o) w') : B3 w' n a A b B := (h.al o).below hb
theorem grow4 {w w1 : World} {o1 o2 o3 o4 : Obj} (hb1 : Below ((((w.alloc o1).alloc o2).alloc o3).alloc o4).heap.size ((((w.alloc o1).alloc o2).alloc o3).alloc o4) w1) : Below w.heap.size w w1 := qAs (qAs (qAs (qAs hb1)))
theorem grow1 {B : Nat} {w w1 w2 : World} {o : Obj} (h : Below B w w1) (hB : B <= w1.heap.size) (hb : Below (w1.alloc o).heap.size (w1.alloc o) w2) : Below B w w2 := h.trans ((qAs hb).mono hB)

theorem ldo_no1 (op : Int) (a A b B n : Int) (w : World) (ha : 0 <= a /\ a <= 18446744073709551615) (hb : 0 <= b /\ b <= 18446744073709551615) (HO : Hid (false = isOp op)) (HN : Hid (n = doL op a b)) :
  Calls Tryz.prog 167 #[.int .i64 op, .agg #[.int .u64 a, .int .u64 A], .agg #[.int .u64 b, .int .u64 B]] w fun e w' => e = .returned (.tuple #[.agg #[.int .u64 0, .int .u64 0], .bool false]) /\ Below w.heap.size w w' := by
 go_enter Tryz.func167, Tryz.ntmps167
 go_wp2_with (first
  | (go_at_call 72; go_must (refine (do_as HN HO _ ha hb).mono ?_); rintro e w' ⟨rfl, rfl⟩))
 refine bodyPost_ret (v := .tuple #[.agg #[.int .u64 0, .int .u64 0], .bool false]) ?_ rfl ⟨rfl, by go_grown⟩
 rw [results_cell_tmp rfl]
 simp [asAddr, Result.andThen]
 rw [qAi (a := 0) (A := 0)]
 all_goals go_cell
theorem ldo_no2 (op : Int) (a A b B n : Int) (w : World) (ha : 0 <= a /\ a <= 18446744073709551615) (hb : 0 <= b /\ b <= 18446744073709551615) (HO : Hid (true = isOp op)) (HN : Hid (n = doL op a b)) (HR : Hid (false = (decide (a <= A) && decide (b <= B)))) :
  Calls Tryz.prog 167 #[.int .i64 op, .agg #[.int .u64 a, .int .u64 A], .agg #[.int .u64 b, .int .u64 B]] w fun e w' => e = .returned (.tuple #[.agg #[.int .u64 0, .int .u64 0], .bool false]) /\ Below w.heap.size w w' := by
 go_enter Tryz.func167, Tryz.ntmps167
 go_wp2_with (first
  | (go_at_call 72; go_must (refine (do_as HN HO _ ha hb).mono ?_); rintro e w' ⟨rfl, rfl⟩)
  | (go_at_call 160; go_must (refine (qAy HR _ _ (qAp _ _ a A b B _ (by simp))).mono ?_); rintro e w1 ⟨rfl, hb1⟩; go_must (have H3 : Hid (B3 w1 w.heap.size a A b B) := (b3_new w a A b B).next hb1; obtain ⟨⟨⟨c0, c1⟩, _, _⟩, ⟨⟨d0, d1⟩, _, _⟩, ⟨⟨r0, r1⟩, f0, f1⟩, hz⟩ := H3.out; have hz1 : w.heap.size + 1 < w1.heap.size := (by omega); have hz0 : w.heap.size < w1.heap.size := (by omega); have hbe : Below w.heap.size w w1 := grow4 hb1; clear hb1; have HT : Hid _ := qAm (x := .int .u64 0) (y := .int .u64 0) r0 r1)))
 refine bodyPost_ret (v := .tuple #[.agg #[.int .u64 0, .int .u64 0], .bool false]) ?_ rfl ⟨rfl, qAb (qAb hbe (by omega)) (by omega)⟩
 rw [results_cell_tmp rfl]
 simp [asAddr, Result.andThen]
 rw [qAi HT.out.1 HT.out.2]
theorem ldo_one (op : Int) (a A b B n : Int) (w : World) (ha : 0 <= a /\ a <= 18446744073709551615) (hb : 0 <= b /\ b <= 18446744073709551615) (HO : Hid (true = isOp op)) (HN : Hid (n = doL op a b)) (HR : Hid (true = (decide (a <= A) && decide (b <= B)))) (HS : Hid (true = ((a == A) && (b == B)))) :
  Calls Tryz.prog 167 #[.int .i64 op, .agg #[.int .u64 a, .int .u64 A], .agg #[.int .u64 b, .int .u64 B]] w fun e w' => e = .returned (.tuple #[.agg #[.int .u64 n, .int .u64 n], .bool true]) /\ Below w.heap.size w w' := by
 go_enter Tryz.func167, Tryz.ntmps167
 go_wp2_with (first
  | (go_at_call 72; go_must (refine (do_as HN HO _ ha hb).mono ?_); rintro e w' ⟨rfl, rfl⟩)
  | (go_at_call 160; go_must (refine (qAy HR _ _ (qAp _ _ a A b B _ (by simp))).mono ?_); rintro e w1 ⟨rfl, hb1⟩; go_must (have H3 : Hid (B3 w1 w.heap.size a A b B) := (b3_new w a A b B).next hb1; obtain ⟨⟨⟨c0, c1⟩, _, _⟩, ⟨⟨d0, d1⟩, _, _⟩, ⟨⟨r0, r1⟩, f0, f1⟩, hz⟩ := H3.out; have hz1 : w.heap.size + 1 < w1.heap.size := (by omega); have hz0 : w.heap.size < w1.heap.size := (by omega); have hbe : Below w.heap.size w w1 := grow4 hb1; clear hb1))
  | (go_at_call 163; go_must (refine (two_one HS _ _ (qAp _ _ a A b B _ (by simp))).mono ?_); rintro e w2 ⟨rfl, hb2⟩; go_must (have H4 : Hid (B3 w2 w.heap.size a A b B) := H3.out.next hb2; have hbe2 : Below w.heap.size w w2 := grow1 hbe (by omega) hb2; clear hb2 hbe H3 c0 c1 d0 d1 r0 r1 f0 f1 hz hz0 hz1; obtain ⟨⟨⟨c0, c1⟩, _, _⟩, ⟨⟨d0, d1⟩, _, _⟩, ⟨⟨r0, r1⟩, f0, f1⟩, hz⟩ := H4.out; have hz1 : w.heap.size + 1 < w2.heap.size := (by omega); have hz0 : w.heap.size < w2.heap.size := (by omega)))
  | (go_at_call 144; go_must (refine (qBw n _).mono ?_); rintro e w3 ⟨rfl, hb3⟩; go_must (have H5 : Hid (B3 w3 w.heap.size a A b B) := H4.out.below hb3; have hbe3 : Below w.heap.size w w3 := hbe2.trans (hb3.mono (by omega)); clear hb3 hbe2 H4 c0 c1 d0 d1 r0 r1 f0 f1 hz hz0 hz1; obtain ⟨⟨⟨c0, c1⟩, _, _⟩, ⟨⟨d0, d1⟩, _, _⟩, ⟨⟨r0, r1⟩, f0, f1⟩, hz⟩ := H5.out; have hz1 : w.heap.size + 1 < w3.heap.size := (by omega); have hz0 : w.heap.size < w3.heap.size := (by omega); have HT : Hid _ := qAm (x := .int .u64 n) (y := .int .u64 n) r0 r1)))
 refine bodyPost_ret (v := .tuple #[.agg #[.int .u64 n, .int .u64 n], .bool true]) ?_ rfl ⟨rfl, qAb (qAb hbe3 (by omega)) (by omega)⟩
 rw [results_cell_tmp rfl]
 simp [asAddr, Result.andThen]
 rw [qAi HT.out.1 HT.out.2]
theorem ldo_sum (a A b B n : Int) (w : World) (ha : 0 <= a /\ a <= 18446744073709551615) (hb : 0 <= b /\ b <= 18446744073709551615) (HO : Hid (true = isOp 1)) (HN : Hid (n = doL 1 a b)) (HR : Hid (true = (decide (a <= A) && decide (b <= B)))) (HS : Hid (false = ((a == A) && (b == B)))) (p q : Int) (HK : Hid (∀ w, Calls Tryz.prog 173 #[.agg #[.int .u64 a, .int .u64 A], .agg #[.int .u64 b, .int .u64 B]] w fun e w' => e = .returned (.agg #[.int .u64 p, .int .u64 q]) /\ Below w.heap.size w w')) :
  Calls Tryz.prog 167 #[.int .i64 1, .agg #[.int .u64 a, .int .u64 A], .agg #[.int .u64 b, .int .u64 B]] w fun e w' => e = .returned (.tuple #[.agg #[.int .u64 p, .int .u64 q], .bool true]) /\ Below w.heap.size w w' := by
 go_enter Tryz.func167, Tryz.ntmps167
 go_wp2_with (first
  | (go_at_call 72; go_must (refine (do_as HN HO _ ha hb).mono ?_); rintro e w' ⟨rfl, rfl⟩)
  | (go_at_call 160; go_must (refine (qAy HR _ _ (qAp _ _ a A b B _ (by simp))).mono ?_); rintro e w1 ⟨rfl, hb1⟩; go_must (have H3 : Hid (B3 w1 w.heap.size a A b B) := (b3_new w a A b B).next hb1; obtain ⟨⟨⟨c0, c1⟩, _, _⟩, ⟨⟨d0, d1⟩, _, _⟩, ⟨⟨r0, r1⟩, f0, f1⟩, hz⟩ := H3.out; have hz1 : w.heap.size + 1 < w1.heap.size := (by omega); have hz0 : w.heap.size < w1.heap.size := (by omega); have hbe : Below w.heap.size w w1 := grow4 hb1; clear hb1))
  | (go_at_call 163; go_must (refine (two_one HS _ _ (qAp _ _ a A b B _ (by simp))).mono ?_); rintro e w2 ⟨rfl, hb2⟩; go_must (have H4 : Hid (B3 w2 w.heap.size a A b B) := H3.out.next hb2; have hbe2 : Below w.heap.size w w2 := grow1 hbe (by omega) hb2; clear hb2 hbe H3 c0 c1 d0 d1 r0 r1 f0 f1 hz hz0 hz1; obtain ⟨⟨⟨c0, c1⟩, _, _⟩, ⟨⟨d0, d1⟩, _, _⟩, ⟨⟨r0, r1⟩, f0, f1⟩, hz⟩ := H4.out; have hz1 : w.heap.size + 1 < w2.heap.size := (by omega); have hz0 : w.heap.size < w2.heap.size := (by omega)))
  | (go_at_call 173; go_must (refine (HK.out _).mono ?_); rintro e w3 ⟨rfl, hb3⟩; go_must (have H5 : Hid (B3 w3 w.heap.size a A b B) := H4.out.below hb3; have hbe3 : Below w.heap.size w w3 := hbe2.trans (hb3.mono (by omega)); clear hb3 hbe2 H4 c0 c1 d0 d1 r0 r1 f0 f1 hz hz0 hz1; obtain ⟨⟨⟨c0, c1⟩, _, _⟩, ⟨⟨d0, d1⟩, _, _⟩, ⟨⟨r0, r1⟩, f0, f1⟩, hz⟩ := H5.out; have hz1 : w.heap.size + 1 < w3.heap.size := (by omega); have hz0 : w.heap.size < w3.heap.size := (by omega); have HT : Hid _ := qAm (x := .int .u64 p) (y := .int .u64 q) r0 r1)))
 refine bodyPost_ret (v := .tuple #[.agg #[.int .u64 p, .int .u64 q], .bool true]) ?_ rfl ⟨rfl, qAb (qAb hbe3 (by omega)) (by omega)⟩
 rw [results_cell_tmp rfl]
 simp [asAddr, Result.andThen]
 rw [qAi HT.out.1 HT.out.2]
theorem ldo_difference (a A b B n : Int) (w : World) (ha : 0 <= a /\ a <= 18446744073709551615) (hb : 0 <= b /\ b <= 18446744073709551615) (HO : Hid (true = isOp 2)) (HN : Hid (n = doL 2 a b)) (HR : Hid (true = (decide (a <= A) && decide (b <= B)))) (HS : Hid (false = ((a == A) && (b == B)))) (p q : Int) (HK : Hid (∀ w, Calls Tryz.prog 174 #[.agg #[.int .u64 a, .int .u64 A], .agg #[.int .u64 b, .int .u64 B]] w fun e w' => e = .returned (.agg #[.int .u64 p, .int .u64 q]) /\ Below w.heap.size w w')) :
  Calls Tryz.prog 167 #[.int .i64 2, .agg #[.int .u64 a, .int .u64 A], .agg #[.int .u64 b, .int .u64 B]] w fun e w' => e = .returned (.tuple #[.agg #[.int .u64 p, .int .u64 q], .bool true]) /\ Below w.heap.size w w' := by
 go_enter Tryz.func167, Tryz.ntmps167
 go_wp2_with (first
  | (go_at_call 72; go_must (refine (do_as HN HO _ ha hb).mono ?_); rintro e w' ⟨rfl, rfl⟩)
  | (go_at_call 160; go_must (refine (qAy HR _ _ (qAp _ _ a A b B _ (by simp))).mono ?_); rintro e w1 ⟨rfl, hb1⟩; go_must (have H3 : Hid (B3 w1 w.heap.size a A b B) := (b3_new w a A b B).next hb1; obtain ⟨⟨⟨c0, c1⟩, _, _⟩, ⟨⟨d0, d1⟩, _, _⟩, ⟨⟨r0, r1⟩, f0, f1⟩, hz⟩ := H3.out; have hz1 : w.heap.size + 1 < w1.heap.size := (by omega); have hz0 : w.heap.size < w1.heap.size := (by omega); have hbe : Below w.heap.size w w1 := grow4 hb1; clear hb1))
  | (go_at_call 163; go_must (refine (two_one HS _ _ (qAp _ _ a A b B _ (by simp))).mono ?_); rintro e w2 ⟨rfl, hb2⟩; go_must (have H4 : Hid (B3 w2 w.heap.size a A b B) := H3.out.next hb2; have hbe2 : Below w.heap.size w w2 := grow1 hbe (by omega) hb2; clear hb2 hbe H3 c0 c1 d0 d1 r0 r1 f0 f1 hz hz0 hz1; obtain ⟨⟨⟨c0, c1⟩, _, _⟩, ⟨⟨d0, d1⟩, _, _⟩, ⟨⟨r0, r1⟩, f0, f1⟩, hz⟩ := H4.out; have hz1 : w.heap.size + 1 < w2.heap.size := (by omega); have hz0 : w.heap.size < w2.heap.size := (by omega)))
  | (go_at_call 174; go_must (refine (HK.out _).mono ?_); rintro e w3 ⟨rfl, hb3⟩; go_must (have H5 : Hid (B3 w3 w.heap.size a A b B) := H4.out.below hb3; have hbe3 : Below w.heap.size w w3 := hbe2.trans (hb3.mono (by omega)); clear hb3 hbe2 H4 c0 c1 d0 d1 r0 r1 f0 f1 hz hz0 hz1; obtain ⟨⟨⟨c0, c1⟩, _, _⟩, ⟨⟨d0, d1⟩, _, _⟩, ⟨⟨r0, r1⟩, f0, f1⟩, hz⟩ := H5.out; have hz1 : w.heap.size + 1 < w3.heap.size := (by omega); have hz0 : w.heap.size < w3.heap.size := (by omega); have HT : Hid _ := qAm (x := .int .u64 p) (y := .int .u64 q) r0 r1)))
 refine bodyPost_ret (v := .tuple #[.agg #[.int .u64 p, .int .u64 q], .bool true]) ?_ rfl ⟨rfl, qAb (qAb hbe3 (by omega)) (by omega)⟩
 rw [results_cell_tmp rfl]
 simp [asAddr, Result.andThen]
 rw [qAi HT.out.1 HT.out.2]
theorem ldo_product (a A b B n : Int) (w : World) (ha : 0 <= a /\ a <= 18446744073709551615) (hb : 0 <= b /\ b <= 18446744073709551615) (HO : Hid (true = isOp 3)) (HN : Hid (n = doL 3 a b)) (HR : Hid (true = (decide (a <= A) && decide (b <= B)))) (HS : Hid (false = ((a == A) && (b == B)))) (p q : Int) (HK : Hid (∀ w, Calls Tryz.prog 175 #[.agg #[.int .u64 a, .int .u64 A], .agg #[.int .u64 b, .int .u64 B]] w fun e w' => e = .returned (.agg #[.int .u64 p, .int .u64 q]) /\ Below w.heap.size w w')) :
  Calls Tryz.prog 167 #[.int .i64 3, .agg #[.int .u64 a, .int .u64 A], .agg #[.int .u64 b, .int .u64 B]] w fun e w' => e = .returned (.tuple #[.agg #[.int .u64 p, .int .u64 q], .bool true]) /\ Below w.heap.size w w' := by
 go_enter Tryz.func167, Tryz.ntmps167
 go_wp2_with (first
  | (go_at_call 72; go_must (refine (do_as HN HO _ ha hb).mono ?_); rintro e w' ⟨rfl, rfl⟩)
  | (go_at_call 160; go_must (refine (qAy HR _ _ (qAp _ _ a A b B _ (by simp))).mono ?_); rintro e w1 ⟨rfl, hb1⟩; go_must (have H3 : Hid (B3 w1 w.heap.size a A b B) := (b3_new w a A b B).next hb1; obtain ⟨⟨⟨c0, c1⟩, _, _⟩, ⟨⟨d0, d1⟩, _, _⟩, ⟨⟨r0, r1⟩, f0, f1⟩, hz⟩ := H3.out; have hz1 : w.heap.size + 1 < w1.heap.size := (by omega); have hz0 : w.heap.size < w1.heap.size := (by omega); have hbe : Below w.heap.size w w1 := grow4 hb1; clear hb1))
  | (go_at_call 163; go_must (refine (two_one HS _ _ (qAp _ _ a A b B _ (by simp))).mono ?_); rintro e w2 ⟨rfl, hb2⟩; go_must (have H4 : Hid (B3 w2 w.heap.size a A b B) := H3.out.next hb2; have hbe2 : Below w.heap.size w w2 := grow1 hbe (by omega) hb2; clear hb2 hbe H3 c0 c1 d0 d1 r0 r1 f0 f1 hz hz0 hz1; obtain ⟨⟨⟨c0, c1⟩, _, _⟩, ⟨⟨d0, d1⟩, _, _⟩, ⟨⟨r0, r1⟩, f0, f1⟩, hz⟩ := H4.out; have hz1 : w.heap.size + 1 < w2.heap.size := (by omega); have hz0 : w.heap.size < w2.heap.size := (by omega)))
  | (go_at_call 175; go_must (refine (HK.out _).mono ?_); rintro e w3 ⟨rfl, hb3⟩; go_must (have H5 : Hid (B3 w3 w.heap.size a A b B) := H4.out.below hb3; have hbe3 : Below w.heap.size w w3 := hbe2.trans (hb3.mono (by omega)); clear hb3 hbe2 H4 c0 c1 d0 d1 r0 r1 f0 f1 hz hz0 hz1; obtain ⟨⟨⟨c0, c1⟩, _, _⟩, ⟨⟨d0, d1⟩, _, _⟩, ⟨⟨r0, r1⟩, f0, f1⟩, hz⟩ := H5.out; have hz1 : w.heap.size + 1 < w3.heap.size := (by omega); have hz0 : w.heap.size < w3.heap.size := (by omega); have HT : Hid _ := qAm (x := .int .u64 p) (y := .int .u64 q) r0 r1)))
 refine bodyPost_ret (v := .tuple #[.agg #[.int .u64 p, .int .u64 q], .bool true]) ?_ rfl ⟨rfl, qAb (qAb hbe3 (by omega)) (by omega)⟩
 rw [results_cell_tmp rfl]
 simp [asAddr, Result.andThen]
 rw [qAi HT.out.1 HT.out.2]
theorem ldo_quotient (a A b B n : Int) (w : World) (ha : 0 <= a /\ a <= 18446744073709551615) (hb : 0 <= b /\ b <= 18446744073709551615) (HO : Hid (true = isOp 4)) (HN : Hid (n = doL 4 a b)) (HR : Hid (true = (decide (a <= A) && decide (b <= B)))) (HS : Hid (false = ((a == A) && (b == B)))) (p q : Int) (HK : Hid (∀ w, Calls Tryz.prog 176 #[.agg #[.int .u64 a, .int .u64 A], .agg #[.int .u64 b, .int .u64 B]] w fun e w' => e = .returned (.agg #[.int .u64 p, .int .u64 q]) /\ Below w.heap.size w w')) :
  Calls Tryz.prog 167 #[.int .i64 4, .agg #[.int .u64 a, .int .u64 A], .agg #[.int .u64 b, .int .u64 B]] w fun e w' => e = .returned (.tuple #[.agg #[.int .u64 p, .int .u64 q], .bool true]) /\ Below w.heap.size w w' := by
 go_enter Tryz.func167, Tryz.ntmps167
 go_wp2_with (first
  | (go_at_call 72; go_must (refine (do_as HN HO _ ha hb).mono ?_); rintro e w' ⟨rfl, rfl⟩)
  | (go_at_call 160; go_must (refine (qAy HR _ _ (qAp _ _ a A b B _ (by simp))).mono ?_); rintro e w1 ⟨rfl, hb1⟩; go_must (have H3 : Hid (B3 w1 w.heap.size a A b B) := (b3_new w a A b B).next hb1; obtain ⟨⟨⟨c0, c1⟩, _, _⟩, ⟨⟨d0, d1⟩, _, _⟩, ⟨⟨r0, r1⟩, f0, f1⟩, hz⟩ := H3.out; have hz1 : w.heap.size + 1 < w1.heap.size := (by omega); have hz0 : w.heap.size < w1.heap.size := (by omega); have hbe : Below w.heap.size w w1 := grow4 hb1; clear hb1))
  | (go_at_call 163; go_must (refine (two_one HS _ _ (qAp _ _ a A b B _ (by simp))).mono ?_); rintro e w2 ⟨rfl, hb2⟩; go_must (have H4 : Hid (B3 w2 w.heap.size a A b B) := H3.out.next hb2; have hbe2 : Below w.heap.size w w2 := grow1 hbe (by omega) hb2; clear hb2 hbe H3 c0 c1 d0 d1 r0 r1 f0 f1 hz hz0 hz1; obtain ⟨⟨⟨c0, c1⟩, _, _⟩, ⟨⟨d0, d1⟩, _, _⟩, ⟨⟨r0, r1⟩, f0, f1⟩, hz⟩ := H4.out; have hz1 : w.heap.size + 1 < w2.heap.size := (by omega); have hz0 : w.heap.size < w2.heap.size := (by omega)))
  | (go_at_call 176; go_must (refine (HK.out _).mono ?_); rintro e w3 ⟨rfl, hb3⟩; go_must (have H5 : Hid (B3 w3 w.heap.size a A b B) := H4.out.below hb3; have hbe3 : Below w.heap.size w w3 := hbe2.trans (hb3.mono (by omega)); clear hb3 hbe2 H4 c0 c1 d0 d1 r0 r1 f0 f1 hz hz0 hz1; obtain ⟨⟨⟨c0, c1⟩, _, _⟩, ⟨⟨d0, d1⟩, _, _⟩, ⟨⟨r0, r1⟩, f0, f1⟩, hz⟩ := H5.out; have hz1 : w.heap.size + 1 < w3.heap.size := (by omega); have hz0 : w.heap.size < w3.heap.size := (by omega); have HT : Hid _ := qAm (x := .int .u64 p) (y := .int .u64 q) r0 r1)))
 refine bodyPost_ret (v := .tuple #[.agg #[.int .u64 p, .int .u64 q], .bool true]) ?_ rfl ⟨rfl, qAb (qAb hbe3 (by omega)) (by omega)⟩
 rw [results_cell_tmp rfl]
 simp [asAddr, Result.andThen]
 rw [qAi HT.out.1 HT.out.2]
theorem ldo_rest (a A b B n : Int) (w : World) (ha : 0 <= a /\ a <= 18446744073709551615) (hb : 0 <= b /\ b <= 18446744073709551615) (HO : Hid (true = isOp 5)) (HN : Hid (n = doL 5 a b)) (HR : Hid (true = (decide (a <= A) && decide (b <= B)))) (HS : Hid (false = ((a == A) && (b == B)))) (p q : Int) (HK : Hid (∀ w, Calls Tryz.prog 177 #[.agg #[.int .u64 a, .int .u64 A], .agg #[.int .u64 b, .int .u64 B]] w fun e w' => e = .returned (.agg #[.int .u64 p, .int .u64 q]) /\ Below w.heap.size w w')) :
  Calls Tryz.prog 167 #[.int .i64 5, .agg #[.int .u64 a, .int .u64 A], .agg #[.int .u64 b, .int .u64 B]] w fun e w' => e = .returned (.tuple #[.agg #[.int .u64 p, .int .u64 q], .bool true]) /\ Below w.heap.size w w' := by
 go_enter Tryz.func167, Tryz.ntmps167
 go_wp2_with (first
  | (go_at_call 72; go_must (refine (do_as HN HO _ ha hb).mono ?_); rintro e w' ⟨rfl, rfl⟩)
  | (go_at_call 160; go_must (refine (qAy HR _ _ (qAp _ _ a A b B _ (by simp))).mono ?_); rintro e w1 ⟨rfl, hb1⟩; go_must (have H3 : Hid (B3 w1 w.heap.size a A b B) := (b3_new w a A b B).next hb1; obtain ⟨⟨⟨c0, c1⟩, _, _⟩, ⟨⟨d0, d1⟩, _, _⟩, ⟨⟨r0, r1⟩, f0, f1⟩, hz⟩ := H3.out; have hz1 : w.heap.size + 1 < w1.heap.size := (by omega); have hz0 : w.heap.size < w1.heap.size := (by omega); have hbe : Below w.heap.size w w1 := grow4 hb1; clear hb1))
  | (go_at_call 163; go_must (refine (two_one HS _ _ (qAp _ _ a A b B _ (by simp))).mono ?_); rintro e w2 ⟨rfl, hb2⟩; go_must (have H4 : Hid (B3 w2 w.heap.size a A b B) := H3.out.next hb2; have hbe2 : Below w.heap.size w w2 := grow1 hbe (by omega) hb2; clear hb2 hbe H3 c0 c1 d0 d1 r0 r1 f0 f1 hz hz0 hz1; obtain ⟨⟨⟨c0, c1⟩, _, _⟩, ⟨⟨d0, d1⟩, _, _⟩, ⟨⟨r0, r1⟩, f0, f1⟩, hz⟩ := H4.out; have hz1 : w.heap.size + 1 < w2.heap.size := (by omega); have hz0 : w.heap.size < w2.heap.size := (by omega)))
  | (go_at_call 177; go_must (refine (HK.out _).mono ?_); rintro e w3 ⟨rfl, hb3⟩; go_must (have H5 : Hid (B3 w3 w.heap.size a A b B) := H4.out.below hb3; have hbe3 : Below w.heap.size w w3 := hbe2.trans (hb3.mono (by omega)); clear hb3 hbe2 H4 c0 c1 d0 d1 r0 r1 f0 f1 hz hz0 hz1; obtain ⟨⟨⟨c0, c1⟩, _, _⟩, ⟨⟨d0, d1⟩, _, _⟩, ⟨⟨r0, r1⟩, f0, f1⟩, hz⟩ := H5.out; have hz1 : w.heap.size + 1 < w3.heap.size := (by omega); have hz0 : w.heap.size < w3.heap.size := (by omega); have HT : Hid _ := qAm (x := .int .u64 p) (y := .int .u64 q) r0 r1)))
 refine bodyPost_ret (v := .tuple #[.agg #[.int .u64 p, .int .u64 q], .bool true]) ?_ rfl ⟨rfl, qAb (qAb hbe3 (by omega)) (by omega)⟩
 rw [results_cell_tmp rfl]
 simp [asAddr, Result.andThen]
 rw [qAi HT.out.1 HT.out.2]
theorem ldo_raised (a A b B n : Int) (w : World) (ha : 0 <= a /\ a <= 18446744073709551615) (hb : 0 <= b /\ b <= 18446744073709551615) (HO : Hid (true = isOp 9)) (HN : Hid (n = doL 9 a b)) (HR : Hid (true = (decide (a <= A) && decide (b <= B)))) (HS : Hid (false = ((a == A) && (b == B)))) (p q : Int) (HK : Hid (∀ w, Calls Tryz.prog 179 #[.agg #[.int .u64 a, .int .u64 A], .agg #[.int .u64 b, .int .u64 B]] w fun e w' => e = .returned (.agg #[.int .u64 p, .int .u64 q]) /\ Below w.heap.size w w')) :
  Calls Tryz.prog 167 #[.int .i64 9, .agg #[.int .u64 a, .int .u64 A], .agg #[.int .u64 b, .int .u64 B]] w fun e w' => e = .returned (.tuple #[.agg #[.int .u64 p, .int .u64 q], .bool true]) /\ Below w.heap.size w w' := by
 go_enter Tryz.func167, Tryz.ntmps167
 go_wp2_with (first
  | (go_at_call 72; go_must (refine (do_as HN HO _ ha hb).mono ?_); rintro e w' ⟨rfl, rfl⟩)
  | (go_at_call 160; go_must (refine (qAy HR _ _ (qAp _ _ a A b B _ (by simp))).mono ?_); rintro e w1 ⟨rfl, hb1⟩; go_must (have H3 : Hid (B3 w1 w.heap.size a A b B) := (b3_new w a A b B).next hb1; obtain ⟨⟨⟨c0, c1⟩, _, _⟩, ⟨⟨d0, d1⟩, _, _⟩, ⟨⟨r0, r1⟩, f0, f1⟩, hz⟩ := H3.out; have hz1 : w.heap.size + 1 < w1.heap.size := (by omega); have hz0 : w.heap.size < w1.heap.size := (by omega); have hbe : Below w.heap.size w w1 := grow4 hb1; clear hb1))
  | (go_at_call 163; go_must (refine (two_one HS _ _ (qAp _ _ a A b B _ (by simp))).mono ?_); rintro e w2 ⟨rfl, hb2⟩; go_must (have H4 : Hid (B3 w2 w.heap.size a A b B) := H3.out.next hb2; have hbe2 : Below w.heap.size w w2 := grow1 hbe (by omega) hb2; clear hb2 hbe H3 c0 c1 d0 d1 r0 r1 f0 f1 hz hz0 hz1; obtain ⟨⟨⟨c0, c1⟩, _, _⟩, ⟨⟨d0, d1⟩, _, _⟩, ⟨⟨r0, r1⟩, f0, f1⟩, hz⟩ := H4.out; have hz1 : w.heap.size + 1 < w2.heap.size := (by omega); have hz0 : w.heap.size < w2.heap.size := (by omega)))
  | (go_at_call 179; go_must (refine (HK.out _).mono ?_); rintro e w3 ⟨rfl, hb3⟩; go_must (have H5 : Hid (B3 w3 w.heap.size a A b B) := H4.out.below hb3; have hbe3 : Below w.heap.size w w3 := hbe2.trans (hb3.mono (by omega)); clear hb3 hbe2 H4 c0 c1 d0 d1 r0 r1 f0 f1 hz hz0 hz1; obtain ⟨⟨⟨c0, c1⟩, _, _⟩, ⟨⟨d0, d1⟩, _, _⟩, ⟨⟨r0, r1⟩, f0, f1⟩, hz⟩ := H5.out; have hz1 : w.heap.size + 1 < w3.heap.size := (by omega); have hz0 : w.heap.size < w3.heap.size := (by omega); have HT : Hid _ := qAm (x := .int .u64 p) (y := .int .u64 q) r0 r1)))
 refine bodyPost_ret (v := .tuple #[.agg #[.int .u64 p, .int .u64 q], .bool true]) ?_ rfl ⟨rfl, qAb (qAb hbe3 (by omega)) (by omega)⟩
 rw [results_cell_tmp rfl]
 simp [asAddr, Result.andThen]
 rw [qAi HT.out.1 HT.out.2]
theorem ldo_and (a A b B n : Int) (w : World) (ha : 0 <= a /\ a <= 18446744073709551615) (hb : 0 <= b /\ b <= 18446744073709551615) (HO : Hid (true = isOp 6)) (HN : Hid (n = doL 6 a b)) (HR : Hid (true = (decide (a <= A) && decide (b <= B)))) (HS : Hid (false = ((a == A) && (b == B)))) :
  Calls Tryz.prog 167 #[.int .i64 6, .agg #[.int .u64 a, .int .u64 A], .agg #[.int .u64 b, .int .u64 B]] w fun e w' => e = .returned (.tuple #[.agg #[.int .u64 0, .int .u64 (min A B)], .bool true]) /\ Below w.heap.size w w' := by
 obtain ⟨m, hm⟩ : ∃ m, min A B = m := ⟨_, rfl⟩
 rw [hm]
 go_enter Tryz.func167, Tryz.ntmps167
 go_wp2_with (first
  | (go_at_call 72; go_must (refine (do_as HN HO _ ha hb).mono ?_); rintro e w' ⟨rfl, rfl⟩)
  | (go_at_call 160; go_must (refine (qAy HR _ _ (qAp _ _ a A b B _ (by simp))).mono ?_); rintro e w1 ⟨rfl, hb1⟩; go_must (have H3 : Hid (B3 w1 w.heap.size a A b B) := (b3_new w a A b B).next hb1; obtain ⟨⟨⟨c0, c1⟩, _, _⟩, ⟨⟨d0, d1⟩, _, _⟩, ⟨⟨r0, r1⟩, f0, f1⟩, hz⟩ := H3.out; have hz1 : w.heap.size + 1 < w1.heap.size := (by omega); have hz0 : w.heap.size < w1.heap.size := (by omega); have hbe : Below w.heap.size w w1 := grow4 hb1; clear hb1))
  | (go_at_call 163; go_must (refine (two_one HS _ _ (qAp _ _ a A b B _ (by simp))).mono ?_); rintro e w2 ⟨rfl, hb2⟩; go_must (have H4 : Hid (B3 w2 w.heap.size a A b B) := H3.out.next hb2; have hbe2 : Below w.heap.size w w2 := grow1 hbe (by omega) hb2; clear hb2 hbe H3 c0 c1 d0 d1 r0 r1 f0 f1 hz hz0 hz1; obtain ⟨⟨⟨c0, c1⟩, _, _⟩, ⟨⟨d0, d1⟩, _, _⟩, ⟨⟨r0, r1⟩, f0, f1⟩, hz⟩ := H4.out; have hz1 : w.heap.size + 1 < w2.heap.size := (by omega); have hz0 : w.heap.size < w2.heap.size := (by omega); have HT : Hid _ := qAm (x := .int .u64 0) (y := .int .u64 m) r0 r1)))
 refine bodyPost_ret (v := .tuple #[.agg #[.int .u64 0, .int .u64 m], .bool true]) ?_ rfl ⟨rfl, qAb (qAb hbe2 (by omega)) (by omega)⟩
 rw [results_cell_tmp rfl]
 simp [asAddr, Result.andThen]
 rw [qAi HT.out.1 HT.out.2]
theorem ldo_xor (a A b B n : Int) (w : World) (ha : 0 <= a /\ a <= 18446744073709551615) (hb : 0 <= b /\ b <= 18446744073709551615) (HO : Hid (true = isOp 8)) (HN : Hid (n = doL 8 a b)) (HR : Hid (true = (decide (a <= A) && decide (b <= B)))) (HS : Hid (false = ((a == A) && (b == B)))) (hA : 0 <= A /\ A <= 18446744073709551615) (hB : 0 <= B /\ B <= 18446744073709551615) :
  Calls Tryz.prog 167 #[.int .i64 8, .agg #[.int .u64 a, .int .u64 A], .agg #[.int .u64 b, .int .u64 B]] w fun e w' => e = .returned (.tuple #[.agg #[.int .u64 0, .int .u64 (formL (max A B))], .bool true]) /\ Below w.heap.size w w' := by
 obtain ⟨m, HM⟩ : ∃ m, Hid (formL (max A B) = m) := ⟨_, rfl⟩
 rw [HM.out]
 have HK : Hid (∀ w, Calls Tryz.prog 178 #[.int .u64 A, .int .u64 B] w fun e w' => e = .returned (.int .u64 m) /\ w = w') := fun w => by rw [<- HM.out]; exact lones_any A B w hA hB
 go_enter Tryz.func167, Tryz.ntmps167
 go_wp2_with (first
  | (go_at_call 72; go_must (refine (do_as HN HO _ ha hb).mono ?_); rintro e w' ⟨rfl, rfl⟩)
  | (go_at_call 160; go_must (refine (qAy HR _ _ (qAp _ _ a A b B _ (by simp))).mono ?_); rintro e w1 ⟨rfl, hb1⟩; go_must (have H3 : Hid (B3 w1 w.heap.size a A b B) := (b3_new w a A b B).next hb1; obtain ⟨⟨⟨c0, c1⟩, _, _⟩, ⟨⟨d0, d1⟩, _, _⟩, ⟨⟨r0, r1⟩, f0, f1⟩, hz⟩ := H3.out; have hz1 : w.heap.size + 1 < w1.heap.size := (by omega); have hz0 : w.heap.size < w1.heap.size := (by omega); have hbe : Below w.heap.size w w1 := grow4 hb1; clear hb1))
  | (go_at_call 163; go_must (refine (two_one HS _ _ (qAp _ _ a A b B _ (by simp))).mono ?_); rintro e w2 ⟨rfl, hb2⟩; go_must (have H4 : Hid (B3 w2 w.heap.size a A b B) := H3.out.next hb2; have hbe2 : Below w.heap.size w w2 := grow1 hbe (by omega) hb2; clear hb2 hbe H3 c0 c1 d0 d1 r0 r1 f0 f1 hz hz0 hz1; obtain ⟨⟨⟨c0, c1⟩, _, _⟩, ⟨⟨d0, d1⟩, _, _⟩, ⟨⟨r0, r1⟩, f0, f1⟩, hz⟩ := H4.out; have hz1 : w.heap.size + 1 < w2.heap.size := (by omega); have hz0 : w.heap.size < w2.heap.size := (by omega); have HT : Hid _ := qAm (x := .int .u64 0) (y := .int .u64 m) r0 r1))
  | (go_at_call 178; go_must (refine (HK.out _).mono ?_); rintro e w' ⟨rfl, rfl⟩))
 refine bodyPost_ret (v := .tuple #[.agg #[.int .u64 0, .int .u64 m], .bool true]) ?_ rfl ⟨rfl, qAb (qAb hbe2 (by omega)) (by omega)⟩
 rw [results_cell_tmp rfl]
 simp [asAddr, Result.andThen]
 rw [qAi HT.out.1 HT.out.2]
theorem ldo_shr (a A b B n : Int) (w : World) (ha : 0 <= a /\ a <= 18446744073709551615) (hb : 0 <= b /\ b <= 18446744073709551615) (HO : Hid (true = isOp 10)) (HN : Hid (n = doL 10 a b)) (HR : Hid (true = (decide (a <= A) && decide (b <= B)))) (HS : Hid (false = ((a == A) && (b == B)))) (hA : 0 <= A /\ A <= 18446744073709551615) (hB : 0 <= B /\ B <= 18446744073709551615) :
  Calls Tryz.prog 167 #[.int .i64 10, .agg #[.int .u64 a, .int .u64 A], .agg #[.int .u64 b, .int .u64 B]] w fun e w' => e = .returned (.tuple #[.agg #[.int .u64 (a / 2 ^ min B.toNat 64), .int .u64 (A / 2 ^ min b.toNat 64)], .bool true]) /\ Below w.heap.size w w' := by
 go_enter Tryz.func167, Tryz.ntmps167
 go_wp2_with (first
  | (go_at_call 72; go_must (refine (do_as HN HO _ ha hb).mono ?_); rintro e w' ⟨rfl, rfl⟩)
  | (go_at_call 160; go_must (refine (qAy HR _ _ (qAp _ _ a A b B _ (by simp))).mono ?_); rintro e w1 ⟨rfl, hb1⟩; go_must (have H3 : Hid (B3 w1 w.heap.size a A b B) := (b3_new w a A b B).next hb1; obtain ⟨⟨⟨c0, c1⟩, _, _⟩, ⟨⟨d0, d1⟩, _, _⟩, ⟨⟨r0, r1⟩, f0, f1⟩, hz⟩ := H3.out; have hz1 : w.heap.size + 1 < w1.heap.size := (by omega); have hz0 : w.heap.size < w1.heap.size := (by omega); have hbe : Below w.heap.size w w1 := grow4 hb1; clear hb1))
  | (go_at_call 163; go_must (refine (two_one HS _ _ (qAp _ _ a A b B _ (by simp))).mono ?_); rintro e w2 ⟨rfl, hb2⟩; go_must (have H4 : Hid (B3 w2 w.heap.size a A b B) := H3.out.next hb2; have hbe2 : Below w.heap.size w w2 := grow1 hbe (by omega) hb2; clear hb2 hbe H3 c0 c1 d0 d1 r0 r1 f0 f1 hz hz0 hz1; obtain ⟨⟨⟨c0, c1⟩, _, _⟩, ⟨⟨d0, d1⟩, _, _⟩, ⟨⟨r0, r1⟩, f0, f1⟩, hz⟩ := H4.out; have hz1 : w.heap.size + 1 < w2.heap.size := (by omega); have hz0 : w.heap.size < w2.heap.size := (by omega); have HT : Hid _ := qAm (x := .int .u64 (a / 2 ^ min B.toNat 64)) (y := .int .u64 (A / 2 ^ min b.toNat 64)) r0 r1)))
 refine bodyPost_ret (v := .tuple #[.agg #[.int .u64 (a / 2 ^ min B.toNat 64), .int .u64 (A / 2 ^ min b.toNat 64)], .bool true]) ?_ rfl ⟨rfl, qAb (qAb hbe2 (by omega)) (by omega)⟩
 rw [results_cell_tmp rfl]
 simp [asAddr, Result.andThen]
 rw [qAi HT.out.1 HT.out.2]
set_option maxHeartbeats 4000000 in
theorem ldo_or (a A b B n : Int) (w : World) (ha : 0 <= a /\ a <= 18446744073709551615) (hb : 0 <= b /\ b <= 18446744073709551615) (HO : Hid (true = isOp 7)) (HN : Hid (n = doL 7 a b)) (HR : Hid (true = (decide (a <= A) && decide (b <= B)))) (HS : Hid (false = ((a == A) && (b == B)))) (hA : 0 <= A /\ A <= 18446744073709551615) (hB : 0 <= B /\ B <= 18446744073709551615) :
  Calls Tryz.prog 167 #[.int .i64 7, .agg #[.int .u64 a, .int .u64 A], .agg #[.int .u64 b, .int .u64 B]] w fun e w' => e = .returned (.tuple #[.agg #[.int .u64 (max a b), .int .u64 (formL (max A B))], .bool true]) /\ Below w.heap.size w w' := by
 obtain ⟨Y, HM⟩ : ∃ m, Hid (formL (max A B) = m) := ⟨_, rfl⟩
 rw [HM.out]
 have HK : Hid (∀ w, Calls Tryz.prog 178 #[.int .u64 A, .int .u64 B] w fun e w' => e = .returned (.int .u64 Y) /\ w = w') := fun w => by rw [<- HM.out]; exact lones_any A B w hA hB
 obtain ⟨Q, hQ⟩ : ∃ Q, max a b = Q := ⟨_, rfl⟩
 rw [hQ]
 go_enter Tryz.func167, Tryz.ntmps167
 go_wp2_with (first
  | (go_at_call 72; go_must (refine (do_as HN HO _ ha hb).mono ?_); rintro e w' ⟨rfl, rfl⟩)
  | (go_at_call 160; go_must (refine (qAy HR _ _ (qAp _ _ a A b B _ (by simp))).mono ?_); rintro e w1 ⟨rfl, hb1⟩; go_must (have H3 : Hid (B3 w1 w.heap.size a A b B) := (b3_new w a A b B).next hb1; obtain ⟨⟨⟨c0, c1⟩, _, _⟩, ⟨⟨d0, d1⟩, _, _⟩, ⟨⟨r0, r1⟩, f0, f1⟩, hz⟩ := H3.out; have hz1 : w.heap.size + 1 < w1.heap.size := (by omega); have hz0 : w.heap.size < w1.heap.size := (by omega); have hbe : Below w.heap.size w w1 := grow4 hb1; clear hb1))
  | (go_at_call 163; go_must (refine (two_one HS _ _ (qAp _ _ a A b B _ (by simp))).mono ?_); rintro e w2 ⟨rfl, hb2⟩; go_must (have H4 : Hid (B3 w2 w.heap.size a A b B) := H3.out.next hb2; have hbe2 : Below w.heap.size w w2 := grow1 hbe (by omega) hb2; clear hb2 hbe H3 c0 c1 d0 d1 r0 r1 f0 f1 hz hz0 hz1; obtain ⟨⟨⟨c0, c1⟩, _, _⟩, ⟨⟨d0, d1⟩, _, _⟩, ⟨⟨r0, r1⟩, f0, f1⟩, hz⟩ := H4.out; have hz1 : w.heap.size + 1 < w2.heap.size := (by omega); have hz0 : w.heap.size < w2.heap.size := (by omega); have HT : Hid _ := qAm (x := .int .u64 Q) (y := .int .u64 Y) r0 r1))
  | (go_at_call 178; fail))
 have hcells : w2.cell? ⟨w.heap.size, 0, none⟩ = some (.int .u64 a) /\ w2.cell? ⟨w.heap.size, 1, none⟩ = some (.int .u64 A) /\ w2.cell? ⟨w.heap.size + 1, 0, none⟩ = some (.int .u64 b) /\ w2.cell? ⟨w.heap.size + 1, 1, none⟩ = some (.int .u64 B) := ⟨c0, c1, d0, d1⟩
 clear c0 c1 d0 d1
 go_region_held_law (fun w' => w'.cell? ⟨w.heap.size, 0, none⟩ = some (.int .u64 a) /\ w'.cell? ⟨w.heap.size, 1, none⟩ = some (.int .u64 A) /\ w'.cell? ⟨w.heap.size + 1, 0, none⟩ = some (.int .u64 b) /\ w'.cell? ⟨w.heap.size + 1, 1, none⟩ = some (.int .u64 B))
  (first | assumption | ((refine keep4 ?_ (by omega) (by omega); first | assumption | (refine keep4 ?_ (by omega) (by omega); assumption))))
  ((go_at_call 178; refine (HK.out _).mono ?_; rintro e w' ⟨rfl, rfl⟩))
 all_goals go_wp2
 all_goals refine bodyPost_ret (v := .tuple #[.agg #[.int .u64 Q, .int .u64 Y], .bool true]) ?_ rfl ⟨rfl, below_dr (qAb (qAb hbe2 (by omega)) (by omega))⟩
 all_goals rw [results_cell_tmp rfl]
 all_goals simp [asAddr, Result.andThen]
 all_goals rw [run_boxS_drew HT.out.1 HT.out.2]
theorem isOp_eq (op : Int) : isOp op = decide (1 <= op /\ op <= 10) := rfl
theorem ldo_any : KDo := by
 intro op a A b B w ha hA hb hB
 unfold W64 at ha hA hb hB
 obtain ⟨n, HN⟩ : ∃ n, Hid (n = doL op a b) := ⟨_, rfl⟩
 unfold doR
 by_cases c1 : 1 <= op /\ op <= 10
 case neg => rw [if_neg (fun h => c1 h.1)]; exact ldo_no1 op a A b B n w ha hb (by show _ = _; rw [isOp_eq, decide_eq_false c1]) HN
 have HO : Hid (true = isOp op) := by show _ = _; rw [isOp_eq, decide_eq_true c1]
 by_cases c2 : a <= A /\ b <= B
 case neg =>
  rw [if_neg (fun h => c2 h.2)]
  exact ldo_no2 op a A b B n w ha hb HO HN (by show _ = _; rw [<- Bool.decide_and, decide_eq_false c2])
 have HR : Hid (true = (decide (a <= A) && decide (b <= B))) := by show _ = _; rw [<- Bool.decide_and, decide_eq_true c2]
 rw [if_pos ⟨c1, c2⟩]
 by_cases hs : a = A /\ b = B
 ·have e : spanL op a A b B = (n, n) := by unfold spanL; rw [if_pos hs, HN.out]
  rw [e]
  exact ldo_one op a A b B n w ha hb HO HN HR (by show _ = _; rw [hs.1, hs.2]; simp)
 have HS : Hid (false = ((a == A) && (b == B))) := by
  show _ = _
  symm
  rw [Bool.eq_false_iff]
  intro h
  simp at h
  exact hs h
 have h1 : 0 <= a /\ a <= A /\ A <= 18446744073709551615 := by omega
 have h2 : 0 <= b /\ b <= B /\ B <= 18446744073709551615 := by omega
 have c : op = 1 ∨ op = 2 ∨ op = 3 ∨ op = 4 ∨ op = 5 ∨ op = 6 ∨ op = 7 ∨ op = 8 ∨ op = 9 ∨ op = 10 := by omega
 rcases c with rfl | rfl | rfl | rfl | rfl | rfl | rfl | rfl | rfl | rfl
 ·have e : spanL 1 a A b B = (if 18446744073709551615 < A + B then (0, 18446744073709551615) else (a + b, A + B)) := by unfold spanL; rw [if_neg hs]; rfl
  rw [e]
  exact ldo_sum a A b B n w ha hb HO HN HR HS _ _ (fun w => lsum_any a A b B w h1 h2)
 ·have e : spanL 2 a A b B = (if a < B then (0, 18446744073709551615) else (a - B, A - b)) := by unfold spanL; rw [if_neg hs]; rfl
  rw [e]
  exact ldo_difference a A b B n w ha hb HO HN HR HS _ _ (fun w => ldiff_any a A b B w h1 h2)
 ·have e : spanL 3 a A b B = (if 18446744073709551615 < A * B then (0, 18446744073709551615) else (a * b, A * B)) := by unfold spanL; rw [if_neg hs]; rfl
  rw [e]
  exact ldo_product a A b B n w ha hb HO HN HR HS _ _ (fun w => lprod_any a A b B w h1 h2)
 ·have e : spanL 4 a A b B = (if b = 0 then (0, A) else (a / B, A / b)) := by unfold spanL; rw [if_neg hs]; rfl
  rw [e]
  exact ldo_quotient a A b B n w ha hb HO HN HR HS _ _ (fun w => lquo_any a A b B w h1 h2)
 ·have e : spanL 5 a A b B = (if b = 0 then (0, A) else if A < b then (a, A) else (0, min A (B - 1))) := by unfold spanL; rw [if_neg hs]; rfl
  rw [e]
  exact ldo_rest a A b B n w ha hb HO HN HR HS _ _ (fun w => lrest_any a A b B w h1 h2)
 ·have e : spanL 6 a A b B = (0, min A B) := by unfold spanL; rw [if_neg hs]; rfl
  rw [e]
  exact ldo_and a A b B n w ha hb HO HN HR HS
 ·have e : spanL 7 a A b B = (max a b, formL (max A B)) := by unfold spanL; rw [if_neg hs]; rfl
  rw [e]
  exact ldo_or a A b B n w ha hb HO HN HR HS hA hB
 ·have e : spanL 8 a A b B = (0, formL (max A B)) := by unfold spanL; rw [if_neg hs]; rfl
  rw [e]
  exact ldo_xor a A b B n w ha hb HO HN HR HS hA hB
 ·have e : spanL 9 a A b B = (if b = B /\ A * 2 ^ min b.toNat 64 <= 18446744073709551615 then (a * 2 ^ min b.toNat 64, A * 2 ^ min b.toNat 64) else (0, 18446744073709551615)) := by unfold spanL; rw [if_neg hs]; rfl
  rw [e]
  exact ldo_raised a A b B n w ha hb HO HN HR HS _ _ (fun w => lraised_any a A b B w h1 h2)
 ·have e : spanL 10 a A b B = (a / 2 ^ min B.toNat 64, A / 2 ^ min b.toNat 64) := by unfold spanL; rw [if_neg hs]; rfl
  rw [e]
  exact ldo_shr a A b B n w ha hb HO HN HR HS hA hB
end Go.Proofs.YtbmjanejecfjmaaGreat
