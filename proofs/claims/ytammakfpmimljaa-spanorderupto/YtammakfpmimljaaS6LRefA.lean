/-
  What the landed Refine answers, a theorem a way. Condition: spans of numbers of 64 bits.
-/
import Derived.Test.YtammakfpmimljaaS6LDoA
import Derived.Test.YtammakfpmimljaaS6LEqual
namespace Go.Proofs.Ytammakfpmimljaa
open Go.RowKit
set_option linter.unusedVariables false
set_option maxRecDepth 20000

theorem lref_no1 (op : Int) (a A b B : Int) (h : Bool) (w : World) {m : Bool} (HN : Hid (m = holdL op 0 0)) (HO : Hid (false = isCond op)) :
    Calls Try.prog 24 #[.int .i64 op, .agg #[.int .u64 a, .int .u64 A], .agg #[.int .u64 b, .int .u64 B], .bool h] w fun e w' => e = .returned (.tuple #[.agg #[.int .u64 0, .int .u64 0], .bool false]) ∧ Below w.heap.size w w' := by
  go_enter Try.func24, Try.ntmps24
  go_wp2_with (first
    | (go_at_call 28; go_must (refine (holds_as HN HO _ (by omega) (by omega)).mono ?_); rintro e w' ⟨rfl, rfl⟩))
  refine bodyPost_ret (v := .tuple #[.agg #[.int .u64 0, .int .u64 0], .bool false]) ?_ rfl ⟨rfl, by go_grown⟩
  rw [results_cell_tmp rfl]
  simp [asAddr, Result.andThen]
  rw [run_boxS (a := 0) (A := 0)]
  all_goals go_cell
theorem lref_no2 (op : Int) (a A b B : Int) (h : Bool) (w : World) {m : Bool} (HN : Hid (m = holdL op 0 0)) (HO : Hid (true = isCond op)) (HR : Hid (false = (decide (a ≤ A) && decide (b ≤ B)))) :
    Calls Try.prog 24 #[.int .i64 op, .agg #[.int .u64 a, .int .u64 A], .agg #[.int .u64 b, .int .u64 B], .bool h] w fun e w' => e = .returned (.tuple #[.agg #[.int .u64 0, .int .u64 0], .bool false]) ∧ Below w.heap.size w w' := by
  go_enter Try.func24, Try.ntmps24
  go_wp2_with (first
    | (go_at_call 28; go_must (refine (holds_as HN HO _ (by omega) (by omega)).mono ?_); rintro e w' ⟨rfl, rfl⟩)
    | (go_at_call 29; go_must (refine (two_right HR _ _ (sees_two _ _ a A b B _ (by simp))).mono ?_); rintro e w1 ⟨rfl, hb1⟩; go_must (have H3 : Hid (B3 w1 w.heap.size a A b B) := (b3_new w a A b B).next hb1; obtain ⟨⟨⟨c0, c1⟩, _, _⟩, ⟨⟨d0, d1⟩, _, _⟩, ⟨⟨r0, r1⟩, f0, f1⟩, hz⟩ := H3.out; have hz1 : w.heap.size + 1 < w1.heap.size := (by omega); have hz0 : w.heap.size < w1.heap.size := (by omega); have hbe : Below w.heap.size w w1 := grow4 hb1; clear hb1; have HT : Hid _ := set_two (x := .int .u64 0) (y := .int .u64 0) r0 r1)))
  refine bodyPost_ret (v := .tuple #[.agg #[.int .u64 0, .int .u64 0], .bool false]) ?_ rfl ⟨rfl, below_set (below_set hbe (by omega)) (by omega)⟩
  rw [results_cell_tmp rfl]
  simp [asAddr, Result.andThen]
  rw [run_boxS HT.out.1 HT.out.2]
theorem lref_wide (op : Int) (a A b B : Int) (h : Bool) (w : World) {m : Bool} (HN : Hid (m = holdL op 0 0)) (HO : Hid (true = isCond op)) (HR : Hid (true = (decide (a ≤ A) && decide (b ≤ B)))) (HS : Hid (false = (b == B))) :
    Calls Try.prog 24 #[.int .i64 op, .agg #[.int .u64 a, .int .u64 A], .agg #[.int .u64 b, .int .u64 B], .bool h] w fun e w' => e = .returned (.tuple #[.agg #[.int .u64 a, .int .u64 A], .bool true]) ∧ Below w.heap.size w w' := by
  go_enter Try.func24, Try.ntmps24
  go_wp2_with (first
    | (go_at_call 28; go_must (refine (holds_as HN HO _ (by omega) (by omega)).mono ?_); rintro e w' ⟨rfl, rfl⟩)
    | (go_at_call 29; go_must (refine (two_right HR _ _ (sees_two _ _ a A b B _ (by simp))).mono ?_); rintro e w1 ⟨rfl, hb1⟩; go_must (have H3 : Hid (B3 w1 w.heap.size a A b B) := (b3_new w a A b B).next hb1; obtain ⟨⟨⟨c0, c1⟩, _, _⟩, ⟨⟨d0, d1⟩, _, _⟩, ⟨⟨r0, r1⟩, f0, f1⟩, hz⟩ := H3.out; have hz1 : w.heap.size + 1 < w1.heap.size := (by omega); have hz0 : w.heap.size < w1.heap.size := (by omega); have hbe : Below w.heap.size w w1 := grow4 hb1; clear hb1))
    | (go_at_call 30; go_must (refine (lone_any HS _ _ (sees_one _ _ b B _ (by simp))).mono ?_); rintro e w2 ⟨rfl, hb2⟩; go_must (have H4 : Hid (B3 w2 w.heap.size a A b B) := H3.out.next hb2; have hbe2 : Below w.heap.size w w2 := grow1 hbe (by omega) hb2; clear hb2 hbe H3 c0 c1 d0 d1 r0 r1 f0 f1 hz hz0 hz1; obtain ⟨⟨⟨c0, c1⟩, _, _⟩, ⟨⟨d0, d1⟩, _, _⟩, ⟨⟨r0, r1⟩, f0, f1⟩, hz⟩ := H4.out; have hz1 : w.heap.size + 1 < w2.heap.size := (by omega); have hz0 : w.heap.size < w2.heap.size := (by omega); have HT : Hid _ := set_two (x := .int .u64 a) (y := .int .u64 A) r0 r1)))
  refine bodyPost_ret (v := .tuple #[.agg #[.int .u64 a, .int .u64 A], .bool true]) ?_ rfl ⟨rfl, below_set (below_set hbe2 (by omega)) (by omega)⟩
  rw [results_cell_tmp rfl]
  simp [asAddr, Result.andThen]
  rw [run_boxS HT.out.1 HT.out.2]
theorem lref_16 (a A b B : Int) (h : Bool) (w : World) {m : Bool} (HN : Hid (m = holdL 16 0 0)) (HO : Hid (true = isCond 16)) (HR : Hid (true = (decide (a ≤ A) && decide (b ≤ B)))) (HS : Hid (true = (b == B))) (p q : Int) (c : Bool) (HK : Hid (∀ w, Calls Try.prog 43 #[.agg #[.int .u64 a, .int .u64 A], .int .u64 b, .bool h] w fun e w' => e = .returned (.tuple #[.agg #[.int .u64 p, .int .u64 q], .bool c]) ∧ Below w.heap.size w w')) :
    Calls Try.prog 24 #[.int .i64 16, .agg #[.int .u64 a, .int .u64 A], .agg #[.int .u64 b, .int .u64 B], .bool h] w fun e w' => e = .returned (.tuple #[.agg #[.int .u64 p, .int .u64 q], .bool c]) ∧ Below w.heap.size w w' := by
  go_enter Try.func24, Try.ntmps24
  go_wp2_with (first
    | (go_at_call 28; go_must (refine (holds_as HN HO _ (by omega) (by omega)).mono ?_); rintro e w' ⟨rfl, rfl⟩)
    | (go_at_call 29; go_must (refine (two_right HR _ _ (sees_two _ _ a A b B _ (by simp))).mono ?_); rintro e w1 ⟨rfl, hb1⟩; go_must (have H3 : Hid (B3 w1 w.heap.size a A b B) := (b3_new w a A b B).next hb1; obtain ⟨⟨⟨c0, c1⟩, _, _⟩, ⟨⟨d0, d1⟩, _, _⟩, ⟨⟨r0, r1⟩, f0, f1⟩, hz⟩ := H3.out; have hz1 : w.heap.size + 1 < w1.heap.size := (by omega); have hz0 : w.heap.size < w1.heap.size := (by omega); have hbe : Below w.heap.size w w1 := grow4 hb1; clear hb1))
    | (go_at_call 30; go_must (refine (lone_any HS _ _ (sees_one _ _ b B _ (by simp))).mono ?_); rintro e w2 ⟨rfl, hb2⟩; go_must (have H4 : Hid (B3 w2 w.heap.size a A b B) := H3.out.next hb2; have hbe2 : Below w.heap.size w w2 := grow1 hbe (by omega) hb2; clear hb2 hbe H3 c0 c1 d0 d1 r0 r1 f0 f1 hz hz0 hz1; obtain ⟨⟨⟨c0, c1⟩, _, _⟩, ⟨⟨d0, d1⟩, _, _⟩, ⟨⟨r0, r1⟩, f0, f1⟩, hz⟩ := H4.out; have hz1 : w.heap.size + 1 < w2.heap.size := (by omega); have hz0 : w.heap.size < w2.heap.size := (by omega)))
    | (go_at_call 43; go_must (refine (HK.out _).mono ?_); rintro e w3 ⟨rfl, hb3⟩; go_must (have H5 : Hid (B3 w3 w.heap.size a A b B) := H4.out.below hb3; have hbe3 : Below w.heap.size w w3 := hbe2.trans (hb3.mono (by omega)); clear hb3 hbe2 H4 c0 c1 d0 d1 r0 r1 f0 f1 hz hz0 hz1; obtain ⟨⟨⟨c0, c1⟩, _, _⟩, ⟨⟨d0, d1⟩, _, _⟩, ⟨⟨r0, r1⟩, f0, f1⟩, hz⟩ := H5.out; have hz1 : w.heap.size + 1 < w3.heap.size := (by omega); have hz0 : w.heap.size < w3.heap.size := (by omega); have HT : Hid _ := set_two (x := .int .u64 p) (y := .int .u64 q) r0 r1)))
  refine bodyPost_ret (v := .tuple #[.agg #[.int .u64 p, .int .u64 q], .bool c]) ?_ rfl ⟨rfl, below_set (below_set hbe3 (by omega)) (by omega)⟩
  rw [results_cell_tmp rfl]
  simp [asAddr, Result.andThen]
  rw [run_boxS HT.out.1 HT.out.2]
theorem lref_17 (a A b B : Int) (h : Bool) (w : World) {m : Bool} (HN : Hid (m = holdL 17 0 0)) (HO : Hid (true = isCond 17)) (HR : Hid (true = (decide (a ≤ A) && decide (b ≤ B)))) (HS : Hid (true = (b == B))) (p q : Int) (c : Bool) (HK : Hid (∀ w, Calls Try.prog 43 #[.agg #[.int .u64 a, .int .u64 A], .int .u64 b, .bool (!h)] w fun e w' => e = .returned (.tuple #[.agg #[.int .u64 p, .int .u64 q], .bool c]) ∧ Below w.heap.size w w')) :
    Calls Try.prog 24 #[.int .i64 17, .agg #[.int .u64 a, .int .u64 A], .agg #[.int .u64 b, .int .u64 B], .bool h] w fun e w' => e = .returned (.tuple #[.agg #[.int .u64 p, .int .u64 q], .bool c]) ∧ Below w.heap.size w w' := by
  go_enter Try.func24, Try.ntmps24
  go_wp2_with (first
    | (go_at_call 28; go_must (refine (holds_as HN HO _ (by omega) (by omega)).mono ?_); rintro e w' ⟨rfl, rfl⟩)
    | (go_at_call 29; go_must (refine (two_right HR _ _ (sees_two _ _ a A b B _ (by simp))).mono ?_); rintro e w1 ⟨rfl, hb1⟩; go_must (have H3 : Hid (B3 w1 w.heap.size a A b B) := (b3_new w a A b B).next hb1; obtain ⟨⟨⟨c0, c1⟩, _, _⟩, ⟨⟨d0, d1⟩, _, _⟩, ⟨⟨r0, r1⟩, f0, f1⟩, hz⟩ := H3.out; have hz1 : w.heap.size + 1 < w1.heap.size := (by omega); have hz0 : w.heap.size < w1.heap.size := (by omega); have hbe : Below w.heap.size w w1 := grow4 hb1; clear hb1))
    | (go_at_call 30; go_must (refine (lone_any HS _ _ (sees_one _ _ b B _ (by simp))).mono ?_); rintro e w2 ⟨rfl, hb2⟩; go_must (have H4 : Hid (B3 w2 w.heap.size a A b B) := H3.out.next hb2; have hbe2 : Below w.heap.size w w2 := grow1 hbe (by omega) hb2; clear hb2 hbe H3 c0 c1 d0 d1 r0 r1 f0 f1 hz hz0 hz1; obtain ⟨⟨⟨c0, c1⟩, _, _⟩, ⟨⟨d0, d1⟩, _, _⟩, ⟨⟨r0, r1⟩, f0, f1⟩, hz⟩ := H4.out; have hz1 : w.heap.size + 1 < w2.heap.size := (by omega); have hz0 : w.heap.size < w2.heap.size := (by omega)))
    | (go_at_call 43; go_must (refine (HK.out _).mono ?_); rintro e w3 ⟨rfl, hb3⟩; go_must (have H5 : Hid (B3 w3 w.heap.size a A b B) := H4.out.below hb3; have hbe3 : Below w.heap.size w w3 := hbe2.trans (hb3.mono (by omega)); clear hb3 hbe2 H4 c0 c1 d0 d1 r0 r1 f0 f1 hz hz0 hz1; obtain ⟨⟨⟨c0, c1⟩, _, _⟩, ⟨⟨d0, d1⟩, _, _⟩, ⟨⟨r0, r1⟩, f0, f1⟩, hz⟩ := H5.out; have hz1 : w.heap.size + 1 < w3.heap.size := (by omega); have hz0 : w.heap.size < w3.heap.size := (by omega); have HT : Hid _ := set_two (x := .int .u64 p) (y := .int .u64 q) r0 r1)))
  refine bodyPost_ret (v := .tuple #[.agg #[.int .u64 p, .int .u64 q], .bool c]) ?_ rfl ⟨rfl, below_set (below_set hbe3 (by omega)) (by omega)⟩
  rw [results_cell_tmp rfl]
  simp [asAddr, Result.andThen]
  rw [run_boxS HT.out.1 HT.out.2]
theorem lref_18 (a A b B : Int) (h : Bool) (w : World) {m : Bool} (HN : Hid (m = holdL 18 0 0)) (HO : Hid (true = isCond 18)) (HR : Hid (true = (decide (a ≤ A) && decide (b ≤ B)))) (HS : Hid (true = (b == B))) (p q : Int) (c : Bool) (HK : Hid (∀ w, Calls Try.prog 44 #[.agg #[.int .u64 a, .int .u64 A], .int .u64 b, .bool h] w fun e w' => e = .returned (.tuple #[.agg #[.int .u64 p, .int .u64 q], .bool c]) ∧ Below w.heap.size w w')) :
    Calls Try.prog 24 #[.int .i64 18, .agg #[.int .u64 a, .int .u64 A], .agg #[.int .u64 b, .int .u64 B], .bool h] w fun e w' => e = .returned (.tuple #[.agg #[.int .u64 p, .int .u64 q], .bool c]) ∧ Below w.heap.size w w' := by
  go_enter Try.func24, Try.ntmps24
  go_wp2_with (first
    | (go_at_call 28; go_must (refine (holds_as HN HO _ (by omega) (by omega)).mono ?_); rintro e w' ⟨rfl, rfl⟩)
    | (go_at_call 29; go_must (refine (two_right HR _ _ (sees_two _ _ a A b B _ (by simp))).mono ?_); rintro e w1 ⟨rfl, hb1⟩; go_must (have H3 : Hid (B3 w1 w.heap.size a A b B) := (b3_new w a A b B).next hb1; obtain ⟨⟨⟨c0, c1⟩, _, _⟩, ⟨⟨d0, d1⟩, _, _⟩, ⟨⟨r0, r1⟩, f0, f1⟩, hz⟩ := H3.out; have hz1 : w.heap.size + 1 < w1.heap.size := (by omega); have hz0 : w.heap.size < w1.heap.size := (by omega); have hbe : Below w.heap.size w w1 := grow4 hb1; clear hb1))
    | (go_at_call 30; go_must (refine (lone_any HS _ _ (sees_one _ _ b B _ (by simp))).mono ?_); rintro e w2 ⟨rfl, hb2⟩; go_must (have H4 : Hid (B3 w2 w.heap.size a A b B) := H3.out.next hb2; have hbe2 : Below w.heap.size w w2 := grow1 hbe (by omega) hb2; clear hb2 hbe H3 c0 c1 d0 d1 r0 r1 f0 f1 hz hz0 hz1; obtain ⟨⟨⟨c0, c1⟩, _, _⟩, ⟨⟨d0, d1⟩, _, _⟩, ⟨⟨r0, r1⟩, f0, f1⟩, hz⟩ := H4.out; have hz1 : w.heap.size + 1 < w2.heap.size := (by omega); have hz0 : w.heap.size < w2.heap.size := (by omega)))
    | (go_at_call 44; go_must (refine (HK.out _).mono ?_); rintro e w3 ⟨rfl, hb3⟩; go_must (have H5 : Hid (B3 w3 w.heap.size a A b B) := H4.out.below hb3; have hbe3 : Below w.heap.size w w3 := hbe2.trans (hb3.mono (by omega)); clear hb3 hbe2 H4 c0 c1 d0 d1 r0 r1 f0 f1 hz hz0 hz1; obtain ⟨⟨⟨c0, c1⟩, _, _⟩, ⟨⟨d0, d1⟩, _, _⟩, ⟨⟨r0, r1⟩, f0, f1⟩, hz⟩ := H5.out; have hz1 : w.heap.size + 1 < w3.heap.size := (by omega); have hz0 : w.heap.size < w3.heap.size := (by omega); have HT : Hid _ := set_two (x := .int .u64 p) (y := .int .u64 q) r0 r1)))
  refine bodyPost_ret (v := .tuple #[.agg #[.int .u64 p, .int .u64 q], .bool c]) ?_ rfl ⟨rfl, below_set (below_set hbe3 (by omega)) (by omega)⟩
  rw [results_cell_tmp rfl]
  simp [asAddr, Result.andThen]
  rw [run_boxS HT.out.1 HT.out.2]
theorem lref_19 (a A b B : Int) (h : Bool) (w : World) {m : Bool} (HN : Hid (m = holdL 19 0 0)) (HO : Hid (true = isCond 19)) (HR : Hid (true = (decide (a ≤ A) && decide (b ≤ B)))) (HS : Hid (true = (b == B))) (p q : Int) (c : Bool) (HK : Hid (∀ w, Calls Try.prog 44 #[.agg #[.int .u64 a, .int .u64 A], .int .u64 b, .bool (!h)] w fun e w' => e = .returned (.tuple #[.agg #[.int .u64 p, .int .u64 q], .bool c]) ∧ Below w.heap.size w w')) :
    Calls Try.prog 24 #[.int .i64 19, .agg #[.int .u64 a, .int .u64 A], .agg #[.int .u64 b, .int .u64 B], .bool h] w fun e w' => e = .returned (.tuple #[.agg #[.int .u64 p, .int .u64 q], .bool c]) ∧ Below w.heap.size w w' := by
  go_enter Try.func24, Try.ntmps24
  go_wp2_with (first
    | (go_at_call 28; go_must (refine (holds_as HN HO _ (by omega) (by omega)).mono ?_); rintro e w' ⟨rfl, rfl⟩)
    | (go_at_call 29; go_must (refine (two_right HR _ _ (sees_two _ _ a A b B _ (by simp))).mono ?_); rintro e w1 ⟨rfl, hb1⟩; go_must (have H3 : Hid (B3 w1 w.heap.size a A b B) := (b3_new w a A b B).next hb1; obtain ⟨⟨⟨c0, c1⟩, _, _⟩, ⟨⟨d0, d1⟩, _, _⟩, ⟨⟨r0, r1⟩, f0, f1⟩, hz⟩ := H3.out; have hz1 : w.heap.size + 1 < w1.heap.size := (by omega); have hz0 : w.heap.size < w1.heap.size := (by omega); have hbe : Below w.heap.size w w1 := grow4 hb1; clear hb1))
    | (go_at_call 30; go_must (refine (lone_any HS _ _ (sees_one _ _ b B _ (by simp))).mono ?_); rintro e w2 ⟨rfl, hb2⟩; go_must (have H4 : Hid (B3 w2 w.heap.size a A b B) := H3.out.next hb2; have hbe2 : Below w.heap.size w w2 := grow1 hbe (by omega) hb2; clear hb2 hbe H3 c0 c1 d0 d1 r0 r1 f0 f1 hz hz0 hz1; obtain ⟨⟨⟨c0, c1⟩, _, _⟩, ⟨⟨d0, d1⟩, _, _⟩, ⟨⟨r0, r1⟩, f0, f1⟩, hz⟩ := H4.out; have hz1 : w.heap.size + 1 < w2.heap.size := (by omega); have hz0 : w.heap.size < w2.heap.size := (by omega)))
    | (go_at_call 44; go_must (refine (HK.out _).mono ?_); rintro e w3 ⟨rfl, hb3⟩; go_must (have H5 : Hid (B3 w3 w.heap.size a A b B) := H4.out.below hb3; have hbe3 : Below w.heap.size w w3 := hbe2.trans (hb3.mono (by omega)); clear hb3 hbe2 H4 c0 c1 d0 d1 r0 r1 f0 f1 hz hz0 hz1; obtain ⟨⟨⟨c0, c1⟩, _, _⟩, ⟨⟨d0, d1⟩, _, _⟩, ⟨⟨r0, r1⟩, f0, f1⟩, hz⟩ := H5.out; have hz1 : w.heap.size + 1 < w3.heap.size := (by omega); have hz0 : w.heap.size < w3.heap.size := (by omega); have HT : Hid _ := set_two (x := .int .u64 p) (y := .int .u64 q) r0 r1)))
  refine bodyPost_ret (v := .tuple #[.agg #[.int .u64 p, .int .u64 q], .bool c]) ?_ rfl ⟨rfl, below_set (below_set hbe3 (by omega)) (by omega)⟩
  rw [results_cell_tmp rfl]
  simp [asAddr, Result.andThen]
  rw [run_boxS HT.out.1 HT.out.2]
end Go.Proofs.Ytammakfpmimljaa
