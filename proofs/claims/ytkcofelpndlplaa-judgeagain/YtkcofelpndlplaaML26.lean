/-
  S6LRefA
  S6LRefine
-/
import Derived.Test.YtkcofelpndlplaaML23
import Derived.Test.YtkcofelpndlplaaML24
import Derived.Test.YtkcofelpndlplaaML25
/-
  What the landed Refine answers, a theorem a way. Condition: spans of numbers of 64 bits.
-/
namespace Go.Proofs.Ytkcofelpndlplaa
open Go.RowKit
set_option linter.unusedVariables false
set_option maxRecDepth 20000

theorem lref_no1 (op : Int) (a A b B : Int) (h : Bool) (w : World) {m : Bool} (HN : Hid (m = holdL op 0 0)) (HO : Hid (false = isCond op)) :
    Calls Try.prog 56 #[.int .i64 op, .agg #[.int .u64 a, .int .u64 A], .agg #[.int .u64 b, .int .u64 B], .bool h] w fun e w' => e = .returned (.tuple #[.agg #[.int .u64 0, .int .u64 0], .bool false]) ∧ Below w.heap.size w w' := by
  go_enter Try.func56, Try.ntmps56
  go_wp2_with (first
    | (go_at_call 61; go_must (refine (holds_as HN HO _ (by omega) (by omega)).mono ?_); rintro e w' ⟨rfl, rfl⟩))
  refine bodyPost_ret (v := .tuple #[.agg #[.int .u64 0, .int .u64 0], .bool false]) ?_ rfl ⟨rfl, by go_grown⟩
  rw [results_cell_tmp rfl]
  simp [asAddr, Result.andThen]
  rw [run_boxS (a := 0) (A := 0)]
  all_goals go_cell
theorem lref_no2 (op : Int) (a A b B : Int) (h : Bool) (w : World) {m : Bool} (HN : Hid (m = holdL op 0 0)) (HO : Hid (true = isCond op)) (HR : Hid (false = (decide (a ≤ A) && decide (b ≤ B)))) :
    Calls Try.prog 56 #[.int .i64 op, .agg #[.int .u64 a, .int .u64 A], .agg #[.int .u64 b, .int .u64 B], .bool h] w fun e w' => e = .returned (.tuple #[.agg #[.int .u64 0, .int .u64 0], .bool false]) ∧ Below w.heap.size w w' := by
  go_enter Try.func56, Try.ntmps56
  go_wp2_with (first
    | (go_at_call 61; go_must (refine (holds_as HN HO _ (by omega) (by omega)).mono ?_); rintro e w' ⟨rfl, rfl⟩)
    | (go_at_call 60; go_must (refine (two_right HR _ _ (sees_two _ _ a A b B _ (by simp))).mono ?_); rintro e w1 ⟨rfl, hb1⟩; go_must (have H3 : Hid (B3 w1 w.heap.size a A b B) := (b3_new w a A b B).next hb1; obtain ⟨⟨⟨c0, c1⟩, _, _⟩, ⟨⟨d0, d1⟩, _, _⟩, ⟨⟨r0, r1⟩, f0, f1⟩, hz⟩ := H3.out; have hz1 : w.heap.size + 1 < w1.heap.size := (by omega); have hz0 : w.heap.size < w1.heap.size := (by omega); have hbe : Below w.heap.size w w1 := grow4 hb1; clear hb1; have HT : Hid _ := set_two (x := .int .u64 0) (y := .int .u64 0) r0 r1)))
  refine bodyPost_ret (v := .tuple #[.agg #[.int .u64 0, .int .u64 0], .bool false]) ?_ rfl ⟨rfl, below_set (below_set hbe (by omega)) (by omega)⟩
  rw [results_cell_tmp rfl]
  simp [asAddr, Result.andThen]
  rw [run_boxS HT.out.1 HT.out.2]
theorem lref_wide (op : Int) (a A b B : Int) (h : Bool) (w : World) {m : Bool} (HN : Hid (m = holdL op 0 0)) (HO : Hid (true = isCond op)) (HR : Hid (true = (decide (a ≤ A) && decide (b ≤ B)))) (HS : Hid (false = (b == B))) :
    Calls Try.prog 56 #[.int .i64 op, .agg #[.int .u64 a, .int .u64 A], .agg #[.int .u64 b, .int .u64 B], .bool h] w fun e w' => e = .returned (.tuple #[.agg #[.int .u64 a, .int .u64 A], .bool true]) ∧ Below w.heap.size w w' := by
  go_enter Try.func56, Try.ntmps56
  go_wp2_with (first
    | (go_at_call 61; go_must (refine (holds_as HN HO _ (by omega) (by omega)).mono ?_); rintro e w' ⟨rfl, rfl⟩)
    | (go_at_call 60; go_must (refine (two_right HR _ _ (sees_two _ _ a A b B _ (by simp))).mono ?_); rintro e w1 ⟨rfl, hb1⟩; go_must (have H3 : Hid (B3 w1 w.heap.size a A b B) := (b3_new w a A b B).next hb1; obtain ⟨⟨⟨c0, c1⟩, _, _⟩, ⟨⟨d0, d1⟩, _, _⟩, ⟨⟨r0, r1⟩, f0, f1⟩, hz⟩ := H3.out; have hz1 : w.heap.size + 1 < w1.heap.size := (by omega); have hz0 : w.heap.size < w1.heap.size := (by omega); have hbe : Below w.heap.size w w1 := grow4 hb1; clear hb1))
    | (go_at_call 62; go_must (refine (lone_any HS _ _ (sees_one _ _ b B _ (by simp))).mono ?_); rintro e w2 ⟨rfl, hb2⟩; go_must (have H4 : Hid (B3 w2 w.heap.size a A b B) := H3.out.next hb2; have hbe2 : Below w.heap.size w w2 := grow1 hbe (by omega) hb2; clear hb2 hbe H3 c0 c1 d0 d1 r0 r1 f0 f1 hz hz0 hz1; obtain ⟨⟨⟨c0, c1⟩, _, _⟩, ⟨⟨d0, d1⟩, _, _⟩, ⟨⟨r0, r1⟩, f0, f1⟩, hz⟩ := H4.out; have hz1 : w.heap.size + 1 < w2.heap.size := (by omega); have hz0 : w.heap.size < w2.heap.size := (by omega); have HT : Hid _ := set_two (x := .int .u64 a) (y := .int .u64 A) r0 r1)))
  refine bodyPost_ret (v := .tuple #[.agg #[.int .u64 a, .int .u64 A], .bool true]) ?_ rfl ⟨rfl, below_set (below_set hbe2 (by omega)) (by omega)⟩
  rw [results_cell_tmp rfl]
  simp [asAddr, Result.andThen]
  rw [run_boxS HT.out.1 HT.out.2]
theorem lref_16 (a A b B : Int) (h : Bool) (w : World) {m : Bool} (HN : Hid (m = holdL 16 0 0)) (HO : Hid (true = isCond 16)) (HR : Hid (true = (decide (a ≤ A) && decide (b ≤ B)))) (HS : Hid (true = (b == B))) (p q : Int) (c : Bool) (HK : Hid (∀ w, Calls Try.prog 63 #[.agg #[.int .u64 a, .int .u64 A], .int .u64 b, .bool h] w fun e w' => e = .returned (.tuple #[.agg #[.int .u64 p, .int .u64 q], .bool c]) ∧ Below w.heap.size w w')) :
    Calls Try.prog 56 #[.int .i64 16, .agg #[.int .u64 a, .int .u64 A], .agg #[.int .u64 b, .int .u64 B], .bool h] w fun e w' => e = .returned (.tuple #[.agg #[.int .u64 p, .int .u64 q], .bool c]) ∧ Below w.heap.size w w' := by
  go_enter Try.func56, Try.ntmps56
  go_wp2_with (first
    | (go_at_call 61; go_must (refine (holds_as HN HO _ (by omega) (by omega)).mono ?_); rintro e w' ⟨rfl, rfl⟩)
    | (go_at_call 60; go_must (refine (two_right HR _ _ (sees_two _ _ a A b B _ (by simp))).mono ?_); rintro e w1 ⟨rfl, hb1⟩; go_must (have H3 : Hid (B3 w1 w.heap.size a A b B) := (b3_new w a A b B).next hb1; obtain ⟨⟨⟨c0, c1⟩, _, _⟩, ⟨⟨d0, d1⟩, _, _⟩, ⟨⟨r0, r1⟩, f0, f1⟩, hz⟩ := H3.out; have hz1 : w.heap.size + 1 < w1.heap.size := (by omega); have hz0 : w.heap.size < w1.heap.size := (by omega); have hbe : Below w.heap.size w w1 := grow4 hb1; clear hb1))
    | (go_at_call 62; go_must (refine (lone_any HS _ _ (sees_one _ _ b B _ (by simp))).mono ?_); rintro e w2 ⟨rfl, hb2⟩; go_must (have H4 : Hid (B3 w2 w.heap.size a A b B) := H3.out.next hb2; have hbe2 : Below w.heap.size w w2 := grow1 hbe (by omega) hb2; clear hb2 hbe H3 c0 c1 d0 d1 r0 r1 f0 f1 hz hz0 hz1; obtain ⟨⟨⟨c0, c1⟩, _, _⟩, ⟨⟨d0, d1⟩, _, _⟩, ⟨⟨r0, r1⟩, f0, f1⟩, hz⟩ := H4.out; have hz1 : w.heap.size + 1 < w2.heap.size := (by omega); have hz0 : w.heap.size < w2.heap.size := (by omega)))
    | (go_at_call 63; go_must (refine (HK.out _).mono ?_); rintro e w3 ⟨rfl, hb3⟩; go_must (have H5 : Hid (B3 w3 w.heap.size a A b B) := H4.out.below hb3; have hbe3 : Below w.heap.size w w3 := hbe2.trans (hb3.mono (by omega)); clear hb3 hbe2 H4 c0 c1 d0 d1 r0 r1 f0 f1 hz hz0 hz1; obtain ⟨⟨⟨c0, c1⟩, _, _⟩, ⟨⟨d0, d1⟩, _, _⟩, ⟨⟨r0, r1⟩, f0, f1⟩, hz⟩ := H5.out; have hz1 : w.heap.size + 1 < w3.heap.size := (by omega); have hz0 : w.heap.size < w3.heap.size := (by omega); have HT : Hid _ := set_two (x := .int .u64 p) (y := .int .u64 q) r0 r1)))
  refine bodyPost_ret (v := .tuple #[.agg #[.int .u64 p, .int .u64 q], .bool c]) ?_ rfl ⟨rfl, below_set (below_set hbe3 (by omega)) (by omega)⟩
  rw [results_cell_tmp rfl]
  simp [asAddr, Result.andThen]
  rw [run_boxS HT.out.1 HT.out.2]
theorem lref_17 (a A b B : Int) (h : Bool) (w : World) {m : Bool} (HN : Hid (m = holdL 17 0 0)) (HO : Hid (true = isCond 17)) (HR : Hid (true = (decide (a ≤ A) && decide (b ≤ B)))) (HS : Hid (true = (b == B))) (p q : Int) (c : Bool) (HK : Hid (∀ w, Calls Try.prog 63 #[.agg #[.int .u64 a, .int .u64 A], .int .u64 b, .bool (!h)] w fun e w' => e = .returned (.tuple #[.agg #[.int .u64 p, .int .u64 q], .bool c]) ∧ Below w.heap.size w w')) :
    Calls Try.prog 56 #[.int .i64 17, .agg #[.int .u64 a, .int .u64 A], .agg #[.int .u64 b, .int .u64 B], .bool h] w fun e w' => e = .returned (.tuple #[.agg #[.int .u64 p, .int .u64 q], .bool c]) ∧ Below w.heap.size w w' := by
  go_enter Try.func56, Try.ntmps56
  go_wp2_with (first
    | (go_at_call 61; go_must (refine (holds_as HN HO _ (by omega) (by omega)).mono ?_); rintro e w' ⟨rfl, rfl⟩)
    | (go_at_call 60; go_must (refine (two_right HR _ _ (sees_two _ _ a A b B _ (by simp))).mono ?_); rintro e w1 ⟨rfl, hb1⟩; go_must (have H3 : Hid (B3 w1 w.heap.size a A b B) := (b3_new w a A b B).next hb1; obtain ⟨⟨⟨c0, c1⟩, _, _⟩, ⟨⟨d0, d1⟩, _, _⟩, ⟨⟨r0, r1⟩, f0, f1⟩, hz⟩ := H3.out; have hz1 : w.heap.size + 1 < w1.heap.size := (by omega); have hz0 : w.heap.size < w1.heap.size := (by omega); have hbe : Below w.heap.size w w1 := grow4 hb1; clear hb1))
    | (go_at_call 62; go_must (refine (lone_any HS _ _ (sees_one _ _ b B _ (by simp))).mono ?_); rintro e w2 ⟨rfl, hb2⟩; go_must (have H4 : Hid (B3 w2 w.heap.size a A b B) := H3.out.next hb2; have hbe2 : Below w.heap.size w w2 := grow1 hbe (by omega) hb2; clear hb2 hbe H3 c0 c1 d0 d1 r0 r1 f0 f1 hz hz0 hz1; obtain ⟨⟨⟨c0, c1⟩, _, _⟩, ⟨⟨d0, d1⟩, _, _⟩, ⟨⟨r0, r1⟩, f0, f1⟩, hz⟩ := H4.out; have hz1 : w.heap.size + 1 < w2.heap.size := (by omega); have hz0 : w.heap.size < w2.heap.size := (by omega)))
    | (go_at_call 63; go_must (refine (HK.out _).mono ?_); rintro e w3 ⟨rfl, hb3⟩; go_must (have H5 : Hid (B3 w3 w.heap.size a A b B) := H4.out.below hb3; have hbe3 : Below w.heap.size w w3 := hbe2.trans (hb3.mono (by omega)); clear hb3 hbe2 H4 c0 c1 d0 d1 r0 r1 f0 f1 hz hz0 hz1; obtain ⟨⟨⟨c0, c1⟩, _, _⟩, ⟨⟨d0, d1⟩, _, _⟩, ⟨⟨r0, r1⟩, f0, f1⟩, hz⟩ := H5.out; have hz1 : w.heap.size + 1 < w3.heap.size := (by omega); have hz0 : w.heap.size < w3.heap.size := (by omega); have HT : Hid _ := set_two (x := .int .u64 p) (y := .int .u64 q) r0 r1)))
  refine bodyPost_ret (v := .tuple #[.agg #[.int .u64 p, .int .u64 q], .bool c]) ?_ rfl ⟨rfl, below_set (below_set hbe3 (by omega)) (by omega)⟩
  rw [results_cell_tmp rfl]
  simp [asAddr, Result.andThen]
  rw [run_boxS HT.out.1 HT.out.2]
theorem lref_18 (a A b B : Int) (h : Bool) (w : World) {m : Bool} (HN : Hid (m = holdL 18 0 0)) (HO : Hid (true = isCond 18)) (HR : Hid (true = (decide (a ≤ A) && decide (b ≤ B)))) (HS : Hid (true = (b == B))) (p q : Int) (c : Bool) (HK : Hid (∀ w, Calls Try.prog 64 #[.agg #[.int .u64 a, .int .u64 A], .int .u64 b, .bool h] w fun e w' => e = .returned (.tuple #[.agg #[.int .u64 p, .int .u64 q], .bool c]) ∧ Below w.heap.size w w')) :
    Calls Try.prog 56 #[.int .i64 18, .agg #[.int .u64 a, .int .u64 A], .agg #[.int .u64 b, .int .u64 B], .bool h] w fun e w' => e = .returned (.tuple #[.agg #[.int .u64 p, .int .u64 q], .bool c]) ∧ Below w.heap.size w w' := by
  go_enter Try.func56, Try.ntmps56
  go_wp2_with (first
    | (go_at_call 61; go_must (refine (holds_as HN HO _ (by omega) (by omega)).mono ?_); rintro e w' ⟨rfl, rfl⟩)
    | (go_at_call 60; go_must (refine (two_right HR _ _ (sees_two _ _ a A b B _ (by simp))).mono ?_); rintro e w1 ⟨rfl, hb1⟩; go_must (have H3 : Hid (B3 w1 w.heap.size a A b B) := (b3_new w a A b B).next hb1; obtain ⟨⟨⟨c0, c1⟩, _, _⟩, ⟨⟨d0, d1⟩, _, _⟩, ⟨⟨r0, r1⟩, f0, f1⟩, hz⟩ := H3.out; have hz1 : w.heap.size + 1 < w1.heap.size := (by omega); have hz0 : w.heap.size < w1.heap.size := (by omega); have hbe : Below w.heap.size w w1 := grow4 hb1; clear hb1))
    | (go_at_call 62; go_must (refine (lone_any HS _ _ (sees_one _ _ b B _ (by simp))).mono ?_); rintro e w2 ⟨rfl, hb2⟩; go_must (have H4 : Hid (B3 w2 w.heap.size a A b B) := H3.out.next hb2; have hbe2 : Below w.heap.size w w2 := grow1 hbe (by omega) hb2; clear hb2 hbe H3 c0 c1 d0 d1 r0 r1 f0 f1 hz hz0 hz1; obtain ⟨⟨⟨c0, c1⟩, _, _⟩, ⟨⟨d0, d1⟩, _, _⟩, ⟨⟨r0, r1⟩, f0, f1⟩, hz⟩ := H4.out; have hz1 : w.heap.size + 1 < w2.heap.size := (by omega); have hz0 : w.heap.size < w2.heap.size := (by omega)))
    | (go_at_call 64; go_must (refine (HK.out _).mono ?_); rintro e w3 ⟨rfl, hb3⟩; go_must (have H5 : Hid (B3 w3 w.heap.size a A b B) := H4.out.below hb3; have hbe3 : Below w.heap.size w w3 := hbe2.trans (hb3.mono (by omega)); clear hb3 hbe2 H4 c0 c1 d0 d1 r0 r1 f0 f1 hz hz0 hz1; obtain ⟨⟨⟨c0, c1⟩, _, _⟩, ⟨⟨d0, d1⟩, _, _⟩, ⟨⟨r0, r1⟩, f0, f1⟩, hz⟩ := H5.out; have hz1 : w.heap.size + 1 < w3.heap.size := (by omega); have hz0 : w.heap.size < w3.heap.size := (by omega); have HT : Hid _ := set_two (x := .int .u64 p) (y := .int .u64 q) r0 r1)))
  refine bodyPost_ret (v := .tuple #[.agg #[.int .u64 p, .int .u64 q], .bool c]) ?_ rfl ⟨rfl, below_set (below_set hbe3 (by omega)) (by omega)⟩
  rw [results_cell_tmp rfl]
  simp [asAddr, Result.andThen]
  rw [run_boxS HT.out.1 HT.out.2]
theorem lref_19 (a A b B : Int) (h : Bool) (w : World) {m : Bool} (HN : Hid (m = holdL 19 0 0)) (HO : Hid (true = isCond 19)) (HR : Hid (true = (decide (a ≤ A) && decide (b ≤ B)))) (HS : Hid (true = (b == B))) (p q : Int) (c : Bool) (HK : Hid (∀ w, Calls Try.prog 64 #[.agg #[.int .u64 a, .int .u64 A], .int .u64 b, .bool (!h)] w fun e w' => e = .returned (.tuple #[.agg #[.int .u64 p, .int .u64 q], .bool c]) ∧ Below w.heap.size w w')) :
    Calls Try.prog 56 #[.int .i64 19, .agg #[.int .u64 a, .int .u64 A], .agg #[.int .u64 b, .int .u64 B], .bool h] w fun e w' => e = .returned (.tuple #[.agg #[.int .u64 p, .int .u64 q], .bool c]) ∧ Below w.heap.size w w' := by
  go_enter Try.func56, Try.ntmps56
  go_wp2_with (first
    | (go_at_call 61; go_must (refine (holds_as HN HO _ (by omega) (by omega)).mono ?_); rintro e w' ⟨rfl, rfl⟩)
    | (go_at_call 60; go_must (refine (two_right HR _ _ (sees_two _ _ a A b B _ (by simp))).mono ?_); rintro e w1 ⟨rfl, hb1⟩; go_must (have H3 : Hid (B3 w1 w.heap.size a A b B) := (b3_new w a A b B).next hb1; obtain ⟨⟨⟨c0, c1⟩, _, _⟩, ⟨⟨d0, d1⟩, _, _⟩, ⟨⟨r0, r1⟩, f0, f1⟩, hz⟩ := H3.out; have hz1 : w.heap.size + 1 < w1.heap.size := (by omega); have hz0 : w.heap.size < w1.heap.size := (by omega); have hbe : Below w.heap.size w w1 := grow4 hb1; clear hb1))
    | (go_at_call 62; go_must (refine (lone_any HS _ _ (sees_one _ _ b B _ (by simp))).mono ?_); rintro e w2 ⟨rfl, hb2⟩; go_must (have H4 : Hid (B3 w2 w.heap.size a A b B) := H3.out.next hb2; have hbe2 : Below w.heap.size w w2 := grow1 hbe (by omega) hb2; clear hb2 hbe H3 c0 c1 d0 d1 r0 r1 f0 f1 hz hz0 hz1; obtain ⟨⟨⟨c0, c1⟩, _, _⟩, ⟨⟨d0, d1⟩, _, _⟩, ⟨⟨r0, r1⟩, f0, f1⟩, hz⟩ := H4.out; have hz1 : w.heap.size + 1 < w2.heap.size := (by omega); have hz0 : w.heap.size < w2.heap.size := (by omega)))
    | (go_at_call 64; go_must (refine (HK.out _).mono ?_); rintro e w3 ⟨rfl, hb3⟩; go_must (have H5 : Hid (B3 w3 w.heap.size a A b B) := H4.out.below hb3; have hbe3 : Below w.heap.size w w3 := hbe2.trans (hb3.mono (by omega)); clear hb3 hbe2 H4 c0 c1 d0 d1 r0 r1 f0 f1 hz hz0 hz1; obtain ⟨⟨⟨c0, c1⟩, _, _⟩, ⟨⟨d0, d1⟩, _, _⟩, ⟨⟨r0, r1⟩, f0, f1⟩, hz⟩ := H5.out; have hz1 : w.heap.size + 1 < w3.heap.size := (by omega); have hz0 : w.heap.size < w3.heap.size := (by omega); have HT : Hid _ := set_two (x := .int .u64 p) (y := .int .u64 q) r0 r1)))
  refine bodyPost_ret (v := .tuple #[.agg #[.int .u64 p, .int .u64 q], .bool c]) ?_ rfl ⟨rfl, below_set (below_set hbe3 (by omega)) (by omega)⟩
  rw [results_cell_tmp rfl]
  simp [asAddr, Result.andThen]
  rw [run_boxS HT.out.1 HT.out.2]
end Go.Proofs.Ytkcofelpndlplaa
/-
  What the landed Refine answers; the landed functions as the laws' walks ask for them. Condition: spans of numbers of 64 bits.
-/
namespace Go.Proofs.Ytkcofelpndlplaa
open Go.RowKit
set_option linter.unusedVariables false
set_option maxRecDepth 20000

theorem isCond_eq (op : Int) : isCond op = decide (16 ≤ op ∧ op ≤ 19) := rfl
theorem lequal_any (a A n : Int) (h : Bool) (w : World) (ha : W64 a) (hA : W64 A) (hn : W64 n) (haA : a ≤ A) :
    Calls Try.prog 63 #[.agg #[.int .u64 a, .int .u64 A], .int .u64 n, .bool h] w fun e w' => e = .returned (optV (if h = true then (if a ≤ n ∧ n ≤ A then some (n, n) else none) else if a = n ∧ A = n then none else if a = n then some (n + 1, A) else if A = n then some (a, n - 1) else some (a, A))) ∧ Below w.heap.size w w' := by
  have hn' : 0 ≤ n ∧ n ≤ 18446744073709551615 := hn
  have ha' : 0 ≤ a ∧ a ≤ 18446744073709551615 := ha
  have hA' : 0 ≤ A ∧ A ≤ 18446744073709551615 := hA
  cases h
  · rw [if_neg (by simp)]
    by_cases h1 : a = n ∧ A = n
    · rw [if_pos h1]
      obtain ⟨rfl, rfl⟩ := h1
      exact lequal_none _ w
    rw [if_neg h1]
    by_cases h2 : a = n
    · rw [if_pos h2]
      subst h2
      exact lequal_lo A a w (by simp; omega) (wrap_in (by omega) (by omega))
    rw [if_neg h2]
    by_cases h3 : A = n
    · rw [if_pos h3]
      subst h3
      exact lequal_hi a A w (by simpa using h2) (wrap_in (by omega) (by omega))
    · rw [if_neg h3]
      exact lequal_far a A n w (by simpa using h2) (by simpa using h3)
  · rw [if_pos rfl]
    have e : (if a ≤ n ∧ n ≤ A then some (n, n) else none) = meetO a A n n := by
      unfold meetO
      by_cases hc : a ≤ n ∧ n ≤ A
      · rw [if_pos hc, if_pos (by omega), Int.max_eq_right hc.1, Int.min_eq_right hc.2]
      · rw [if_neg hc, if_neg (by omega)]
    rw [e]
    exact lequal_yes a A n w ha hA hn
theorem lbelow_any (a A n : Int) (h : Bool) (w : World) (ha : W64 a) (hA : W64 A) (hn : W64 n) (haA : a ≤ A) :
    Calls Try.prog 64 #[.agg #[.int .u64 a, .int .u64 A], .int .u64 n, .bool h] w fun e w' => e = .returned (optV (if h = true then (if n ≤ a then none else some (a, min A (n - 1))) else if A < n then none else some (max a n, A))) ∧ Below w.heap.size w w' := by
  have hn' : 0 ≤ n ∧ n ≤ 18446744073709551615 := hn
  have ha' : 0 ≤ a ∧ a ≤ 18446744073709551615 := ha
  have hA' : 0 ≤ A ∧ A ≤ 18446744073709551615 := hA
  cases h
  · rw [if_neg (by simp)]
    have e : (if A < n then none else some (max a n, A)) = meetO a A n 18446744073709551615 := by
      unfold meetO
      rw [Int.min_eq_left hA'.2]
      by_cases hc : A < n
      · rw [if_pos hc, if_neg (by omega)]
      · rw [if_neg hc, if_pos (by omega)]
    rw [e]
    exact lbelow_from a A n w ha hA hn
  · rw [if_pos rfl]
    by_cases h0 : n = 0
    · subst h0
      rw [if_pos ha'.1]
      exact lbelow_zero a A w
    · have e : (if n ≤ a then none else some (a, min A (n - 1))) = meetO a A 0 (n - 1) := by
        unfold meetO
        rw [Int.max_eq_left ha'.1]
        by_cases hc : n ≤ a
        · rw [if_pos hc, if_neg (by omega)]
        · rw [if_neg hc, if_pos (by omega)]
      rw [e]
      exact lbelow_less a A n w ha hA hn (by simpa using h0)
/-- The landed Refine. -/
theorem lrefine_any : KRefine := by
  intro op a A b B h w ha hA hb hB
  obtain ⟨m, HN⟩ : ∃ m, Hid (m = holdL op 0 0) := ⟨_, rfl⟩
  unfold refineR
  by_cases c1 : 16 ≤ op ∧ op ≤ 19
  case neg => rw [if_neg (fun h => c1 h.1)]; exact lref_no1 op a A b B h w HN (by show _ = _; rw [isCond_eq, decide_eq_false c1])
  have HO : Hid (true = isCond op) := by show _ = _; rw [isCond_eq, decide_eq_true c1]
  by_cases c2 : a ≤ A ∧ b ≤ B
  case neg =>
    rw [if_neg (fun h => c2 h.2)]
    exact lref_no2 op a A b B h w HN HO (by show _ = _; rw [← Bool.decide_and, decide_eq_false c2])
  have HR : Hid (true = (decide (a ≤ A) && decide (b ≤ B))) := by show _ = _; rw [← Bool.decide_and, decide_eq_true c2]
  rw [if_pos ⟨c1, c2⟩]
  by_cases hs : b = B
  case neg =>
    have e : refineL op a A b B h = some (a, A) := by unfold refineL; rw [if_pos hs]
    rw [e]
    exact lref_wide op a A b B h w HN HO HR (by show _ = _; symm; simpa using hs)
  subst hs
  have HS : Hid (true = (b == b)) := by show _ = _; simp
  have c : op = 16 ∨ op = 17 ∨ op = 18 ∨ op = 19 := by omega
  rcases c with rfl | rfl | rfl | rfl
  · have e : refineL 16 a A b b h = (if h = true then (if a ≤ b ∧ b ≤ A then some (b, b) else none) else if a = b ∧ A = b then none else if a = b then some (b + 1, A) else if A = b then some (a, b - 1) else some (a, A)) := by
      unfold refineL; rw [if_neg (by simp)]; cases h <;> rfl
    rw [e]
    obtain ⟨p, q, c, HP⟩ := optV_as (if h = true then (if a ≤ b ∧ b ≤ A then some (b, b) else none) else if a = b ∧ A = b then none else if a = b then some (b + 1, A) else if A = b then some (a, b - 1) else some (a, A))
    rw [HP.out]
    exact lref_16 a A b b h w HN HO HR HS p q c (fun w => by rw [← HP.out]; exact lequal_any a A b h w ha hA hb c2.1)
  · have e : refineL 17 a A b b h = (if (!h) = true then (if a ≤ b ∧ b ≤ A then some (b, b) else none) else if a = b ∧ A = b then none else if a = b then some (b + 1, A) else if A = b then some (a, b - 1) else some (a, A)) := by
      unfold refineL; rw [if_neg (by simp)]; cases h <;> rfl
    rw [e]
    obtain ⟨p, q, c, HP⟩ := optV_as (if (!h) = true then (if a ≤ b ∧ b ≤ A then some (b, b) else none) else if a = b ∧ A = b then none else if a = b then some (b + 1, A) else if A = b then some (a, b - 1) else some (a, A))
    rw [HP.out]
    exact lref_17 a A b b h w HN HO HR HS p q c (fun w => by rw [← HP.out]; exact lequal_any a A b (!h) w ha hA hb c2.1)
  · have e : refineL 18 a A b b h = (if h = true then (if b ≤ a then none else some (a, min A (b - 1))) else if A < b then none else some (max a b, A)) := by
      unfold refineL; rw [if_neg (by simp)]; cases h <;> rfl
    rw [e]
    obtain ⟨p, q, c, HP⟩ := optV_as (if h = true then (if b ≤ a then none else some (a, min A (b - 1))) else if A < b then none else some (max a b, A))
    rw [HP.out]
    exact lref_18 a A b b h w HN HO HR HS p q c (fun w => by rw [← HP.out]; exact lbelow_any a A b h w ha hA hb c2.1)
  · have e : refineL 19 a A b b h = (if (!h) = true then (if b ≤ a then none else some (a, min A (b - 1))) else if A < b then none else some (max a b, A)) := by
      unfold refineL; rw [if_neg (by simp)]; cases h <;> rfl
    rw [e]
    obtain ⟨p, q, c, HP⟩ := optV_as (if (!h) = true then (if b ≤ a then none else some (a, min A (b - 1))) else if A < b then none else some (max a b, A))
    rw [HP.out]
    exact lref_19 a A b b h w HN HO HR HS p q c (fun w => by rw [← HP.out]; exact lbelow_any a A b (!h) w ha hA hb c2.1)
theorem kjoin : KJoin := fun v ss w hs hwf => ljoin_any v ss w hs hwf
theorem kmeet : KMeet := fun v ss w hs hwf => lmeet_any v ss w hs hwf
theorem kfull : KFull := fun w => lfull_any w
theorem ksingle : KSingle := fun n w _ => lsingle_any n w
end Go.Proofs.Ytkcofelpndlplaa
