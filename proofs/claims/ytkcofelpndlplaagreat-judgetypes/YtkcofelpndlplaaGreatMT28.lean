/-
  S6RDoA
  S6RDoB
-/
import Derived.Test.YtkcofelpndlplaaGreatMT15
import Derived.Test.YtkcofelpndlplaaGreatMT14
import Derived.Deep.RegionWith
namespace Go.Proofs.YtkcofelpndlplaaGreat
open Go.RowKit
set_option linter.unusedVariables false
set_option maxRecDepth 20000
theorem sdo_add1 (a A b B : Int) (w : World) (ha : 0 <= a /\ a <= A /\ A <= 18446744073709551615) (hb : 0 <= b /\ b <= B /\ B <= 18446744073709551615) (hs : (a == A) = false) (h : A <= 18446744073709551615 - B) :
  Calls Tryz.prog 87 #[.int .i64 1, .agg #[.int .u64 a, .int .u64 A], .agg #[.int .u64 b, .int .u64 B]] w fun e w' => e = .returned (.tuple #[.agg #[.int .u64 (a + b), .int .u64 (A + B)], .bool true]) /\ Below w.heap.size w w' := by
 have h1 : decide (a <= A) = true := decide_eq_true ha.2.1
 have h2 : decide (b <= B) = true := decide_eq_true hb.2.1
 go_enter Tryz.func87, Tryz.ntmps87
 go_wp2_with (first
  | (go_at_call 90; go_must (refine (qAd _ _ _).mono ?_); rintro e w' ⟨rfl, rfl⟩)
  | (go_at_call 104; go_must (refine (qAp _ _ _ (by omega) (by omega)).mono ?_); rintro e w' ⟨rfl, rfl⟩)
  | (go_at_call 105; go_must (refine (qAq _ _ (by omega)).mono ?_); rintro e w' ⟨rfl, rfl⟩))
 all_goals refine bodyPost_ret (v := .tuple #[.agg #[.int .u64 (a + b), .int .u64 (A + B)], .bool true]) ?_ rfl ⟨rfl, by go_grown⟩
 all_goals rw [results_cell_tmp rfl]
 all_goals simp [asAddr, Result.andThen]
 all_goals rw [qAb (a := a + b) (A := A + B)]
 all_goals go_cell
theorem sdo_add1s (a b B : Int) (w : World) (ha : 0 <= a /\ a <= a /\ a <= 18446744073709551615) (hb : 0 <= b /\ b <= B /\ B <= 18446744073709551615) (hs : (b == B) = false) (h : a <= 18446744073709551615 - B) :
  Calls Tryz.prog 87 #[.int .i64 1, .agg #[.int .u64 a, .int .u64 a], .agg #[.int .u64 b, .int .u64 B]] w fun e w' => e = .returned (.tuple #[.agg #[.int .u64 (a + b), .int .u64 (a + B)], .bool true]) /\ Below w.heap.size w w' := by
 have h1 : decide (a <= a) = true := decide_eq_true ha.2.1
 have h2 : decide (b <= B) = true := decide_eq_true hb.2.1
 go_enter Tryz.func87, Tryz.ntmps87
 go_wp2_with (first
  | (go_at_call 90; go_must (refine (qAd _ _ _).mono ?_); rintro e w' ⟨rfl, rfl⟩)
  | (go_at_call 104; go_must (refine (qAp _ _ _ (by omega) (by omega)).mono ?_); rintro e w' ⟨rfl, rfl⟩)
  | (go_at_call 105; go_must (refine (qAq _ _ (by omega)).mono ?_); rintro e w' ⟨rfl, rfl⟩))
 all_goals refine bodyPost_ret (v := .tuple #[.agg #[.int .u64 (a + b), .int .u64 (a + B)], .bool true]) ?_ rfl ⟨rfl, by go_grown⟩
 all_goals rw [results_cell_tmp rfl]
 all_goals simp [asAddr, Result.andThen]
 all_goals rw [qAb (a := a + b) (A := a + B)]
 all_goals go_cell
theorem sdo_add2 (a A b B : Int) (w : World) (ha : 0 <= a /\ a <= A /\ A <= 18446744073709551615) (hb : 0 <= b /\ b <= B /\ B <= 18446744073709551615) (hs : (a == A) = false) (h : 18446744073709551615 - B < A) :
  Calls Tryz.prog 87 #[.int .i64 1, .agg #[.int .u64 a, .int .u64 A], .agg #[.int .u64 b, .int .u64 B]] w fun e w' => e = .returned (.tuple #[.agg #[.int .u64 (0), .int .u64 (18446744073709551615)], .bool true]) /\ Below w.heap.size w w' := by
 have h1 : decide (a <= A) = true := decide_eq_true ha.2.1
 have h2 : decide (b <= B) = true := decide_eq_true hb.2.1
 go_enter Tryz.func87, Tryz.ntmps87
 go_wp2_with (first
  | (go_at_call 90; go_must (refine (qAd _ _ _).mono ?_); rintro e w' ⟨rfl, rfl⟩)
  | (go_at_call 104; go_must (refine (qAp _ _ _ (by omega) (by omega)).mono ?_); rintro e w' ⟨rfl, rfl⟩)
  | (go_at_call 105; go_must (refine (qAq _ _ (by omega)).mono ?_); rintro e w' ⟨rfl, rfl⟩))
 all_goals refine bodyPost_ret (v := .tuple #[.agg #[.int .u64 (0), .int .u64 (18446744073709551615)], .bool true]) ?_ rfl ⟨rfl, by go_grown⟩
 all_goals rw [results_cell_tmp rfl]
 all_goals simp [asAddr, Result.andThen]
 all_goals rw [qAb (a := 0) (A := 18446744073709551615)]
 all_goals go_cell
theorem sdo_add2s (a b B : Int) (w : World) (ha : 0 <= a /\ a <= a /\ a <= 18446744073709551615) (hb : 0 <= b /\ b <= B /\ B <= 18446744073709551615) (hs : (b == B) = false) (h : 18446744073709551615 - B < a) :
  Calls Tryz.prog 87 #[.int .i64 1, .agg #[.int .u64 a, .int .u64 a], .agg #[.int .u64 b, .int .u64 B]] w fun e w' => e = .returned (.tuple #[.agg #[.int .u64 (0), .int .u64 (18446744073709551615)], .bool true]) /\ Below w.heap.size w w' := by
 have h1 : decide (a <= a) = true := decide_eq_true ha.2.1
 have h2 : decide (b <= B) = true := decide_eq_true hb.2.1
 go_enter Tryz.func87, Tryz.ntmps87
 go_wp2_with (first
  | (go_at_call 90; go_must (refine (qAd _ _ _).mono ?_); rintro e w' ⟨rfl, rfl⟩)
  | (go_at_call 104; go_must (refine (qAp _ _ _ (by omega) (by omega)).mono ?_); rintro e w' ⟨rfl, rfl⟩)
  | (go_at_call 105; go_must (refine (qAq _ _ (by omega)).mono ?_); rintro e w' ⟨rfl, rfl⟩))
 all_goals refine bodyPost_ret (v := .tuple #[.agg #[.int .u64 (0), .int .u64 (18446744073709551615)], .bool true]) ?_ rfl ⟨rfl, by go_grown⟩
 all_goals rw [results_cell_tmp rfl]
 all_goals simp [asAddr, Result.andThen]
 all_goals rw [qAb (a := 0) (A := 18446744073709551615)]
 all_goals go_cell
theorem sdo_sub1 (a A b B : Int) (w : World) (ha : 0 <= a /\ a <= A /\ A <= 18446744073709551615) (hb : 0 <= b /\ b <= B /\ B <= 18446744073709551615) (hs : (a == A) = false) (h : B <= a) :
  Calls Tryz.prog 87 #[.int .i64 2, .agg #[.int .u64 a, .int .u64 A], .agg #[.int .u64 b, .int .u64 B]] w fun e w' => e = .returned (.tuple #[.agg #[.int .u64 (a - B), .int .u64 (A - b)], .bool true]) /\ Below w.heap.size w w' := by
 have h1 : decide (a <= A) = true := decide_eq_true ha.2.1
 have h2 : decide (b <= B) = true := decide_eq_true hb.2.1
 go_enter Tryz.func87, Tryz.ntmps87
 go_wp2_with (first
  | (go_at_call 90; go_must (refine (qAd _ _ _).mono ?_); rintro e w' ⟨rfl, rfl⟩)
  | (go_at_call 104; go_must (refine (qAp _ _ _ (by omega) (by omega)).mono ?_); rintro e w' ⟨rfl, rfl⟩)
  | (go_at_call 105; go_must (refine (qAq _ _ (by omega)).mono ?_); rintro e w' ⟨rfl, rfl⟩))
 all_goals refine bodyPost_ret (v := .tuple #[.agg #[.int .u64 (a - B), .int .u64 (A - b)], .bool true]) ?_ rfl ⟨rfl, by go_grown⟩
 all_goals rw [results_cell_tmp rfl]
 all_goals simp [asAddr, Result.andThen]
 all_goals rw [qAb (a := a - B) (A := A - b)]
 all_goals go_cell
theorem sdo_sub1s (a b B : Int) (w : World) (ha : 0 <= a /\ a <= a /\ a <= 18446744073709551615) (hb : 0 <= b /\ b <= B /\ B <= 18446744073709551615) (hs : (b == B) = false) (h : B <= a) :
  Calls Tryz.prog 87 #[.int .i64 2, .agg #[.int .u64 a, .int .u64 a], .agg #[.int .u64 b, .int .u64 B]] w fun e w' => e = .returned (.tuple #[.agg #[.int .u64 (a - B), .int .u64 (a - b)], .bool true]) /\ Below w.heap.size w w' := by
 have h1 : decide (a <= a) = true := decide_eq_true ha.2.1
 have h2 : decide (b <= B) = true := decide_eq_true hb.2.1
 go_enter Tryz.func87, Tryz.ntmps87
 go_wp2_with (first
  | (go_at_call 90; go_must (refine (qAd _ _ _).mono ?_); rintro e w' ⟨rfl, rfl⟩)
  | (go_at_call 104; go_must (refine (qAp _ _ _ (by omega) (by omega)).mono ?_); rintro e w' ⟨rfl, rfl⟩)
  | (go_at_call 105; go_must (refine (qAq _ _ (by omega)).mono ?_); rintro e w' ⟨rfl, rfl⟩))
 all_goals refine bodyPost_ret (v := .tuple #[.agg #[.int .u64 (a - B), .int .u64 (a - b)], .bool true]) ?_ rfl ⟨rfl, by go_grown⟩
 all_goals rw [results_cell_tmp rfl]
 all_goals simp [asAddr, Result.andThen]
 all_goals rw [qAb (a := a - B) (A := a - b)]
 all_goals go_cell
theorem sdo_sub2 (a A b B : Int) (w : World) (ha : 0 <= a /\ a <= A /\ A <= 18446744073709551615) (hb : 0 <= b /\ b <= B /\ B <= 18446744073709551615) (hs : (a == A) = false) (h : a < B) :
  Calls Tryz.prog 87 #[.int .i64 2, .agg #[.int .u64 a, .int .u64 A], .agg #[.int .u64 b, .int .u64 B]] w fun e w' => e = .returned (.tuple #[.agg #[.int .u64 (0), .int .u64 (18446744073709551615)], .bool true]) /\ Below w.heap.size w w' := by
 have h1 : decide (a <= A) = true := decide_eq_true ha.2.1
 have h2 : decide (b <= B) = true := decide_eq_true hb.2.1
 go_enter Tryz.func87, Tryz.ntmps87
 go_wp2_with (first
  | (go_at_call 90; go_must (refine (qAd _ _ _).mono ?_); rintro e w' ⟨rfl, rfl⟩)
  | (go_at_call 104; go_must (refine (qAp _ _ _ (by omega) (by omega)).mono ?_); rintro e w' ⟨rfl, rfl⟩)
  | (go_at_call 105; go_must (refine (qAq _ _ (by omega)).mono ?_); rintro e w' ⟨rfl, rfl⟩))
 all_goals refine bodyPost_ret (v := .tuple #[.agg #[.int .u64 (0), .int .u64 (18446744073709551615)], .bool true]) ?_ rfl ⟨rfl, by go_grown⟩
 all_goals rw [results_cell_tmp rfl]
 all_goals simp [asAddr, Result.andThen]
 all_goals rw [qAb (a := 0) (A := 18446744073709551615)]
 all_goals go_cell
theorem sdo_sub2s (a b B : Int) (w : World) (ha : 0 <= a /\ a <= a /\ a <= 18446744073709551615) (hb : 0 <= b /\ b <= B /\ B <= 18446744073709551615) (hs : (b == B) = false) (h : a < B) :
  Calls Tryz.prog 87 #[.int .i64 2, .agg #[.int .u64 a, .int .u64 a], .agg #[.int .u64 b, .int .u64 B]] w fun e w' => e = .returned (.tuple #[.agg #[.int .u64 (0), .int .u64 (18446744073709551615)], .bool true]) /\ Below w.heap.size w w' := by
 have h1 : decide (a <= a) = true := decide_eq_true ha.2.1
 have h2 : decide (b <= B) = true := decide_eq_true hb.2.1
 go_enter Tryz.func87, Tryz.ntmps87
 go_wp2_with (first
  | (go_at_call 90; go_must (refine (qAd _ _ _).mono ?_); rintro e w' ⟨rfl, rfl⟩)
  | (go_at_call 104; go_must (refine (qAp _ _ _ (by omega) (by omega)).mono ?_); rintro e w' ⟨rfl, rfl⟩)
  | (go_at_call 105; go_must (refine (qAq _ _ (by omega)).mono ?_); rintro e w' ⟨rfl, rfl⟩))
 all_goals refine bodyPost_ret (v := .tuple #[.agg #[.int .u64 (0), .int .u64 (18446744073709551615)], .bool true]) ?_ rfl ⟨rfl, by go_grown⟩
 all_goals rw [results_cell_tmp rfl]
 all_goals simp [asAddr, Result.andThen]
 all_goals rw [qAb (a := 0) (A := 18446744073709551615)]
 all_goals go_cell
theorem sdo_mul1 (a A b B : Int) (w : World) (ha : 0 <= a /\ a <= A /\ A <= 18446744073709551615) (hb : 0 <= b /\ b <= B /\ B <= 18446744073709551615) (hs : (a == A) = false) (h : decide (18446744073709551615 < A * B) = false) (hX : IntKind.u64.wrap (a * b) = a * b) (hY : IntKind.u64.wrap (A * B) = A * B) :
  Calls Tryz.prog 87 #[.int .i64 3, .agg #[.int .u64 a, .int .u64 A], .agg #[.int .u64 b, .int .u64 B]] w fun e w' => e = .returned (.tuple #[.agg #[.int .u64 (a * b), .int .u64 (A * B)], .bool true]) /\ Below w.heap.size w w' := by
 have h1 : decide (a <= A) = true := decide_eq_true ha.2.1
 have h2 : decide (b <= B) = true := decide_eq_true hb.2.1
 go_enter Tryz.func87, Tryz.ntmps87
 go_wp2_with (first
  | (go_at_call 90; go_must (refine (qAd _ _ _).mono ?_); rintro e w' ⟨rfl, rfl⟩)
  | (go_at_call 104; go_must (refine (qAp _ _ _ (by omega) (by omega)).mono ?_); rintro e w' ⟨rfl, rfl⟩)
  | (go_at_call 105; go_must (refine (qAq _ _ (by omega)).mono ?_); rintro e w' ⟨rfl, rfl⟩))
 all_goals refine bodyPost_ret (v := .tuple #[.agg #[.int .u64 (a * b), .int .u64 (A * B)], .bool true]) ?_ rfl ⟨rfl, by go_grown⟩
 all_goals rw [results_cell_tmp rfl]
 all_goals simp [asAddr, Result.andThen]
 all_goals rw [qAb (a := a * b) (A := A * B)]
 all_goals go_cell
theorem sdo_mul1s (a b B : Int) (w : World) (ha : 0 <= a /\ a <= a /\ a <= 18446744073709551615) (hb : 0 <= b /\ b <= B /\ B <= 18446744073709551615) (hs : (b == B) = false) (h : decide (18446744073709551615 < a * B) = false) (hX : IntKind.u64.wrap (a * b) = a * b) (hY : IntKind.u64.wrap (a * B) = a * B) :
  Calls Tryz.prog 87 #[.int .i64 3, .agg #[.int .u64 a, .int .u64 a], .agg #[.int .u64 b, .int .u64 B]] w fun e w' => e = .returned (.tuple #[.agg #[.int .u64 (a * b), .int .u64 (a * B)], .bool true]) /\ Below w.heap.size w w' := by
 have h1 : decide (a <= a) = true := decide_eq_true ha.2.1
 have h2 : decide (b <= B) = true := decide_eq_true hb.2.1
 go_enter Tryz.func87, Tryz.ntmps87
 go_wp2_with (first
  | (go_at_call 90; go_must (refine (qAd _ _ _).mono ?_); rintro e w' ⟨rfl, rfl⟩)
  | (go_at_call 104; go_must (refine (qAp _ _ _ (by omega) (by omega)).mono ?_); rintro e w' ⟨rfl, rfl⟩)
  | (go_at_call 105; go_must (refine (qAq _ _ (by omega)).mono ?_); rintro e w' ⟨rfl, rfl⟩))
 all_goals refine bodyPost_ret (v := .tuple #[.agg #[.int .u64 (a * b), .int .u64 (a * B)], .bool true]) ?_ rfl ⟨rfl, by go_grown⟩
 all_goals rw [results_cell_tmp rfl]
 all_goals simp [asAddr, Result.andThen]
 all_goals rw [qAb (a := a * b) (A := a * B)]
 all_goals go_cell
theorem sdo_mul2 (a A b B : Int) (w : World) (ha : 0 <= a /\ a <= A /\ A <= 18446744073709551615) (hb : 0 <= b /\ b <= B /\ B <= 18446744073709551615) (hs : (a == A) = false) (h : decide (18446744073709551615 < A * B) = true) :
  Calls Tryz.prog 87 #[.int .i64 3, .agg #[.int .u64 a, .int .u64 A], .agg #[.int .u64 b, .int .u64 B]] w fun e w' => e = .returned (.tuple #[.agg #[.int .u64 (0), .int .u64 (18446744073709551615)], .bool true]) /\ Below w.heap.size w w' := by
 have h1 : decide (a <= A) = true := decide_eq_true ha.2.1
 have h2 : decide (b <= B) = true := decide_eq_true hb.2.1
 go_enter Tryz.func87, Tryz.ntmps87
 go_wp2_with (first
  | (go_at_call 90; go_must (refine (qAd _ _ _).mono ?_); rintro e w' ⟨rfl, rfl⟩)
  | (go_at_call 104; go_must (refine (qAp _ _ _ (by omega) (by omega)).mono ?_); rintro e w' ⟨rfl, rfl⟩)
  | (go_at_call 105; go_must (refine (qAq _ _ (by omega)).mono ?_); rintro e w' ⟨rfl, rfl⟩))
 all_goals refine bodyPost_ret (v := .tuple #[.agg #[.int .u64 (0), .int .u64 (18446744073709551615)], .bool true]) ?_ rfl ⟨rfl, by go_grown⟩
 all_goals rw [results_cell_tmp rfl]
 all_goals simp [asAddr, Result.andThen]
 all_goals rw [qAb (a := 0) (A := 18446744073709551615)]
 all_goals go_cell
theorem sdo_mul2s (a b B : Int) (w : World) (ha : 0 <= a /\ a <= a /\ a <= 18446744073709551615) (hb : 0 <= b /\ b <= B /\ B <= 18446744073709551615) (hs : (b == B) = false) (h : decide (18446744073709551615 < a * B) = true) :
  Calls Tryz.prog 87 #[.int .i64 3, .agg #[.int .u64 a, .int .u64 a], .agg #[.int .u64 b, .int .u64 B]] w fun e w' => e = .returned (.tuple #[.agg #[.int .u64 (0), .int .u64 (18446744073709551615)], .bool true]) /\ Below w.heap.size w w' := by
 have h1 : decide (a <= a) = true := decide_eq_true ha.2.1
 have h2 : decide (b <= B) = true := decide_eq_true hb.2.1
 go_enter Tryz.func87, Tryz.ntmps87
 go_wp2_with (first
  | (go_at_call 90; go_must (refine (qAd _ _ _).mono ?_); rintro e w' ⟨rfl, rfl⟩)
  | (go_at_call 104; go_must (refine (qAp _ _ _ (by omega) (by omega)).mono ?_); rintro e w' ⟨rfl, rfl⟩)
  | (go_at_call 105; go_must (refine (qAq _ _ (by omega)).mono ?_); rintro e w' ⟨rfl, rfl⟩))
 all_goals refine bodyPost_ret (v := .tuple #[.agg #[.int .u64 (0), .int .u64 (18446744073709551615)], .bool true]) ?_ rfl ⟨rfl, by go_grown⟩
 all_goals rw [results_cell_tmp rfl]
 all_goals simp [asAddr, Result.andThen]
 all_goals rw [qAb (a := 0) (A := 18446744073709551615)]
 all_goals go_cell
theorem sdo_div1 (a A B : Int) (w : World) (ha : 0 <= a /\ a <= A /\ A <= 18446744073709551615) (hb : 0 <= 0 /\ 0 <= B /\ B <= 18446744073709551615) (hs : (a == A) = false)  :
  Calls Tryz.prog 87 #[.int .i64 4, .agg #[.int .u64 a, .int .u64 A], .agg #[.int .u64 0, .int .u64 B]] w fun e w' => e = .returned (.tuple #[.agg #[.int .u64 (0), .int .u64 (A)], .bool true]) /\ Below w.heap.size w w' := by
 have h1 : decide (a <= A) = true := decide_eq_true ha.2.1
 have h2 : decide (0 <= B) = true := decide_eq_true hb.2.1
 go_enter Tryz.func87, Tryz.ntmps87
 go_wp2_with (first
  | (go_at_call 90; go_must (refine (qAd _ _ _).mono ?_); rintro e w' ⟨rfl, rfl⟩)
  | (go_at_call 104; go_must (refine (qAp _ _ _ (by omega) (by omega)).mono ?_); rintro e w' ⟨rfl, rfl⟩)
  | (go_at_call 105; go_must (refine (qAq _ _ (by omega)).mono ?_); rintro e w' ⟨rfl, rfl⟩))
 all_goals refine bodyPost_ret (v := .tuple #[.agg #[.int .u64 (0), .int .u64 (A)], .bool true]) ?_ rfl ⟨rfl, by go_grown⟩
 all_goals rw [results_cell_tmp rfl]
 all_goals simp [asAddr, Result.andThen]
 all_goals rw [qAb (a := 0) (A := A)]
 all_goals go_cell
theorem sdo_div1s (a B : Int) (w : World) (ha : 0 <= a /\ a <= a /\ a <= 18446744073709551615) (hb : 0 <= 0 /\ 0 <= B /\ B <= 18446744073709551615) (hs : (0 == B) = false)  :
  Calls Tryz.prog 87 #[.int .i64 4, .agg #[.int .u64 a, .int .u64 a], .agg #[.int .u64 0, .int .u64 B]] w fun e w' => e = .returned (.tuple #[.agg #[.int .u64 (0), .int .u64 (a)], .bool true]) /\ Below w.heap.size w w' := by
 have h1 : decide (a <= a) = true := decide_eq_true ha.2.1
 have h2 : decide (0 <= B) = true := decide_eq_true hb.2.1
 go_enter Tryz.func87, Tryz.ntmps87
 go_wp2_with (first
  | (go_at_call 90; go_must (refine (qAd _ _ _).mono ?_); rintro e w' ⟨rfl, rfl⟩)
  | (go_at_call 104; go_must (refine (qAp _ _ _ (by omega) (by omega)).mono ?_); rintro e w' ⟨rfl, rfl⟩)
  | (go_at_call 105; go_must (refine (qAq _ _ (by omega)).mono ?_); rintro e w' ⟨rfl, rfl⟩))
 all_goals refine bodyPost_ret (v := .tuple #[.agg #[.int .u64 (0), .int .u64 (a)], .bool true]) ?_ rfl ⟨rfl, by go_grown⟩
 all_goals rw [results_cell_tmp rfl]
 all_goals simp [asAddr, Result.andThen]
 all_goals rw [qAb (a := 0) (A := a)]
 all_goals go_cell
theorem sdo_div2 (a A b B : Int) (w : World) (ha : 0 <= a /\ a <= A /\ A <= 18446744073709551615) (hb : 0 <= b /\ b <= B /\ B <= 18446744073709551615) (hs : (a == A) = false) (h : (b == 0) = false) :
  Calls Tryz.prog 87 #[.int .i64 4, .agg #[.int .u64 a, .int .u64 A], .agg #[.int .u64 b, .int .u64 B]] w fun e w' => e = .returned (.tuple #[.agg #[.int .u64 (a / B), .int .u64 (A / b)], .bool true]) /\ Below w.heap.size w w' := by
 have h1 : decide (a <= A) = true := decide_eq_true ha.2.1
 have h2 : decide (b <= B) = true := decide_eq_true hb.2.1
 have h3 : ¬ b = 0 := by simpa using h
 have h4 : ¬ B = 0 := by omega
 go_enter Tryz.func87, Tryz.ntmps87
 go_wp2_with (first
  | (go_at_call 90; go_must (refine (qAd _ _ _).mono ?_); rintro e w' ⟨rfl, rfl⟩)
  | (go_at_call 104; go_must (refine (qAp _ _ _ (by omega) (by omega)).mono ?_); rintro e w' ⟨rfl, rfl⟩)
  | (go_at_call 105; go_must (refine (qAq _ _ (by omega)).mono ?_); rintro e w' ⟨rfl, rfl⟩))
 go_region
 all_goals go_wp2
 all_goals refine bodyPost_ret (v := .tuple #[.agg #[.int .u64 (a / B), .int .u64 (A / b)], .bool true]) ?_ rfl ⟨rfl, by go_grown⟩
 all_goals rw [results_cell_tmp rfl]
 all_goals simp [asAddr, Result.andThen]
 all_goals rw [qAb (a := a / B) (A := A / b)]
 all_goals go_cell
theorem sdo_div2s (a b B : Int) (w : World) (ha : 0 <= a /\ a <= a /\ a <= 18446744073709551615) (hb : 0 <= b /\ b <= B /\ B <= 18446744073709551615) (hs : (b == B) = false) (h : (b == 0) = false) :
  Calls Tryz.prog 87 #[.int .i64 4, .agg #[.int .u64 a, .int .u64 a], .agg #[.int .u64 b, .int .u64 B]] w fun e w' => e = .returned (.tuple #[.agg #[.int .u64 (a / B), .int .u64 (a / b)], .bool true]) /\ Below w.heap.size w w' := by
 have h1 : decide (a <= a) = true := decide_eq_true ha.2.1
 have h2 : decide (b <= B) = true := decide_eq_true hb.2.1
 have h3 : ¬ b = 0 := by simpa using h
 have h4 : ¬ B = 0 := by omega
 go_enter Tryz.func87, Tryz.ntmps87
 go_wp2_with (first
  | (go_at_call 90; go_must (refine (qAd _ _ _).mono ?_); rintro e w' ⟨rfl, rfl⟩)
  | (go_at_call 104; go_must (refine (qAp _ _ _ (by omega) (by omega)).mono ?_); rintro e w' ⟨rfl, rfl⟩)
  | (go_at_call 105; go_must (refine (qAq _ _ (by omega)).mono ?_); rintro e w' ⟨rfl, rfl⟩))
 go_region
 all_goals go_wp2
 all_goals refine bodyPost_ret (v := .tuple #[.agg #[.int .u64 (a / B), .int .u64 (a / b)], .bool true]) ?_ rfl ⟨rfl, by go_grown⟩
 all_goals rw [results_cell_tmp rfl]
 all_goals simp [asAddr, Result.andThen]
 all_goals rw [qAb (a := a / B) (A := a / b)]
 all_goals go_cell
theorem sdo_rem1 (a A B : Int) (w : World) (ha : 0 <= a /\ a <= A /\ A <= 18446744073709551615) (hb : 0 <= 0 /\ 0 <= B /\ B <= 18446744073709551615) (hs : (a == A) = false)  :
  Calls Tryz.prog 87 #[.int .i64 5, .agg #[.int .u64 a, .int .u64 A], .agg #[.int .u64 0, .int .u64 B]] w fun e w' => e = .returned (.tuple #[.agg #[.int .u64 (0), .int .u64 (A)], .bool true]) /\ Below w.heap.size w w' := by
 have h1 : decide (a <= A) = true := decide_eq_true ha.2.1
 have h2 : decide (0 <= B) = true := decide_eq_true hb.2.1
 go_enter Tryz.func87, Tryz.ntmps87
 go_wp2_with (first
  | (go_at_call 90; go_must (refine (qAd _ _ _).mono ?_); rintro e w' ⟨rfl, rfl⟩)
  | (go_at_call 104; go_must (refine (qAp _ _ _ (by omega) (by omega)).mono ?_); rintro e w' ⟨rfl, rfl⟩)
  | (go_at_call 105; go_must (refine (qAq _ _ (by omega)).mono ?_); rintro e w' ⟨rfl, rfl⟩))
 all_goals refine bodyPost_ret (v := .tuple #[.agg #[.int .u64 (0), .int .u64 (A)], .bool true]) ?_ rfl ⟨rfl, by go_grown⟩
 all_goals rw [results_cell_tmp rfl]
 all_goals simp [asAddr, Result.andThen]
 all_goals rw [qAb (a := 0) (A := A)]
 all_goals go_cell
theorem sdo_rem1s (a B : Int) (w : World) (ha : 0 <= a /\ a <= a /\ a <= 18446744073709551615) (hb : 0 <= 0 /\ 0 <= B /\ B <= 18446744073709551615) (hs : (0 == B) = false)  :
  Calls Tryz.prog 87 #[.int .i64 5, .agg #[.int .u64 a, .int .u64 a], .agg #[.int .u64 0, .int .u64 B]] w fun e w' => e = .returned (.tuple #[.agg #[.int .u64 (0), .int .u64 (a)], .bool true]) /\ Below w.heap.size w w' := by
 have h1 : decide (a <= a) = true := decide_eq_true ha.2.1
 have h2 : decide (0 <= B) = true := decide_eq_true hb.2.1
 go_enter Tryz.func87, Tryz.ntmps87
 go_wp2_with (first
  | (go_at_call 90; go_must (refine (qAd _ _ _).mono ?_); rintro e w' ⟨rfl, rfl⟩)
  | (go_at_call 104; go_must (refine (qAp _ _ _ (by omega) (by omega)).mono ?_); rintro e w' ⟨rfl, rfl⟩)
  | (go_at_call 105; go_must (refine (qAq _ _ (by omega)).mono ?_); rintro e w' ⟨rfl, rfl⟩))
 all_goals refine bodyPost_ret (v := .tuple #[.agg #[.int .u64 (0), .int .u64 (a)], .bool true]) ?_ rfl ⟨rfl, by go_grown⟩
 all_goals rw [results_cell_tmp rfl]
 all_goals simp [asAddr, Result.andThen]
 all_goals rw [qAb (a := 0) (A := a)]
 all_goals go_cell
theorem sdo_rem2 (a A b B : Int) (w : World) (ha : 0 <= a /\ a <= A /\ A <= 18446744073709551615) (hb : 0 <= b /\ b <= B /\ B <= 18446744073709551615) (hs : (a == A) = false) (h : (b == 0) = false) (hlt : A < b) :
  Calls Tryz.prog 87 #[.int .i64 5, .agg #[.int .u64 a, .int .u64 A], .agg #[.int .u64 b, .int .u64 B]] w fun e w' => e = .returned (.tuple #[.agg #[.int .u64 (a), .int .u64 (A)], .bool true]) /\ Below w.heap.size w w' := by
 have h1 : decide (a <= A) = true := decide_eq_true ha.2.1
 have h2 : decide (b <= B) = true := decide_eq_true hb.2.1
 go_enter Tryz.func87, Tryz.ntmps87
 go_wp2_with (first
  | (go_at_call 90; go_must (refine (qAd _ _ _).mono ?_); rintro e w' ⟨rfl, rfl⟩)
  | (go_at_call 104; go_must (refine (qAp _ _ _ (by omega) (by omega)).mono ?_); rintro e w' ⟨rfl, rfl⟩)
  | (go_at_call 105; go_must (refine (qAq _ _ (by omega)).mono ?_); rintro e w' ⟨rfl, rfl⟩))
 all_goals refine bodyPost_ret (v := .tuple #[.agg #[.int .u64 (a), .int .u64 (A)], .bool true]) ?_ rfl ⟨rfl, by go_grown⟩
 all_goals rw [results_cell_tmp rfl]
 all_goals simp [asAddr, Result.andThen]
 all_goals rw [qAb (a := a) (A := A)]
 all_goals go_cell
theorem sdo_rem2s (a b B : Int) (w : World) (ha : 0 <= a /\ a <= a /\ a <= 18446744073709551615) (hb : 0 <= b /\ b <= B /\ B <= 18446744073709551615) (hs : (b == B) = false) (h : (b == 0) = false) (hlt : a < b) :
  Calls Tryz.prog 87 #[.int .i64 5, .agg #[.int .u64 a, .int .u64 a], .agg #[.int .u64 b, .int .u64 B]] w fun e w' => e = .returned (.tuple #[.agg #[.int .u64 (a), .int .u64 (a)], .bool true]) /\ Below w.heap.size w w' := by
 have h1 : decide (a <= a) = true := decide_eq_true ha.2.1
 have h2 : decide (b <= B) = true := decide_eq_true hb.2.1
 go_enter Tryz.func87, Tryz.ntmps87
 go_wp2_with (first
  | (go_at_call 90; go_must (refine (qAd _ _ _).mono ?_); rintro e w' ⟨rfl, rfl⟩)
  | (go_at_call 104; go_must (refine (qAp _ _ _ (by omega) (by omega)).mono ?_); rintro e w' ⟨rfl, rfl⟩)
  | (go_at_call 105; go_must (refine (qAq _ _ (by omega)).mono ?_); rintro e w' ⟨rfl, rfl⟩))
 all_goals refine bodyPost_ret (v := .tuple #[.agg #[.int .u64 (a), .int .u64 (a)], .bool true]) ?_ rfl ⟨rfl, by go_grown⟩
 all_goals rw [results_cell_tmp rfl]
 all_goals simp [asAddr, Result.andThen]
 all_goals rw [qAb (a := a) (A := a)]
 all_goals go_cell
theorem sdo_rem3 (a A b B : Int) (w : World) (ha : 0 <= a /\ a <= A /\ A <= 18446744073709551615) (hb : 0 <= b /\ b <= B /\ B <= 18446744073709551615) (hs : (a == A) = false) (h : (b == 0) = false) (hlt : ¬ A < b) (hX : IntKind.u64.wrap (B - 1) = B - 1) (hm : B - 1 < A) :
  Calls Tryz.prog 87 #[.int .i64 5, .agg #[.int .u64 a, .int .u64 A], .agg #[.int .u64 b, .int .u64 B]] w fun e w' => e = .returned (.tuple #[.agg #[.int .u64 (0), .int .u64 (B - 1)], .bool true]) /\ Below w.heap.size w w' := by
 have h1 : decide (a <= A) = true := decide_eq_true ha.2.1
 have h2 : decide (b <= B) = true := decide_eq_true hb.2.1
 go_enter Tryz.func87, Tryz.ntmps87
 go_wp2_with (first
  | (go_at_call 90; go_must (refine (qAd _ _ _).mono ?_); rintro e w' ⟨rfl, rfl⟩)
  | (go_at_call 104; go_must (refine (qAp _ _ _ (by omega) (by omega)).mono ?_); rintro e w' ⟨rfl, rfl⟩)
  | (go_at_call 105; go_must (refine (qAq _ _ (by omega)).mono ?_); rintro e w' ⟨rfl, rfl⟩))
 all_goals refine bodyPost_ret (v := .tuple #[.agg #[.int .u64 (0), .int .u64 (B - 1)], .bool true]) ?_ rfl ⟨rfl, by go_grown⟩
 all_goals rw [results_cell_tmp rfl]
 all_goals simp [asAddr, Result.andThen]
 all_goals rw [qAb (a := 0) (A := B - 1)]
 all_goals go_cell
theorem sdo_rem3s (a b B : Int) (w : World) (ha : 0 <= a /\ a <= a /\ a <= 18446744073709551615) (hb : 0 <= b /\ b <= B /\ B <= 18446744073709551615) (hs : (b == B) = false) (h : (b == 0) = false) (hlt : ¬ a < b) (hX : IntKind.u64.wrap (B - 1) = B - 1) (hm : B - 1 < a) :
  Calls Tryz.prog 87 #[.int .i64 5, .agg #[.int .u64 a, .int .u64 a], .agg #[.int .u64 b, .int .u64 B]] w fun e w' => e = .returned (.tuple #[.agg #[.int .u64 (0), .int .u64 (B - 1)], .bool true]) /\ Below w.heap.size w w' := by
 have h1 : decide (a <= a) = true := decide_eq_true ha.2.1
 have h2 : decide (b <= B) = true := decide_eq_true hb.2.1
 go_enter Tryz.func87, Tryz.ntmps87
 go_wp2_with (first
  | (go_at_call 90; go_must (refine (qAd _ _ _).mono ?_); rintro e w' ⟨rfl, rfl⟩)
  | (go_at_call 104; go_must (refine (qAp _ _ _ (by omega) (by omega)).mono ?_); rintro e w' ⟨rfl, rfl⟩)
  | (go_at_call 105; go_must (refine (qAq _ _ (by omega)).mono ?_); rintro e w' ⟨rfl, rfl⟩))
 all_goals refine bodyPost_ret (v := .tuple #[.agg #[.int .u64 (0), .int .u64 (B - 1)], .bool true]) ?_ rfl ⟨rfl, by go_grown⟩
 all_goals rw [results_cell_tmp rfl]
 all_goals simp [asAddr, Result.andThen]
 all_goals rw [qAb (a := 0) (A := B - 1)]
 all_goals go_cell
theorem sdo_rem4 (a A b B : Int) (w : World) (ha : 0 <= a /\ a <= A /\ A <= 18446744073709551615) (hb : 0 <= b /\ b <= B /\ B <= 18446744073709551615) (hs : (a == A) = false) (h : (b == 0) = false) (hlt : ¬ A < b) (hX : IntKind.u64.wrap (B - 1) = B - 1) (hm : A <= B - 1) :
  Calls Tryz.prog 87 #[.int .i64 5, .agg #[.int .u64 a, .int .u64 A], .agg #[.int .u64 b, .int .u64 B]] w fun e w' => e = .returned (.tuple #[.agg #[.int .u64 (0), .int .u64 (A)], .bool true]) /\ Below w.heap.size w w' := by
 have h1 : decide (a <= A) = true := decide_eq_true ha.2.1
 have h2 : decide (b <= B) = true := decide_eq_true hb.2.1
 go_enter Tryz.func87, Tryz.ntmps87
 go_wp2_with (first
  | (go_at_call 90; go_must (refine (qAd _ _ _).mono ?_); rintro e w' ⟨rfl, rfl⟩)
  | (go_at_call 104; go_must (refine (qAp _ _ _ (by omega) (by omega)).mono ?_); rintro e w' ⟨rfl, rfl⟩)
  | (go_at_call 105; go_must (refine (qAq _ _ (by omega)).mono ?_); rintro e w' ⟨rfl, rfl⟩))
 all_goals refine bodyPost_ret (v := .tuple #[.agg #[.int .u64 (0), .int .u64 (A)], .bool true]) ?_ rfl ⟨rfl, by go_grown⟩
 all_goals rw [results_cell_tmp rfl]
 all_goals simp [asAddr, Result.andThen]
 all_goals rw [qAb (a := 0) (A := A)]
 all_goals go_cell
theorem sdo_rem4s (a b B : Int) (w : World) (ha : 0 <= a /\ a <= a /\ a <= 18446744073709551615) (hb : 0 <= b /\ b <= B /\ B <= 18446744073709551615) (hs : (b == B) = false) (h : (b == 0) = false) (hlt : ¬ a < b) (hX : IntKind.u64.wrap (B - 1) = B - 1) (hm : a <= B - 1) :
  Calls Tryz.prog 87 #[.int .i64 5, .agg #[.int .u64 a, .int .u64 a], .agg #[.int .u64 b, .int .u64 B]] w fun e w' => e = .returned (.tuple #[.agg #[.int .u64 (0), .int .u64 (a)], .bool true]) /\ Below w.heap.size w w' := by
 have h1 : decide (a <= a) = true := decide_eq_true ha.2.1
 have h2 : decide (b <= B) = true := decide_eq_true hb.2.1
 go_enter Tryz.func87, Tryz.ntmps87
 go_wp2_with (first
  | (go_at_call 90; go_must (refine (qAd _ _ _).mono ?_); rintro e w' ⟨rfl, rfl⟩)
  | (go_at_call 104; go_must (refine (qAp _ _ _ (by omega) (by omega)).mono ?_); rintro e w' ⟨rfl, rfl⟩)
  | (go_at_call 105; go_must (refine (qAq _ _ (by omega)).mono ?_); rintro e w' ⟨rfl, rfl⟩))
 all_goals refine bodyPost_ret (v := .tuple #[.agg #[.int .u64 (0), .int .u64 (a)], .bool true]) ?_ rfl ⟨rfl, by go_grown⟩
 all_goals rw [results_cell_tmp rfl]
 all_goals simp [asAddr, Result.andThen]
 all_goals rw [qAb (a := 0) (A := a)]
 all_goals go_cell
theorem sdo_and1 (a A b B : Int) (w : World) (ha : 0 <= a /\ a <= A /\ A <= 18446744073709551615) (hb : 0 <= b /\ b <= B /\ B <= 18446744073709551615) (hs : (a == A) = false) (hm : A <= B) :
  Calls Tryz.prog 87 #[.int .i64 6, .agg #[.int .u64 a, .int .u64 A], .agg #[.int .u64 b, .int .u64 B]] w fun e w' => e = .returned (.tuple #[.agg #[.int .u64 (0), .int .u64 (A)], .bool true]) /\ Below w.heap.size w w' := by
 have h1 : decide (a <= A) = true := decide_eq_true ha.2.1
 have h2 : decide (b <= B) = true := decide_eq_true hb.2.1
 go_enter Tryz.func87, Tryz.ntmps87
 go_wp2_with (first
  | (go_at_call 90; go_must (refine (qAd _ _ _).mono ?_); rintro e w' ⟨rfl, rfl⟩)
  | (go_at_call 104; go_must (refine (qAp _ _ _ (by omega) (by omega)).mono ?_); rintro e w' ⟨rfl, rfl⟩)
  | (go_at_call 105; go_must (refine (qAq _ _ (by omega)).mono ?_); rintro e w' ⟨rfl, rfl⟩))
 all_goals refine bodyPost_ret (v := .tuple #[.agg #[.int .u64 (0), .int .u64 (A)], .bool true]) ?_ rfl ⟨rfl, by go_grown⟩
 all_goals rw [results_cell_tmp rfl]
 all_goals simp [asAddr, Result.andThen]
 all_goals rw [qAb (a := 0) (A := A)]
 all_goals go_cell
theorem sdo_and1s (a b B : Int) (w : World) (ha : 0 <= a /\ a <= a /\ a <= 18446744073709551615) (hb : 0 <= b /\ b <= B /\ B <= 18446744073709551615) (hs : (b == B) = false) (hm : a <= B) :
  Calls Tryz.prog 87 #[.int .i64 6, .agg #[.int .u64 a, .int .u64 a], .agg #[.int .u64 b, .int .u64 B]] w fun e w' => e = .returned (.tuple #[.agg #[.int .u64 (0), .int .u64 (a)], .bool true]) /\ Below w.heap.size w w' := by
 have h1 : decide (a <= a) = true := decide_eq_true ha.2.1
 have h2 : decide (b <= B) = true := decide_eq_true hb.2.1
 go_enter Tryz.func87, Tryz.ntmps87
 go_wp2_with (first
  | (go_at_call 90; go_must (refine (qAd _ _ _).mono ?_); rintro e w' ⟨rfl, rfl⟩)
  | (go_at_call 104; go_must (refine (qAp _ _ _ (by omega) (by omega)).mono ?_); rintro e w' ⟨rfl, rfl⟩)
  | (go_at_call 105; go_must (refine (qAq _ _ (by omega)).mono ?_); rintro e w' ⟨rfl, rfl⟩))
 all_goals refine bodyPost_ret (v := .tuple #[.agg #[.int .u64 (0), .int .u64 (a)], .bool true]) ?_ rfl ⟨rfl, by go_grown⟩
 all_goals rw [results_cell_tmp rfl]
 all_goals simp [asAddr, Result.andThen]
 all_goals rw [qAb (a := 0) (A := a)]
 all_goals go_cell
theorem sdo_and2 (a A b B : Int) (w : World) (ha : 0 <= a /\ a <= A /\ A <= 18446744073709551615) (hb : 0 <= b /\ b <= B /\ B <= 18446744073709551615) (hs : (a == A) = false) (hm : B < A) :
  Calls Tryz.prog 87 #[.int .i64 6, .agg #[.int .u64 a, .int .u64 A], .agg #[.int .u64 b, .int .u64 B]] w fun e w' => e = .returned (.tuple #[.agg #[.int .u64 (0), .int .u64 (B)], .bool true]) /\ Below w.heap.size w w' := by
 have h1 : decide (a <= A) = true := decide_eq_true ha.2.1
 have h2 : decide (b <= B) = true := decide_eq_true hb.2.1
 go_enter Tryz.func87, Tryz.ntmps87
 go_wp2_with (first
  | (go_at_call 90; go_must (refine (qAd _ _ _).mono ?_); rintro e w' ⟨rfl, rfl⟩)
  | (go_at_call 104; go_must (refine (qAp _ _ _ (by omega) (by omega)).mono ?_); rintro e w' ⟨rfl, rfl⟩)
  | (go_at_call 105; go_must (refine (qAq _ _ (by omega)).mono ?_); rintro e w' ⟨rfl, rfl⟩))
 all_goals refine bodyPost_ret (v := .tuple #[.agg #[.int .u64 (0), .int .u64 (B)], .bool true]) ?_ rfl ⟨rfl, by go_grown⟩
 all_goals rw [results_cell_tmp rfl]
 all_goals simp [asAddr, Result.andThen]
 all_goals rw [qAb (a := 0) (A := B)]
 all_goals go_cell
theorem sdo_and2s (a b B : Int) (w : World) (ha : 0 <= a /\ a <= a /\ a <= 18446744073709551615) (hb : 0 <= b /\ b <= B /\ B <= 18446744073709551615) (hs : (b == B) = false) (hm : B < a) :
  Calls Tryz.prog 87 #[.int .i64 6, .agg #[.int .u64 a, .int .u64 a], .agg #[.int .u64 b, .int .u64 B]] w fun e w' => e = .returned (.tuple #[.agg #[.int .u64 (0), .int .u64 (B)], .bool true]) /\ Below w.heap.size w w' := by
 have h1 : decide (a <= a) = true := decide_eq_true ha.2.1
 have h2 : decide (b <= B) = true := decide_eq_true hb.2.1
 go_enter Tryz.func87, Tryz.ntmps87
 go_wp2_with (first
  | (go_at_call 90; go_must (refine (qAd _ _ _).mono ?_); rintro e w' ⟨rfl, rfl⟩)
  | (go_at_call 104; go_must (refine (qAp _ _ _ (by omega) (by omega)).mono ?_); rintro e w' ⟨rfl, rfl⟩)
  | (go_at_call 105; go_must (refine (qAq _ _ (by omega)).mono ?_); rintro e w' ⟨rfl, rfl⟩))
 all_goals refine bodyPost_ret (v := .tuple #[.agg #[.int .u64 (0), .int .u64 (B)], .bool true]) ?_ rfl ⟨rfl, by go_grown⟩
 all_goals rw [results_cell_tmp rfl]
 all_goals simp [asAddr, Result.andThen]
 all_goals rw [qAb (a := 0) (A := B)]
 all_goals go_cell
theorem sdo_xor1 (a A b B : Int) (w : World) (ha : 0 <= a /\ a <= A /\ A <= 18446744073709551615) (hb : 0 <= b /\ b <= B /\ B <= 18446744073709551615) (hs : (a == A) = false) (hm : A < B) :
  Calls Tryz.prog 87 #[.int .i64 8, .agg #[.int .u64 a, .int .u64 A], .agg #[.int .u64 b, .int .u64 B]] w fun e w' => e = .returned (.tuple #[.agg #[.int .u64 (0), .int .u64 (formL B)], .bool true]) /\ Below w.heap.size w w' := by
 have h1 : decide (a <= A) = true := decide_eq_true ha.2.1
 have h2 : decide (b <= B) = true := decide_eq_true hb.2.1
 go_enter Tryz.func87, Tryz.ntmps87
 go_wp2_with (first
  | (go_at_call 90; go_must (refine (qAd _ _ _).mono ?_); rintro e w' ⟨rfl, rfl⟩)
  | (go_at_call 104; go_must (refine (qAp _ _ _ (by omega) (by omega)).mono ?_); rintro e w' ⟨rfl, rfl⟩)
  | (go_at_call 105; go_must (refine (qAq _ _ (by omega)).mono ?_); rintro e w' ⟨rfl, rfl⟩))
 all_goals refine bodyPost_ret (v := .tuple #[.agg #[.int .u64 (0), .int .u64 (formL B)], .bool true]) ?_ rfl ⟨rfl, by go_grown⟩
 all_goals rw [results_cell_tmp rfl]
 all_goals simp [asAddr, Result.andThen]
 all_goals rw [qAb (a := 0) (A := formL B)]
 all_goals go_cell
theorem sdo_xor1s (a b B : Int) (w : World) (ha : 0 <= a /\ a <= a /\ a <= 18446744073709551615) (hb : 0 <= b /\ b <= B /\ B <= 18446744073709551615) (hs : (b == B) = false) (hm : a < B) :
  Calls Tryz.prog 87 #[.int .i64 8, .agg #[.int .u64 a, .int .u64 a], .agg #[.int .u64 b, .int .u64 B]] w fun e w' => e = .returned (.tuple #[.agg #[.int .u64 (0), .int .u64 (formL B)], .bool true]) /\ Below w.heap.size w w' := by
 have h1 : decide (a <= a) = true := decide_eq_true ha.2.1
 have h2 : decide (b <= B) = true := decide_eq_true hb.2.1
 go_enter Tryz.func87, Tryz.ntmps87
 go_wp2_with (first
  | (go_at_call 90; go_must (refine (qAd _ _ _).mono ?_); rintro e w' ⟨rfl, rfl⟩)
  | (go_at_call 104; go_must (refine (qAp _ _ _ (by omega) (by omega)).mono ?_); rintro e w' ⟨rfl, rfl⟩)
  | (go_at_call 105; go_must (refine (qAq _ _ (by omega)).mono ?_); rintro e w' ⟨rfl, rfl⟩))
 all_goals refine bodyPost_ret (v := .tuple #[.agg #[.int .u64 (0), .int .u64 (formL B)], .bool true]) ?_ rfl ⟨rfl, by go_grown⟩
 all_goals rw [results_cell_tmp rfl]
 all_goals simp [asAddr, Result.andThen]
 all_goals rw [qAb (a := 0) (A := formL B)]
 all_goals go_cell
theorem sdo_xor2 (a A b B : Int) (w : World) (ha : 0 <= a /\ a <= A /\ A <= 18446744073709551615) (hb : 0 <= b /\ b <= B /\ B <= 18446744073709551615) (hs : (a == A) = false) (hm : B <= A) :
  Calls Tryz.prog 87 #[.int .i64 8, .agg #[.int .u64 a, .int .u64 A], .agg #[.int .u64 b, .int .u64 B]] w fun e w' => e = .returned (.tuple #[.agg #[.int .u64 (0), .int .u64 (formL A)], .bool true]) /\ Below w.heap.size w w' := by
 have h1 : decide (a <= A) = true := decide_eq_true ha.2.1
 have h2 : decide (b <= B) = true := decide_eq_true hb.2.1
 go_enter Tryz.func87, Tryz.ntmps87
 go_wp2_with (first
  | (go_at_call 90; go_must (refine (qAd _ _ _).mono ?_); rintro e w' ⟨rfl, rfl⟩)
  | (go_at_call 104; go_must (refine (qAp _ _ _ (by omega) (by omega)).mono ?_); rintro e w' ⟨rfl, rfl⟩)
  | (go_at_call 105; go_must (refine (qAq _ _ (by omega)).mono ?_); rintro e w' ⟨rfl, rfl⟩))
 all_goals refine bodyPost_ret (v := .tuple #[.agg #[.int .u64 (0), .int .u64 (formL A)], .bool true]) ?_ rfl ⟨rfl, by go_grown⟩
 all_goals rw [results_cell_tmp rfl]
 all_goals simp [asAddr, Result.andThen]
 all_goals rw [qAb (a := 0) (A := formL A)]
 all_goals go_cell
theorem sdo_xor2s (a b B : Int) (w : World) (ha : 0 <= a /\ a <= a /\ a <= 18446744073709551615) (hb : 0 <= b /\ b <= B /\ B <= 18446744073709551615) (hs : (b == B) = false) (hm : B <= a) :
  Calls Tryz.prog 87 #[.int .i64 8, .agg #[.int .u64 a, .int .u64 a], .agg #[.int .u64 b, .int .u64 B]] w fun e w' => e = .returned (.tuple #[.agg #[.int .u64 (0), .int .u64 (formL a)], .bool true]) /\ Below w.heap.size w w' := by
 have h1 : decide (a <= a) = true := decide_eq_true ha.2.1
 have h2 : decide (b <= B) = true := decide_eq_true hb.2.1
 go_enter Tryz.func87, Tryz.ntmps87
 go_wp2_with (first
  | (go_at_call 90; go_must (refine (qAd _ _ _).mono ?_); rintro e w' ⟨rfl, rfl⟩)
  | (go_at_call 104; go_must (refine (qAp _ _ _ (by omega) (by omega)).mono ?_); rintro e w' ⟨rfl, rfl⟩)
  | (go_at_call 105; go_must (refine (qAq _ _ (by omega)).mono ?_); rintro e w' ⟨rfl, rfl⟩))
 all_goals refine bodyPost_ret (v := .tuple #[.agg #[.int .u64 (0), .int .u64 (formL a)], .bool true]) ?_ rfl ⟨rfl, by go_grown⟩
 all_goals rw [results_cell_tmp rfl]
 all_goals simp [asAddr, Result.andThen]
 all_goals rw [qAb (a := 0) (A := formL a)]
 all_goals go_cell
theorem sdo_shl1 (a A b B : Int) (w : World) (ha : 0 <= a /\ a <= A /\ A <= 18446744073709551615) (hb : 0 <= b /\ b <= B /\ B <= 18446744073709551615) (hs : (a == A) = false) (h : (b == B) = false) :
  Calls Tryz.prog 87 #[.int .i64 9, .agg #[.int .u64 a, .int .u64 A], .agg #[.int .u64 b, .int .u64 B]] w fun e w' => e = .returned (.tuple #[.agg #[.int .u64 (0), .int .u64 (18446744073709551615)], .bool true]) /\ Below w.heap.size w w' := by
 have h1 : decide (a <= A) = true := decide_eq_true ha.2.1
 have h2 : decide (b <= B) = true := decide_eq_true hb.2.1
 go_enter Tryz.func87, Tryz.ntmps87
 go_wp2_with (first
  | (go_at_call 90; go_must (refine (qAd _ _ _).mono ?_); rintro e w' ⟨rfl, rfl⟩)
  | (go_at_call 104; go_must (refine (qAp _ _ _ (by omega) (by omega)).mono ?_); rintro e w' ⟨rfl, rfl⟩)
  | (go_at_call 105; go_must (refine (qAq _ _ (by omega)).mono ?_); rintro e w' ⟨rfl, rfl⟩))
 all_goals refine bodyPost_ret (v := .tuple #[.agg #[.int .u64 (0), .int .u64 (18446744073709551615)], .bool true]) ?_ rfl ⟨rfl, by go_grown⟩
 all_goals rw [results_cell_tmp rfl]
 all_goals simp [asAddr, Result.andThen]
 all_goals rw [qAb (a := 0) (A := 18446744073709551615)]
 all_goals go_cell
theorem sdo_shl1s (a b B : Int) (w : World) (ha : 0 <= a /\ a <= a /\ a <= 18446744073709551615) (hb : 0 <= b /\ b <= B /\ B <= 18446744073709551615) (hs : (b == B) = false) (h : (b == B) = false) :
  Calls Tryz.prog 87 #[.int .i64 9, .agg #[.int .u64 a, .int .u64 a], .agg #[.int .u64 b, .int .u64 B]] w fun e w' => e = .returned (.tuple #[.agg #[.int .u64 (0), .int .u64 (18446744073709551615)], .bool true]) /\ Below w.heap.size w w' := by
 have h1 : decide (a <= a) = true := decide_eq_true ha.2.1
 have h2 : decide (b <= B) = true := decide_eq_true hb.2.1
 go_enter Tryz.func87, Tryz.ntmps87
 go_wp2_with (first
  | (go_at_call 90; go_must (refine (qAd _ _ _).mono ?_); rintro e w' ⟨rfl, rfl⟩)
  | (go_at_call 104; go_must (refine (qAp _ _ _ (by omega) (by omega)).mono ?_); rintro e w' ⟨rfl, rfl⟩)
  | (go_at_call 105; go_must (refine (qAq _ _ (by omega)).mono ?_); rintro e w' ⟨rfl, rfl⟩))
 all_goals refine bodyPost_ret (v := .tuple #[.agg #[.int .u64 (0), .int .u64 (18446744073709551615)], .bool true]) ?_ rfl ⟨rfl, by go_grown⟩
 all_goals rw [results_cell_tmp rfl]
 all_goals simp [asAddr, Result.andThen]
 all_goals rw [qAb (a := 0) (A := 18446744073709551615)]
 all_goals go_cell
end Go.Proofs.YtkcofelpndlplaaGreat
