/-
  What the document's Do of two spans answers, a theorem a way. Condition: right spans of numbers of 64 bits, not both single.
-/
import Derived.Test.YtammakfpmimljaaS6Ref
import Derived.Test.YtammakfpmimljaaA5As
import Derived.Deep.RegionWith
namespace Go.Proofs.Ytammakfpmimljaa
open Go.RowKit
set_option linter.unusedVariables false
set_option maxRecDepth 20000

theorem sdo_add1 (a A b B : Int) (w : World) (ha : 0 ≤ a ∧ a ≤ A ∧ A ≤ 18446744073709551615) (hb : 0 ≤ b ∧ b ≤ B ∧ B ≤ 18446744073709551615) (hs : (a == A) = false) (h : A ≤ 18446744073709551615 - B) :
    Calls Try.prog 23 #[.int .i64 1, .agg #[.int .u64 a, .int .u64 A], .agg #[.int .u64 b, .int .u64 B]] w fun e w' => e = .returned (.tuple #[.agg #[.int .u64 (a + b), .int .u64 (A + B)], .bool true]) ∧ Below w.heap.size w w' := by
  have h1 : decide (a ≤ A) = true := decide_eq_true ha.2.1
  have h2 : decide (b ≤ B) = true := decide_eq_true hb.2.1
  go_enter Try.func23, Try.ntmps23
  go_wp2_with (first
    | (go_at_call 11; go_must (refine (rright_any _ _ _).mono ?_); rintro e w' ⟨rfl, rfl⟩)
    | (go_at_call 39; go_must (refine (great_any _ _ _ (by omega) (by omega)).mono ?_); rintro e w' ⟨rfl, rfl⟩)
    | (go_at_call 40; go_must (refine (form_any _ _ (by omega)).mono ?_); rintro e w' ⟨rfl, rfl⟩))
  all_goals refine bodyPost_ret (v := .tuple #[.agg #[.int .u64 (a + b), .int .u64 (A + B)], .bool true]) ?_ rfl ⟨rfl, by go_grown⟩
  all_goals rw [results_cell_tmp rfl]
  all_goals simp [asAddr, Result.andThen]
  all_goals rw [run_boxS (a := a + b) (A := A + B)]
  all_goals go_cell
theorem sdo_add1s (a b B : Int) (w : World) (ha : 0 ≤ a ∧ a ≤ a ∧ a ≤ 18446744073709551615) (hb : 0 ≤ b ∧ b ≤ B ∧ B ≤ 18446744073709551615) (hs : (b == B) = false) (h : a ≤ 18446744073709551615 - B) :
    Calls Try.prog 23 #[.int .i64 1, .agg #[.int .u64 a, .int .u64 a], .agg #[.int .u64 b, .int .u64 B]] w fun e w' => e = .returned (.tuple #[.agg #[.int .u64 (a + b), .int .u64 (a + B)], .bool true]) ∧ Below w.heap.size w w' := by
  have h1 : decide (a ≤ a) = true := decide_eq_true ha.2.1
  have h2 : decide (b ≤ B) = true := decide_eq_true hb.2.1
  go_enter Try.func23, Try.ntmps23
  go_wp2_with (first
    | (go_at_call 11; go_must (refine (rright_any _ _ _).mono ?_); rintro e w' ⟨rfl, rfl⟩)
    | (go_at_call 39; go_must (refine (great_any _ _ _ (by omega) (by omega)).mono ?_); rintro e w' ⟨rfl, rfl⟩)
    | (go_at_call 40; go_must (refine (form_any _ _ (by omega)).mono ?_); rintro e w' ⟨rfl, rfl⟩))
  all_goals refine bodyPost_ret (v := .tuple #[.agg #[.int .u64 (a + b), .int .u64 (a + B)], .bool true]) ?_ rfl ⟨rfl, by go_grown⟩
  all_goals rw [results_cell_tmp rfl]
  all_goals simp [asAddr, Result.andThen]
  all_goals rw [run_boxS (a := a + b) (A := a + B)]
  all_goals go_cell
theorem sdo_add2 (a A b B : Int) (w : World) (ha : 0 ≤ a ∧ a ≤ A ∧ A ≤ 18446744073709551615) (hb : 0 ≤ b ∧ b ≤ B ∧ B ≤ 18446744073709551615) (hs : (a == A) = false) (h : 18446744073709551615 - B < A) :
    Calls Try.prog 23 #[.int .i64 1, .agg #[.int .u64 a, .int .u64 A], .agg #[.int .u64 b, .int .u64 B]] w fun e w' => e = .returned (.tuple #[.agg #[.int .u64 (0), .int .u64 (18446744073709551615)], .bool true]) ∧ Below w.heap.size w w' := by
  have h1 : decide (a ≤ A) = true := decide_eq_true ha.2.1
  have h2 : decide (b ≤ B) = true := decide_eq_true hb.2.1
  go_enter Try.func23, Try.ntmps23
  go_wp2_with (first
    | (go_at_call 11; go_must (refine (rright_any _ _ _).mono ?_); rintro e w' ⟨rfl, rfl⟩)
    | (go_at_call 39; go_must (refine (great_any _ _ _ (by omega) (by omega)).mono ?_); rintro e w' ⟨rfl, rfl⟩)
    | (go_at_call 40; go_must (refine (form_any _ _ (by omega)).mono ?_); rintro e w' ⟨rfl, rfl⟩))
  all_goals refine bodyPost_ret (v := .tuple #[.agg #[.int .u64 (0), .int .u64 (18446744073709551615)], .bool true]) ?_ rfl ⟨rfl, by go_grown⟩
  all_goals rw [results_cell_tmp rfl]
  all_goals simp [asAddr, Result.andThen]
  all_goals rw [run_boxS (a := 0) (A := 18446744073709551615)]
  all_goals go_cell
theorem sdo_add2s (a b B : Int) (w : World) (ha : 0 ≤ a ∧ a ≤ a ∧ a ≤ 18446744073709551615) (hb : 0 ≤ b ∧ b ≤ B ∧ B ≤ 18446744073709551615) (hs : (b == B) = false) (h : 18446744073709551615 - B < a) :
    Calls Try.prog 23 #[.int .i64 1, .agg #[.int .u64 a, .int .u64 a], .agg #[.int .u64 b, .int .u64 B]] w fun e w' => e = .returned (.tuple #[.agg #[.int .u64 (0), .int .u64 (18446744073709551615)], .bool true]) ∧ Below w.heap.size w w' := by
  have h1 : decide (a ≤ a) = true := decide_eq_true ha.2.1
  have h2 : decide (b ≤ B) = true := decide_eq_true hb.2.1
  go_enter Try.func23, Try.ntmps23
  go_wp2_with (first
    | (go_at_call 11; go_must (refine (rright_any _ _ _).mono ?_); rintro e w' ⟨rfl, rfl⟩)
    | (go_at_call 39; go_must (refine (great_any _ _ _ (by omega) (by omega)).mono ?_); rintro e w' ⟨rfl, rfl⟩)
    | (go_at_call 40; go_must (refine (form_any _ _ (by omega)).mono ?_); rintro e w' ⟨rfl, rfl⟩))
  all_goals refine bodyPost_ret (v := .tuple #[.agg #[.int .u64 (0), .int .u64 (18446744073709551615)], .bool true]) ?_ rfl ⟨rfl, by go_grown⟩
  all_goals rw [results_cell_tmp rfl]
  all_goals simp [asAddr, Result.andThen]
  all_goals rw [run_boxS (a := 0) (A := 18446744073709551615)]
  all_goals go_cell
theorem sdo_sub1 (a A b B : Int) (w : World) (ha : 0 ≤ a ∧ a ≤ A ∧ A ≤ 18446744073709551615) (hb : 0 ≤ b ∧ b ≤ B ∧ B ≤ 18446744073709551615) (hs : (a == A) = false) (h : B ≤ a) :
    Calls Try.prog 23 #[.int .i64 2, .agg #[.int .u64 a, .int .u64 A], .agg #[.int .u64 b, .int .u64 B]] w fun e w' => e = .returned (.tuple #[.agg #[.int .u64 (a - B), .int .u64 (A - b)], .bool true]) ∧ Below w.heap.size w w' := by
  have h1 : decide (a ≤ A) = true := decide_eq_true ha.2.1
  have h2 : decide (b ≤ B) = true := decide_eq_true hb.2.1
  go_enter Try.func23, Try.ntmps23
  go_wp2_with (first
    | (go_at_call 11; go_must (refine (rright_any _ _ _).mono ?_); rintro e w' ⟨rfl, rfl⟩)
    | (go_at_call 39; go_must (refine (great_any _ _ _ (by omega) (by omega)).mono ?_); rintro e w' ⟨rfl, rfl⟩)
    | (go_at_call 40; go_must (refine (form_any _ _ (by omega)).mono ?_); rintro e w' ⟨rfl, rfl⟩))
  all_goals refine bodyPost_ret (v := .tuple #[.agg #[.int .u64 (a - B), .int .u64 (A - b)], .bool true]) ?_ rfl ⟨rfl, by go_grown⟩
  all_goals rw [results_cell_tmp rfl]
  all_goals simp [asAddr, Result.andThen]
  all_goals rw [run_boxS (a := a - B) (A := A - b)]
  all_goals go_cell
theorem sdo_sub1s (a b B : Int) (w : World) (ha : 0 ≤ a ∧ a ≤ a ∧ a ≤ 18446744073709551615) (hb : 0 ≤ b ∧ b ≤ B ∧ B ≤ 18446744073709551615) (hs : (b == B) = false) (h : B ≤ a) :
    Calls Try.prog 23 #[.int .i64 2, .agg #[.int .u64 a, .int .u64 a], .agg #[.int .u64 b, .int .u64 B]] w fun e w' => e = .returned (.tuple #[.agg #[.int .u64 (a - B), .int .u64 (a - b)], .bool true]) ∧ Below w.heap.size w w' := by
  have h1 : decide (a ≤ a) = true := decide_eq_true ha.2.1
  have h2 : decide (b ≤ B) = true := decide_eq_true hb.2.1
  go_enter Try.func23, Try.ntmps23
  go_wp2_with (first
    | (go_at_call 11; go_must (refine (rright_any _ _ _).mono ?_); rintro e w' ⟨rfl, rfl⟩)
    | (go_at_call 39; go_must (refine (great_any _ _ _ (by omega) (by omega)).mono ?_); rintro e w' ⟨rfl, rfl⟩)
    | (go_at_call 40; go_must (refine (form_any _ _ (by omega)).mono ?_); rintro e w' ⟨rfl, rfl⟩))
  all_goals refine bodyPost_ret (v := .tuple #[.agg #[.int .u64 (a - B), .int .u64 (a - b)], .bool true]) ?_ rfl ⟨rfl, by go_grown⟩
  all_goals rw [results_cell_tmp rfl]
  all_goals simp [asAddr, Result.andThen]
  all_goals rw [run_boxS (a := a - B) (A := a - b)]
  all_goals go_cell
theorem sdo_sub2 (a A b B : Int) (w : World) (ha : 0 ≤ a ∧ a ≤ A ∧ A ≤ 18446744073709551615) (hb : 0 ≤ b ∧ b ≤ B ∧ B ≤ 18446744073709551615) (hs : (a == A) = false) (h : a < B) :
    Calls Try.prog 23 #[.int .i64 2, .agg #[.int .u64 a, .int .u64 A], .agg #[.int .u64 b, .int .u64 B]] w fun e w' => e = .returned (.tuple #[.agg #[.int .u64 (0), .int .u64 (18446744073709551615)], .bool true]) ∧ Below w.heap.size w w' := by
  have h1 : decide (a ≤ A) = true := decide_eq_true ha.2.1
  have h2 : decide (b ≤ B) = true := decide_eq_true hb.2.1
  go_enter Try.func23, Try.ntmps23
  go_wp2_with (first
    | (go_at_call 11; go_must (refine (rright_any _ _ _).mono ?_); rintro e w' ⟨rfl, rfl⟩)
    | (go_at_call 39; go_must (refine (great_any _ _ _ (by omega) (by omega)).mono ?_); rintro e w' ⟨rfl, rfl⟩)
    | (go_at_call 40; go_must (refine (form_any _ _ (by omega)).mono ?_); rintro e w' ⟨rfl, rfl⟩))
  all_goals refine bodyPost_ret (v := .tuple #[.agg #[.int .u64 (0), .int .u64 (18446744073709551615)], .bool true]) ?_ rfl ⟨rfl, by go_grown⟩
  all_goals rw [results_cell_tmp rfl]
  all_goals simp [asAddr, Result.andThen]
  all_goals rw [run_boxS (a := 0) (A := 18446744073709551615)]
  all_goals go_cell
theorem sdo_sub2s (a b B : Int) (w : World) (ha : 0 ≤ a ∧ a ≤ a ∧ a ≤ 18446744073709551615) (hb : 0 ≤ b ∧ b ≤ B ∧ B ≤ 18446744073709551615) (hs : (b == B) = false) (h : a < B) :
    Calls Try.prog 23 #[.int .i64 2, .agg #[.int .u64 a, .int .u64 a], .agg #[.int .u64 b, .int .u64 B]] w fun e w' => e = .returned (.tuple #[.agg #[.int .u64 (0), .int .u64 (18446744073709551615)], .bool true]) ∧ Below w.heap.size w w' := by
  have h1 : decide (a ≤ a) = true := decide_eq_true ha.2.1
  have h2 : decide (b ≤ B) = true := decide_eq_true hb.2.1
  go_enter Try.func23, Try.ntmps23
  go_wp2_with (first
    | (go_at_call 11; go_must (refine (rright_any _ _ _).mono ?_); rintro e w' ⟨rfl, rfl⟩)
    | (go_at_call 39; go_must (refine (great_any _ _ _ (by omega) (by omega)).mono ?_); rintro e w' ⟨rfl, rfl⟩)
    | (go_at_call 40; go_must (refine (form_any _ _ (by omega)).mono ?_); rintro e w' ⟨rfl, rfl⟩))
  all_goals refine bodyPost_ret (v := .tuple #[.agg #[.int .u64 (0), .int .u64 (18446744073709551615)], .bool true]) ?_ rfl ⟨rfl, by go_grown⟩
  all_goals rw [results_cell_tmp rfl]
  all_goals simp [asAddr, Result.andThen]
  all_goals rw [run_boxS (a := 0) (A := 18446744073709551615)]
  all_goals go_cell
theorem sdo_mul1 (a A b B : Int) (w : World) (ha : 0 ≤ a ∧ a ≤ A ∧ A ≤ 18446744073709551615) (hb : 0 ≤ b ∧ b ≤ B ∧ B ≤ 18446744073709551615) (hs : (a == A) = false) (h : decide (18446744073709551615 < A * B) = false) (hX : IntKind.u64.wrap (a * b) = a * b) (hY : IntKind.u64.wrap (A * B) = A * B) :
    Calls Try.prog 23 #[.int .i64 3, .agg #[.int .u64 a, .int .u64 A], .agg #[.int .u64 b, .int .u64 B]] w fun e w' => e = .returned (.tuple #[.agg #[.int .u64 (a * b), .int .u64 (A * B)], .bool true]) ∧ Below w.heap.size w w' := by
  have h1 : decide (a ≤ A) = true := decide_eq_true ha.2.1
  have h2 : decide (b ≤ B) = true := decide_eq_true hb.2.1
  go_enter Try.func23, Try.ntmps23
  go_wp2_with (first
    | (go_at_call 11; go_must (refine (rright_any _ _ _).mono ?_); rintro e w' ⟨rfl, rfl⟩)
    | (go_at_call 39; go_must (refine (great_any _ _ _ (by omega) (by omega)).mono ?_); rintro e w' ⟨rfl, rfl⟩)
    | (go_at_call 40; go_must (refine (form_any _ _ (by omega)).mono ?_); rintro e w' ⟨rfl, rfl⟩))
  all_goals refine bodyPost_ret (v := .tuple #[.agg #[.int .u64 (a * b), .int .u64 (A * B)], .bool true]) ?_ rfl ⟨rfl, by go_grown⟩
  all_goals rw [results_cell_tmp rfl]
  all_goals simp [asAddr, Result.andThen]
  all_goals rw [run_boxS (a := a * b) (A := A * B)]
  all_goals go_cell
theorem sdo_mul1s (a b B : Int) (w : World) (ha : 0 ≤ a ∧ a ≤ a ∧ a ≤ 18446744073709551615) (hb : 0 ≤ b ∧ b ≤ B ∧ B ≤ 18446744073709551615) (hs : (b == B) = false) (h : decide (18446744073709551615 < a * B) = false) (hX : IntKind.u64.wrap (a * b) = a * b) (hY : IntKind.u64.wrap (a * B) = a * B) :
    Calls Try.prog 23 #[.int .i64 3, .agg #[.int .u64 a, .int .u64 a], .agg #[.int .u64 b, .int .u64 B]] w fun e w' => e = .returned (.tuple #[.agg #[.int .u64 (a * b), .int .u64 (a * B)], .bool true]) ∧ Below w.heap.size w w' := by
  have h1 : decide (a ≤ a) = true := decide_eq_true ha.2.1
  have h2 : decide (b ≤ B) = true := decide_eq_true hb.2.1
  go_enter Try.func23, Try.ntmps23
  go_wp2_with (first
    | (go_at_call 11; go_must (refine (rright_any _ _ _).mono ?_); rintro e w' ⟨rfl, rfl⟩)
    | (go_at_call 39; go_must (refine (great_any _ _ _ (by omega) (by omega)).mono ?_); rintro e w' ⟨rfl, rfl⟩)
    | (go_at_call 40; go_must (refine (form_any _ _ (by omega)).mono ?_); rintro e w' ⟨rfl, rfl⟩))
  all_goals refine bodyPost_ret (v := .tuple #[.agg #[.int .u64 (a * b), .int .u64 (a * B)], .bool true]) ?_ rfl ⟨rfl, by go_grown⟩
  all_goals rw [results_cell_tmp rfl]
  all_goals simp [asAddr, Result.andThen]
  all_goals rw [run_boxS (a := a * b) (A := a * B)]
  all_goals go_cell
theorem sdo_mul2 (a A b B : Int) (w : World) (ha : 0 ≤ a ∧ a ≤ A ∧ A ≤ 18446744073709551615) (hb : 0 ≤ b ∧ b ≤ B ∧ B ≤ 18446744073709551615) (hs : (a == A) = false) (h : decide (18446744073709551615 < A * B) = true) :
    Calls Try.prog 23 #[.int .i64 3, .agg #[.int .u64 a, .int .u64 A], .agg #[.int .u64 b, .int .u64 B]] w fun e w' => e = .returned (.tuple #[.agg #[.int .u64 (0), .int .u64 (18446744073709551615)], .bool true]) ∧ Below w.heap.size w w' := by
  have h1 : decide (a ≤ A) = true := decide_eq_true ha.2.1
  have h2 : decide (b ≤ B) = true := decide_eq_true hb.2.1
  go_enter Try.func23, Try.ntmps23
  go_wp2_with (first
    | (go_at_call 11; go_must (refine (rright_any _ _ _).mono ?_); rintro e w' ⟨rfl, rfl⟩)
    | (go_at_call 39; go_must (refine (great_any _ _ _ (by omega) (by omega)).mono ?_); rintro e w' ⟨rfl, rfl⟩)
    | (go_at_call 40; go_must (refine (form_any _ _ (by omega)).mono ?_); rintro e w' ⟨rfl, rfl⟩))
  all_goals refine bodyPost_ret (v := .tuple #[.agg #[.int .u64 (0), .int .u64 (18446744073709551615)], .bool true]) ?_ rfl ⟨rfl, by go_grown⟩
  all_goals rw [results_cell_tmp rfl]
  all_goals simp [asAddr, Result.andThen]
  all_goals rw [run_boxS (a := 0) (A := 18446744073709551615)]
  all_goals go_cell
theorem sdo_mul2s (a b B : Int) (w : World) (ha : 0 ≤ a ∧ a ≤ a ∧ a ≤ 18446744073709551615) (hb : 0 ≤ b ∧ b ≤ B ∧ B ≤ 18446744073709551615) (hs : (b == B) = false) (h : decide (18446744073709551615 < a * B) = true) :
    Calls Try.prog 23 #[.int .i64 3, .agg #[.int .u64 a, .int .u64 a], .agg #[.int .u64 b, .int .u64 B]] w fun e w' => e = .returned (.tuple #[.agg #[.int .u64 (0), .int .u64 (18446744073709551615)], .bool true]) ∧ Below w.heap.size w w' := by
  have h1 : decide (a ≤ a) = true := decide_eq_true ha.2.1
  have h2 : decide (b ≤ B) = true := decide_eq_true hb.2.1
  go_enter Try.func23, Try.ntmps23
  go_wp2_with (first
    | (go_at_call 11; go_must (refine (rright_any _ _ _).mono ?_); rintro e w' ⟨rfl, rfl⟩)
    | (go_at_call 39; go_must (refine (great_any _ _ _ (by omega) (by omega)).mono ?_); rintro e w' ⟨rfl, rfl⟩)
    | (go_at_call 40; go_must (refine (form_any _ _ (by omega)).mono ?_); rintro e w' ⟨rfl, rfl⟩))
  all_goals refine bodyPost_ret (v := .tuple #[.agg #[.int .u64 (0), .int .u64 (18446744073709551615)], .bool true]) ?_ rfl ⟨rfl, by go_grown⟩
  all_goals rw [results_cell_tmp rfl]
  all_goals simp [asAddr, Result.andThen]
  all_goals rw [run_boxS (a := 0) (A := 18446744073709551615)]
  all_goals go_cell
theorem sdo_div1 (a A B : Int) (w : World) (ha : 0 ≤ a ∧ a ≤ A ∧ A ≤ 18446744073709551615) (hb : 0 ≤ 0 ∧ 0 ≤ B ∧ B ≤ 18446744073709551615) (hs : (a == A) = false)  :
    Calls Try.prog 23 #[.int .i64 4, .agg #[.int .u64 a, .int .u64 A], .agg #[.int .u64 0, .int .u64 B]] w fun e w' => e = .returned (.tuple #[.agg #[.int .u64 (0), .int .u64 (A)], .bool true]) ∧ Below w.heap.size w w' := by
  have h1 : decide (a ≤ A) = true := decide_eq_true ha.2.1
  have h2 : decide (0 ≤ B) = true := decide_eq_true hb.2.1
  go_enter Try.func23, Try.ntmps23
  go_wp2_with (first
    | (go_at_call 11; go_must (refine (rright_any _ _ _).mono ?_); rintro e w' ⟨rfl, rfl⟩)
    | (go_at_call 39; go_must (refine (great_any _ _ _ (by omega) (by omega)).mono ?_); rintro e w' ⟨rfl, rfl⟩)
    | (go_at_call 40; go_must (refine (form_any _ _ (by omega)).mono ?_); rintro e w' ⟨rfl, rfl⟩))
  all_goals refine bodyPost_ret (v := .tuple #[.agg #[.int .u64 (0), .int .u64 (A)], .bool true]) ?_ rfl ⟨rfl, by go_grown⟩
  all_goals rw [results_cell_tmp rfl]
  all_goals simp [asAddr, Result.andThen]
  all_goals rw [run_boxS (a := 0) (A := A)]
  all_goals go_cell
theorem sdo_div1s (a B : Int) (w : World) (ha : 0 ≤ a ∧ a ≤ a ∧ a ≤ 18446744073709551615) (hb : 0 ≤ 0 ∧ 0 ≤ B ∧ B ≤ 18446744073709551615) (hs : (0 == B) = false)  :
    Calls Try.prog 23 #[.int .i64 4, .agg #[.int .u64 a, .int .u64 a], .agg #[.int .u64 0, .int .u64 B]] w fun e w' => e = .returned (.tuple #[.agg #[.int .u64 (0), .int .u64 (a)], .bool true]) ∧ Below w.heap.size w w' := by
  have h1 : decide (a ≤ a) = true := decide_eq_true ha.2.1
  have h2 : decide (0 ≤ B) = true := decide_eq_true hb.2.1
  go_enter Try.func23, Try.ntmps23
  go_wp2_with (first
    | (go_at_call 11; go_must (refine (rright_any _ _ _).mono ?_); rintro e w' ⟨rfl, rfl⟩)
    | (go_at_call 39; go_must (refine (great_any _ _ _ (by omega) (by omega)).mono ?_); rintro e w' ⟨rfl, rfl⟩)
    | (go_at_call 40; go_must (refine (form_any _ _ (by omega)).mono ?_); rintro e w' ⟨rfl, rfl⟩))
  all_goals refine bodyPost_ret (v := .tuple #[.agg #[.int .u64 (0), .int .u64 (a)], .bool true]) ?_ rfl ⟨rfl, by go_grown⟩
  all_goals rw [results_cell_tmp rfl]
  all_goals simp [asAddr, Result.andThen]
  all_goals rw [run_boxS (a := 0) (A := a)]
  all_goals go_cell
theorem sdo_div2 (a A b B : Int) (w : World) (ha : 0 ≤ a ∧ a ≤ A ∧ A ≤ 18446744073709551615) (hb : 0 ≤ b ∧ b ≤ B ∧ B ≤ 18446744073709551615) (hs : (a == A) = false) (h : (b == 0) = false) :
    Calls Try.prog 23 #[.int .i64 4, .agg #[.int .u64 a, .int .u64 A], .agg #[.int .u64 b, .int .u64 B]] w fun e w' => e = .returned (.tuple #[.agg #[.int .u64 (a / B), .int .u64 (A / b)], .bool true]) ∧ Below w.heap.size w w' := by
  have h1 : decide (a ≤ A) = true := decide_eq_true ha.2.1
  have h2 : decide (b ≤ B) = true := decide_eq_true hb.2.1
  have h3 : ¬ b = 0 := by simpa using h
  have h4 : ¬ B = 0 := by omega
  go_enter Try.func23, Try.ntmps23
  go_wp2_with (first
    | (go_at_call 11; go_must (refine (rright_any _ _ _).mono ?_); rintro e w' ⟨rfl, rfl⟩)
    | (go_at_call 39; go_must (refine (great_any _ _ _ (by omega) (by omega)).mono ?_); rintro e w' ⟨rfl, rfl⟩)
    | (go_at_call 40; go_must (refine (form_any _ _ (by omega)).mono ?_); rintro e w' ⟨rfl, rfl⟩))
  go_region
  all_goals go_wp2
  all_goals refine bodyPost_ret (v := .tuple #[.agg #[.int .u64 (a / B), .int .u64 (A / b)], .bool true]) ?_ rfl ⟨rfl, by go_grown⟩
  all_goals rw [results_cell_tmp rfl]
  all_goals simp [asAddr, Result.andThen]
  all_goals rw [run_boxS (a := a / B) (A := A / b)]
  all_goals go_cell
theorem sdo_div2s (a b B : Int) (w : World) (ha : 0 ≤ a ∧ a ≤ a ∧ a ≤ 18446744073709551615) (hb : 0 ≤ b ∧ b ≤ B ∧ B ≤ 18446744073709551615) (hs : (b == B) = false) (h : (b == 0) = false) :
    Calls Try.prog 23 #[.int .i64 4, .agg #[.int .u64 a, .int .u64 a], .agg #[.int .u64 b, .int .u64 B]] w fun e w' => e = .returned (.tuple #[.agg #[.int .u64 (a / B), .int .u64 (a / b)], .bool true]) ∧ Below w.heap.size w w' := by
  have h1 : decide (a ≤ a) = true := decide_eq_true ha.2.1
  have h2 : decide (b ≤ B) = true := decide_eq_true hb.2.1
  have h3 : ¬ b = 0 := by simpa using h
  have h4 : ¬ B = 0 := by omega
  go_enter Try.func23, Try.ntmps23
  go_wp2_with (first
    | (go_at_call 11; go_must (refine (rright_any _ _ _).mono ?_); rintro e w' ⟨rfl, rfl⟩)
    | (go_at_call 39; go_must (refine (great_any _ _ _ (by omega) (by omega)).mono ?_); rintro e w' ⟨rfl, rfl⟩)
    | (go_at_call 40; go_must (refine (form_any _ _ (by omega)).mono ?_); rintro e w' ⟨rfl, rfl⟩))
  go_region
  all_goals go_wp2
  all_goals refine bodyPost_ret (v := .tuple #[.agg #[.int .u64 (a / B), .int .u64 (a / b)], .bool true]) ?_ rfl ⟨rfl, by go_grown⟩
  all_goals rw [results_cell_tmp rfl]
  all_goals simp [asAddr, Result.andThen]
  all_goals rw [run_boxS (a := a / B) (A := a / b)]
  all_goals go_cell
theorem sdo_rem1 (a A B : Int) (w : World) (ha : 0 ≤ a ∧ a ≤ A ∧ A ≤ 18446744073709551615) (hb : 0 ≤ 0 ∧ 0 ≤ B ∧ B ≤ 18446744073709551615) (hs : (a == A) = false)  :
    Calls Try.prog 23 #[.int .i64 5, .agg #[.int .u64 a, .int .u64 A], .agg #[.int .u64 0, .int .u64 B]] w fun e w' => e = .returned (.tuple #[.agg #[.int .u64 (0), .int .u64 (A)], .bool true]) ∧ Below w.heap.size w w' := by
  have h1 : decide (a ≤ A) = true := decide_eq_true ha.2.1
  have h2 : decide (0 ≤ B) = true := decide_eq_true hb.2.1
  go_enter Try.func23, Try.ntmps23
  go_wp2_with (first
    | (go_at_call 11; go_must (refine (rright_any _ _ _).mono ?_); rintro e w' ⟨rfl, rfl⟩)
    | (go_at_call 39; go_must (refine (great_any _ _ _ (by omega) (by omega)).mono ?_); rintro e w' ⟨rfl, rfl⟩)
    | (go_at_call 40; go_must (refine (form_any _ _ (by omega)).mono ?_); rintro e w' ⟨rfl, rfl⟩))
  all_goals refine bodyPost_ret (v := .tuple #[.agg #[.int .u64 (0), .int .u64 (A)], .bool true]) ?_ rfl ⟨rfl, by go_grown⟩
  all_goals rw [results_cell_tmp rfl]
  all_goals simp [asAddr, Result.andThen]
  all_goals rw [run_boxS (a := 0) (A := A)]
  all_goals go_cell
theorem sdo_rem1s (a B : Int) (w : World) (ha : 0 ≤ a ∧ a ≤ a ∧ a ≤ 18446744073709551615) (hb : 0 ≤ 0 ∧ 0 ≤ B ∧ B ≤ 18446744073709551615) (hs : (0 == B) = false)  :
    Calls Try.prog 23 #[.int .i64 5, .agg #[.int .u64 a, .int .u64 a], .agg #[.int .u64 0, .int .u64 B]] w fun e w' => e = .returned (.tuple #[.agg #[.int .u64 (0), .int .u64 (a)], .bool true]) ∧ Below w.heap.size w w' := by
  have h1 : decide (a ≤ a) = true := decide_eq_true ha.2.1
  have h2 : decide (0 ≤ B) = true := decide_eq_true hb.2.1
  go_enter Try.func23, Try.ntmps23
  go_wp2_with (first
    | (go_at_call 11; go_must (refine (rright_any _ _ _).mono ?_); rintro e w' ⟨rfl, rfl⟩)
    | (go_at_call 39; go_must (refine (great_any _ _ _ (by omega) (by omega)).mono ?_); rintro e w' ⟨rfl, rfl⟩)
    | (go_at_call 40; go_must (refine (form_any _ _ (by omega)).mono ?_); rintro e w' ⟨rfl, rfl⟩))
  all_goals refine bodyPost_ret (v := .tuple #[.agg #[.int .u64 (0), .int .u64 (a)], .bool true]) ?_ rfl ⟨rfl, by go_grown⟩
  all_goals rw [results_cell_tmp rfl]
  all_goals simp [asAddr, Result.andThen]
  all_goals rw [run_boxS (a := 0) (A := a)]
  all_goals go_cell
end Go.Proofs.Ytammakfpmimljaa
