/-
  What the document's Do of two spans answers, a theorem a way. Condition: right spans of numbers of 64 bits, not both single.
-/
import Derived.Test.YtammakfpmimljaaS6Ref
import Derived.Test.YtammakfpmimljaaA5As
import Derived.Deep.RegionWith
namespace Go.Proofs.Ytammakfpmimljaa
open Go.RowKit
set_option linter.unusedVariables false
set_option maxRecDepth 20000

theorem sdo_rem2 (a A b B : Int) (w : World) (ha : 0 ≤ a ∧ a ≤ A ∧ A ≤ 18446744073709551615) (hb : 0 ≤ b ∧ b ≤ B ∧ B ≤ 18446744073709551615) (hs : (a == A) = false) (h : (b == 0) = false) (hlt : A < b) :
    Calls Try.prog 23 #[.int .i64 5, .agg #[.int .u64 a, .int .u64 A], .agg #[.int .u64 b, .int .u64 B]] w fun e w' => e = .returned (.tuple #[.agg #[.int .u64 (a), .int .u64 (A)], .bool true]) ∧ Below w.heap.size w w' := by
  have h1 : decide (a ≤ A) = true := decide_eq_true ha.2.1
  have h2 : decide (b ≤ B) = true := decide_eq_true hb.2.1
  go_enter Try.func23, Try.ntmps23
  go_wp2_with (first
    | (go_at_call 11; go_must (refine (rright_any _ _ _).mono ?_); rintro e w' ⟨rfl, rfl⟩)
    | (go_at_call 39; go_must (refine (great_any _ _ _ (by omega) (by omega)).mono ?_); rintro e w' ⟨rfl, rfl⟩)
    | (go_at_call 40; go_must (refine (form_any _ _ (by omega)).mono ?_); rintro e w' ⟨rfl, rfl⟩))
  all_goals refine bodyPost_ret (v := .tuple #[.agg #[.int .u64 (a), .int .u64 (A)], .bool true]) ?_ rfl ⟨rfl, by go_grown⟩
  all_goals rw [results_cell_tmp rfl]
  all_goals simp [asAddr, Result.andThen]
  all_goals rw [run_boxS (a := a) (A := A)]
  all_goals go_cell
theorem sdo_rem2s (a b B : Int) (w : World) (ha : 0 ≤ a ∧ a ≤ a ∧ a ≤ 18446744073709551615) (hb : 0 ≤ b ∧ b ≤ B ∧ B ≤ 18446744073709551615) (hs : (b == B) = false) (h : (b == 0) = false) (hlt : a < b) :
    Calls Try.prog 23 #[.int .i64 5, .agg #[.int .u64 a, .int .u64 a], .agg #[.int .u64 b, .int .u64 B]] w fun e w' => e = .returned (.tuple #[.agg #[.int .u64 (a), .int .u64 (a)], .bool true]) ∧ Below w.heap.size w w' := by
  have h1 : decide (a ≤ a) = true := decide_eq_true ha.2.1
  have h2 : decide (b ≤ B) = true := decide_eq_true hb.2.1
  go_enter Try.func23, Try.ntmps23
  go_wp2_with (first
    | (go_at_call 11; go_must (refine (rright_any _ _ _).mono ?_); rintro e w' ⟨rfl, rfl⟩)
    | (go_at_call 39; go_must (refine (great_any _ _ _ (by omega) (by omega)).mono ?_); rintro e w' ⟨rfl, rfl⟩)
    | (go_at_call 40; go_must (refine (form_any _ _ (by omega)).mono ?_); rintro e w' ⟨rfl, rfl⟩))
  all_goals refine bodyPost_ret (v := .tuple #[.agg #[.int .u64 (a), .int .u64 (a)], .bool true]) ?_ rfl ⟨rfl, by go_grown⟩
  all_goals rw [results_cell_tmp rfl]
  all_goals simp [asAddr, Result.andThen]
  all_goals rw [run_boxS (a := a) (A := a)]
  all_goals go_cell
theorem sdo_rem3 (a A b B : Int) (w : World) (ha : 0 ≤ a ∧ a ≤ A ∧ A ≤ 18446744073709551615) (hb : 0 ≤ b ∧ b ≤ B ∧ B ≤ 18446744073709551615) (hs : (a == A) = false) (h : (b == 0) = false) (hlt : ¬ A < b) (hX : IntKind.u64.wrap (B - 1) = B - 1) (hm : B - 1 < A) :
    Calls Try.prog 23 #[.int .i64 5, .agg #[.int .u64 a, .int .u64 A], .agg #[.int .u64 b, .int .u64 B]] w fun e w' => e = .returned (.tuple #[.agg #[.int .u64 (0), .int .u64 (B - 1)], .bool true]) ∧ Below w.heap.size w w' := by
  have h1 : decide (a ≤ A) = true := decide_eq_true ha.2.1
  have h2 : decide (b ≤ B) = true := decide_eq_true hb.2.1
  go_enter Try.func23, Try.ntmps23
  go_wp2_with (first
    | (go_at_call 11; go_must (refine (rright_any _ _ _).mono ?_); rintro e w' ⟨rfl, rfl⟩)
    | (go_at_call 39; go_must (refine (great_any _ _ _ (by omega) (by omega)).mono ?_); rintro e w' ⟨rfl, rfl⟩)
    | (go_at_call 40; go_must (refine (form_any _ _ (by omega)).mono ?_); rintro e w' ⟨rfl, rfl⟩))
  all_goals refine bodyPost_ret (v := .tuple #[.agg #[.int .u64 (0), .int .u64 (B - 1)], .bool true]) ?_ rfl ⟨rfl, by go_grown⟩
  all_goals rw [results_cell_tmp rfl]
  all_goals simp [asAddr, Result.andThen]
  all_goals rw [run_boxS (a := 0) (A := B - 1)]
  all_goals go_cell
theorem sdo_rem3s (a b B : Int) (w : World) (ha : 0 ≤ a ∧ a ≤ a ∧ a ≤ 18446744073709551615) (hb : 0 ≤ b ∧ b ≤ B ∧ B ≤ 18446744073709551615) (hs : (b == B) = false) (h : (b == 0) = false) (hlt : ¬ a < b) (hX : IntKind.u64.wrap (B - 1) = B - 1) (hm : B - 1 < a) :
    Calls Try.prog 23 #[.int .i64 5, .agg #[.int .u64 a, .int .u64 a], .agg #[.int .u64 b, .int .u64 B]] w fun e w' => e = .returned (.tuple #[.agg #[.int .u64 (0), .int .u64 (B - 1)], .bool true]) ∧ Below w.heap.size w w' := by
  have h1 : decide (a ≤ a) = true := decide_eq_true ha.2.1
  have h2 : decide (b ≤ B) = true := decide_eq_true hb.2.1
  go_enter Try.func23, Try.ntmps23
  go_wp2_with (first
    | (go_at_call 11; go_must (refine (rright_any _ _ _).mono ?_); rintro e w' ⟨rfl, rfl⟩)
    | (go_at_call 39; go_must (refine (great_any _ _ _ (by omega) (by omega)).mono ?_); rintro e w' ⟨rfl, rfl⟩)
    | (go_at_call 40; go_must (refine (form_any _ _ (by omega)).mono ?_); rintro e w' ⟨rfl, rfl⟩))
  all_goals refine bodyPost_ret (v := .tuple #[.agg #[.int .u64 (0), .int .u64 (B - 1)], .bool true]) ?_ rfl ⟨rfl, by go_grown⟩
  all_goals rw [results_cell_tmp rfl]
  all_goals simp [asAddr, Result.andThen]
  all_goals rw [run_boxS (a := 0) (A := B - 1)]
  all_goals go_cell
theorem sdo_rem4 (a A b B : Int) (w : World) (ha : 0 ≤ a ∧ a ≤ A ∧ A ≤ 18446744073709551615) (hb : 0 ≤ b ∧ b ≤ B ∧ B ≤ 18446744073709551615) (hs : (a == A) = false) (h : (b == 0) = false) (hlt : ¬ A < b) (hX : IntKind.u64.wrap (B - 1) = B - 1) (hm : A ≤ B - 1) :
    Calls Try.prog 23 #[.int .i64 5, .agg #[.int .u64 a, .int .u64 A], .agg #[.int .u64 b, .int .u64 B]] w fun e w' => e = .returned (.tuple #[.agg #[.int .u64 (0), .int .u64 (A)], .bool true]) ∧ Below w.heap.size w w' := by
  have h1 : decide (a ≤ A) = true := decide_eq_true ha.2.1
  have h2 : decide (b ≤ B) = true := decide_eq_true hb.2.1
  go_enter Try.func23, Try.ntmps23
  go_wp2_with (first
    | (go_at_call 11; go_must (refine (rright_any _ _ _).mono ?_); rintro e w' ⟨rfl, rfl⟩)
    | (go_at_call 39; go_must (refine (great_any _ _ _ (by omega) (by omega)).mono ?_); rintro e w' ⟨rfl, rfl⟩)
    | (go_at_call 40; go_must (refine (form_any _ _ (by omega)).mono ?_); rintro e w' ⟨rfl, rfl⟩))
  all_goals refine bodyPost_ret (v := .tuple #[.agg #[.int .u64 (0), .int .u64 (A)], .bool true]) ?_ rfl ⟨rfl, by go_grown⟩
  all_goals rw [results_cell_tmp rfl]
  all_goals simp [asAddr, Result.andThen]
  all_goals rw [run_boxS (a := 0) (A := A)]
  all_goals go_cell
theorem sdo_rem4s (a b B : Int) (w : World) (ha : 0 ≤ a ∧ a ≤ a ∧ a ≤ 18446744073709551615) (hb : 0 ≤ b ∧ b ≤ B ∧ B ≤ 18446744073709551615) (hs : (b == B) = false) (h : (b == 0) = false) (hlt : ¬ a < b) (hX : IntKind.u64.wrap (B - 1) = B - 1) (hm : a ≤ B - 1) :
    Calls Try.prog 23 #[.int .i64 5, .agg #[.int .u64 a, .int .u64 a], .agg #[.int .u64 b, .int .u64 B]] w fun e w' => e = .returned (.tuple #[.agg #[.int .u64 (0), .int .u64 (a)], .bool true]) ∧ Below w.heap.size w w' := by
  have h1 : decide (a ≤ a) = true := decide_eq_true ha.2.1
  have h2 : decide (b ≤ B) = true := decide_eq_true hb.2.1
  go_enter Try.func23, Try.ntmps23
  go_wp2_with (first
    | (go_at_call 11; go_must (refine (rright_any _ _ _).mono ?_); rintro e w' ⟨rfl, rfl⟩)
    | (go_at_call 39; go_must (refine (great_any _ _ _ (by omega) (by omega)).mono ?_); rintro e w' ⟨rfl, rfl⟩)
    | (go_at_call 40; go_must (refine (form_any _ _ (by omega)).mono ?_); rintro e w' ⟨rfl, rfl⟩))
  all_goals refine bodyPost_ret (v := .tuple #[.agg #[.int .u64 (0), .int .u64 (a)], .bool true]) ?_ rfl ⟨rfl, by go_grown⟩
  all_goals rw [results_cell_tmp rfl]
  all_goals simp [asAddr, Result.andThen]
  all_goals rw [run_boxS (a := 0) (A := a)]
  all_goals go_cell
theorem sdo_and1 (a A b B : Int) (w : World) (ha : 0 ≤ a ∧ a ≤ A ∧ A ≤ 18446744073709551615) (hb : 0 ≤ b ∧ b ≤ B ∧ B ≤ 18446744073709551615) (hs : (a == A) = false) (hm : A ≤ B) :
    Calls Try.prog 23 #[.int .i64 6, .agg #[.int .u64 a, .int .u64 A], .agg #[.int .u64 b, .int .u64 B]] w fun e w' => e = .returned (.tuple #[.agg #[.int .u64 (0), .int .u64 (A)], .bool true]) ∧ Below w.heap.size w w' := by
  have h1 : decide (a ≤ A) = true := decide_eq_true ha.2.1
  have h2 : decide (b ≤ B) = true := decide_eq_true hb.2.1
  go_enter Try.func23, Try.ntmps23
  go_wp2_with (first
    | (go_at_call 11; go_must (refine (rright_any _ _ _).mono ?_); rintro e w' ⟨rfl, rfl⟩)
    | (go_at_call 39; go_must (refine (great_any _ _ _ (by omega) (by omega)).mono ?_); rintro e w' ⟨rfl, rfl⟩)
    | (go_at_call 40; go_must (refine (form_any _ _ (by omega)).mono ?_); rintro e w' ⟨rfl, rfl⟩))
  all_goals refine bodyPost_ret (v := .tuple #[.agg #[.int .u64 (0), .int .u64 (A)], .bool true]) ?_ rfl ⟨rfl, by go_grown⟩
  all_goals rw [results_cell_tmp rfl]
  all_goals simp [asAddr, Result.andThen]
  all_goals rw [run_boxS (a := 0) (A := A)]
  all_goals go_cell
theorem sdo_and1s (a b B : Int) (w : World) (ha : 0 ≤ a ∧ a ≤ a ∧ a ≤ 18446744073709551615) (hb : 0 ≤ b ∧ b ≤ B ∧ B ≤ 18446744073709551615) (hs : (b == B) = false) (hm : a ≤ B) :
    Calls Try.prog 23 #[.int .i64 6, .agg #[.int .u64 a, .int .u64 a], .agg #[.int .u64 b, .int .u64 B]] w fun e w' => e = .returned (.tuple #[.agg #[.int .u64 (0), .int .u64 (a)], .bool true]) ∧ Below w.heap.size w w' := by
  have h1 : decide (a ≤ a) = true := decide_eq_true ha.2.1
  have h2 : decide (b ≤ B) = true := decide_eq_true hb.2.1
  go_enter Try.func23, Try.ntmps23
  go_wp2_with (first
    | (go_at_call 11; go_must (refine (rright_any _ _ _).mono ?_); rintro e w' ⟨rfl, rfl⟩)
    | (go_at_call 39; go_must (refine (great_any _ _ _ (by omega) (by omega)).mono ?_); rintro e w' ⟨rfl, rfl⟩)
    | (go_at_call 40; go_must (refine (form_any _ _ (by omega)).mono ?_); rintro e w' ⟨rfl, rfl⟩))
  all_goals refine bodyPost_ret (v := .tuple #[.agg #[.int .u64 (0), .int .u64 (a)], .bool true]) ?_ rfl ⟨rfl, by go_grown⟩
  all_goals rw [results_cell_tmp rfl]
  all_goals simp [asAddr, Result.andThen]
  all_goals rw [run_boxS (a := 0) (A := a)]
  all_goals go_cell
theorem sdo_and2 (a A b B : Int) (w : World) (ha : 0 ≤ a ∧ a ≤ A ∧ A ≤ 18446744073709551615) (hb : 0 ≤ b ∧ b ≤ B ∧ B ≤ 18446744073709551615) (hs : (a == A) = false) (hm : B < A) :
    Calls Try.prog 23 #[.int .i64 6, .agg #[.int .u64 a, .int .u64 A], .agg #[.int .u64 b, .int .u64 B]] w fun e w' => e = .returned (.tuple #[.agg #[.int .u64 (0), .int .u64 (B)], .bool true]) ∧ Below w.heap.size w w' := by
  have h1 : decide (a ≤ A) = true := decide_eq_true ha.2.1
  have h2 : decide (b ≤ B) = true := decide_eq_true hb.2.1
  go_enter Try.func23, Try.ntmps23
  go_wp2_with (first
    | (go_at_call 11; go_must (refine (rright_any _ _ _).mono ?_); rintro e w' ⟨rfl, rfl⟩)
    | (go_at_call 39; go_must (refine (great_any _ _ _ (by omega) (by omega)).mono ?_); rintro e w' ⟨rfl, rfl⟩)
    | (go_at_call 40; go_must (refine (form_any _ _ (by omega)).mono ?_); rintro e w' ⟨rfl, rfl⟩))
  all_goals refine bodyPost_ret (v := .tuple #[.agg #[.int .u64 (0), .int .u64 (B)], .bool true]) ?_ rfl ⟨rfl, by go_grown⟩
  all_goals rw [results_cell_tmp rfl]
  all_goals simp [asAddr, Result.andThen]
  all_goals rw [run_boxS (a := 0) (A := B)]
  all_goals go_cell
theorem sdo_and2s (a b B : Int) (w : World) (ha : 0 ≤ a ∧ a ≤ a ∧ a ≤ 18446744073709551615) (hb : 0 ≤ b ∧ b ≤ B ∧ B ≤ 18446744073709551615) (hs : (b == B) = false) (hm : B < a) :
    Calls Try.prog 23 #[.int .i64 6, .agg #[.int .u64 a, .int .u64 a], .agg #[.int .u64 b, .int .u64 B]] w fun e w' => e = .returned (.tuple #[.agg #[.int .u64 (0), .int .u64 (B)], .bool true]) ∧ Below w.heap.size w w' := by
  have h1 : decide (a ≤ a) = true := decide_eq_true ha.2.1
  have h2 : decide (b ≤ B) = true := decide_eq_true hb.2.1
  go_enter Try.func23, Try.ntmps23
  go_wp2_with (first
    | (go_at_call 11; go_must (refine (rright_any _ _ _).mono ?_); rintro e w' ⟨rfl, rfl⟩)
    | (go_at_call 39; go_must (refine (great_any _ _ _ (by omega) (by omega)).mono ?_); rintro e w' ⟨rfl, rfl⟩)
    | (go_at_call 40; go_must (refine (form_any _ _ (by omega)).mono ?_); rintro e w' ⟨rfl, rfl⟩))
  all_goals refine bodyPost_ret (v := .tuple #[.agg #[.int .u64 (0), .int .u64 (B)], .bool true]) ?_ rfl ⟨rfl, by go_grown⟩
  all_goals rw [results_cell_tmp rfl]
  all_goals simp [asAddr, Result.andThen]
  all_goals rw [run_boxS (a := 0) (A := B)]
  all_goals go_cell
theorem sdo_xor1 (a A b B : Int) (w : World) (ha : 0 ≤ a ∧ a ≤ A ∧ A ≤ 18446744073709551615) (hb : 0 ≤ b ∧ b ≤ B ∧ B ≤ 18446744073709551615) (hs : (a == A) = false) (hm : A < B) :
    Calls Try.prog 23 #[.int .i64 8, .agg #[.int .u64 a, .int .u64 A], .agg #[.int .u64 b, .int .u64 B]] w fun e w' => e = .returned (.tuple #[.agg #[.int .u64 (0), .int .u64 (formL B)], .bool true]) ∧ Below w.heap.size w w' := by
  have h1 : decide (a ≤ A) = true := decide_eq_true ha.2.1
  have h2 : decide (b ≤ B) = true := decide_eq_true hb.2.1
  go_enter Try.func23, Try.ntmps23
  go_wp2_with (first
    | (go_at_call 11; go_must (refine (rright_any _ _ _).mono ?_); rintro e w' ⟨rfl, rfl⟩)
    | (go_at_call 39; go_must (refine (great_any _ _ _ (by omega) (by omega)).mono ?_); rintro e w' ⟨rfl, rfl⟩)
    | (go_at_call 40; go_must (refine (form_any _ _ (by omega)).mono ?_); rintro e w' ⟨rfl, rfl⟩))
  all_goals refine bodyPost_ret (v := .tuple #[.agg #[.int .u64 (0), .int .u64 (formL B)], .bool true]) ?_ rfl ⟨rfl, by go_grown⟩
  all_goals rw [results_cell_tmp rfl]
  all_goals simp [asAddr, Result.andThen]
  all_goals rw [run_boxS (a := 0) (A := formL B)]
  all_goals go_cell
theorem sdo_xor1s (a b B : Int) (w : World) (ha : 0 ≤ a ∧ a ≤ a ∧ a ≤ 18446744073709551615) (hb : 0 ≤ b ∧ b ≤ B ∧ B ≤ 18446744073709551615) (hs : (b == B) = false) (hm : a < B) :
    Calls Try.prog 23 #[.int .i64 8, .agg #[.int .u64 a, .int .u64 a], .agg #[.int .u64 b, .int .u64 B]] w fun e w' => e = .returned (.tuple #[.agg #[.int .u64 (0), .int .u64 (formL B)], .bool true]) ∧ Below w.heap.size w w' := by
  have h1 : decide (a ≤ a) = true := decide_eq_true ha.2.1
  have h2 : decide (b ≤ B) = true := decide_eq_true hb.2.1
  go_enter Try.func23, Try.ntmps23
  go_wp2_with (first
    | (go_at_call 11; go_must (refine (rright_any _ _ _).mono ?_); rintro e w' ⟨rfl, rfl⟩)
    | (go_at_call 39; go_must (refine (great_any _ _ _ (by omega) (by omega)).mono ?_); rintro e w' ⟨rfl, rfl⟩)
    | (go_at_call 40; go_must (refine (form_any _ _ (by omega)).mono ?_); rintro e w' ⟨rfl, rfl⟩))
  all_goals refine bodyPost_ret (v := .tuple #[.agg #[.int .u64 (0), .int .u64 (formL B)], .bool true]) ?_ rfl ⟨rfl, by go_grown⟩
  all_goals rw [results_cell_tmp rfl]
  all_goals simp [asAddr, Result.andThen]
  all_goals rw [run_boxS (a := 0) (A := formL B)]
  all_goals go_cell
theorem sdo_xor2 (a A b B : Int) (w : World) (ha : 0 ≤ a ∧ a ≤ A ∧ A ≤ 18446744073709551615) (hb : 0 ≤ b ∧ b ≤ B ∧ B ≤ 18446744073709551615) (hs : (a == A) = false) (hm : B ≤ A) :
    Calls Try.prog 23 #[.int .i64 8, .agg #[.int .u64 a, .int .u64 A], .agg #[.int .u64 b, .int .u64 B]] w fun e w' => e = .returned (.tuple #[.agg #[.int .u64 (0), .int .u64 (formL A)], .bool true]) ∧ Below w.heap.size w w' := by
  have h1 : decide (a ≤ A) = true := decide_eq_true ha.2.1
  have h2 : decide (b ≤ B) = true := decide_eq_true hb.2.1
  go_enter Try.func23, Try.ntmps23
  go_wp2_with (first
    | (go_at_call 11; go_must (refine (rright_any _ _ _).mono ?_); rintro e w' ⟨rfl, rfl⟩)
    | (go_at_call 39; go_must (refine (great_any _ _ _ (by omega) (by omega)).mono ?_); rintro e w' ⟨rfl, rfl⟩)
    | (go_at_call 40; go_must (refine (form_any _ _ (by omega)).mono ?_); rintro e w' ⟨rfl, rfl⟩))
  all_goals refine bodyPost_ret (v := .tuple #[.agg #[.int .u64 (0), .int .u64 (formL A)], .bool true]) ?_ rfl ⟨rfl, by go_grown⟩
  all_goals rw [results_cell_tmp rfl]
  all_goals simp [asAddr, Result.andThen]
  all_goals rw [run_boxS (a := 0) (A := formL A)]
  all_goals go_cell
theorem sdo_xor2s (a b B : Int) (w : World) (ha : 0 ≤ a ∧ a ≤ a ∧ a ≤ 18446744073709551615) (hb : 0 ≤ b ∧ b ≤ B ∧ B ≤ 18446744073709551615) (hs : (b == B) = false) (hm : B ≤ a) :
    Calls Try.prog 23 #[.int .i64 8, .agg #[.int .u64 a, .int .u64 a], .agg #[.int .u64 b, .int .u64 B]] w fun e w' => e = .returned (.tuple #[.agg #[.int .u64 (0), .int .u64 (formL a)], .bool true]) ∧ Below w.heap.size w w' := by
  have h1 : decide (a ≤ a) = true := decide_eq_true ha.2.1
  have h2 : decide (b ≤ B) = true := decide_eq_true hb.2.1
  go_enter Try.func23, Try.ntmps23
  go_wp2_with (first
    | (go_at_call 11; go_must (refine (rright_any _ _ _).mono ?_); rintro e w' ⟨rfl, rfl⟩)
    | (go_at_call 39; go_must (refine (great_any _ _ _ (by omega) (by omega)).mono ?_); rintro e w' ⟨rfl, rfl⟩)
    | (go_at_call 40; go_must (refine (form_any _ _ (by omega)).mono ?_); rintro e w' ⟨rfl, rfl⟩))
  all_goals refine bodyPost_ret (v := .tuple #[.agg #[.int .u64 (0), .int .u64 (formL a)], .bool true]) ?_ rfl ⟨rfl, by go_grown⟩
  all_goals rw [results_cell_tmp rfl]
  all_goals simp [asAddr, Result.andThen]
  all_goals rw [run_boxS (a := 0) (A := formL a)]
  all_goals go_cell
theorem sdo_shl1 (a A b B : Int) (w : World) (ha : 0 ≤ a ∧ a ≤ A ∧ A ≤ 18446744073709551615) (hb : 0 ≤ b ∧ b ≤ B ∧ B ≤ 18446744073709551615) (hs : (a == A) = false) (h : (b == B) = false) :
    Calls Try.prog 23 #[.int .i64 9, .agg #[.int .u64 a, .int .u64 A], .agg #[.int .u64 b, .int .u64 B]] w fun e w' => e = .returned (.tuple #[.agg #[.int .u64 (0), .int .u64 (18446744073709551615)], .bool true]) ∧ Below w.heap.size w w' := by
  have h1 : decide (a ≤ A) = true := decide_eq_true ha.2.1
  have h2 : decide (b ≤ B) = true := decide_eq_true hb.2.1
  go_enter Try.func23, Try.ntmps23
  go_wp2_with (first
    | (go_at_call 11; go_must (refine (rright_any _ _ _).mono ?_); rintro e w' ⟨rfl, rfl⟩)
    | (go_at_call 39; go_must (refine (great_any _ _ _ (by omega) (by omega)).mono ?_); rintro e w' ⟨rfl, rfl⟩)
    | (go_at_call 40; go_must (refine (form_any _ _ (by omega)).mono ?_); rintro e w' ⟨rfl, rfl⟩))
  all_goals refine bodyPost_ret (v := .tuple #[.agg #[.int .u64 (0), .int .u64 (18446744073709551615)], .bool true]) ?_ rfl ⟨rfl, by go_grown⟩
  all_goals rw [results_cell_tmp rfl]
  all_goals simp [asAddr, Result.andThen]
  all_goals rw [run_boxS (a := 0) (A := 18446744073709551615)]
  all_goals go_cell
theorem sdo_shl1s (a b B : Int) (w : World) (ha : 0 ≤ a ∧ a ≤ a ∧ a ≤ 18446744073709551615) (hb : 0 ≤ b ∧ b ≤ B ∧ B ≤ 18446744073709551615) (hs : (b == B) = false) (h : (b == B) = false) :
    Calls Try.prog 23 #[.int .i64 9, .agg #[.int .u64 a, .int .u64 a], .agg #[.int .u64 b, .int .u64 B]] w fun e w' => e = .returned (.tuple #[.agg #[.int .u64 (0), .int .u64 (18446744073709551615)], .bool true]) ∧ Below w.heap.size w w' := by
  have h1 : decide (a ≤ a) = true := decide_eq_true ha.2.1
  have h2 : decide (b ≤ B) = true := decide_eq_true hb.2.1
  go_enter Try.func23, Try.ntmps23
  go_wp2_with (first
    | (go_at_call 11; go_must (refine (rright_any _ _ _).mono ?_); rintro e w' ⟨rfl, rfl⟩)
    | (go_at_call 39; go_must (refine (great_any _ _ _ (by omega) (by omega)).mono ?_); rintro e w' ⟨rfl, rfl⟩)
    | (go_at_call 40; go_must (refine (form_any _ _ (by omega)).mono ?_); rintro e w' ⟨rfl, rfl⟩))
  all_goals refine bodyPost_ret (v := .tuple #[.agg #[.int .u64 (0), .int .u64 (18446744073709551615)], .bool true]) ?_ rfl ⟨rfl, by go_grown⟩
  all_goals rw [results_cell_tmp rfl]
  all_goals simp [asAddr, Result.andThen]
  all_goals rw [run_boxS (a := 0) (A := 18446744073709551615)]
  all_goals go_cell
end Go.Proofs.Ytammakfpmimljaa
