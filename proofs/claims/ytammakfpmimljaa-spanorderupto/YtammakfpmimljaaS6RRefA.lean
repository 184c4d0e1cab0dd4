/-
  What the document's Refine answers, a theorem a way. Condition: right spans of numbers of 64 bits.
-/
import Derived.Test.YtammakfpmimljaaS6Ref
namespace Go.Proofs.Ytammakfpmimljaa
open Go.RowKit
set_option linter.unusedVariables false
set_option maxRecDepth 20000

theorem sref_less1_18 (a A n : Int) (w : World) (ha : 0 ≤ a ∧ a ≤ A ∧ A ≤ 18446744073709551615) (hb : 0 ≤ n ∧ n ≤ 18446744073709551615) (h : n ≤ a) :
    Calls Try.prog 25 #[.int .i64 18, .agg #[.int .u64 a, .int .u64 A], .agg #[.int .u64 n, .int .u64 n], .bool true] w fun e w' => e = .returned (.tuple #[.agg #[.int .u64 (0), .int .u64 (0)], .bool false]) ∧ Below w.heap.size w w' := by
  have h1 : decide (a ≤ A) = true := decide_eq_true ha.2.1
  have h2 : decide (n ≤ n) = true := decide_eq_true (Int.le_refl _)
  go_enter Try.func25, Try.ntmps25
  go_wp2_with (first
    | (go_at_call 11; go_must (refine (rright_any _ _ _).mono ?_); rintro e w' ⟨rfl, rfl⟩)
    | (go_at_call 15; go_must (refine (rhas_any _ _ _ _).mono ?_); rintro e w' ⟨rfl, rfl⟩))
  refine bodyPost_ret (v := .tuple #[.agg #[.int .u64 (0), .int .u64 (0)], .bool false]) ?_ rfl ⟨rfl, by go_grown⟩
  rw [results_cell_tmp rfl]
  simp [asAddr, Result.andThen]
  rw [run_boxS (a := 0) (A := 0)]
  all_goals go_cell
theorem sref_less2_18 (a A n : Int) (w : World) (ha : 0 ≤ a ∧ a ≤ A ∧ A ≤ 18446744073709551615) (hb : 0 ≤ n ∧ n ≤ 18446744073709551615) (h : a < n) (hX : IntKind.u64.wrap (n - 1) = n - 1) (hm : A ≤ n - 1) :
    Calls Try.prog 25 #[.int .i64 18, .agg #[.int .u64 a, .int .u64 A], .agg #[.int .u64 n, .int .u64 n], .bool true] w fun e w' => e = .returned (.tuple #[.agg #[.int .u64 (a), .int .u64 (A)], .bool true]) ∧ Below w.heap.size w w' := by
  have h1 : decide (a ≤ A) = true := decide_eq_true ha.2.1
  have h2 : decide (n ≤ n) = true := decide_eq_true (Int.le_refl _)
  go_enter Try.func25, Try.ntmps25
  go_wp2_with (first
    | (go_at_call 11; go_must (refine (rright_any _ _ _).mono ?_); rintro e w' ⟨rfl, rfl⟩)
    | (go_at_call 15; go_must (refine (rhas_any _ _ _ _).mono ?_); rintro e w' ⟨rfl, rfl⟩))
  refine bodyPost_ret (v := .tuple #[.agg #[.int .u64 (a), .int .u64 (A)], .bool true]) ?_ rfl ⟨rfl, by go_grown⟩
  rw [results_cell_tmp rfl]
  simp [asAddr, Result.andThen]
  rw [run_boxS (a := a) (A := A)]
  all_goals go_cell
theorem sref_less3_18 (a A n : Int) (w : World) (ha : 0 ≤ a ∧ a ≤ A ∧ A ≤ 18446744073709551615) (hb : 0 ≤ n ∧ n ≤ 18446744073709551615) (h : a < n) (hX : IntKind.u64.wrap (n - 1) = n - 1) (hm : n - 1 < A) :
    Calls Try.prog 25 #[.int .i64 18, .agg #[.int .u64 a, .int .u64 A], .agg #[.int .u64 n, .int .u64 n], .bool true] w fun e w' => e = .returned (.tuple #[.agg #[.int .u64 (a), .int .u64 (n - 1)], .bool true]) ∧ Below w.heap.size w w' := by
  have h1 : decide (a ≤ A) = true := decide_eq_true ha.2.1
  have h2 : decide (n ≤ n) = true := decide_eq_true (Int.le_refl _)
  go_enter Try.func25, Try.ntmps25
  go_wp2_with (first
    | (go_at_call 11; go_must (refine (rright_any _ _ _).mono ?_); rintro e w' ⟨rfl, rfl⟩)
    | (go_at_call 15; go_must (refine (rhas_any _ _ _ _).mono ?_); rintro e w' ⟨rfl, rfl⟩))
  refine bodyPost_ret (v := .tuple #[.agg #[.int .u64 (a), .int .u64 (n - 1)], .bool true]) ?_ rfl ⟨rfl, by go_grown⟩
  rw [results_cell_tmp rfl]
  simp [asAddr, Result.andThen]
  rw [run_boxS (a := a) (A := n - 1)]
  all_goals go_cell
theorem sref_less1_19 (a A n : Int) (w : World) (ha : 0 ≤ a ∧ a ≤ A ∧ A ≤ 18446744073709551615) (hb : 0 ≤ n ∧ n ≤ 18446744073709551615) (h : n ≤ a) :
    Calls Try.prog 25 #[.int .i64 19, .agg #[.int .u64 a, .int .u64 A], .agg #[.int .u64 n, .int .u64 n], .bool false] w fun e w' => e = .returned (.tuple #[.agg #[.int .u64 (0), .int .u64 (0)], .bool false]) ∧ Below w.heap.size w w' := by
  have h1 : decide (a ≤ A) = true := decide_eq_true ha.2.1
  have h2 : decide (n ≤ n) = true := decide_eq_true (Int.le_refl _)
  go_enter Try.func25, Try.ntmps25
  go_wp2_with (first
    | (go_at_call 11; go_must (refine (rright_any _ _ _).mono ?_); rintro e w' ⟨rfl, rfl⟩)
    | (go_at_call 15; go_must (refine (rhas_any _ _ _ _).mono ?_); rintro e w' ⟨rfl, rfl⟩))
  refine bodyPost_ret (v := .tuple #[.agg #[.int .u64 (0), .int .u64 (0)], .bool false]) ?_ rfl ⟨rfl, by go_grown⟩
  rw [results_cell_tmp rfl]
  simp [asAddr, Result.andThen]
  rw [run_boxS (a := 0) (A := 0)]
  all_goals go_cell
theorem sref_less2_19 (a A n : Int) (w : World) (ha : 0 ≤ a ∧ a ≤ A ∧ A ≤ 18446744073709551615) (hb : 0 ≤ n ∧ n ≤ 18446744073709551615) (h : a < n) (hX : IntKind.u64.wrap (n - 1) = n - 1) (hm : A ≤ n - 1) :
    Calls Try.prog 25 #[.int .i64 19, .agg #[.int .u64 a, .int .u64 A], .agg #[.int .u64 n, .int .u64 n], .bool false] w fun e w' => e = .returned (.tuple #[.agg #[.int .u64 (a), .int .u64 (A)], .bool true]) ∧ Below w.heap.size w w' := by
  have h1 : decide (a ≤ A) = true := decide_eq_true ha.2.1
  have h2 : decide (n ≤ n) = true := decide_eq_true (Int.le_refl _)
  go_enter Try.func25, Try.ntmps25
  go_wp2_with (first
    | (go_at_call 11; go_must (refine (rright_any _ _ _).mono ?_); rintro e w' ⟨rfl, rfl⟩)
    | (go_at_call 15; go_must (refine (rhas_any _ _ _ _).mono ?_); rintro e w' ⟨rfl, rfl⟩))
  refine bodyPost_ret (v := .tuple #[.agg #[.int .u64 (a), .int .u64 (A)], .bool true]) ?_ rfl ⟨rfl, by go_grown⟩
  rw [results_cell_tmp rfl]
  simp [asAddr, Result.andThen]
  rw [run_boxS (a := a) (A := A)]
  all_goals go_cell
theorem sref_less3_19 (a A n : Int) (w : World) (ha : 0 ≤ a ∧ a ≤ A ∧ A ≤ 18446744073709551615) (hb : 0 ≤ n ∧ n ≤ 18446744073709551615) (h : a < n) (hX : IntKind.u64.wrap (n - 1) = n - 1) (hm : n - 1 < A) :
    Calls Try.prog 25 #[.int .i64 19, .agg #[.int .u64 a, .int .u64 A], .agg #[.int .u64 n, .int .u64 n], .bool false] w fun e w' => e = .returned (.tuple #[.agg #[.int .u64 (a), .int .u64 (n - 1)], .bool true]) ∧ Below w.heap.size w w' := by
  have h1 : decide (a ≤ A) = true := decide_eq_true ha.2.1
  have h2 : decide (n ≤ n) = true := decide_eq_true (Int.le_refl _)
  go_enter Try.func25, Try.ntmps25
  go_wp2_with (first
    | (go_at_call 11; go_must (refine (rright_any _ _ _).mono ?_); rintro e w' ⟨rfl, rfl⟩)
    | (go_at_call 15; go_must (refine (rhas_any _ _ _ _).mono ?_); rintro e w' ⟨rfl, rfl⟩))
  refine bodyPost_ret (v := .tuple #[.agg #[.int .u64 (a), .int .u64 (n - 1)], .bool true]) ?_ rfl ⟨rfl, by go_grown⟩
  rw [results_cell_tmp rfl]
  simp [asAddr, Result.andThen]
  rw [run_boxS (a := a) (A := n - 1)]
  all_goals go_cell
theorem sref_from1_18 (a A n : Int) (w : World) (ha : 0 ≤ a ∧ a ≤ A ∧ A ≤ 18446744073709551615) (hb : 0 ≤ n ∧ n ≤ 18446744073709551615) (h : A < n) :
    Calls Try.prog 25 #[.int .i64 18, .agg #[.int .u64 a, .int .u64 A], .agg #[.int .u64 n, .int .u64 n], .bool false] w fun e w' => e = .returned (.tuple #[.agg #[.int .u64 (0), .int .u64 (0)], .bool false]) ∧ Below w.heap.size w w' := by
  have h1 : decide (a ≤ A) = true := decide_eq_true ha.2.1
  have h2 : decide (n ≤ n) = true := decide_eq_true (Int.le_refl _)
  go_enter Try.func25, Try.ntmps25
  go_wp2_with (first
    | (go_at_call 11; go_must (refine (rright_any _ _ _).mono ?_); rintro e w' ⟨rfl, rfl⟩)
    | (go_at_call 15; go_must (refine (rhas_any _ _ _ _).mono ?_); rintro e w' ⟨rfl, rfl⟩))
  refine bodyPost_ret (v := .tuple #[.agg #[.int .u64 (0), .int .u64 (0)], .bool false]) ?_ rfl ⟨rfl, by go_grown⟩
  rw [results_cell_tmp rfl]
  simp [asAddr, Result.andThen]
  rw [run_boxS (a := 0) (A := 0)]
  all_goals go_cell
theorem sref_from2_18 (a A n : Int) (w : World) (ha : 0 ≤ a ∧ a ≤ A ∧ A ≤ 18446744073709551615) (hb : 0 ≤ n ∧ n ≤ 18446744073709551615) (h : n ≤ A) (hm : a < n) :
    Calls Try.prog 25 #[.int .i64 18, .agg #[.int .u64 a, .int .u64 A], .agg #[.int .u64 n, .int .u64 n], .bool false] w fun e w' => e = .returned (.tuple #[.agg #[.int .u64 (n), .int .u64 (A)], .bool true]) ∧ Below w.heap.size w w' := by
  have h1 : decide (a ≤ A) = true := decide_eq_true ha.2.1
  have h2 : decide (n ≤ n) = true := decide_eq_true (Int.le_refl _)
  go_enter Try.func25, Try.ntmps25
  go_wp2_with (first
    | (go_at_call 11; go_must (refine (rright_any _ _ _).mono ?_); rintro e w' ⟨rfl, rfl⟩)
    | (go_at_call 15; go_must (refine (rhas_any _ _ _ _).mono ?_); rintro e w' ⟨rfl, rfl⟩))
  refine bodyPost_ret (v := .tuple #[.agg #[.int .u64 (n), .int .u64 (A)], .bool true]) ?_ rfl ⟨rfl, by go_grown⟩
  rw [results_cell_tmp rfl]
  simp [asAddr, Result.andThen]
  rw [run_boxS (a := n) (A := A)]
  all_goals go_cell
theorem sref_from3_18 (a A n : Int) (w : World) (ha : 0 ≤ a ∧ a ≤ A ∧ A ≤ 18446744073709551615) (hb : 0 ≤ n ∧ n ≤ 18446744073709551615) (h : n ≤ A) (hm : n ≤ a) :
    Calls Try.prog 25 #[.int .i64 18, .agg #[.int .u64 a, .int .u64 A], .agg #[.int .u64 n, .int .u64 n], .bool false] w fun e w' => e = .returned (.tuple #[.agg #[.int .u64 (a), .int .u64 (A)], .bool true]) ∧ Below w.heap.size w w' := by
  have h1 : decide (a ≤ A) = true := decide_eq_true ha.2.1
  have h2 : decide (n ≤ n) = true := decide_eq_true (Int.le_refl _)
  go_enter Try.func25, Try.ntmps25
  go_wp2_with (first
    | (go_at_call 11; go_must (refine (rright_any _ _ _).mono ?_); rintro e w' ⟨rfl, rfl⟩)
    | (go_at_call 15; go_must (refine (rhas_any _ _ _ _).mono ?_); rintro e w' ⟨rfl, rfl⟩))
  refine bodyPost_ret (v := .tuple #[.agg #[.int .u64 (a), .int .u64 (A)], .bool true]) ?_ rfl ⟨rfl, by go_grown⟩
  rw [results_cell_tmp rfl]
  simp [asAddr, Result.andThen]
  rw [run_boxS (a := a) (A := A)]
  all_goals go_cell
theorem sref_from1_19 (a A n : Int) (w : World) (ha : 0 ≤ a ∧ a ≤ A ∧ A ≤ 18446744073709551615) (hb : 0 ≤ n ∧ n ≤ 18446744073709551615) (h : A < n) :
    Calls Try.prog 25 #[.int .i64 19, .agg #[.int .u64 a, .int .u64 A], .agg #[.int .u64 n, .int .u64 n], .bool true] w fun e w' => e = .returned (.tuple #[.agg #[.int .u64 (0), .int .u64 (0)], .bool false]) ∧ Below w.heap.size w w' := by
  have h1 : decide (a ≤ A) = true := decide_eq_true ha.2.1
  have h2 : decide (n ≤ n) = true := decide_eq_true (Int.le_refl _)
  go_enter Try.func25, Try.ntmps25
  go_wp2_with (first
    | (go_at_call 11; go_must (refine (rright_any _ _ _).mono ?_); rintro e w' ⟨rfl, rfl⟩)
    | (go_at_call 15; go_must (refine (rhas_any _ _ _ _).mono ?_); rintro e w' ⟨rfl, rfl⟩))
  refine bodyPost_ret (v := .tuple #[.agg #[.int .u64 (0), .int .u64 (0)], .bool false]) ?_ rfl ⟨rfl, by go_grown⟩
  rw [results_cell_tmp rfl]
  simp [asAddr, Result.andThen]
  rw [run_boxS (a := 0) (A := 0)]
  all_goals go_cell
theorem sref_from2_19 (a A n : Int) (w : World) (ha : 0 ≤ a ∧ a ≤ A ∧ A ≤ 18446744073709551615) (hb : 0 ≤ n ∧ n ≤ 18446744073709551615) (h : n ≤ A) (hm : a < n) :
    Calls Try.prog 25 #[.int .i64 19, .agg #[.int .u64 a, .int .u64 A], .agg #[.int .u64 n, .int .u64 n], .bool true] w fun e w' => e = .returned (.tuple #[.agg #[.int .u64 (n), .int .u64 (A)], .bool true]) ∧ Below w.heap.size w w' := by
  have h1 : decide (a ≤ A) = true := decide_eq_true ha.2.1
  have h2 : decide (n ≤ n) = true := decide_eq_true (Int.le_refl _)
  go_enter Try.func25, Try.ntmps25
  go_wp2_with (first
    | (go_at_call 11; go_must (refine (rright_any _ _ _).mono ?_); rintro e w' ⟨rfl, rfl⟩)
    | (go_at_call 15; go_must (refine (rhas_any _ _ _ _).mono ?_); rintro e w' ⟨rfl, rfl⟩))
  refine bodyPost_ret (v := .tuple #[.agg #[.int .u64 (n), .int .u64 (A)], .bool true]) ?_ rfl ⟨rfl, by go_grown⟩
  rw [results_cell_tmp rfl]
  simp [asAddr, Result.andThen]
  rw [run_boxS (a := n) (A := A)]
  all_goals go_cell
theorem sref_from3_19 (a A n : Int) (w : World) (ha : 0 ≤ a ∧ a ≤ A ∧ A ≤ 18446744073709551615) (hb : 0 ≤ n ∧ n ≤ 18446744073709551615) (h : n ≤ A) (hm : n ≤ a) :
    Calls Try.prog 25 #[.int .i64 19, .agg #[.int .u64 a, .int .u64 A], .agg #[.int .u64 n, .int .u64 n], .bool true] w fun e w' => e = .returned (.tuple #[.agg #[.int .u64 (a), .int .u64 (A)], .bool true]) ∧ Below w.heap.size w w' := by
  have h1 : decide (a ≤ A) = true := decide_eq_true ha.2.1
  have h2 : decide (n ≤ n) = true := decide_eq_true (Int.le_refl _)
  go_enter Try.func25, Try.ntmps25
  go_wp2_with (first
    | (go_at_call 11; go_must (refine (rright_any _ _ _).mono ?_); rintro e w' ⟨rfl, rfl⟩)
    | (go_at_call 15; go_must (refine (rhas_any _ _ _ _).mono ?_); rintro e w' ⟨rfl, rfl⟩))
  refine bodyPost_ret (v := .tuple #[.agg #[.int .u64 (a), .int .u64 (A)], .bool true]) ?_ rfl ⟨rfl, by go_grown⟩
  rw [results_cell_tmp rfl]
  simp [asAddr, Result.andThen]
  rw [run_boxS (a := a) (A := A)]
  all_goals go_cell
end Go.Proofs.Ytammakfpmimljaa
