/-
  What the document's Refine answers, a theorem a way. Condition: right spans of numbers of 64 bits.
-/
import Derived.Test.YtammakfpmimljaaS6Ref
namespace Go.Proofs.Ytammakfpmimljaa
open Go.RowKit
set_option linter.unusedVariables false
set_option maxRecDepth 20000

theorem sref_same1_16 (a A n : Int) (w : World) (ha : 0 ≤ a ∧ a ≤ A ∧ A ≤ 18446744073709551615) (hb : 0 ≤ n ∧ n ≤ 18446744073709551615) (h : hasB a A n = true) :
    Calls Try.prog 25 #[.int .i64 16, .agg #[.int .u64 a, .int .u64 A], .agg #[.int .u64 n, .int .u64 n], .bool true] w fun e w' => e = .returned (.tuple #[.agg #[.int .u64 (n), .int .u64 (n)], .bool true]) ∧ Below w.heap.size w w' := by
  have h1 : decide (a ≤ A) = true := decide_eq_true ha.2.1
  have h2 : decide (n ≤ n) = true := decide_eq_true (Int.le_refl _)
  go_enter Try.func25, Try.ntmps25
  go_wp2_with (first
    | (go_at_call 11; go_must (refine (rright_any _ _ _).mono ?_); rintro e w' ⟨rfl, rfl⟩)
    | (go_at_call 15; go_must (refine (rhas_any _ _ _ _).mono ?_); rintro e w' ⟨rfl, rfl⟩))
  refine bodyPost_ret (v := .tuple #[.agg #[.int .u64 (n), .int .u64 (n)], .bool true]) ?_ rfl ⟨rfl, by go_grown⟩
  rw [results_cell_tmp rfl]
  simp [asAddr, Result.andThen]
  rw [run_boxS (a := n) (A := n)]
  all_goals go_cell
theorem sref_same2_16 (a A n : Int) (w : World) (ha : 0 ≤ a ∧ a ≤ A ∧ A ≤ 18446744073709551615) (hb : 0 ≤ n ∧ n ≤ 18446744073709551615) (h : hasB a A n = false) :
    Calls Try.prog 25 #[.int .i64 16, .agg #[.int .u64 a, .int .u64 A], .agg #[.int .u64 n, .int .u64 n], .bool true] w fun e w' => e = .returned (.tuple #[.agg #[.int .u64 (0), .int .u64 (0)], .bool false]) ∧ Below w.heap.size w w' := by
  have h1 : decide (a ≤ A) = true := decide_eq_true ha.2.1
  have h2 : decide (n ≤ n) = true := decide_eq_true (Int.le_refl _)
  go_enter Try.func25, Try.ntmps25
  go_wp2_with (first
    | (go_at_call 11; go_must (refine (rright_any _ _ _).mono ?_); rintro e w' ⟨rfl, rfl⟩)
    | (go_at_call 15; go_must (refine (rhas_any _ _ _ _).mono ?_); rintro e w' ⟨rfl, rfl⟩))
  refine bodyPost_ret (v := .tuple #[.agg #[.int .u64 (0), .int .u64 (0)], .bool false]) ?_ rfl ⟨rfl, by go_grown⟩
  rw [results_cell_tmp rfl]
  simp [asAddr, Result.andThen]
  rw [run_boxS (a := 0) (A := 0)]
  all_goals go_cell
theorem sref_same1_17 (a A n : Int) (w : World) (ha : 0 ≤ a ∧ a ≤ A ∧ A ≤ 18446744073709551615) (hb : 0 ≤ n ∧ n ≤ 18446744073709551615) (h : hasB a A n = true) :
    Calls Try.prog 25 #[.int .i64 17, .agg #[.int .u64 a, .int .u64 A], .agg #[.int .u64 n, .int .u64 n], .bool false] w fun e w' => e = .returned (.tuple #[.agg #[.int .u64 (n), .int .u64 (n)], .bool true]) ∧ Below w.heap.size w w' := by
  have h1 : decide (a ≤ A) = true := decide_eq_true ha.2.1
  have h2 : decide (n ≤ n) = true := decide_eq_true (Int.le_refl _)
  go_enter Try.func25, Try.ntmps25
  go_wp2_with (first
    | (go_at_call 11; go_must (refine (rright_any _ _ _).mono ?_); rintro e w' ⟨rfl, rfl⟩)
    | (go_at_call 15; go_must (refine (rhas_any _ _ _ _).mono ?_); rintro e w' ⟨rfl, rfl⟩))
  refine bodyPost_ret (v := .tuple #[.agg #[.int .u64 (n), .int .u64 (n)], .bool true]) ?_ rfl ⟨rfl, by go_grown⟩
  rw [results_cell_tmp rfl]
  simp [asAddr, Result.andThen]
  rw [run_boxS (a := n) (A := n)]
  all_goals go_cell
theorem sref_same2_17 (a A n : Int) (w : World) (ha : 0 ≤ a ∧ a ≤ A ∧ A ≤ 18446744073709551615) (hb : 0 ≤ n ∧ n ≤ 18446744073709551615) (h : hasB a A n = false) :
    Calls Try.prog 25 #[.int .i64 17, .agg #[.int .u64 a, .int .u64 A], .agg #[.int .u64 n, .int .u64 n], .bool false] w fun e w' => e = .returned (.tuple #[.agg #[.int .u64 (0), .int .u64 (0)], .bool false]) ∧ Below w.heap.size w w' := by
  have h1 : decide (a ≤ A) = true := decide_eq_true ha.2.1
  have h2 : decide (n ≤ n) = true := decide_eq_true (Int.le_refl _)
  go_enter Try.func25, Try.ntmps25
  go_wp2_with (first
    | (go_at_call 11; go_must (refine (rright_any _ _ _).mono ?_); rintro e w' ⟨rfl, rfl⟩)
    | (go_at_call 15; go_must (refine (rhas_any _ _ _ _).mono ?_); rintro e w' ⟨rfl, rfl⟩))
  refine bodyPost_ret (v := .tuple #[.agg #[.int .u64 (0), .int .u64 (0)], .bool false]) ?_ rfl ⟨rfl, by go_grown⟩
  rw [results_cell_tmp rfl]
  simp [asAddr, Result.andThen]
  rw [run_boxS (a := 0) (A := 0)]
  all_goals go_cell
theorem sref_not1_16 (n : Int) (w : World) (ha : 0 ≤ n ∧ n ≤ n ∧ n ≤ 18446744073709551615) (hb : 0 ≤ n ∧ n ≤ 18446744073709551615)  :
    Calls Try.prog 25 #[.int .i64 16, .agg #[.int .u64 n, .int .u64 n], .agg #[.int .u64 n, .int .u64 n], .bool false] w fun e w' => e = .returned (.tuple #[.agg #[.int .u64 (0), .int .u64 (0)], .bool false]) ∧ Below w.heap.size w w' := by
  have h1 : decide (n ≤ n) = true := decide_eq_true ha.2.1
  have h2 : decide (n ≤ n) = true := decide_eq_true (Int.le_refl _)
  go_enter Try.func25, Try.ntmps25
  go_wp2_with (first
    | (go_at_call 11; go_must (refine (rright_any _ _ _).mono ?_); rintro e w' ⟨rfl, rfl⟩)
    | (go_at_call 15; go_must (refine (rhas_any _ _ _ _).mono ?_); rintro e w' ⟨rfl, rfl⟩))
  refine bodyPost_ret (v := .tuple #[.agg #[.int .u64 (0), .int .u64 (0)], .bool false]) ?_ rfl ⟨rfl, by go_grown⟩
  rw [results_cell_tmp rfl]
  simp [asAddr, Result.andThen]
  rw [run_boxS (a := 0) (A := 0)]
  all_goals go_cell
theorem sref_not2_16 (A n : Int) (w : World) (ha : 0 ≤ n ∧ n ≤ A ∧ A ≤ 18446744073709551615) (hb : 0 ≤ n ∧ n ≤ 18446744073709551615) (h : (A == n) = false) (hX : IntKind.u64.wrap (n + 1) = n + 1) :
    Calls Try.prog 25 #[.int .i64 16, .agg #[.int .u64 n, .int .u64 A], .agg #[.int .u64 n, .int .u64 n], .bool false] w fun e w' => e = .returned (.tuple #[.agg #[.int .u64 (n + 1), .int .u64 (A)], .bool true]) ∧ Below w.heap.size w w' := by
  have h1 : decide (n ≤ A) = true := decide_eq_true ha.2.1
  have h2 : decide (n ≤ n) = true := decide_eq_true (Int.le_refl _)
  go_enter Try.func25, Try.ntmps25
  go_wp2_with (first
    | (go_at_call 11; go_must (refine (rright_any _ _ _).mono ?_); rintro e w' ⟨rfl, rfl⟩)
    | (go_at_call 15; go_must (refine (rhas_any _ _ _ _).mono ?_); rintro e w' ⟨rfl, rfl⟩))
  refine bodyPost_ret (v := .tuple #[.agg #[.int .u64 (n + 1), .int .u64 (A)], .bool true]) ?_ rfl ⟨rfl, by go_grown⟩
  rw [results_cell_tmp rfl]
  simp [asAddr, Result.andThen]
  rw [run_boxS (a := n + 1) (A := A)]
  all_goals go_cell
theorem sref_not3_16 (a n : Int) (w : World) (ha : 0 ≤ a ∧ a ≤ n ∧ n ≤ 18446744073709551615) (hb : 0 ≤ n ∧ n ≤ 18446744073709551615) (h : (a == n) = false) (hX : IntKind.u64.wrap (n - 1) = n - 1) :
    Calls Try.prog 25 #[.int .i64 16, .agg #[.int .u64 a, .int .u64 n], .agg #[.int .u64 n, .int .u64 n], .bool false] w fun e w' => e = .returned (.tuple #[.agg #[.int .u64 (a), .int .u64 (n - 1)], .bool true]) ∧ Below w.heap.size w w' := by
  have h1 : decide (a ≤ n) = true := decide_eq_true ha.2.1
  have h2 : decide (n ≤ n) = true := decide_eq_true (Int.le_refl _)
  go_enter Try.func25, Try.ntmps25
  go_wp2_with (first
    | (go_at_call 11; go_must (refine (rright_any _ _ _).mono ?_); rintro e w' ⟨rfl, rfl⟩)
    | (go_at_call 15; go_must (refine (rhas_any _ _ _ _).mono ?_); rintro e w' ⟨rfl, rfl⟩))
  refine bodyPost_ret (v := .tuple #[.agg #[.int .u64 (a), .int .u64 (n - 1)], .bool true]) ?_ rfl ⟨rfl, by go_grown⟩
  rw [results_cell_tmp rfl]
  simp [asAddr, Result.andThen]
  rw [run_boxS (a := a) (A := n - 1)]
  all_goals go_cell
theorem sref_not4_16 (a A n : Int) (w : World) (ha : 0 ≤ a ∧ a ≤ A ∧ A ≤ 18446744073709551615) (hb : 0 ≤ n ∧ n ≤ 18446744073709551615) (h : (a == n) = false) (h' : (A == n) = false) :
    Calls Try.prog 25 #[.int .i64 16, .agg #[.int .u64 a, .int .u64 A], .agg #[.int .u64 n, .int .u64 n], .bool false] w fun e w' => e = .returned (.tuple #[.agg #[.int .u64 (a), .int .u64 (A)], .bool true]) ∧ Below w.heap.size w w' := by
  have h1 : decide (a ≤ A) = true := decide_eq_true ha.2.1
  have h2 : decide (n ≤ n) = true := decide_eq_true (Int.le_refl _)
  go_enter Try.func25, Try.ntmps25
  go_wp2_with (first
    | (go_at_call 11; go_must (refine (rright_any _ _ _).mono ?_); rintro e w' ⟨rfl, rfl⟩)
    | (go_at_call 15; go_must (refine (rhas_any _ _ _ _).mono ?_); rintro e w' ⟨rfl, rfl⟩))
  refine bodyPost_ret (v := .tuple #[.agg #[.int .u64 (a), .int .u64 (A)], .bool true]) ?_ rfl ⟨rfl, by go_grown⟩
  rw [results_cell_tmp rfl]
  simp [asAddr, Result.andThen]
  rw [run_boxS (a := a) (A := A)]
  all_goals go_cell
theorem sref_not1_17 (n : Int) (w : World) (ha : 0 ≤ n ∧ n ≤ n ∧ n ≤ 18446744073709551615) (hb : 0 ≤ n ∧ n ≤ 18446744073709551615)  :
    Calls Try.prog 25 #[.int .i64 17, .agg #[.int .u64 n, .int .u64 n], .agg #[.int .u64 n, .int .u64 n], .bool true] w fun e w' => e = .returned (.tuple #[.agg #[.int .u64 (0), .int .u64 (0)], .bool false]) ∧ Below w.heap.size w w' := by
  have h1 : decide (n ≤ n) = true := decide_eq_true ha.2.1
  have h2 : decide (n ≤ n) = true := decide_eq_true (Int.le_refl _)
  go_enter Try.func25, Try.ntmps25
  go_wp2_with (first
    | (go_at_call 11; go_must (refine (rright_any _ _ _).mono ?_); rintro e w' ⟨rfl, rfl⟩)
    | (go_at_call 15; go_must (refine (rhas_any _ _ _ _).mono ?_); rintro e w' ⟨rfl, rfl⟩))
  refine bodyPost_ret (v := .tuple #[.agg #[.int .u64 (0), .int .u64 (0)], .bool false]) ?_ rfl ⟨rfl, by go_grown⟩
  rw [results_cell_tmp rfl]
  simp [asAddr, Result.andThen]
  rw [run_boxS (a := 0) (A := 0)]
  all_goals go_cell
theorem sref_not2_17 (A n : Int) (w : World) (ha : 0 ≤ n ∧ n ≤ A ∧ A ≤ 18446744073709551615) (hb : 0 ≤ n ∧ n ≤ 18446744073709551615) (h : (A == n) = false) (hX : IntKind.u64.wrap (n + 1) = n + 1) :
    Calls Try.prog 25 #[.int .i64 17, .agg #[.int .u64 n, .int .u64 A], .agg #[.int .u64 n, .int .u64 n], .bool true] w fun e w' => e = .returned (.tuple #[.agg #[.int .u64 (n + 1), .int .u64 (A)], .bool true]) ∧ Below w.heap.size w w' := by
  have h1 : decide (n ≤ A) = true := decide_eq_true ha.2.1
  have h2 : decide (n ≤ n) = true := decide_eq_true (Int.le_refl _)
  go_enter Try.func25, Try.ntmps25
  go_wp2_with (first
    | (go_at_call 11; go_must (refine (rright_any _ _ _).mono ?_); rintro e w' ⟨rfl, rfl⟩)
    | (go_at_call 15; go_must (refine (rhas_any _ _ _ _).mono ?_); rintro e w' ⟨rfl, rfl⟩))
  refine bodyPost_ret (v := .tuple #[.agg #[.int .u64 (n + 1), .int .u64 (A)], .bool true]) ?_ rfl ⟨rfl, by go_grown⟩
  rw [results_cell_tmp rfl]
  simp [asAddr, Result.andThen]
  rw [run_boxS (a := n + 1) (A := A)]
  all_goals go_cell
theorem sref_not3_17 (a n : Int) (w : World) (ha : 0 ≤ a ∧ a ≤ n ∧ n ≤ 18446744073709551615) (hb : 0 ≤ n ∧ n ≤ 18446744073709551615) (h : (a == n) = false) (hX : IntKind.u64.wrap (n - 1) = n - 1) :
    Calls Try.prog 25 #[.int .i64 17, .agg #[.int .u64 a, .int .u64 n], .agg #[.int .u64 n, .int .u64 n], .bool true] w fun e w' => e = .returned (.tuple #[.agg #[.int .u64 (a), .int .u64 (n - 1)], .bool true]) ∧ Below w.heap.size w w' := by
  have h1 : decide (a ≤ n) = true := decide_eq_true ha.2.1
  have h2 : decide (n ≤ n) = true := decide_eq_true (Int.le_refl _)
  go_enter Try.func25, Try.ntmps25
  go_wp2_with (first
    | (go_at_call 11; go_must (refine (rright_any _ _ _).mono ?_); rintro e w' ⟨rfl, rfl⟩)
    | (go_at_call 15; go_must (refine (rhas_any _ _ _ _).mono ?_); rintro e w' ⟨rfl, rfl⟩))
  refine bodyPost_ret (v := .tuple #[.agg #[.int .u64 (a), .int .u64 (n - 1)], .bool true]) ?_ rfl ⟨rfl, by go_grown⟩
  rw [results_cell_tmp rfl]
  simp [asAddr, Result.andThen]
  rw [run_boxS (a := a) (A := n - 1)]
  all_goals go_cell
theorem sref_not4_17 (a A n : Int) (w : World) (ha : 0 ≤ a ∧ a ≤ A ∧ A ≤ 18446744073709551615) (hb : 0 ≤ n ∧ n ≤ 18446744073709551615) (h : (a == n) = false) (h' : (A == n) = false) :
    Calls Try.prog 25 #[.int .i64 17, .agg #[.int .u64 a, .int .u64 A], .agg #[.int .u64 n, .int .u64 n], .bool true] w fun e w' => e = .returned (.tuple #[.agg #[.int .u64 (a), .int .u64 (A)], .bool true]) ∧ Below w.heap.size w w' := by
  have h1 : decide (a ≤ A) = true := decide_eq_true ha.2.1
  have h2 : decide (n ≤ n) = true := decide_eq_true (Int.le_refl _)
  go_enter Try.func25, Try.ntmps25
  go_wp2_with (first
    | (go_at_call 11; go_must (refine (rright_any _ _ _).mono ?_); rintro e w' ⟨rfl, rfl⟩)
    | (go_at_call 15; go_must (refine (rhas_any _ _ _ _).mono ?_); rintro e w' ⟨rfl, rfl⟩))
  refine bodyPost_ret (v := .tuple #[.agg #[.int .u64 (a), .int .u64 (A)], .bool true]) ?_ rfl ⟨rfl, by go_grown⟩
  rw [results_cell_tmp rfl]
  simp [asAddr, Result.andThen]
  rw [run_boxS (a := a) (A := A)]
  all_goals go_cell
end Go.Proofs.Ytammakfpmimljaa
