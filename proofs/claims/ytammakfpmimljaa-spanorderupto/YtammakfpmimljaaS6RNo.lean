/-
  Where the document's Do and Refine answer no. Condition: right spans of numbers of 64 bits.
-/
import Derived.Test.YtammakfpmimljaaS6Ref
namespace Go.Proofs.Ytammakfpmimljaa
open Go.RowKit
set_option linter.unusedVariables false
set_option maxRecDepth 20000

theorem sdo_lo (op a A b B : Int) (w : World) (h : op < 1) :
    Calls Try.prog 23 #[.int .i64 op, .agg #[.int .u64 a, .int .u64 A], .agg #[.int .u64 b, .int .u64 B]] w fun e w' => e = .returned (.tuple #[.agg #[.int .u64 (0), .int .u64 (0)], .bool false]) ∧ Below w.heap.size w w' := by
  go_enter Try.func23, Try.ntmps23
  go_wp2_with (go_at_call 11; go_must (refine (rright_any _ _ _).mono ?_); rintro e w' ⟨rfl, rfl⟩)
  all_goals refine bodyPost_ret (v := .tuple #[.agg #[.int .u64 (0), .int .u64 (0)], .bool false]) ?_ rfl ⟨rfl, by go_grown⟩
  all_goals rw [results_cell_tmp rfl]
  all_goals simp [asAddr, Result.andThen]
  all_goals rw [run_boxS (a := 0) (A := 0)]
  all_goals go_cell
theorem sdo_hi (op a A b B : Int) (w : World) (h : ¬ op < 1) (h' : 10 < op) :
    Calls Try.prog 23 #[.int .i64 op, .agg #[.int .u64 a, .int .u64 A], .agg #[.int .u64 b, .int .u64 B]] w fun e w' => e = .returned (.tuple #[.agg #[.int .u64 (0), .int .u64 (0)], .bool false]) ∧ Below w.heap.size w w' := by
  go_enter Try.func23, Try.ntmps23
  go_wp2_with (go_at_call 11; go_must (refine (rright_any _ _ _).mono ?_); rintro e w' ⟨rfl, rfl⟩)
  all_goals refine bodyPost_ret (v := .tuple #[.agg #[.int .u64 (0), .int .u64 (0)], .bool false]) ?_ rfl ⟨rfl, by go_grown⟩
  all_goals rw [results_cell_tmp rfl]
  all_goals simp [asAddr, Result.andThen]
  all_goals rw [run_boxS (a := 0) (A := 0)]
  all_goals go_cell
theorem sdo_na (op a A b B : Int) (w : World) (h : 1 ≤ op ∧ op ≤ 10) (ha : decide (a ≤ A) = false) :
    Calls Try.prog 23 #[.int .i64 op, .agg #[.int .u64 a, .int .u64 A], .agg #[.int .u64 b, .int .u64 B]] w fun e w' => e = .returned (.tuple #[.agg #[.int .u64 (0), .int .u64 (0)], .bool false]) ∧ Below w.heap.size w w' := by
  go_enter Try.func23, Try.ntmps23
  go_wp2_with (go_at_call 11; go_must (refine (rright_any _ _ _).mono ?_); rintro e w' ⟨rfl, rfl⟩)
  all_goals refine bodyPost_ret (v := .tuple #[.agg #[.int .u64 (0), .int .u64 (0)], .bool false]) ?_ rfl ⟨rfl, by go_grown⟩
  all_goals rw [results_cell_tmp rfl]
  all_goals simp [asAddr, Result.andThen]
  all_goals rw [run_boxS (a := 0) (A := 0)]
  all_goals go_cell
theorem sdo_nb (op a A b B : Int) (w : World) (h : 1 ≤ op ∧ op ≤ 10) (ha : decide (a ≤ A) = true) (hb : decide (b ≤ B) = false) :
    Calls Try.prog 23 #[.int .i64 op, .agg #[.int .u64 a, .int .u64 A], .agg #[.int .u64 b, .int .u64 B]] w fun e w' => e = .returned (.tuple #[.agg #[.int .u64 (0), .int .u64 (0)], .bool false]) ∧ Below w.heap.size w w' := by
  go_enter Try.func23, Try.ntmps23
  go_wp2_with (go_at_call 11; go_must (refine (rright_any _ _ _).mono ?_); rintro e w' ⟨rfl, rfl⟩)
  all_goals refine bodyPost_ret (v := .tuple #[.agg #[.int .u64 (0), .int .u64 (0)], .bool false]) ?_ rfl ⟨rfl, by go_grown⟩
  all_goals rw [results_cell_tmp rfl]
  all_goals simp [asAddr, Result.andThen]
  all_goals rw [run_boxS (a := 0) (A := 0)]
  all_goals go_cell
theorem sref_lo (op a A b B : Int) (hh : Bool) (w : World) (h : op < 16) :
    Calls Try.prog 25 #[.int .i64 op, .agg #[.int .u64 a, .int .u64 A], .agg #[.int .u64 b, .int .u64 B], .bool hh] w fun e w' => e = .returned (.tuple #[.agg #[.int .u64 (0), .int .u64 (0)], .bool false]) ∧ Below w.heap.size w w' := by
  go_enter Try.func25, Try.ntmps25
  go_wp2_with (go_at_call 11; go_must (refine (rright_any _ _ _).mono ?_); rintro e w' ⟨rfl, rfl⟩)
  all_goals refine bodyPost_ret (v := .tuple #[.agg #[.int .u64 (0), .int .u64 (0)], .bool false]) ?_ rfl ⟨rfl, by go_grown⟩
  all_goals rw [results_cell_tmp rfl]
  all_goals simp [asAddr, Result.andThen]
  all_goals rw [run_boxS (a := 0) (A := 0)]
  all_goals go_cell
theorem sref_hi (op a A b B : Int) (hh : Bool) (w : World) (h : ¬ op < 16) (h' : 19 < op) :
    Calls Try.prog 25 #[.int .i64 op, .agg #[.int .u64 a, .int .u64 A], .agg #[.int .u64 b, .int .u64 B], .bool hh] w fun e w' => e = .returned (.tuple #[.agg #[.int .u64 (0), .int .u64 (0)], .bool false]) ∧ Below w.heap.size w w' := by
  go_enter Try.func25, Try.ntmps25
  go_wp2_with (go_at_call 11; go_must (refine (rright_any _ _ _).mono ?_); rintro e w' ⟨rfl, rfl⟩)
  all_goals refine bodyPost_ret (v := .tuple #[.agg #[.int .u64 (0), .int .u64 (0)], .bool false]) ?_ rfl ⟨rfl, by go_grown⟩
  all_goals rw [results_cell_tmp rfl]
  all_goals simp [asAddr, Result.andThen]
  all_goals rw [run_boxS (a := 0) (A := 0)]
  all_goals go_cell
theorem sref_na (op a A b B : Int) (hh : Bool) (w : World) (h : 16 ≤ op ∧ op ≤ 19) (ha : decide (a ≤ A) = false) :
    Calls Try.prog 25 #[.int .i64 op, .agg #[.int .u64 a, .int .u64 A], .agg #[.int .u64 b, .int .u64 B], .bool hh] w fun e w' => e = .returned (.tuple #[.agg #[.int .u64 (0), .int .u64 (0)], .bool false]) ∧ Below w.heap.size w w' := by
  go_enter Try.func25, Try.ntmps25
  go_wp2_with (go_at_call 11; go_must (refine (rright_any _ _ _).mono ?_); rintro e w' ⟨rfl, rfl⟩)
  all_goals refine bodyPost_ret (v := .tuple #[.agg #[.int .u64 (0), .int .u64 (0)], .bool false]) ?_ rfl ⟨rfl, by go_grown⟩
  all_goals rw [results_cell_tmp rfl]
  all_goals simp [asAddr, Result.andThen]
  all_goals rw [run_boxS (a := 0) (A := 0)]
  all_goals go_cell
theorem sref_nb (op a A b B : Int) (hh : Bool) (w : World) (h : 16 ≤ op ∧ op ≤ 19) (ha : decide (a ≤ A) = true) (hb : decide (b ≤ B) = false) :
    Calls Try.prog 25 #[.int .i64 op, .agg #[.int .u64 a, .int .u64 A], .agg #[.int .u64 b, .int .u64 B], .bool hh] w fun e w' => e = .returned (.tuple #[.agg #[.int .u64 (0), .int .u64 (0)], .bool false]) ∧ Below w.heap.size w w' := by
  go_enter Try.func25, Try.ntmps25
  go_wp2_with (go_at_call 11; go_must (refine (rright_any _ _ _).mono ?_); rintro e w' ⟨rfl, rfl⟩)
  all_goals refine bodyPost_ret (v := .tuple #[.agg #[.int .u64 (0), .int .u64 (0)], .bool false]) ?_ rfl ⟨rfl, by go_grown⟩
  all_goals rw [results_cell_tmp rfl]
  all_goals simp [asAddr, Result.andThen]
  all_goals rw [run_boxS (a := 0) (A := 0)]
  all_goals go_cell
theorem sref_wide (op a A b B : Int) (hh : Bool) (w : World) (h : 16 ≤ op ∧ op ≤ 19) (ha : decide (a ≤ A) = true) (hb : decide (b ≤ B) = true) (hs : (b == B) = false) :
    Calls Try.prog 25 #[.int .i64 op, .agg #[.int .u64 a, .int .u64 A], .agg #[.int .u64 b, .int .u64 B], .bool hh] w fun e w' => e = .returned (.tuple #[.agg #[.int .u64 (a), .int .u64 (A)], .bool true]) ∧ Below w.heap.size w w' := by
  go_enter Try.func25, Try.ntmps25
  go_wp2_with (go_at_call 11; go_must (refine (rright_any _ _ _).mono ?_); rintro e w' ⟨rfl, rfl⟩)
  all_goals refine bodyPost_ret (v := .tuple #[.agg #[.int .u64 (a), .int .u64 (A)], .bool true]) ?_ rfl ⟨rfl, by go_grown⟩
  all_goals rw [results_cell_tmp rfl]
  all_goals simp [asAddr, Result.andThen]
  all_goals rw [run_boxS (a := a) (A := A)]
  all_goals go_cell
end Go.Proofs.Ytammakfpmimljaa
