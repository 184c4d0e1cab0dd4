/-
  What the document's Do of two single spans answers: the single span of what the operation makes of the two numbers. Condition: numbers of 64 bits, an operation.
-/
import Derived.Test.YtammakfpmimljaaS6RRefine
import Derived.Test.YtammakfpmimljaaA5As
namespace Go.Proofs.Ytammakfpmimljaa
open Go.RowKit
set_option linter.unusedVariables false
set_option maxRecDepth 20000

theorem sdo_one (op a b : Int) (w : World) (hop : 1 ≤ op ∧ op ≤ 10) (ha : 0 ≤ a ∧ a ≤ 18446744073709551615) (hb : 0 ≤ b ∧ b ≤ 18446744073709551615) :
    Calls Try.prog 23 #[.int .i64 op, .agg #[.int .u64 a, .int .u64 a], .agg #[.int .u64 b, .int .u64 b]] w fun e w' => e = .returned (.tuple #[.agg #[.int .u64 (doL op a b), .int .u64 (doL op a b)], .bool true]) ∧ Below w.heap.size w w' := by
  have h1 : decide (a ≤ a) = true := decide_eq_true (Int.le_refl _)
  have h2 : decide (b ≤ b) = true := decide_eq_true (Int.le_refl _)
  obtain ⟨N, HN⟩ : ∃ N, Hid (N = doL op a b) := ⟨_, rfl⟩
  obtain ⟨c, HC⟩ : ∃ c, Hid (c = isOp op) := ⟨_, rfl⟩
  rw [← HN.out]
  go_enter Try.func23, Try.ntmps23
  go_wp2_with (first
    | (go_at_call 11; go_must (refine (rright_any _ _ _).mono ?_); rintro e w' ⟨rfl, rfl⟩)
    | (go_at_call 38; go_must (refine (rdo_as HN HC _ ha hb).mono ?_); rintro e w' ⟨rfl, rfl⟩))
  refine bodyPost_ret (v := .tuple #[.agg #[.int .u64 N, .int .u64 N], .bool true]) ?_ rfl ⟨rfl, by go_grown⟩
  rw [results_cell_tmp rfl]
  simp [asAddr, Result.andThen]
  rw [run_boxS (a := N) (A := N)]
  all_goals go_cell
end Go.Proofs.Ytammakfpmimljaa
