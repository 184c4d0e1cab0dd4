/-
  What arith.Do and arith.Holds answer: the plain functions doL and holdL, and whether the operation is one; memory stays. Condition: both numbers are of 64 bits.
-/
import Derived.Test.YtammakfpmimljaaA5Plain
namespace Go.Proofs.Ytammakfpmimljaa
open Go.RowKit
set_option linter.unusedVariables false

theorem quo_any (a b : Int) (w : World) (ha : 0 ≤ a ∧ a ≤ 18446744073709551615) (hb : 0 ≤ b ∧ b ≤ 18446744073709551615) :
    Calls Try.prog 45 #[.int .u64 a, .int .u64 b] w fun e w' => e = .returned (.int .u64 (a / b)) ∧ w = w' := by
  by_cases h : b = 0
  · subst h
    go_enter Try.func45, Try.ntmps45
    go_wp2
    go_ret
    exact ⟨ret1 (by simp), rfl⟩
  · have h' : (b == 0) = false := by simpa using h
    go_enter Try.func45, Try.ntmps45
    go_wp2
    go_ret
    exact ⟨rfl, rfl⟩
theorem rest_any (a b : Int) (w : World) (ha : 0 ≤ a ∧ a ≤ 18446744073709551615) (hb : 0 ≤ b ∧ b ≤ 18446744073709551615) :
    Calls Try.prog 46 #[.int .u64 a, .int .u64 b] w fun e w' => e = .returned (.int .u64 (a % b)) ∧ w = w' := by
  by_cases h : b = 0
  · subst h
    go_enter Try.func46, Try.ntmps46
    go_wp2
    go_ret
    exact ⟨ret1 (by simp), rfl⟩
  · have h' : (b == 0) = false := by simpa using h
    go_enter Try.func46, Try.ntmps46
    go_wp2
    go_ret
    exact ⟨rfl, rfl⟩

theorem do_end {op a b x : Int} {c : Bool} {P : Prop} (h1 : x = doL op a b) (h2 : c = isOp op) (hP : P) : Ending.returned (.tuple #[.int .u64 x, .bool c]) = .returned (.tuple #[.int .u64 (doL op a b), .bool (isOp op)]) ∧ P := ⟨ret2 h1 h2, hP⟩

set_option maxHeartbeats 400000 in
theorem do_any (op a b : Int) (w : World) (ha : 0 ≤ a ∧ a ≤ 18446744073709551615) (hb : 0 ≤ b ∧ b ≤ 18446744073709551615) :
    Calls Try.prog 27 #[.int .i64 op, .int .u64 a, .int .u64 b] w fun e w' =>
      e = .returned (.tuple #[.int .u64 (doL op a b), .bool (isOp op)]) ∧ w = w' := by
  go_enter Try.func27, Try.ntmps27
  go_wp2_with (first
    | (go_at_call 45; refine (quo_any _ _ _ ha hb).mono ?_; rintro e w' ⟨rfl, rfl⟩)
    | (go_at_call 46; refine (rest_any _ _ _ ha hb).mono ?_; rintro e w' ⟨rfl, rfl⟩))
  all_goals go_ret2
  all_goals simp only [beq_iff_eq, beq_eq_false_iff_ne, ne_eq] at *
  all_goals first
    | (subst op; exact do_end (by simp [doL, IntKind.wrap_u64]) rfl (by trivial))
    | (refine do_end ?_ ?_ (by trivial)
       · unfold doL; repeat rw [if_neg (by assumption)]
       · unfold isOp; symm; apply decide_eq_false; omega)

theorem hold_end {op a b : Int} {x c : Bool} {P : Prop} (h1 : x = holdL op a b) (h2 : c = isCond op) (hP : P) : Ending.returned (.tuple #[.bool x, .bool c]) = .returned (.tuple #[.bool (holdL op a b), .bool (isCond op)]) ∧ P := ⟨ret2b h1 h2, hP⟩

theorem holds_any (op a b : Int) (w : World) (ha : 0 ≤ a ∧ a ≤ 18446744073709551615) (hb : 0 ≤ b ∧ b ≤ 18446744073709551615) :
    Calls Try.prog 28 #[.int .i64 op, .int .u64 a, .int .u64 b] w fun e w' =>
      e = .returned (.tuple #[.bool (holdL op a b), .bool (isCond op)]) ∧ w = w' := by
  go_enter Try.func28, Try.ntmps28
  go_wp2
  all_goals go_ret2
  all_goals simp only [beq_iff_eq, beq_eq_false_iff_ne, ne_eq] at *
  all_goals first
    | (subst op; exact hold_end rfl rfl (by trivial))
    | (refine hold_end ?_ ?_ (by trivial)
       · unfold holdL; repeat rw [if_neg (by assumption)]
       · unfold isCond; symm; apply decide_eq_false; omega)
end Go.Proofs.Ytammakfpmimljaa
