/-
  What the document's Do answers at every operation: the plain function doL; memory stays. Condition: both numbers are of 64 bits.
-/
import Derived.Test.YtammakfpmimljaaA5RDo
namespace Go.Proofs.Ytammakfpmimljaa
open Go.RowKit
set_option linter.unusedVariables false

set_option maxHeartbeats 800000 in
theorem rdo_rest (op a b : Int) (w : World) (ha : 0 ≤ a ∧ a ≤ 18446744073709551615) (hb : 0 ≤ b ∧ b ≤ 18446744073709551615) (h9 : (op == 9) = false) (h10 : (op == 10) = false) (h4 : (op == 4) = false) (h5 : (op == 5) = false) :
    Calls Try.prog 38 #[.int .i64 op, .int .u64 a, .int .u64 b] w fun e w' =>
      e = .returned (.tuple #[.int .u64 (doL op a b), .bool (isOp op)]) ∧ w = w' := by
  go_enter Try.func38, Try.ntmps38
  go_wp2_with (first
    | (go_at_call 50; refine (plus_any _ _ _ ha hb).mono ?_; rintro e w' ⟨rfl, rfl⟩)
    | (go_at_call 51; refine (minus_any _ _ _ ha hb).mono ?_; rintro e w' ⟨rfl, rfl⟩)
    | (go_at_call 52; refine (times_any _ _ _ ha hb).mono ?_; rintro e w' ⟨rfl, rfl⟩))
  all_goals go_ret2
  all_goals simp only [beq_iff_eq, beq_eq_false_iff_ne, ne_eq] at *
  all_goals first
    | (subst op; exact do_end (by simp [doL, ref_and, ref_or, ref_xor]) rfl (by trivial))
    | (refine do_end ?_ ?_ (by trivial)
       · unfold doL; repeat rw [if_neg (by assumption)]
       · unfold isOp; symm; apply decide_eq_false; omega)
theorem rdo_div (a b : Int) (w : World) (ha : 0 ≤ a ∧ a ≤ 18446744073709551615) (hb : 0 ≤ b ∧ b ≤ 18446744073709551615) :
    Calls Try.prog 38 #[.int .i64 4, .int .u64 a, .int .u64 b] w fun e w' =>
      e = .returned (.tuple #[.int .u64 (a / b), .bool true]) ∧ w = w' := by
  by_cases h0 : 0 < b
  · go_enter Try.func38, Try.ntmps38
    go_wp2_with (go_at_call 53; refine (split_any _ _ _ ha hb h0).mono ?_; rintro e w' ⟨rfl, rfl⟩)
    go_ret2
    exact ⟨rfl, rfl⟩
  · obtain rfl : b = 0 := by omega
    go_enter Try.func38, Try.ntmps38
    go_wp2
    go_ret2
    exact ⟨ret2 (by simp) rfl, rfl⟩
theorem rdo_rem (a b : Int) (w : World) (ha : 0 ≤ a ∧ a ≤ 18446744073709551615) (hb : 0 ≤ b ∧ b ≤ 18446744073709551615) :
    Calls Try.prog 38 #[.int .i64 5, .int .u64 a, .int .u64 b] w fun e w' =>
      e = .returned (.tuple #[.int .u64 (a % b), .bool true]) ∧ w = w' := by
  by_cases h0 : 0 < b
  · go_enter Try.func38, Try.ntmps38
    go_wp2_with (go_at_call 53; refine (split_any _ _ _ ha hb h0).mono ?_; rintro e w' ⟨rfl, rfl⟩)
    go_ret2
    exact ⟨rfl, rfl⟩
  · obtain rfl : b = 0 := by omega
    go_enter Try.func38, Try.ntmps38
    go_wp2
    go_ret2
    exact ⟨ret2 (by simp) rfl, rfl⟩

/-- The document's Do. -/
theorem rdo_any (op a b : Int) (w : World) (ha : 0 ≤ a ∧ a ≤ 18446744073709551615) (hb : 0 ≤ b ∧ b ≤ 18446744073709551615) :
    Calls Try.prog 38 #[.int .i64 op, .int .u64 a, .int .u64 b] w fun e w' =>
      e = .returned (.tuple #[.int .u64 (doL op a b), .bool (isOp op)]) ∧ w = w' := by
  by_cases h4 : op = 4
  · subst h4; exact rdo_div a b w ha hb
  by_cases h5 : op = 5
  · subst h5; exact rdo_rem a b w ha hb
  by_cases h9 : op = 9
  · subst h9; exact rshl_any a b w ha hb
  by_cases h10 : op = 10
  · subst h10; exact rshr_any a b w ha hb
  exact rdo_rest op a b w ha hb (by simpa using h9) (by simpa using h10) (by simpa using h4) (by simpa using h5)

end Go.Proofs.Ytammakfpmimljaa
