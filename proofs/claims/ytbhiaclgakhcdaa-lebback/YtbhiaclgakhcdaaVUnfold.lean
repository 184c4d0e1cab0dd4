/-
  What unfold, GetInt, and the document's Back do: the signed number of one without a sign. Condition: the numbers fit their kinds.
-/
import Derived.Test.YtbhiaclgakhcdaaVFold
namespace Go.Proofs.Ytbhiaclgakhcdaa
open Go.RowKit
set_option linter.unusedVariables false

theorem unfold_any (u : Int) (w : World) (h : 0 ≤ u) (h' : u < 18446744073709551616) :
    Calls Try.prog 19 #[.int .u64 u] w fun e w' => e = .returned (.int .i64 (unfoldI u)) ∧ w = w' := by
  unfold unfoldI
  by_cases h0 : u % 2 = 1
  · go_enter Try.func19, Try.ntmps19
    go_wp2
    go_ret
    exact ⟨ret1 (by first | omega | (simp [h0]; omega)), rfl⟩
  · go_enter Try.func19, Try.ntmps19
    go_wp2
    go_ret
    exact ⟨ret1 (by first | omega | (simp [h0]; omega)), rfl⟩
/-- leb.GetInt. -/
theorem getint_any (v : Value) (xs : List Int) (w : World) (h : Sees .u8 w v xs) :
    Calls Try.prog 16 #[v] w fun e w' =>
      e = .returned (.tuple #[.int .i64 (unfoldI (getL 0 0 xs).1), .int .i64 (getL 0 0 xs).2.1, .int .i64 (getL 0 0 xs).2.2]) ∧ w = w' := by
  obtain ⟨n, hn, HN⟩ : ∃ n, (0 ≤ n ∧ n < 18446744073709551616) ∧ Hid ((getL 0 0 xs).1 = n) := ⟨_, (getL_bd xs h.bytes), rfl⟩
  go_enter Try.func16, Try.ntmps16
  rw [HN.out]
  go_wp2_with (first
    | (go_at_call 15; go_must (refine (get_any v xs _ h).mono ?_); rintro e w' ⟨rfl, rfl⟩; rw [HN.out])
    | (go_at_call 19; go_must (refine (unfold_any n _ hn.1 hn.2).mono ?_); rintro e w' ⟨rfl, rfl⟩))
  go_ret3
  exact ⟨rfl, rfl⟩
theorem getint_eq {v : Value} {xs : List Int} {w : World} (h : Sees .u8 w v xs) {a b c : Int} (hr : getL 0 0 xs = (a, b, c)) :
    Calls Try.prog 16 #[v] w fun e w' => e = .returned (.tuple #[.int .i64 (unfoldI a), .int .i64 b, .int .i64 c]) ∧ w = w' := by
  have := getint_any v xs w h; rw [hr] at this; exact this
end Go.Proofs.Ytbhiaclgakhcdaa
