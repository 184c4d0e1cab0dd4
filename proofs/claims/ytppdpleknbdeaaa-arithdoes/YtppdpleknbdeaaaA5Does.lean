/-
  ArithDoes answers true at every operation and every two numbers; memory that was there stays. Condition: the numbers are of 64 bits.
-/
import Derived.Test.YtppdpleknbdeaaaA5Folds
namespace Go.Proofs.Ytppdpleknbdeaaa
open Go.RowKit
set_option linter.unusedVariables false

set_option maxRecDepth 20000 in
set_option maxHeartbeats 800000 in
theorem does_walk (op a b : Int) (w : World) (hop : -9223372036854775808 ≤ op ∧ op ≤ 9223372036854775807) (ha : 0 ≤ a ∧ a ≤ 18446744073709551615) (hb : 0 ≤ b ∧ b ≤ 18446744073709551615) :
    Calls Try.prog 3 #[.int .i64 op, .int .u64 a, .int .u64 b] w fun e w' => e = .returned (.bool true) ∧ Below w.heap.size w w' := by
  go_enter Try.func3, Try.ntmps3
  go_wp2_with (go_at_call 8; go_must (refine (awake_any _).mono ?_); rintro e w1 ⟨rfl, hbe⟩)
  go_loop [7] (fun i => ∃ k : Nat, k ≤ 24 ∧ i = .int .i64 k) (fun i => 24 - (intOf i).toNat)
  case atStart => exact ⟨0, by omega, rfl⟩
  case round =>
    obtain ⟨k, hk, rfl⟩ := hrel
    by_cases hlt : k < 24
    · obtain ⟨n, H1⟩ : ∃ n, Hid (n = doL (k : Int) a b) := ⟨_, rfl⟩
      obtain ⟨c, H2⟩ : ∃ c, Hid (c = isOp (k : Int)) := ⟨_, rfl⟩
      obtain ⟨g, H3⟩ : ∃ g, Hid (g = holdL (k : Int) a b) := ⟨_, rfl⟩
      obtain ⟨d, H4⟩ : ∃ d, Hid (d = isCond (k : Int)) := ⟨_, rfl⟩
      go_wp2_with (first
        | (go_at_call 9; go_must (refine (do_as H1 H2 _ ha hb).mono ?_); rintro e w' ⟨rfl, rfl⟩)
        | (go_at_call 10; go_must (refine (rdo_as H1 H2 _ ha hb).mono ?_); rintro e w' ⟨rfl, rfl⟩)
        | (go_at_call 11; go_must (refine (holds_as H3 H4 _ ha hb).mono ?_); rintro e w' ⟨rfl, rfl⟩)
        | (go_at_call 12; go_must (refine (rholds_as H3 H4 _ ha hb).mono ?_); rintro e w' ⟨rfl, rfl⟩))
      go_round
      case rel => exact ⟨k + 1, by omega, by go_num⟩
      case measure => simp [intOf]; omega
    · obtain ⟨n, H1⟩ : ∃ n, Hid (n = doL op a b) := ⟨_, rfl⟩
      obtain ⟨c, H2⟩ : ∃ c, Hid (c = isOp op) := ⟨_, rfl⟩
      obtain ⟨g, H3⟩ : ∃ g, Hid (g = holdL op a b) := ⟨_, rfl⟩
      obtain ⟨d, H4⟩ : ∃ d, Hid (d = isCond op) := ⟨_, rfl⟩
      go_wp2_with (first
        | (go_at_call 9; go_must (refine (do_as H1 H2 _ ha hb).mono ?_); rintro e w' ⟨rfl, rfl⟩)
        | (go_at_call 10; go_must (refine (rdo_as H1 H2 _ ha hb).mono ?_); rintro e w' ⟨rfl, rfl⟩)
        | (go_at_call 11; go_must (refine (holds_as H3 H4 _ ha hb).mono ?_); rintro e w' ⟨rfl, rfl⟩)
        | (go_at_call 12; go_must (refine (rholds_as H3 H4 _ ha hb).mono ?_); rintro e w' ⟨rfl, rfl⟩))
      go_ret
      exact ⟨retb (by simp), hbe⟩
end Go.Proofs.Ytppdpleknbdeaaa
