/-
  ArithHolds answers true at every two numbers; memory that was there stays. Condition: the numbers are of 64 bits.
-/
import Derived.Test.YtppdpleknbdeaaaA5Folds
namespace Go.Proofs.Ytppdpleknbdeaaa
open Go.RowKit
set_option linter.unusedVariables false

theorem ldo_any (op a b : Int) (w : World) (ha : 0 ≤ a ∧ a ≤ 18446744073709551615) (hb : 0 ≤ b ∧ b ≤ 18446744073709551615) :
    Calls Try.prog 15 #[.int .i64 op, .int .u64 a, .int .u64 b] w fun e w' => e = .returned (.int .u64 (doL op a b)) ∧ w = w' := by
  go_enter Try.func15, Try.ntmps15
  go_wp2_with (go_at_call 9; go_must (refine (do_any _ _ _ _ ha hb).mono ?_); rintro e w' ⟨rfl, rfl⟩)
  go_ret
  exact ⟨rfl, rfl⟩

theorem hold_eq (a b : Int) : holdL 16 a b = (a == b) := rfl
theorem hold_ne (a b : Int) : holdL 17 a b = (a != b) := rfl
theorem hold_lt (a b : Int) : holdL 18 a b = decide (a < b) := rfl
theorem hold_ge (a b : Int) : holdL 19 a b = decide (b ≤ a) := rfl
theorem do_xor (a b : Int) : doL 8 a b = bits .xor .u64 a b := rfl
theorem do_sub (a b : Int) : doL 2 a b = (a - b) % 18446744073709551616 := rfl
theorem xor_zero {a b : Int} (ha : 0 ≤ a ∧ a ≤ 18446744073709551615) (hb : 0 ≤ b ∧ b ≤ 18446744073709551615) : bits .xor .u64 a b = 0 ↔ a = b := by
  rw [xor_bv]
  have h1 := bv_toNat ha.1 (by omega)
  have h2 := bv_toNat hb.1 (by omega)
  constructor
  · intro h
    have h3 : (bv a ^^^ bv b).toNat = 0 := by exact_mod_cast h
    have h4 : bv a ^^^ bv b = 0#64 := BitVec.eq_of_toNat_eq (by simpa using h3)
    have h5 : bv a = bv b := by
      have := congrArg (· ^^^ bv b) h4
      simpa [BitVec.xor_assoc] using this
    rw [← h1, ← h2, h5]
  · rintro rfl
    simp

theorem ldo_as {op a b n : Int} (h : Hid (n = doL op a b)) (w : World) (ha : 0 ≤ a ∧ a ≤ 18446744073709551615) (hb : 0 ≤ b ∧ b ≤ 18446744073709551615) :
    Calls Try.prog 15 #[.int .i64 op, .int .u64 a, .int .u64 b] w fun e w' => e = .returned (.int .u64 n) ∧ w = w' := by
  rw [h.out]; exact ldo_any op a b w ha hb
/-- The walk, the answers as letters. -/
theorem holds_road (a b X Y : Int) (eq ne lt ge gt : Bool) (w : World) (ha : 0 ≤ a ∧ a ≤ 18446744073709551615) (hb : 0 ≤ b ∧ b ≤ 18446744073709551615)
    (H1 : Hid (eq = holdL 16 a b)) (H2 : Hid (ne = holdL 17 a b)) (H3 : Hid (lt = holdL 18 a b)) (H4 : Hid (ge = holdL 19 a b)) (H5 : Hid (gt = holdL 18 b a)) (H6 : Hid (X = doL 8 a b)) (H7 : Hid (Y = doL 2 a b))
    (f1 : (eq == ne) = false) (f2 : (lt == ge) = false) (f3 : (lt && gt) = false) (f4 : (eq == (lt || gt)) = false) (f5 : eq = (X == 0)) (f6 : lt = decide (a < Y)) :
    Calls Try.prog 6 #[.int .u64 a, .int .u64 b] w fun e w' => e = .returned (.bool true) ∧ Below w.heap.size w w' := by
  have C1 : Hid (true = isCond 16) := rfl
  have C2 : Hid (true = isCond 17) := rfl
  have C3 : Hid (true = isCond 18) := rfl
  have C4 : Hid (true = isCond 19) := rfl
  cases eq <;> cases ne <;> cases lt <;> cases ge <;> cases gt
  all_goals simp at f1 f2 f3 f4
  all_goals
    have g5 := f5.symm
    have g6 := f6.symm
    clear f5 f6
  all_goals go_enter Try.func6, Try.ntmps6
  all_goals go_wp2_with (first
      | (go_at_call 8; go_must (refine (awake_any _).mono ?_); rintro e w1 ⟨rfl, hbe⟩)
      | (go_at_call 11; have hq := H1; clear hq; go_must (refine (holds_as H1 C1 _ ha hb).mono ?_); rintro e w' ⟨rfl, rfl⟩; clear H1)
      | (go_at_call 11; have hq := H2; clear hq; go_must (refine (holds_as H2 C2 _ ha hb).mono ?_); rintro e w' ⟨rfl, rfl⟩; clear H2)
      | (go_at_call 11; have hq := H3; clear hq; go_must (refine (holds_as H3 C3 _ ha hb).mono ?_); rintro e w' ⟨rfl, rfl⟩; clear H3)
      | (go_at_call 11; have hq := H4; clear hq; go_must (refine (holds_as H4 C4 _ ha hb).mono ?_); rintro e w' ⟨rfl, rfl⟩; clear H4)
      | (go_at_call 11; have hq := H5; clear hq; go_must (refine (holds_as H5 C3 _ hb ha).mono ?_); rintro e w' ⟨rfl, rfl⟩; clear H5)
      | (go_at_call 15; have hq := H6; clear hq; go_must (refine (ldo_as H6 _ ha hb).mono ?_); rintro e w' ⟨rfl, rfl⟩; clear H6)
      | (go_at_call 15; have hq := H7; clear hq; go_must (refine (ldo_as H7 _ ha hb).mono ?_); rintro e w' ⟨rfl, rfl⟩; clear H7))
  all_goals go_ret
  all_goals exact ⟨rfl, hbe⟩
theorem holds_walk (a b : Int) (w : World) (ha : 0 ≤ a ∧ a ≤ 18446744073709551615) (hb : 0 ≤ b ∧ b ≤ 18446744073709551615) :
    Calls Try.prog 6 #[.int .u64 a, .int .u64 b] w fun e w' => e = .returned (.bool true) ∧ Below w.heap.size w w' := by
  have hx := xor_zero ha hb
  refine holds_road a b _ _ _ _ _ _ _ w ha hb rfl rfl rfl rfl rfl rfl rfl ?_ ?_ ?_ ?_ ?_ ?_
  · rw [hold_eq, hold_ne]; unfold bne; cases (a == b) <;> rfl
  · rw [hold_lt, hold_ge]
    by_cases h : a < b
    · have h' : ¬ b ≤ a := by omega
      simp [h, h']
    · have h' : b ≤ a := by omega
      simp [h, h']
  · rw [hold_lt, hold_lt]
    by_cases h : a < b
    · have h' : ¬ b < a := by omega
      simp [h, h']
    · simp [h]
  · rw [hold_eq, hold_lt, hold_lt]
    rcases Int.lt_trichotomy a b with h | h | h
    · have h1 : ¬ a = b := by omega
      simp [h, h1]
    · subst h; simp
    · have h1 : ¬ a = b := by omega
      simp [h, h1]
  · rw [hold_eq, do_xor]
    by_cases h : a = b
    · have h' := hx.2 h
      rw [h']; simpa using h
    · have h' : ¬ bits .xor .u64 a b = 0 := fun e => h (hx.1 e)
      rw [beq_eq_false_iff_ne.2 h, beq_eq_false_iff_ne.2 h']
  · rw [hold_lt, do_sub]
    exact decide_eq_decide.2 (by omega)
end Go.Proofs.Ytppdpleknbdeaaa
