/-
  What the document's split makes: quotient and rest; memory stays. Conditions: numbers of 64 bits, a divisor above 0.
-/
import Derived.Test.YtammakfpmimljaaA5Ref
import Derived.Test.YtammakfpmimljaaA5More
namespace Go.Proofs.Ytammakfpmimljaa
open Go.RowKit
set_option linter.unusedVariables false

theorem split_q {a b Q R : Int} {n : Nat} (ha : 0 ≤ a ∧ a ≤ 18446744073709551615) (hb : 0 < b) (hQ0 : 0 ≤ Q) (hR0 : 0 ≤ R) (h : a / 2 ^ n = Q * b + R) : Q * 2 ^ n < 18446744073709551616 := by
  have hp := pow_pos_int n
  have h1 : Q * 1 ≤ Q * b := Int.mul_le_mul_of_nonneg_left (by omega) hQ0
  have h2 : Q ≤ a / 2 ^ n := by omega
  have h3 : Q * 2 ^ n ≤ a / 2 ^ n * 2 ^ n := Int.mul_le_mul_of_nonneg_right h2 (by omega)
  have h4 : a / 2 ^ n * 2 ^ n ≤ a := Int.ediv_mul_le _ (by omega)
  omega
theorem split_up {a b Q R T : Int} {m : Nat} (ha0 : 0 ≤ a) (h : a / 2 ^ (m + 1) = Q * b + R) (hT : T = 2 * R + a / 2 ^ m % 2) :
    a / 2 ^ m = 2 * Q * b + T ∧ a / 2 ^ m = (2 * Q + 1) * b + (T - b) := by
  have h1 := div_step a m ha0
  rw [h] at h1
  have e1 : 2 * Q * b = 2 * (Q * b) := Int.mul_assoc 2 Q b
  have e2 : (2 * Q + 1) * b = 2 * Q * b + 1 * b := Int.add_mul _ _ _
  constructor <;> omega
theorem split_keep (Q : Int) (m : Nat) : Q * 2 ^ (m + 1) = 2 * Q * 2 ^ m := by
  rw [Int.pow_succ, Int.mul_comm 2 Q, Int.mul_assoc, Int.mul_comm 2 (2 ^ m)]
/-- The next rest, ahead of the look whether the divisor fits. -/
theorem split_r {a R : Int} {m : Nat} (ha : 0 ≤ a ∧ a ≤ 18446744073709551615) (hR0 : 0 ≤ R) (hR : R ≤ 18446744073709551615) :
    bits .or .u64 (IntKind.u64.wrap (R * 2)) (bits .and .u64 (a / 2 ^ m) 1) = (2 * R + a / 2 ^ m % 2) % 18446744073709551616 := by
  have hd := bit_bd a m ha.1 (by omega)
  rw [and_one hd.1 hd.2, IntKind.wrap_u64, or_below _ _ (by omega) (by omega) (by omega) (by omega) (by omega)]
  omega

theorem split_any (a b : Int) (w : World) (ha : 0 ≤ a ∧ a ≤ 18446744073709551615) (hb : 0 ≤ b ∧ b ≤ 18446744073709551615) (hb0 : 0 < b) :
    Calls Try.prog 53 #[.int .u64 a, .int .u64 b] w fun e w' =>
      e = .returned (.tuple #[.int .u64 (a / b), .int .u64 (a % b)]) ∧ w = w' := by
  go_enter Try.func53, Try.ntmps53
  go_wp2
  go_loop [6, 7, 8] (fun q r i => ∃ (n : Nat) (V Q R I : Int), n ≤ 64 ∧ i = .int .i64 I ∧ q = .int .u64 V ∧ r = .int .u64 R ∧ I = n - 1 ∧ V = Q * 2 ^ n ∧ 0 ≤ Q ∧ 0 ≤ R ∧ R < b ∧ a / 2 ^ n = Q * b + R) (fun _ _ i => (intOf i + 1).toNat)
  case atStart => exact ⟨64, 0, 0, 0, 63, by omega, rfl, rfl, rfl, by omega, by simp, by omega, by omega, by omega, by
    have e : (2 : Int) ^ 64 = 18446744073709551616 := by decide
    rw [e]; omega⟩
  case round =>
    obtain ⟨n, V, Q, R, I, hn, rfl, rfl, rfl, hI, hV, hQ0, hR0, hR, h⟩ := hrel
    cases n with
    | zero =>
      obtain rfl : I = -1 := by omega
      have H1 : Hid (V = a / b) := by
        show V = _
        simp at h hV
        rw [hV, h, Int.add_comm, Int.add_mul_ediv_right _ _ (by omega), Int.ediv_eq_zero_of_lt hR0 hR]
        omega
      have H2 : Hid (R = a % b) := by
        show R = _
        simp at h
        rw [h, Int.add_comm, Int.add_mul_emod_self_right, Int.emod_eq_of_lt hR0 hR]
      clear h hV hR hI
      go_wp2
      go_ret2
      rw [H1.out, H2.out]
      exact ⟨rfl, rfl⟩
    | succ m =>
      obtain rfl : I = (m : Int) := by omega
      have HQ := split_q ha hb0 hQ0 hR0 h
      have hm : m < 64 := by omega
      subst hV
      have HO : Hid (bits .or .u64 (Q * 2 ^ (m + 1)) (IntKind.u64.wrap (2 ^ m)) = (2 * Q + 1) * 2 ^ m) := by
        have := or_pow Q m hm hQ0 HQ
        rwa [Int.one_mul] at this
      have HK : Hid (Q * 2 ^ (m + 1) = 2 * Q * 2 ^ m) := split_keep Q m
      obtain ⟨T, hT⟩ : ∃ T, T = 2 * R + a / 2 ^ m % 2 := ⟨_, rfl⟩
      have HR : Hid (bits .or .u64 (IntKind.u64.wrap (R * 2)) (bits .and .u64 (a / 2 ^ m) 1) = T % 18446744073709551616) := by
        rw [hT]; exact split_r ha hR0 (by omega)
      have HU : Hid (a / 2 ^ m = 2 * Q * b + T ∧ a / 2 ^ m = (2 * Q + 1) * b + (T - b)) := split_up ha.1 h hT
      have hT0 : 2 * R ≤ T := by omega
      have hT1 : T ≤ 2 * R + 1 := by omega
      clear h HQ hI hT
      go_wp2_with (go_at_call 51; refine (minus_any _ b _ (bits_le _ _ _) hb).mono ?_; rintro e w' ⟨rfl, rfl⟩)
      · have h63 : R / 9223372036854775808 = 1 := by assumption
        go_round
        case rel =>
          refine ⟨m, _, 2 * Q + 1, T - b, _, by omega, rfl, rfl, ?_, rfl, HO.out, by omega, by omega, by omega, HU.out.2⟩
          rw [HR.out]
          exact congrArg _ (by omega)
        case measure => simp [intOf] <;> omega
      · have h63 : ¬ R / 9223372036854775808 = 1 := by assumption
        have hor : (R / 9223372036854775808 == 1) = true ∨ b ≤ bits .or .u64 (R * 2) (bits .and .u64 (a / 2 ^ m) 1) := by assumption
        have HR2 : bits .or .u64 (R * 2) (bits .and .u64 (a / 2 ^ m) 1) = T := by
          have h := HR.out
          rw [IntKind.wrap_u64, Int.emod_eq_of_lt (by omega) (by omega)] at h
          rw [h]; omega
        rw [HR2] at hor
        have hge : b ≤ T := by
          rcases hor with h | h
          · exact absurd (by simpa using h) h63
          · exact h
        clear hor
        go_round
        case rel =>
          refine ⟨m, _, 2 * Q + 1, T - b, _, by omega, rfl, rfl, ?_, rfl, HO.out, by omega, by omega, by omega, HU.out.2⟩
          rw [HR2]
          exact congrArg _ (by omega)
        case measure => simp [intOf] <;> omega
      · have h63 : ¬ R / 9223372036854775808 = 1 := by assumption
        have hor : (R / 9223372036854775808 == 1) = false ∧ bits .or .u64 (R * 2) (bits .and .u64 (a / 2 ^ m) 1) < b := by assumption
        have HR2 : bits .or .u64 (R * 2) (bits .and .u64 (a / 2 ^ m) 1) = T := by
          have h := HR.out
          rw [IntKind.wrap_u64, Int.emod_eq_of_lt (by omega) (by omega)] at h
          rw [h]; omega
        rw [HR2] at hor
        go_round
        case rel =>
          refine ⟨m, _, 2 * Q, T, _, by omega, rfl, rfl, ?_, rfl, HK.out, by omega, by omega, hor.2, HU.out.1⟩
          rw [HR2]
        case measure => simp [intOf] <;> omega
end Go.Proofs.Ytammakfpmimljaa
