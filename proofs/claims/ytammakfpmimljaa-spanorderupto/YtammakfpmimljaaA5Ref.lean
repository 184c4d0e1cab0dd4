/-
  What the document's own plus, minus, times and split make: sum, difference and product modulo 2^64, quotient and rest; memory stays. Conditions: numbers of 64 bits; for split a divisor above 0.
-/
import Derived.Test.YtammakfpmimljaaA5Plain
namespace Go.Proofs.Ytammakfpmimljaa
open Go.RowKit
set_option linter.unusedVariables false

/-- One round of plus. -/
theorem plus_step (a b S C : Int) (k : Nat) (hk : k < 64) (ha0 : 0 ≤ a) (ha : a < 18446744073709551616) (hb0 : 0 ≤ b) (hb : b < 18446744073709551616) (hS0 : 0 ≤ S) (hS : S < 2 ^ k) (hC0 : 0 ≤ C) (hC : C ≤ 1) (h : S + C * 2 ^ k = a % 2 ^ k + b % 2 ^ k) :
    ∃ S' C' : Int, bits .or .u64 S (IntKind.u64.wrap (bits .and .u64 (IntKind.u64.wrap (IntKind.u64.wrap (bits .and .u64 (a / 2 ^ k) 1 + bits .and .u64 (b / 2 ^ k) 1) + C)) 1 * 2 ^ k)) = S' ∧
      IntKind.u64.wrap (IntKind.u64.wrap (bits .and .u64 (a / 2 ^ k) 1 + bits .and .u64 (b / 2 ^ k) 1) + C) / 2 = C' ∧
      0 ≤ S' ∧ S' < 2 ^ (k + 1) ∧ 0 ≤ C' ∧ C' ≤ 1 ∧ S' + C' * 2 ^ (k + 1) = a % 2 ^ (k + 1) + b % 2 ^ (k + 1) := by
  have hda := bit_bd a k ha0 ha
  have hdb := bit_bd b k hb0 hb
  rw [and_one hda.1 hda.2, and_one hdb.1 hdb.2, mod_step a k ha0, mod_step b k hb0, Int.pow_succ]
  have ex : ∃ x : Int, x = a / 2 ^ k % 2 := ⟨_, rfl⟩
  have ey : ∃ y : Int, y = b / 2 ^ k % 2 := ⟨_, rfl⟩
  obtain ⟨x, hx⟩ := ex
  obtain ⟨y, hy⟩ := ey
  have hx2 : x = 0 ∨ x = 1 := by omega
  have hy2 : y = 0 ∨ y = 1 := by omega
  rw [← hx, ← hy]
  have hw : IntKind.u64.wrap (IntKind.u64.wrap (x + y) + C) = x + y + C := by
    rw [IntKind.wrap_u64, IntKind.wrap_u64]
    omega
  rw [hw, and_one (by omega) (by omega), or_above S ((x + y + C) % 2) k hk hS0 hS (by omega) (by omega)]
  have hp := pow_pos_int k
  refine ⟨_, _, rfl, rfl, ?_⟩
  have hC2 : C = 0 ∨ C = 1 := by omega
  clear hx hy hw
  generalize (2 : Int) ^ k = p at *
  generalize a % p = u at *
  generalize b % p = v at *
  rcases hx2 with rfl | rfl <;> rcases hy2 with rfl | rfl <;> rcases hC2 with rfl | rfl <;> simp at h ⊢ <;> omega

theorem plus_any (a b : Int) (w : World) (ha : 0 ≤ a ∧ a ≤ 18446744073709551615) (hb : 0 ≤ b ∧ b ≤ 18446744073709551615) :
    Calls Try.prog 50 #[.int .u64 a, .int .u64 b] w fun e w' =>
      e = .returned (.int .u64 ((a + b) % 18446744073709551616)) ∧ w = w' := by
  go_enter Try.func50, Try.ntmps50
  go_wp2
  go_loop [5, 6, 7] (fun s c i => ∃ (k : Nat) (S C : Int), k ≤ 64 ∧ i = .int .i64 k ∧ s = .int .u64 S ∧ c = .int .u64 C ∧ 0 ≤ S ∧ S < 2 ^ k ∧ 0 ≤ C ∧ C ≤ 1 ∧ S + C * 2 ^ k = a % 2 ^ k + b % 2 ^ k) (fun _ _ i => 64 - (intOf i).toNat)
  case atStart => exact ⟨0, 0, 0, by omega, rfl, rfl, rfl, by omega, by simp, by omega, by omega, by simp [Int.emod_one]⟩
  case round =>
    obtain ⟨k, S, C, hk, rfl, rfl, rfl, hS0, hS, hC0, hC, h⟩ := hrel
    by_cases hlt : k < 64
    · have HS : Hid (∃ S' C' : Int, bits .or .u64 S (IntKind.u64.wrap (bits .and .u64 (IntKind.u64.wrap (IntKind.u64.wrap (bits .and .u64 (a / 2 ^ k) 1 + bits .and .u64 (b / 2 ^ k) 1) + C)) 1 * 2 ^ k)) = S' ∧
        IntKind.u64.wrap (IntKind.u64.wrap (bits .and .u64 (a / 2 ^ k) 1 + bits .and .u64 (b / 2 ^ k) 1) + C) / 2 = C' ∧
        0 ≤ S' ∧ S' < 2 ^ (k + 1) ∧ 0 ≤ C' ∧ C' ≤ 1 ∧ S' + C' * 2 ^ (k + 1) = a % 2 ^ (k + 1) + b % 2 ^ (k + 1)) := plus_step a b S C k hlt ha.1 (by omega) hb.1 (by omega) hS0 hS hC0 hC h
      clear h hS
      go_wp2
      go_round
      case rel =>
        obtain ⟨S', C', e1, e2, r⟩ := HS.out
        exact ⟨k + 1, S', C', by omega, by go_num, by rw [e1], by rw [e2], r⟩
      case measure => simp [intOf]; omega
    · obtain rfl : k = 64 := by omega
      have H : Hid (S = (a + b) % 18446744073709551616) := by
        have e : (2 : Int) ^ 64 = 18446744073709551616 := by decide
        rw [e] at h hS
        show S = _
        omega
      clear h hS
      go_wp2
      go_ret
      exact ⟨ret1 H.out, rfl⟩

theorem plus_not (b : Int) (w : World) (hb : 0 ≤ b ∧ b ≤ 18446744073709551615) :
    Calls Try.prog 50 #[.int .u64 (bits .xor .u64 IntKind.u64.max b), .int .u64 1] w fun e w' =>
      e = .returned (.int .u64 (-b % 18446744073709551616)) ∧ w = w' := by
  rw [not_val hb.1 (by omega)]
  have h := plus_any (18446744073709551615 - b) 1 w (by omega) (by omega)
  have e : (18446744073709551615 - b + 1) % 18446744073709551616 = -b % 18446744073709551616 := by omega
  rw [e] at h
  exact h
theorem minus_any (a b : Int) (w : World) (ha : 0 ≤ a ∧ a ≤ 18446744073709551615) (hb : 0 ≤ b ∧ b ≤ 18446744073709551615) :
    Calls Try.prog 51 #[.int .u64 a, .int .u64 b] w fun e w' =>
      e = .returned (.int .u64 ((a - b) % 18446744073709551616)) ∧ w = w' := by
  have g1 : Hid True := trivial
  go_enter Try.func51, Try.ntmps51
  go_wp2_with (first
    | (go_at_call 50; have hq := g1; clear hq; refine (plus_not b _ hb).mono ?_; rintro e w' ⟨rfl, rfl⟩; clear g1)
    | (go_at_call 50; refine (plus_any a (-b % 18446744073709551616) _ ha (by omega)).mono ?_; rintro e w' ⟨rfl, rfl⟩))
  go_ret
  exact ⟨ret1 (by omega), rfl⟩

/-- One round of times. -/
theorem times_step (a b S A : Int) (k : Nat) (hb0 : 0 ≤ b) (hA : A = a * 2 ^ k % 18446744073709551616) (hS : S = a * (b % 2 ^ k) % 18446744073709551616) :
    (A + A) % 18446744073709551616 = a * 2 ^ (k + 1) % 18446744073709551616 ∧
    (b / 2 ^ k % 2 = 1 → (S + A) % 18446744073709551616 = a * (b % 2 ^ (k + 1)) % 18446744073709551616) ∧
    (b / 2 ^ k % 2 ≠ 1 → S = a * (b % 2 ^ (k + 1)) % 18446744073709551616) := by
  rw [mod_step b k hb0, Int.pow_succ]
  refine ⟨?_, fun h => ?_, fun h => ?_⟩
  · rw [← Int.mul_assoc]
    generalize a * 2 ^ k = z at *
    omega
  · rw [h, Int.mul_one, Int.mul_add]
    generalize a * 2 ^ k = z at *
    generalize a * (b % 2 ^ k) = y at *
    omega
  · have : b / 2 ^ k % 2 = 0 := by omega
    rw [this]
    simpa using hS

theorem times_any (a b : Int) (w : World) (ha : 0 ≤ a ∧ a ≤ 18446744073709551615) (hb : 0 ≤ b ∧ b ≤ 18446744073709551615) :
    Calls Try.prog 52 #[.int .u64 a, .int .u64 b] w fun e w' =>
      e = .returned (.int .u64 (a * b % 18446744073709551616)) ∧ w = w' := by
  go_enter Try.func52, Try.ntmps52
  go_wp2
  go_loop [0, 5, 6] (fun u s i => ∃ (k : Nat) (A S : Int), k ≤ 64 ∧ i = .int .i64 k ∧ u = .int .u64 A ∧ s = .int .u64 S ∧ 0 ≤ A ∧ A ≤ 18446744073709551615 ∧ 0 ≤ S ∧ S ≤ 18446744073709551615 ∧ A = a * 2 ^ k % 18446744073709551616 ∧ S = a * (b % 2 ^ k) % 18446744073709551616) (fun _ _ i => 64 - (intOf i).toNat)
  case atStart => exact ⟨0, a, 0, by omega, rfl, rfl, rfl, by omega, by omega, by omega, by omega, by simp; omega, by simp [Int.emod_one]⟩
  case round =>
    obtain ⟨k, A, S, hk, rfl, rfl, rfl, hA0, hA1, hS0, hS1, hA, hS⟩ := hrel
    by_cases hlt : k < 64
    · have HT := times_step a b S A k hb.1 hA hS
      have HB : Hid (bits .and .u64 (b / 2 ^ k) 1 = b / 2 ^ k % 2) := and_one (bit_bd b k hb.1 (by omega)).1 (bit_bd b k hb.1 (by omega)).2
      by_cases hbit : b / 2 ^ k % 2 = 1
      · have HE : (bits .and .u64 (b / 2 ^ k) 1 == 1) = true := by rw [HB.out, hbit]; rfl
        have H1 : Hid ((A + A) % 18446744073709551616 = a * 2 ^ (k + 1) % 18446744073709551616) := HT.1
        have H2 : Hid ((S + A) % 18446744073709551616 = a * (b % 2 ^ (k + 1)) % 18446744073709551616) := HT.2.1 hbit
        clear HT hA hS hbit HB
        go_wp2_with (go_at_call 50; refine (plus_any _ _ _ (by omega) (by omega)).mono ?_; rintro e w' ⟨rfl, rfl⟩)
        go_round
        case rel => exact ⟨k + 1, _, _, by omega, by go_num, rfl, rfl, by omega, by omega, by omega, by omega, H1.out, H2.out⟩
        case measure => simp [intOf]; omega
      · have HE : (bits .and .u64 (b / 2 ^ k) 1 == 1) = false := by rw [HB.out]; simpa using hbit
        have H1 : Hid ((A + A) % 18446744073709551616 = a * 2 ^ (k + 1) % 18446744073709551616) := HT.1
        have H2 : Hid (S = a * (b % 2 ^ (k + 1)) % 18446744073709551616) := HT.2.2 hbit
        clear HT hA hS hbit HB
        go_wp2_with (go_at_call 50; refine (plus_any _ _ _ (by omega) (by omega)).mono ?_; rintro e w' ⟨rfl, rfl⟩)
        go_round
        case rel => exact ⟨k + 1, _, _, by omega, by go_num, rfl, rfl, by omega, by omega, by omega, by omega, H1.out, H2.out⟩
        case measure => simp [intOf]; omega
    · obtain rfl : k = 64 := by omega
      have H : Hid (S = a * b % 18446744073709551616) := by
        have e : (2 : Int) ^ 64 = 18446744073709551616 := by decide
        rw [e, Int.emod_eq_of_lt hb.1 (by omega)] at hS
        exact hS
      clear hA hS
      go_wp2
      go_ret
      exact ⟨ret1 H.out, rfl⟩
end Go.Proofs.Ytammakfpmimljaa
