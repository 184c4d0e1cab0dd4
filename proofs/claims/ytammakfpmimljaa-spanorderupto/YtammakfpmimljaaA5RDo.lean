/-
  What the document's Do and Holds answer: the same plain functions doL and holdL; memory stays. Condition: both numbers are of 64 bits.
-/
import Derived.Test.YtammakfpmimljaaA5Split
import Derived.Test.YtammakfpmimljaaA5Do
namespace Go.Proofs.Ytammakfpmimljaa
open Go.RowKit
set_option linter.unusedVariables false

/-- What turns to 0 and stays so, and is 0 at 64. -/
theorem till_zero {f : Nat → Int} (h64 : f 64 = 0) (hz : ∀ i n, i ≤ n → f i = 0 → f n = 0) {i b : Nat} (hi : i ≤ b) (h : i = b ∨ f i = 0) : f i = f (min b 64) := by
  by_cases hb : b ≤ 64
  · rw [Nat.min_eq_left hb]
    rcases h with rfl | h
    · rfl
    · rw [h, hz i b hi h]
  · rw [Nat.min_eq_right (by omega), h64]
    rcases h with rfl | h
    · exact hz 64 i (by omega) h64
    · exact h
theorem shl_zero (a : Int) : a * 2 ^ 64 % 18446744073709551616 = 0 := by
  have e : (2 : Int) ^ 64 = 18446744073709551616 := by decide
  rw [e]; omega
theorem shl_stays (a : Int) (i n : Nat) (h : i ≤ n) (hz : a * 2 ^ i % 18446744073709551616 = 0) : a * 2 ^ n % 18446744073709551616 = 0 := by
  obtain ⟨j, rfl⟩ := Nat.exists_eq_add_of_le h
  rw [Int.pow_add, ← Int.mul_assoc, Int.mul_emod, hz]
  simp
theorem shr_zero (a : Int) (h0 : 0 ≤ a) (h : a ≤ 18446744073709551615) : a / 2 ^ 64 = 0 := by
  have e : (2 : Int) ^ 64 = 18446744073709551616 := by decide
  rw [e]; omega
theorem div_pow_add (a : Int) (i j : Nat) : a / 2 ^ (i + j) = a / 2 ^ i / 2 ^ j := by
  rw [Int.pow_add, Int.ediv_ediv_of_nonneg (Int.le_of_lt (pow_pos_int i))]
theorem shr_stays (a : Int) (i n : Nat) (h : i ≤ n) (hz : a / 2 ^ i = 0) : a / 2 ^ n = 0 := by
  obtain ⟨j, rfl⟩ := Nat.exists_eq_add_of_le h
  rw [div_pow_add, hz]
  simp
theorem shl_next (a : Int) (i : Nat) : (a * 2 ^ i % 18446744073709551616 + a * 2 ^ i % 18446744073709551616) % 18446744073709551616 = a * 2 ^ (i + 1) % 18446744073709551616 := by
  rw [Int.pow_succ, ← Int.mul_assoc]
  generalize a * 2 ^ i = z
  omega

set_option maxHeartbeats 400000 in
theorem rshl_any (a b : Int) (w : World) (ha : 0 ≤ a ∧ a ≤ 18446744073709551615) (hb : 0 ≤ b ∧ b ≤ 18446744073709551615) :
    Calls Try.prog 38 #[.int .i64 9, .int .u64 a, .int .u64 b] w fun e w' =>
      e = .returned (.tuple #[.int .u64 (a * 2 ^ min b.toNat 64 % 18446744073709551616), .bool true]) ∧ w = w' := by
  obtain ⟨B, rfl⟩ := Int.eq_ofNat_of_zero_le hb.1
  rw [Int.toNat_natCast]
  go_enter Try.func38, Try.ntmps38
  go_wp2
  go_loop [1, 10] (fun u i => ∃ (k : Nat) (A : Int), k ≤ B ∧ i = .int .u64 k ∧ u = .int .u64 A ∧ 0 ≤ A ∧ A ≤ 18446744073709551615 ∧ A = a * 2 ^ k % 18446744073709551616) (fun _ i => B - (intOf i).toNat)
  case atStart => exact ⟨0, a, by omega, rfl, rfl, by omega, by omega, by simp; omega⟩
  case round =>
    obtain ⟨k, A, hk, rfl, rfl, hA0, hA1, hA⟩ := hrel
    have HA : Hid (A = a * 2 ^ k % 18446744073709551616) := hA
    clear hA
    by_cases hlt : k < B ∧ 0 < A
    · obtain ⟨h1, h2⟩ := hlt
      have HN : Hid ((A + A) % 18446744073709551616 = a * 2 ^ (k + 1) % 18446744073709551616) := by rw [HA.out]; exact shl_next a k
      clear HA
      go_wp2_with (go_at_call 50; refine (plus_any _ _ _ (by omega) (by omega)).mono ?_; rintro e w' ⟨rfl, rfl⟩)
      go_round
      case rel => exact ⟨k + 1, _, by omega, by go_num, rfl, by omega, by omega, HN.out⟩
      case measure => simp [intOf]; omega
    · have HE : Hid (A = a * 2 ^ min B 64 % 18446744073709551616) := by
        rw [HA.out]
        exact till_zero (f := fun i => a * 2 ^ i % 18446744073709551616) (shl_zero a) (shl_stays a) hk (by
          by_cases h : k = B
          · exact .inl h
          · exact .inr (by show _ = (0 : Int); rw [← HA.out]; omega))
      clear HA
      by_cases h1 : k < B
      · obtain rfl : A = 0 := by omega
        go_wp2
        go_ret2
        exact ⟨ret2 HE.out rfl, rfl⟩
      · go_wp2
        go_ret2
        exact ⟨ret2 HE.out rfl, rfl⟩

set_option maxHeartbeats 400000 in
theorem rshr_any (a b : Int) (w : World) (ha : 0 ≤ a ∧ a ≤ 18446744073709551615) (hb : 0 ≤ b ∧ b ≤ 18446744073709551615) :
    Calls Try.prog 38 #[.int .i64 10, .int .u64 a, .int .u64 b] w fun e w' =>
      e = .returned (.tuple #[.int .u64 (a / 2 ^ min b.toNat 64), .bool true]) ∧ w = w' := by
  obtain ⟨B, rfl⟩ := Int.eq_ofNat_of_zero_le hb.1
  rw [Int.toNat_natCast]
  go_enter Try.func38, Try.ntmps38
  go_wp2
  go_loop [1, 10] (fun u i => ∃ (k : Nat) (A : Int), k ≤ B ∧ i = .int .u64 k ∧ u = .int .u64 A ∧ 0 ≤ A ∧ A ≤ 18446744073709551615 ∧ A = a / 2 ^ k) (fun _ i => B - (intOf i).toNat)
  case atStart => exact ⟨0, a, by omega, rfl, rfl, by omega, by omega, by simp⟩
  case round =>
    obtain ⟨k, A, hk, rfl, rfl, hA0, hA1, hA⟩ := hrel
    have HA : Hid (A = a / 2 ^ k) := hA
    clear hA
    by_cases hlt : k < B ∧ 0 < A
    · obtain ⟨h1, h2⟩ := hlt
      have HN : Hid (A / 2 = a / 2 ^ (k + 1)) := by rw [HA.out, div_pow_add]; rfl
      clear HA
      go_wp2
      go_round
      case rel => exact ⟨k + 1, _, by omega, by go_num, rfl, by omega, by omega, HN.out⟩
      case measure => simp [intOf]; omega
    · have HE : Hid (A = a / 2 ^ min B 64) := by
        rw [HA.out]
        exact till_zero (f := fun i => a / 2 ^ i) (shr_zero a ha.1 ha.2) (shr_stays a) hk (by
          by_cases h : k = B
          · exact .inl h
          · exact .inr (by show _ = (0 : Int); rw [← HA.out]; omega))
      clear HA
      by_cases h1 : k < B
      · obtain rfl : A = 0 := by omega
        go_wp2
        go_ret2
        exact ⟨ret2 HE.out rfl, rfl⟩
      · go_wp2
        go_ret2
        exact ⟨ret2 HE.out rfl, rfl⟩
end Go.Proofs.Ytammakfpmimljaa
