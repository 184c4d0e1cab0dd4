/-
  What operations are to one another: quotient and rest make the number again, what is added is taken away, and, or and xor of one another, shifts as products and quotients. No condition but numbers of 64 bits.
-/
import Derived.Test.YtppdpleknbdeaaaA5Holds
namespace Go.Proofs.Ytppdpleknbdeaaa
open Go.RowKit
set_option linter.unusedVariables false

theorem two_mod (a b : Nat) : (a &&& b) % 2 = a % 2 * (b % 2) ∧ (a ||| b) % 2 = a % 2 + b % 2 - a % 2 * (b % 2) ∧ (a ^^^ b) % 2 = (a % 2 + b % 2) % 2 := by
  have h1 := Nat.and_mod_two_pow (a := a) (b := b) (n := 1)
  have h2 := Nat.or_mod_two_pow (a := a) (b := b) (n := 1)
  have h3 := Nat.xor_mod_two_pow (a := a) (b := b) (n := 1)
  simp only [Nat.pow_one] at h1 h2 h3
  rw [h1, h2, h3]
  have ha : a % 2 = 0 ∨ a % 2 = 1 := by omega
  have hb : b % 2 = 0 ∨ b % 2 = 1 := by omega
  rcases ha with ha | ha <;> rcases hb with hb | hb <;> rw [ha, hb] <;> decide
theorem and_or_nat (n : Nat) : ∀ a b : Nat, a ≤ n → (a &&& b) + (a ||| b) = a + b ∧ (a ^^^ b) + (a &&& b) = (a ||| b) := by
  induction n with
  | zero =>
    intro a b h
    obtain rfl : a = 0 := by omega
    simp
  | succ n ih =>
    intro a b h
    by_cases h0 : a = 0
    · subst h0; simp
    · obtain ⟨i1, i2⟩ := ih (a / 2) (b / 2) (by omega)
      obtain ⟨m1, m2, m3⟩ := two_mod a b
      have d1 : (a &&& b) / 2 = a / 2 &&& b / 2 := Nat.and_div_two
      have d2 : (a ||| b) / 2 = a / 2 ||| b / 2 := Nat.or_div_two
      have d3 : (a ^^^ b) / 2 = a / 2 ^^^ b / 2 := Nat.xor_div_two
      rw [← d1, ← d2] at i1
      rw [← d1, ← d2, ← d3] at i2
      have ha : a % 2 = 0 ∨ a % 2 = 1 := by omega
      have hb : b % 2 = 0 ∨ b % 2 = 1 := by omega
      rcases ha with ha | ha <;> rcases hb with hb | hb <;> rw [ha, hb] at m1 m2 m3 <;> constructor <;> omega
theorem and_or_sum {a b : Int} (ha : W64 a) (hb : W64 b) : bits .and .u64 a b + bits .or .u64 a b = a + b := by
  rw [and_bv, or_bv, BitVec.toNat_and, BitVec.toNat_or]
  have h := (and_or_nat _ (bv a).toNat (bv b).toNat (Nat.le_refl _)).1
  have h1 := bv_toNat ha.1 (by have := ha.2; omega)
  have h2 := bv_toNat hb.1 (by have := hb.2; omega)
  omega
theorem or_minus {a b : Int} : bits .or .u64 a b - bits .and .u64 a b = bits .xor .u64 a b := by
  rw [and_bv, or_bv, xor_bv, BitVec.toNat_and, BitVec.toNat_or, BitVec.toNat_xor]
  have h := (and_or_nat _ (bv a).toNat (bv b).toNat (Nat.le_refl _)).2
  omega
theorem xor_back {a b : Int} (ha : W64 a) : bits .xor .u64 (bits .xor .u64 a b) b = a := by
  rw [xor_bv, xor_bv, bv_nat, BitVec.xor_assoc, BitVec.xor_self, BitVec.xor_zero]
  exact bv_toNat ha.1 (by have := ha.2; omega)

theorem law_div {a b : Int} (ha : W64 a) (hb : W64 b) : a = doL 1 (doL 3 (doL 4 a b) b) (doL 5 a b) := by
  show a = (a / b * b % 18446744073709551616 + a % b) % 18446744073709551616
  have h := Int.ediv_mul_add_emod a b
  have h1 : 0 ≤ a / b * b := Int.mul_nonneg (Int.ediv_nonneg ha.1 hb.1) hb.1
  have h2 := doL_in 5 ha hb
  have h3 : W64 (a % b) := h2
  unfold W64 at *
  generalize a / b * b = z at *
  generalize a % b = y at *
  omega
theorem law_rem {a b : Int} (ha : W64 a) (hb : 0 < b) : doL 5 a b < b := Int.emod_lt_of_pos a hb
theorem law_sub {a b : Int} (ha : W64 a) : a = doL 2 (doL 1 a b) b := by
  show a = ((a + b) % 18446744073709551616 - b) % 18446744073709551616
  unfold W64 at ha
  omega
theorem law_mul (a b c : Int) : doL 3 a (doL 1 b c) = doL 1 (doL 3 a b) (doL 3 a c) := by
  show a * ((b + c) % 18446744073709551616) % 18446744073709551616 = (a * b % 18446744073709551616 + a * c % 18446744073709551616) % 18446744073709551616
  rw [Int.mul_emod, Int.emod_emod, ← Int.mul_emod, Int.mul_add, Int.add_emod]
theorem law_and {a b : Int} (ha : W64 a) (hb : W64 b) : doL 1 a b = doL 1 (doL 6 a b) (doL 7 a b) := by
  show (a + b) % 18446744073709551616 = (bits .and .u64 a b + bits .or .u64 a b) % 18446744073709551616
  rw [and_or_sum ha hb]
theorem law_xor {a b : Int} (ha : W64 a) : a = doL 8 (doL 8 a b) b := (xor_back ha).symm
theorem law_or (a b : Int) : doL 8 a b = doL 2 (doL 7 a b) (doL 6 a b) := by
  show bits .xor .u64 a b = (bits .or .u64 a b - bits .and .u64 a b) % 18446744073709551616
  rw [or_minus]
  have := bits_in .xor a b
  omega
theorem one_shl {s : Int} (h : s < 64) (h0 : 0 ≤ s) : doL 9 1 s = 2 ^ min s.toNat 64 := by
  show 1 * 2 ^ min s.toNat 64 % 18446744073709551616 = _
  have hm : min s.toNat 64 < 64 := by omega
  have h1 := pow_half hm
  have h2 := pow_pos_int (min s.toNat 64)
  rw [Int.one_mul]
  exact Int.emod_eq_of_lt (by omega) (by omega)
theorem law_shl {a s : Int} (h : s < 64) (h0 : 0 ≤ s) : doL 9 a s = doL 3 a (doL 9 1 s) := by
  rw [one_shl h h0]; rfl
theorem law_shr {a s : Int} (h : s < 64) (h0 : 0 ≤ s) : doL 10 a s = doL 4 a (doL 9 1 s) := by
  rw [one_shl h h0]; rfl
theorem far_shl {a t : Int} (h : 64 ≤ t) : 0 = doL 9 a t := by
  show 0 = a * 2 ^ min t.toNat 64 % 18446744073709551616
  rw [Nat.min_eq_right (by omega)]
  exact (shl_zero a).symm
theorem far_shr {a t : Int} (ha : W64 a) (h : 64 ≤ t) : 0 = doL 10 a t := by
  show 0 = a / 2 ^ min t.toNat 64
  rw [Nat.min_eq_right (by omega)]
  exact (shr_zero a ha.1 ha.2).symm
end Go.Proofs.Ytppdpleknbdeaaa
