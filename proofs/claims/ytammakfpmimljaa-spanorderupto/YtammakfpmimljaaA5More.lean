/-
  More plain arithmetic of numbers of 64 bits: what an operation makes is such a number; and, or and xor of one another. No Go text in sight.
-/
import Derived.Test.YtammakfpmimljaaA5Plain
namespace Go.Proofs.Ytammakfpmimljaa
open Go.RowKit
set_option linter.unusedVariables false

theorem bits_le (op : BinOp) (x y : Int) : 0 ≤ bits op .u64 x y ∧ bits op .u64 x y ≤ 18446744073709551615 := by
  have := bits_in op x y
  omega
def W64 (x : Int) : Prop := 0 ≤ x ∧ x ≤ 18446744073709551615
theorem doL_in (op : Int) {a b : Int} (ha : W64 a) (hb : W64 b) : W64 (doL op a b) := by
  have hp := pow_pos_int (min b.toNat 64)
  have h1 := bits_le .and a b
  have h2 := bits_le .or a b
  have h3 := bits_le .xor a b
  have h4 : 0 ≤ a / b ∧ a / b ≤ a := ⟨Int.ediv_nonneg ha.1 hb.1, Int.ediv_le_self _ ha.1⟩
  have h5 : 0 ≤ a % b ∧ a % b ≤ a := by
    by_cases h : b = 0
    · subst h; simp; exact ha.1
    · have := hb.1
      have hm := Int.emod_nonneg a h
      have := Int.ediv_mul_add_emod a b
      have : 0 ≤ a / b * b := Int.mul_nonneg h4.1 hb.1
      omega
  have h6 : 0 ≤ a / 2 ^ min b.toNat 64 ∧ a / 2 ^ min b.toNat 64 ≤ a := ⟨Int.ediv_nonneg ha.1 (by omega), Int.ediv_le_self _ ha.1⟩
  unfold W64 at *
  unfold doL
  generalize a * 2 ^ min b.toNat 64 = y
  generalize a * b = z
  repeat' split
  all_goals omega
theorem two_mod (a b : Nat) : (a &&& b) % 2 = a % 2 * (b % 2) ∧ (a ||| b) % 2 = a % 2 + b % 2 - a % 2 * (b % 2) ∧ (a ^^^ b) % 2 = (a % 2 + b % 2) % 2 := by
  have h1 := Nat.and_mod_two_pow (a := a) (b := b) (n := 1)
  have h2 := Nat.or_mod_two_pow (a := a) (b := b) (n := 1)
  have h3 := Nat.xor_mod_two_pow (a := a) (b := b) (n := 1)
  simp only [Nat.pow_one] at h1 h2 h3
  rw [h1, h2, h3]
  have ha : a % 2 = 0 ∨ a % 2 = 1 := by omega
  have hb : b % 2 = 0 ∨ b % 2 = 1 := by omega
  rcases ha with ha | ha <;> rcases hb with hb | hb <;> rw [ha, hb] <;> decide
theorem and_or_nat (n : Nat) : ∀ a b : Nat, a ≤ n → (a &&& b) + (a ||| b) = a + b ∧ (a ^^^ b) + (a &&& b) = (a ||| b) := by
  induction n with
  | zero =>
    intro a b h
    obtain rfl : a = 0 := by omega
    simp
  | succ n ih =>
    intro a b h
    by_cases h0 : a = 0
    · subst h0; simp
    · obtain ⟨i1, i2⟩ := ih (a / 2) (b / 2) (by omega)
      obtain ⟨m1, m2, m3⟩ := two_mod a b
      have d1 : (a &&& b) / 2 = a / 2 &&& b / 2 := Nat.and_div_two
      have d2 : (a ||| b) / 2 = a / 2 ||| b / 2 := Nat.or_div_two
      have d3 : (a ^^^ b) / 2 = a / 2 ^^^ b / 2 := Nat.xor_div_two
      rw [← d1, ← d2] at i1
      rw [← d1, ← d2, ← d3] at i2
      have ha : a % 2 = 0 ∨ a % 2 = 1 := by omega
      have hb : b % 2 = 0 ∨ b % 2 = 1 := by omega
      rcases ha with ha | ha <;> rcases hb with hb | hb <;> rw [ha, hb] at m1 m2 m3 <;> constructor <;> omega
theorem and_or_sum {a b : Int} (ha : W64 a) (hb : W64 b) : bits .and .u64 a b + bits .or .u64 a b = a + b := by
  rw [and_bv, or_bv, BitVec.toNat_and, BitVec.toNat_or]
  have h := (and_or_nat _ (bv a).toNat (bv b).toNat (Nat.le_refl _)).1
  have h1 := bv_toNat ha.1 (by have := ha.2; omega)
  have h2 := bv_toNat hb.1 (by have := hb.2; omega)
  omega
theorem or_minus {a b : Int} : bits .or .u64 a b - bits .and .u64 a b = bits .xor .u64 a b := by
  rw [and_bv, or_bv, xor_bv, BitVec.toNat_and, BitVec.toNat_or, BitVec.toNat_xor]
  have h := (and_or_nat _ (bv a).toNat (bv b).toNat (Nat.le_refl _)).2
  omega
theorem xor_back {a b : Int} (ha : W64 a) : bits .xor .u64 (bits .xor .u64 a b) b = a := by
  rw [xor_bv, xor_bv, bv_nat, BitVec.xor_assoc, BitVec.xor_self, BitVec.xor_zero]
  exact bv_toNat ha.1 (by have := ha.2; omega)

theorem xor_zero {a b : Int} (ha : 0 ≤ a ∧ a ≤ 18446744073709551615) (hb : 0 ≤ b ∧ b ≤ 18446744073709551615) : bits .xor .u64 a b = 0 ↔ a = b := by
  rw [xor_bv]
  have h1 := bv_toNat ha.1 (by omega)
  have h2 := bv_toNat hb.1 (by omega)
  constructor
  · intro h
    have h3 : (bv a ^^^ bv b).toNat = 0 := by exact_mod_cast h
    have h4 : bv a ^^^ bv b = 0#64 := BitVec.eq_of_toNat_eq (by simpa using h3)
    have h5 : bv a = bv b := by
      have := congrArg (· ^^^ bv b) h4
      simpa [BitVec.xor_assoc] using this
    rw [← h1, ← h2, h5]
  · rintro rfl
    simp

end Go.Proofs.Ytammakfpmimljaa
