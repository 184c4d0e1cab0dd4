/-
  A5Plain
  A5More
  A5Ref
  A5Split
-/
import Derived.Test.YtkcofelpndlplaaRows
import Derived.Laws.Bits64b
import Derived.Laws.BitsLemmas
import Derived.WalkSpells
import Derived.OpenShut
/-
  Plain arithmetic of numbers of 64 bits: what each operation makes (doL), which condition holds (holdL), a fold from the left (foldL), and the facts that the document's ways by bits and carries rest on. No condition.
-/
namespace Go.Proofs.Ytkcofelpndlplaa
open Go.RowKit
set_option linter.unusedVariables false

def doL (op a b : Int) : Int :=
  if op = 1 then (a + b) % 18446744073709551616
  else if op = 2 then (a - b) % 18446744073709551616
  else if op = 3 then a * b % 18446744073709551616
  else if op = 4 then a / b
  else if op = 5 then a % b
  else if op = 6 then bits .and .u64 a b
  else if op = 7 then bits .or .u64 a b
  else if op = 8 then bits .xor .u64 a b
  else if op = 9 then a * 2 ^ min b.toNat 64 % 18446744073709551616
  else if op = 10 then a / 2 ^ min b.toNat 64
  else 0
def isOp (op : Int) : Bool := decide (1 ≤ op ∧ op ≤ 10)
def holdL (op a b : Int) : Bool :=
  if op = 16 then a == b
  else if op = 17 then a != b
  else if op = 18 then decide (a < b)
  else if op = 19 then decide (b ≤ a)
  else false
def isCond (op : Int) : Bool := decide (16 ≤ op ∧ op ≤ 19)

theorem ret2 {k : IntKind} {a a' : Int} {c c' : Bool} (h1 : a = a') (h2 : c = c') : Ending.returned (.tuple #[.int k a, .bool c]) = .returned (.tuple #[.int k a', .bool c']) := by rw [h1, h2]
theorem ret2b {a a' c c' : Bool} (h1 : a = a') (h2 : c = c') : Ending.returned (.tuple #[.bool a, .bool c]) = .returned (.tuple #[.bool a', .bool c']) := by rw [h1, h2]
theorem ret1 {k : IntKind} {a b : Int} (h : a = b) : Ending.returned (.int k a) = .returned (.int k b) := by rw [h]

/-! Bits as vectors. -/
def bv (x : Int) : BitVec 64 := BitVec.ofInt 64 x
theorem wrap_nat (v : BitVec 64) : IntKind.u64.wrap ((v.toNat : Nat) : Int) = (v.toNat : Int) := by
  have := v.isLt
  rw [IntKind.wrap_u64]
  omega
theorem and_bv (x y : Int) : bits .and .u64 x y = ((bv x &&& bv y).toNat : Int) := wrap_nat (bv x &&& bv y)
theorem or_bv (x y : Int) : bits .or .u64 x y = ((bv x ||| bv y).toNat : Int) := wrap_nat (bv x ||| bv y)
theorem xor_bv (x y : Int) : bits .xor .u64 x y = ((bv x ^^^ bv y).toNat : Int) := wrap_nat (bv x ^^^ bv y)
theorem andNot_bv (x y : Int) : bits .andNot .u64 x y = ((bv x &&& ~~~ bv y).toNat : Int) := wrap_nat (bv x &&& ~~~ bv y)
theorem bv_nat (v : BitVec 64) : bv ((v.toNat : Nat) : Int) = v := by
  unfold bv
  rw [BitVec.ofInt_natCast]
  simp
theorem bv_toNat {x : Int} (h0 : 0 ≤ x) (h : x < 18446744073709551616) : ((bv x).toNat : Int) = x := by
  obtain ⟨n, rfl⟩ := Int.eq_ofNat_of_zero_le h0
  unfold bv
  rw [BitVec.ofInt_natCast, BitVec.toNat_ofNat]
  omega
theorem bv_max : bv IntKind.u64.max = BitVec.allOnes 64 := by decide
theorem not_bv (x : Int) : bits .xor .u64 IntKind.u64.max x = ((~~~ bv x).toNat : Int) := by
  rw [xor_bv, bv_max, BitVec.allOnes_xor]
theorem not_val {x : Int} (h0 : 0 ≤ x) (h : x < 18446744073709551616) : bits .xor .u64 IntKind.u64.max x = 18446744073709551615 - x := by
  rw [not_bv, BitVec.toNat_not]
  have := bv_toNat h0 h
  have := (bv x).isLt
  omega
theorem ref_and (a b : Int) : bits .xor .u64 IntKind.u64.max (bits .or .u64 (bits .xor .u64 IntKind.u64.max a) (bits .xor .u64 IntKind.u64.max b)) = bits .and .u64 a b := by
  rw [not_bv, or_bv, not_bv a, not_bv b, bv_nat, bv_nat, bv_nat, and_bv]
  congr 2
  ext i hi
  simp
theorem ref_or (a b : Int) : bits .xor .u64 IntKind.u64.max (bits .and .u64 (bits .xor .u64 IntKind.u64.max a) (bits .xor .u64 IntKind.u64.max b)) = bits .or .u64 a b := by
  rw [not_bv, and_bv, not_bv a, not_bv b, bv_nat, bv_nat, bv_nat, or_bv]
  congr 2
  ext i hi
  simp
theorem ref_xor (a b : Int) : bits .or .u64 (bits .andNot .u64 a b) (bits .andNot .u64 b a) = bits .xor .u64 a b := by
  rw [or_bv, andNot_bv, andNot_bv, bv_nat, bv_nat, xor_bv]
  congr 2
  ext i hi
  simp
  cases (bv a)[i] <;> cases (bv b)[i] <;> rfl
theorem bits_in (op : BinOp) (x y : Int) : 0 ≤ bits op .u64 x y ∧ bits op .u64 x y < 18446744073709551616 := by
  have h : bits op .u64 x y = (bits op .u64 x y) := rfl
  unfold bits
  rw [IntKind.wrap_u64]
  omega

/-! One bit more. -/
theorem and_one {x : Int} (h0 : 0 ≤ x) (h : x < 18446744073709551616) : bits .and .u64 x 1 = x % 2 := by
  have := bits_mask .u64 64 (by decide) (fun n h0 h => by rw [IntKind.wrap_u64]; omega) 1 (by decide) x h0 (by simpa using h)
  simpa using this
theorem two_pow_int (k : Nat) : (2 : Int) ^ k = ((2 ^ k : Nat) : Int) := by simp
theorem pow_pos_int (k : Nat) : 0 < (2 : Int) ^ k := by
  rw [two_pow_int]
  exact_mod_cast Nat.two_pow_pos k
theorem pow_le64 {k : Nat} (h : k ≤ 64) : (2 : Int) ^ k ≤ 18446744073709551616 := by
  rw [two_pow_int]
  have h1 : 2 ^ k ≤ 2 ^ 64 := Nat.pow_le_pow_right (by decide) h
  have h2 : (2 ^ 64 : Nat) = 18446744073709551616 := by decide
  omega
theorem pow_half {k : Nat} (h : k < 64) : (2 : Int) ^ k * 2 ≤ 18446744073709551616 := by
  have := pow_le64 (k := k + 1) (by omega)
  rw [Int.pow_succ] at this
  exact this
theorem mod_step (a : Int) (k : Nat) (h : 0 ≤ a) : a % 2 ^ (k + 1) = a % 2 ^ k + 2 ^ k * (a / 2 ^ k % 2) := by
  obtain ⟨n, rfl⟩ := Int.eq_ofNat_of_zero_le h
  have := Nat.mod_mul (a := 2 ^ k) (b := 2) (x := n)
  rw [← Nat.pow_succ] at this
  exact_mod_cast this
theorem div_step (a : Int) (k : Nat) (h : 0 ≤ a) : a / 2 ^ k = 2 * (a / 2 ^ (k + 1)) + a / 2 ^ k % 2 := by
  obtain ⟨n, rfl⟩ := Int.eq_ofNat_of_zero_le h
  have h1 : n / 2 ^ (k + 1) = n / 2 ^ k / 2 := by rw [Nat.pow_succ, Nat.div_div_eq_div_mul]
  have h2 : n / 2 ^ k = 2 * (n / 2 ^ (k + 1)) + n / 2 ^ k % 2 := by rw [h1]; omega
  exact_mod_cast h2
theorem bit_bd (a : Int) (k : Nat) (h0 : 0 ≤ a) (h : a < 18446744073709551616) : 0 ≤ a / 2 ^ k ∧ a / 2 ^ k < 18446744073709551616 := by
  have hp := pow_pos_int k
  exact ⟨Int.ediv_nonneg h0 (by omega), Int.lt_of_le_of_lt (Int.ediv_le_self _ h0) h⟩
/-- A bit laid above what is there. -/
theorem or_above (S c : Int) (k : Nat) (hk : k < 64) (hS0 : 0 ≤ S) (hS : S < 2 ^ k) (hc0 : 0 ≤ c) (hc : c ≤ 1) : bits .or .u64 S (IntKind.u64.wrap (c * 2 ^ k)) = S + c * 2 ^ k := by
  have hp := pow_pos_int k
  have hh := pow_half hk
  have hw : IntKind.u64.wrap (c * 2 ^ k) = c * 2 ^ k := by
    rw [IntKind.wrap_u64]
    obtain rfl | rfl : c = 0 ∨ c = 1 := by omega
    · simp
    · rw [Int.one_mul]; exact Int.emod_eq_of_lt (by omega) (by omega)
  rw [hw]
  obtain ⟨s, rfl⟩ := Int.eq_ofNat_of_zero_le hS0
  have hs : s < 2 ^ k := by exact_mod_cast hS
  have hl : (2 : Nat) ^ k * 2 ≤ 18446744073709551616 := by rw [two_pow_int] at hh; omega
  obtain rfl | rfl : c = 0 ∨ c = 1 := by omega
  · have := bits_or_u64_nat s 0 (by omega) (by decide)
    simpa using this
  · have := bits_or_u64_nat s (2 ^ k) (by omega) (by omega)
    have e := Nat.two_pow_add_eq_or_of_lt hs 1
    rw [Nat.mul_one, Nat.or_comm, Nat.add_comm] at e
    rw [← e] at this
    simpa using this
/-- A bit laid below what is there. -/
theorem or_below (S c : Int) (hS0 : 0 ≤ S) (hS : S < 18446744073709551616) (hd : S % 2 = 0) (hc0 : 0 ≤ c) (hc : c ≤ 1) : bits .or .u64 S c = S + c := by
  exact bits_join .u64 64 (by decide) (fun n h0 h => by rw [IntKind.wrap_u64]; omega) 1 S c hS0 (by simpa using hd) (by simpa using hS) hc0 (by omega) (by omega)
/-- A power laid below a multiple of the next one. -/
theorem or_pow (Q : Int) (i : Nat) (hi : i < 64) (hQ0 : 0 ≤ Q) (hQ : Q * 2 ^ (i + 1) < 18446744073709551616) : bits .or .u64 (Q * 2 ^ (i + 1)) (IntKind.u64.wrap (1 * 2 ^ i)) = (2 * Q + 1) * 2 ^ i := by
  have hp := pow_pos_int i
  have hh := pow_half hi
  have hs : (2 : Int) ^ (i + 1) = 2 ^ i * 2 := Int.pow_succ 2 i
  have hw : IntKind.u64.wrap (1 * 2 ^ i) = 2 ^ i := by
    rw [IntKind.wrap_u64, Int.one_mul]
    exact Int.emod_eq_of_lt (by omega) (by omega)
  rw [hw, bits_join .u64 64 (by decide) (fun n h0 h => by rw [IntKind.wrap_u64]; omega) (i + 1) _ _ (Int.mul_nonneg hQ0 (by omega)) (Int.mul_emod_left _ _) (by simpa using hQ) (by omega) (by omega) (by omega)]
  rw [hs, Int.add_mul, Int.mul_comm 2 Q, Int.mul_assoc, Int.mul_comm 2 (2 ^ i)]
  omega
end Go.Proofs.Ytkcofelpndlplaa
/-
  More plain arithmetic of numbers of 64 bits: what an operation makes is such a number; and, or and xor of one another. No Go text in sight.
-/
namespace Go.Proofs.Ytkcofelpndlplaa
open Go.RowKit
set_option linter.unusedVariables false

theorem bits_le (op : BinOp) (x y : Int) : 0 ≤ bits op .u64 x y ∧ bits op .u64 x y ≤ 18446744073709551615 := by
  have := bits_in op x y
  omega
def W64 (x : Int) : Prop := 0 ≤ x ∧ x ≤ 18446744073709551615
theorem doL_in (op : Int) {a b : Int} (ha : W64 a) (hb : W64 b) : W64 (doL op a b) := by
  have hp := pow_pos_int (min b.toNat 64)
  have h1 := bits_le .and a b
  have h2 := bits_le .or a b
  have h3 := bits_le .xor a b
  have h4 : 0 ≤ a / b ∧ a / b ≤ a := ⟨Int.ediv_nonneg ha.1 hb.1, Int.ediv_le_self _ ha.1⟩
  have h5 : 0 ≤ a % b ∧ a % b ≤ a := by
    by_cases h : b = 0
    · subst h; simp; exact ha.1
    · have := hb.1
      have hm := Int.emod_nonneg a h
      have := Int.ediv_mul_add_emod a b
      have : 0 ≤ a / b * b := Int.mul_nonneg h4.1 hb.1
      omega
  have h6 : 0 ≤ a / 2 ^ min b.toNat 64 ∧ a / 2 ^ min b.toNat 64 ≤ a := ⟨Int.ediv_nonneg ha.1 (by omega), Int.ediv_le_self _ ha.1⟩
  unfold W64 at *
  unfold doL
  generalize a * 2 ^ min b.toNat 64 = y
  generalize a * b = z
  repeat' split
  all_goals omega
theorem two_mod (a b : Nat) : (a &&& b) % 2 = a % 2 * (b % 2) ∧ (a ||| b) % 2 = a % 2 + b % 2 - a % 2 * (b % 2) ∧ (a ^^^ b) % 2 = (a % 2 + b % 2) % 2 := by
  have h1 := Nat.and_mod_two_pow (a := a) (b := b) (n := 1)
  have h2 := Nat.or_mod_two_pow (a := a) (b := b) (n := 1)
  have h3 := Nat.xor_mod_two_pow (a := a) (b := b) (n := 1)
  simp only [Nat.pow_one] at h1 h2 h3
  rw [h1, h2, h3]
  have ha : a % 2 = 0 ∨ a % 2 = 1 := by omega
  have hb : b % 2 = 0 ∨ b % 2 = 1 := by omega
  rcases ha with ha | ha <;> rcases hb with hb | hb <;> rw [ha, hb] <;> decide
theorem and_or_nat (n : Nat) : ∀ a b : Nat, a ≤ n → (a &&& b) + (a ||| b) = a + b ∧ (a ^^^ b) + (a &&& b) = (a ||| b) := by
  induction n with
  | zero =>
    intro a b h
    obtain rfl : a = 0 := by omega
    simp
  | succ n ih =>
    intro a b h
    by_cases h0 : a = 0
    · subst h0; simp
    · obtain ⟨i1, i2⟩ := ih (a / 2) (b / 2) (by omega)
      obtain ⟨m1, m2, m3⟩ := two_mod a b
      have d1 : (a &&& b) / 2 = a / 2 &&& b / 2 := Nat.and_div_two
      have d2 : (a ||| b) / 2 = a / 2 ||| b / 2 := Nat.or_div_two
      have d3 : (a ^^^ b) / 2 = a / 2 ^^^ b / 2 := Nat.xor_div_two
      rw [← d1, ← d2] at i1
      rw [← d1, ← d2, ← d3] at i2
      have ha : a % 2 = 0 ∨ a % 2 = 1 := by omega
      have hb : b % 2 = 0 ∨ b % 2 = 1 := by omega
      rcases ha with ha | ha <;> rcases hb with hb | hb <;> rw [ha, hb] at m1 m2 m3 <;> constructor <;> omega
theorem and_or_sum {a b : Int} (ha : W64 a) (hb : W64 b) : bits .and .u64 a b + bits .or .u64 a b = a + b := by
  rw [and_bv, or_bv, BitVec.toNat_and, BitVec.toNat_or]
  have h := (and_or_nat _ (bv a).toNat (bv b).toNat (Nat.le_refl _)).1
  have h1 := bv_toNat ha.1 (by have := ha.2; omega)
  have h2 := bv_toNat hb.1 (by have := hb.2; omega)
  omega
theorem or_minus {a b : Int} : bits .or .u64 a b - bits .and .u64 a b = bits .xor .u64 a b := by
  rw [and_bv, or_bv, xor_bv, BitVec.toNat_and, BitVec.toNat_or, BitVec.toNat_xor]
  have h := (and_or_nat _ (bv a).toNat (bv b).toNat (Nat.le_refl _)).2
  omega
theorem xor_back {a b : Int} (ha : W64 a) : bits .xor .u64 (bits .xor .u64 a b) b = a := by
  rw [xor_bv, xor_bv, bv_nat, BitVec.xor_assoc, BitVec.xor_self, BitVec.xor_zero]
  exact bv_toNat ha.1 (by have := ha.2; omega)

theorem xor_zero {a b : Int} (ha : 0 ≤ a ∧ a ≤ 18446744073709551615) (hb : 0 ≤ b ∧ b ≤ 18446744073709551615) : bits .xor .u64 a b = 0 ↔ a = b := by
  rw [xor_bv]
  have h1 := bv_toNat ha.1 (by omega)
  have h2 := bv_toNat hb.1 (by omega)
  constructor
  · intro h
    have h3 : (bv a ^^^ bv b).toNat = 0 := by exact_mod_cast h
    have h4 : bv a ^^^ bv b = 0#64 := BitVec.eq_of_toNat_eq (by simpa using h3)
    have h5 : bv a = bv b := by
      have := congrArg (· ^^^ bv b) h4
      simpa [BitVec.xor_assoc] using this
    rw [← h1, ← h2, h5]
  · rintro rfl
    simp

end Go.Proofs.Ytkcofelpndlplaa
/-
  What the document's own plus, minus, times and split make: sum, difference and product modulo 2^64, quotient and rest; memory stays. Conditions: numbers of 64 bits; for split a divisor above 0.
-/
namespace Go.Proofs.Ytkcofelpndlplaa
open Go.RowKit
set_option linter.unusedVariables false

/-- One round of plus. -/
theorem plus_step (a b S C : Int) (k : Nat) (hk : k < 64) (ha0 : 0 ≤ a) (ha : a < 18446744073709551616) (hb0 : 0 ≤ b) (hb : b < 18446744073709551616) (hS0 : 0 ≤ S) (hS : S < 2 ^ k) (hC0 : 0 ≤ C) (hC : C ≤ 1) (h : S + C * 2 ^ k = a % 2 ^ k + b % 2 ^ k) :
    ∃ S' C' : Int, bits .or .u64 S (IntKind.u64.wrap (bits .and .u64 (IntKind.u64.wrap (IntKind.u64.wrap (bits .and .u64 (a / 2 ^ k) 1 + bits .and .u64 (b / 2 ^ k) 1) + C)) 1 * 2 ^ k)) = S' ∧
      IntKind.u64.wrap (IntKind.u64.wrap (bits .and .u64 (a / 2 ^ k) 1 + bits .and .u64 (b / 2 ^ k) 1) + C) / 2 = C' ∧
      0 ≤ S' ∧ S' < 2 ^ (k + 1) ∧ 0 ≤ C' ∧ C' ≤ 1 ∧ S' + C' * 2 ^ (k + 1) = a % 2 ^ (k + 1) + b % 2 ^ (k + 1) := by
  have hda := bit_bd a k ha0 ha
  have hdb := bit_bd b k hb0 hb
  rw [and_one hda.1 hda.2, and_one hdb.1 hdb.2, mod_step a k ha0, mod_step b k hb0, Int.pow_succ]
  have ex : ∃ x : Int, x = a / 2 ^ k % 2 := ⟨_, rfl⟩
  have ey : ∃ y : Int, y = b / 2 ^ k % 2 := ⟨_, rfl⟩
  obtain ⟨x, hx⟩ := ex
  obtain ⟨y, hy⟩ := ey
  have hx2 : x = 0 ∨ x = 1 := by omega
  have hy2 : y = 0 ∨ y = 1 := by omega
  rw [← hx, ← hy]
  have hw : IntKind.u64.wrap (IntKind.u64.wrap (x + y) + C) = x + y + C := by
    rw [IntKind.wrap_u64, IntKind.wrap_u64]
    omega
  rw [hw, and_one (by omega) (by omega), or_above S ((x + y + C) % 2) k hk hS0 hS (by omega) (by omega)]
  have hp := pow_pos_int k
  refine ⟨_, _, rfl, rfl, ?_⟩
  have hC2 : C = 0 ∨ C = 1 := by omega
  clear hx hy hw
  generalize (2 : Int) ^ k = p at *
  generalize a % p = u at *
  generalize b % p = v at *
  rcases hx2 with rfl | rfl <;> rcases hy2 with rfl | rfl <;> rcases hC2 with rfl | rfl <;> simp at h ⊢ <;> omega

/-- One round of times. -/
theorem times_step (a b S A : Int) (k : Nat) (hb0 : 0 ≤ b) (hA : A = a * 2 ^ k % 18446744073709551616) (hS : S = a * (b % 2 ^ k) % 18446744073709551616) :
    (A + A) % 18446744073709551616 = a * 2 ^ (k + 1) % 18446744073709551616 ∧
    (b / 2 ^ k % 2 = 1 → (S + A) % 18446744073709551616 = a * (b % 2 ^ (k + 1)) % 18446744073709551616) ∧
    (b / 2 ^ k % 2 ≠ 1 → S = a * (b % 2 ^ (k + 1)) % 18446744073709551616) := by
  rw [mod_step b k hb0, Int.pow_succ]
  refine ⟨?_, fun h => ?_, fun h => ?_⟩
  · rw [← Int.mul_assoc]
    generalize a * 2 ^ k = z at *
    omega
  · rw [h, Int.mul_one, Int.mul_add]
    generalize a * 2 ^ k = z at *
    generalize a * (b % 2 ^ k) = y at *
    omega
  · have : b / 2 ^ k % 2 = 0 := by omega
    rw [this]
    simpa using hS

end Go.Proofs.Ytkcofelpndlplaa
/-
  What the document's split makes: quotient and rest; memory stays. Conditions: numbers of 64 bits, a divisor above 0.
-/
namespace Go.Proofs.Ytkcofelpndlplaa
open Go.RowKit
set_option linter.unusedVariables false

theorem split_q {a b Q R : Int} {n : Nat} (ha : 0 ≤ a ∧ a ≤ 18446744073709551615) (hb : 0 < b) (hQ0 : 0 ≤ Q) (hR0 : 0 ≤ R) (h : a / 2 ^ n = Q * b + R) : Q * 2 ^ n < 18446744073709551616 := by
  have hp := pow_pos_int n
  have h1 : Q * 1 ≤ Q * b := Int.mul_le_mul_of_nonneg_left (by omega) hQ0
  have h2 : Q ≤ a / 2 ^ n := by omega
  have h3 : Q * 2 ^ n ≤ a / 2 ^ n * 2 ^ n := Int.mul_le_mul_of_nonneg_right h2 (by omega)
  have h4 : a / 2 ^ n * 2 ^ n ≤ a := Int.ediv_mul_le _ (by omega)
  omega
theorem split_up {a b Q R T : Int} {m : Nat} (ha0 : 0 ≤ a) (h : a / 2 ^ (m + 1) = Q * b + R) (hT : T = 2 * R + a / 2 ^ m % 2) :
    a / 2 ^ m = 2 * Q * b + T ∧ a / 2 ^ m = (2 * Q + 1) * b + (T - b) := by
  have h1 := div_step a m ha0
  rw [h] at h1
  have e1 : 2 * Q * b = 2 * (Q * b) := Int.mul_assoc 2 Q b
  have e2 : (2 * Q + 1) * b = 2 * Q * b + 1 * b := Int.add_mul _ _ _
  constructor <;> omega
theorem split_keep (Q : Int) (m : Nat) : Q * 2 ^ (m + 1) = 2 * Q * 2 ^ m := by
  rw [Int.pow_succ, Int.mul_comm 2 Q, Int.mul_assoc, Int.mul_comm 2 (2 ^ m)]
/-- The next rest, ahead of the look whether the divisor fits. -/
theorem split_r {a R : Int} {m : Nat} (ha : 0 ≤ a ∧ a ≤ 18446744073709551615) (hR0 : 0 ≤ R) (hR : R ≤ 18446744073709551615) :
    bits .or .u64 (IntKind.u64.wrap (R * 2)) (bits .and .u64 (a / 2 ^ m) 1) = (2 * R + a / 2 ^ m % 2) % 18446744073709551616 := by
  have hd := bit_bd a m ha.1 (by omega)
  rw [and_one hd.1 hd.2, IntKind.wrap_u64, or_below _ _ (by omega) (by omega) (by omega) (by omega) (by omega)]
  omega

end Go.Proofs.Ytkcofelpndlplaa
