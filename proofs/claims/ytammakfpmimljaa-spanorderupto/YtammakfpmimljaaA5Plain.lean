/-
  Plain arithmetic of numbers of 64 bits: what each operation makes (doL), which condition holds (holdL), a fold from the left (foldL), and the facts that the document's ways by bits and carries rest on. No condition.
-/
import Derived.Test.YtammakfpmimljaaRows
import Derived.Laws.Bits64b
import Derived.Laws.BitsLemmas
import Derived.WalkSpells
import Derived.OpenShut
namespace Go.Proofs.Ytammakfpmimljaa
open Go.RowKit
set_option linter.unusedVariables false

def doL (op a b : Int) : Int :=
  if op = 1 then (a + b) % 18446744073709551616
  else if op = 2 then (a - b) % 18446744073709551616
  else if op = 3 then a * b % 18446744073709551616
  else if op = 4 then a / b
  else if op = 5 then a % b
  else if op = 6 then bits .and .u64 a b
  else if op = 7 then bits .or .u64 a b
  else if op = 8 then bits .xor .u64 a b
  else if op = 9 then a * 2 ^ min b.toNat 64 % 18446744073709551616
  else if op = 10 then a / 2 ^ min b.toNat 64
  else 0
def isOp (op : Int) : Bool := decide (1 ≤ op ∧ op ≤ 10)
def holdL (op a b : Int) : Bool :=
  if op = 16 then a == b
  else if op = 17 then a != b
  else if op = 18 then decide (a < b)
  else if op = 19 then decide (b ≤ a)
  else false
def isCond (op : Int) : Bool := decide (16 ≤ op ∧ op ≤ 19)

theorem ret2 {k : IntKind} {a a' : Int} {c c' : Bool} (h1 : a = a') (h2 : c = c') : Ending.returned (.tuple #[.int k a, .bool c]) = .returned (.tuple #[.int k a', .bool c']) := by rw [h1, h2]
theorem ret2b {a a' c c' : Bool} (h1 : a = a') (h2 : c = c') : Ending.returned (.tuple #[.bool a, .bool c]) = .returned (.tuple #[.bool a', .bool c']) := by rw [h1, h2]
theorem ret1 {k : IntKind} {a b : Int} (h : a = b) : Ending.returned (.int k a) = .returned (.int k b) := by rw [h]

/-! Bits as vectors. -/
def bv (x : Int) : BitVec 64 := BitVec.ofInt 64 x
theorem wrap_nat (v : BitVec 64) : IntKind.u64.wrap ((v.toNat : Nat) : Int) = (v.toNat : Int) := by
  have := v.isLt
  rw [IntKind.wrap_u64]
  omega
theorem and_bv (x y : Int) : bits .and .u64 x y = ((bv x &&& bv y).toNat : Int) := wrap_nat (bv x &&& bv y)
theorem or_bv (x y : Int) : bits .or .u64 x y = ((bv x ||| bv y).toNat : Int) := wrap_nat (bv x ||| bv y)
theorem xor_bv (x y : Int) : bits .xor .u64 x y = ((bv x ^^^ bv y).toNat : Int) := wrap_nat (bv x ^^^ bv y)
theorem andNot_bv (x y : Int) : bits .andNot .u64 x y = ((bv x &&& ~~~ bv y).toNat : Int) := wrap_nat (bv x &&& ~~~ bv y)
theorem bv_nat (v : BitVec 64) : bv ((v.toNat : Nat) : Int) = v := by
  unfold bv
  rw [BitVec.ofInt_natCast]
  simp
theorem bv_toNat {x : Int} (h0 : 0 ≤ x) (h : x < 18446744073709551616) : ((bv x).toNat : Int) = x := by
  obtain ⟨n, rfl⟩ := Int.eq_ofNat_of_zero_le h0
  unfold bv
  rw [BitVec.ofInt_natCast, BitVec.toNat_ofNat]
  omega
theorem bv_max : bv IntKind.u64.max = BitVec.allOnes 64 := by decide
theorem not_bv (x : Int) : bits .xor .u64 IntKind.u64.max x = ((~~~ bv x).toNat : Int) := by
  rw [xor_bv, bv_max, BitVec.allOnes_xor]
theorem not_val {x : Int} (h0 : 0 ≤ x) (h : x < 18446744073709551616) : bits .xor .u64 IntKind.u64.max x = 18446744073709551615 - x := by
  rw [not_bv, BitVec.toNat_not]
  have := bv_toNat h0 h
  have := (bv x).isLt
  omega
theorem ref_and (a b : Int) : bits .xor .u64 IntKind.u64.max (bits .or .u64 (bits .xor .u64 IntKind.u64.max a) (bits .xor .u64 IntKind.u64.max b)) = bits .and .u64 a b := by
  rw [not_bv, or_bv, not_bv a, not_bv b, bv_nat, bv_nat, bv_nat, and_bv]
  congr 2
  ext i hi
  simp
theorem ref_or (a b : Int) : bits .xor .u64 IntKind.u64.max (bits .and .u64 (bits .xor .u64 IntKind.u64.max a) (bits .xor .u64 IntKind.u64.max b)) = bits .or .u64 a b := by
  rw [not_bv, and_bv, not_bv a, not_bv b, bv_nat, bv_nat, bv_nat, or_bv]
  congr 2
  ext i hi
  simp
theorem ref_xor (a b : Int) : bits .or .u64 (bits .andNot .u64 a b) (bits .andNot .u64 b a) = bits .xor .u64 a b := by
  rw [or_bv, andNot_bv, andNot_bv, bv_nat, bv_nat, xor_bv]
  congr 2
  ext i hi
  simp
  cases (bv a)[i] <;> cases (bv b)[i] <;> rfl
theorem bits_in (op : BinOp) (x y : Int) : 0 ≤ bits op .u64 x y ∧ bits op .u64 x y < 18446744073709551616 := by
  have h : bits op .u64 x y = (bits op .u64 x y) := rfl
  unfold bits
  rw [IntKind.wrap_u64]
  omega

/-! One bit more. -/
theorem and_one {x : Int} (h0 : 0 ≤ x) (h : x < 18446744073709551616) : bits .and .u64 x 1 = x % 2 := by
  have := bits_mask .u64 64 (by decide) (fun n h0 h => by rw [IntKind.wrap_u64]; omega) 1 (by decide) x h0 (by simpa using h)
  simpa using this
theorem two_pow_int (k : Nat) : (2 : Int) ^ k = ((2 ^ k : Nat) : Int) := by simp
theorem pow_pos_int (k : Nat) : 0 < (2 : Int) ^ k := by
  rw [two_pow_int]
  exact_mod_cast Nat.two_pow_pos k
theorem pow_le64 {k : Nat} (h : k ≤ 64) : (2 : Int) ^ k ≤ 18446744073709551616 := by
  rw [two_pow_int]
  have h1 : 2 ^ k ≤ 2 ^ 64 := Nat.pow_le_pow_right (by decide) h
  have h2 : (2 ^ 64 : Nat) = 18446744073709551616 := by decide
  omega
theorem pow_half {k : Nat} (h : k < 64) : (2 : Int) ^ k * 2 ≤ 18446744073709551616 := by
  have := pow_le64 (k := k + 1) (by omega)
  rw [Int.pow_succ] at this
  exact this
theorem mod_step (a : Int) (k : Nat) (h : 0 ≤ a) : a % 2 ^ (k + 1) = a % 2 ^ k + 2 ^ k * (a / 2 ^ k % 2) := by
  obtain ⟨n, rfl⟩ := Int.eq_ofNat_of_zero_le h
  have := Nat.mod_mul (a := 2 ^ k) (b := 2) (x := n)
  rw [← Nat.pow_succ] at this
  exact_mod_cast this
theorem div_step (a : Int) (k : Nat) (h : 0 ≤ a) : a / 2 ^ k = 2 * (a / 2 ^ (k + 1)) + a / 2 ^ k % 2 := by
  obtain ⟨n, rfl⟩ := Int.eq_ofNat_of_zero_le h
  have h1 : n / 2 ^ (k + 1) = n / 2 ^ k / 2 := by rw [Nat.pow_succ, Nat.div_div_eq_div_mul]
  have h2 : n / 2 ^ k = 2 * (n / 2 ^ (k + 1)) + n / 2 ^ k % 2 := by rw [h1]; omega
  exact_mod_cast h2
theorem bit_bd (a : Int) (k : Nat) (h0 : 0 ≤ a) (h : a < 18446744073709551616) : 0 ≤ a / 2 ^ k ∧ a / 2 ^ k < 18446744073709551616 := by
  have hp := pow_pos_int k
  exact ⟨Int.ediv_nonneg h0 (by omega), Int.lt_of_le_of_lt (Int.ediv_le_self _ h0) h⟩
/-- A bit laid above what is there. -/
theorem or_above (S c : Int) (k : Nat) (hk : k < 64) (hS0 : 0 ≤ S) (hS : S < 2 ^ k) (hc0 : 0 ≤ c) (hc : c ≤ 1) : bits .or .u64 S (IntKind.u64.wrap (c * 2 ^ k)) = S + c * 2 ^ k := by
  have hp := pow_pos_int k
  have hh := pow_half hk
  have hw : IntKind.u64.wrap (c * 2 ^ k) = c * 2 ^ k := by
    rw [IntKind.wrap_u64]
    obtain rfl | rfl : c = 0 ∨ c = 1 := by omega
    · simp
    · rw [Int.one_mul]; exact Int.emod_eq_of_lt (by omega) (by omega)
  rw [hw]
  obtain ⟨s, rfl⟩ := Int.eq_ofNat_of_zero_le hS0
  have hs : s < 2 ^ k := by exact_mod_cast hS
  have hl : (2 : Nat) ^ k * 2 ≤ 18446744073709551616 := by rw [two_pow_int] at hh; omega
  obtain rfl | rfl : c = 0 ∨ c = 1 := by omega
  · have := bits_or_u64_nat s 0 (by omega) (by decide)
    simpa using this
  · have := bits_or_u64_nat s (2 ^ k) (by omega) (by omega)
    have e := Nat.two_pow_add_eq_or_of_lt hs 1
    rw [Nat.mul_one, Nat.or_comm, Nat.add_comm] at e
    rw [← e] at this
    simpa using this
/-- A bit laid below what is there. -/
theorem or_below (S c : Int) (hS0 : 0 ≤ S) (hS : S < 18446744073709551616) (hd : S % 2 = 0) (hc0 : 0 ≤ c) (hc : c ≤ 1) : bits .or .u64 S c = S + c := by
  exact bits_join .u64 64 (by decide) (fun n h0 h => by rw [IntKind.wrap_u64]; omega) 1 S c hS0 (by simpa using hd) (by simpa using hS) hc0 (by omega) (by omega)
/-- A power laid below a multiple of the next one. -/
theorem or_pow (Q : Int) (i : Nat) (hi : i < 64) (hQ0 : 0 ≤ Q) (hQ : Q * 2 ^ (i + 1) < 18446744073709551616) : bits .or .u64 (Q * 2 ^ (i + 1)) (IntKind.u64.wrap (1 * 2 ^ i)) = (2 * Q + 1) * 2 ^ i := by
  have hp := pow_pos_int i
  have hh := pow_half hi
  have hs : (2 : Int) ^ (i + 1) = 2 ^ i * 2 := Int.pow_succ 2 i
  have hw : IntKind.u64.wrap (1 * 2 ^ i) = 2 ^ i := by
    rw [IntKind.wrap_u64, Int.one_mul]
    exact Int.emod_eq_of_lt (by omega) (by omega)
  rw [hw, bits_join .u64 64 (by decide) (fun n h0 h => by rw [IntKind.wrap_u64]; omega) (i + 1) _ _ (Int.mul_nonneg hQ0 (by omega)) (Int.mul_emod_left _ _) (by simpa using hQ) (by omega) (by omega) (by omega)]
  rw [hs, Int.add_mul, Int.mul_comm 2 Q, Int.mul_assoc, Int.mul_comm 2 (2 ^ i)]
  omega
end Go.Proofs.Ytammakfpmimljaa
