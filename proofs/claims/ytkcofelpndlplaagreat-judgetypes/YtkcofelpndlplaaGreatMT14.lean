/-
  A5Plain
  A5More
  S6Plain
  S6Lists
  A5Ref
  A5Split
  A5Do
  A5RDo
  A5RAll
  A5As
-/
import Derived.Test.YtkcofelpndlplaaGreatRows
import Derived.Laws.Bits64b
import Derived.Laws.BitsLemmas
import Derived.WalkSpells
import Derived.OpenShut
namespace Go.Proofs.YtkcofelpndlplaaGreat
open Go.RowKit
set_option linter.unusedVariables false
def doL (op a b : Int) : Int :=
 if op = 1 then (a + b) % 18446744073709551616
 else if op = 2 then (a - b) % 18446744073709551616
 else if op = 3 then a * b % 18446744073709551616
 else if op = 4 then a / b
 else if op = 5 then a % b
 else if op = 6 then bits .and .u64 a b
 else if op = 7 then bits .or .u64 a b
 else if op = 8 then bits .xor .u64 a b
 else if op = 9 then a * 2 ^ min b.toNat 64 % 18446744073709551616
 else if op = 10 then a / 2 ^ min b.toNat 64
 else 0
def isOp (op : Int) : Bool := decide (1 <= op /\ op <= 10)
def holdL (op a b : Int) : Bool :=
 if op = 16 then a == b
 else if op = 17 then a != b
 else if op = 18 then decide (a < b)
 else if op = 19 then decide (b <= a)
 else false
def isCond (op : Int) : Bool := decide (16 <= op /\ op <= 19)

theorem ret2 {k : IntKind} {a a' : Int} {c c' : Bool} (h1 : a = a') (h2 : c = c') : Ending.returned (.tuple #[.int k a, .bool c]) = .returned (.tuple #[.int k a', .bool c']) := by rw [h1, h2]
theorem ret2b {a a' c c' : Bool} (h1 : a = a') (h2 : c = c') : Ending.returned (.tuple #[.bool a, .bool c]) = .returned (.tuple #[.bool a', .bool c']) := by rw [h1, h2]
theorem ret1 {k : IntKind} {a b : Int} (h : a = b) : Ending.returned (.int k a) = .returned (.int k b) := by rw [h]

def bv (x : Int) : BitVec 64 := BitVec.ofInt 64 x
theorem wrap_nat (v : BitVec 64) : IntKind.u64.wrap ((v.toNat : Nat) : Int) = (v.toNat : Int) := by
 have := v.isLt
 rw [IntKind.wrap_u64]
 omega
theorem and_bv (x y : Int) : bits .and .u64 x y = ((bv x &&& bv y).toNat : Int) := wrap_nat (bv x &&& bv y)
theorem or_bv (x y : Int) : bits .or .u64 x y = ((bv x ||| bv y).toNat : Int) := wrap_nat (bv x ||| bv y)
theorem xor_bv (x y : Int) : bits .xor .u64 x y = ((bv x ^^^ bv y).toNat : Int) := wrap_nat (bv x ^^^ bv y)
theorem andNot_bv (x y : Int) : bits .andNot .u64 x y = ((bv x &&& ~~~ bv y).toNat : Int) := wrap_nat (bv x &&& ~~~ bv y)
theorem bv_nat (v : BitVec 64) : bv ((v.toNat : Nat) : Int) = v := by
 unfold bv
 rw [BitVec.ofInt_natCast]
 simp
theorem bv_toNat {x : Int} (h0 : 0 <= x) (h : x < 18446744073709551616) : ((bv x).toNat : Int) = x := by
 obtain ⟨n, rfl⟩ := Int.eq_ofNat_of_zero_le h0
 unfold bv
 rw [BitVec.ofInt_natCast, BitVec.toNat_ofNat]
 omega
theorem bv_max : bv IntKind.u64.max = BitVec.allOnes 64 := by decide
theorem not_bv (x : Int) : bits .xor .u64 IntKind.u64.max x = ((~~~ bv x).toNat : Int) := by
 rw [xor_bv, bv_max, BitVec.allOnes_xor]
theorem not_val {x : Int} (h0 : 0 <= x) (h : x < 18446744073709551616) : bits .xor .u64 IntKind.u64.max x = 18446744073709551615 - x := by
 rw [not_bv, BitVec.toNat_not]
 have := bv_toNat h0 h
 have := (bv x).isLt
 omega
theorem ref_and (a b : Int) : bits .xor .u64 IntKind.u64.max (bits .or .u64 (bits .xor .u64 IntKind.u64.max a) (bits .xor .u64 IntKind.u64.max b)) = bits .and .u64 a b := by
 rw [not_bv, or_bv, not_bv a, not_bv b, bv_nat, bv_nat, bv_nat, and_bv]
 congr 2
 ext i hi
 simp
theorem ref_or (a b : Int) : bits .xor .u64 IntKind.u64.max (bits .and .u64 (bits .xor .u64 IntKind.u64.max a) (bits .xor .u64 IntKind.u64.max b)) = bits .or .u64 a b := by
 rw [not_bv, and_bv, not_bv a, not_bv b, bv_nat, bv_nat, bv_nat, or_bv]
 congr 2
 ext i hi
 simp
theorem ref_xor (a b : Int) : bits .or .u64 (bits .andNot .u64 a b) (bits .andNot .u64 b a) = bits .xor .u64 a b := by
 rw [or_bv, andNot_bv, andNot_bv, bv_nat, bv_nat, xor_bv]
 congr 2
 ext i hi
 simp
 cases (bv a)[i] <;> cases (bv b)[i] <;> rfl
theorem bits_in (op : BinOp) (x y : Int) : 0 <= bits op .u64 x y /\ bits op .u64 x y < 18446744073709551616 := by
 have h : bits op .u64 x y = (bits op .u64 x y) := rfl
 unfold bits
 rw [IntKind.wrap_u64]
 omega

theorem and_one {x : Int} (h0 : 0 <= x) (h : x < 18446744073709551616) : bits .and .u64 x 1 = x % 2 := by
 have := bits_mask .u64 64 (by decide) (fun n h0 h => by rw [IntKind.wrap_u64]; omega) 1 (by decide) x h0 (by simpa using h)
 simpa using this
theorem qBa (k : Nat) : (2 : Int) ^ k = ((2 ^ k : Nat) : Int) := by simp
theorem qBh (k : Nat) : 0 < (2 : Int) ^ k := by
 rw [qBa]
 exact_mod_cast Nat.two_pow_pos k
theorem pow_le64 {k : Nat} (h : k <= 64) : (2 : Int) ^ k <= 18446744073709551616 := by
 rw [qBa]
 have h1 : 2 ^ k <= 2 ^ 64 := Nat.pow_le_pow_right (by decide) h
 have h2 : (2 ^ 64 : Nat) = 18446744073709551616 := by decide
 omega
theorem pow_half {k : Nat} (h : k < 64) : (2 : Int) ^ k * 2 <= 18446744073709551616 := by
 have := pow_le64 (k := k + 1) (by omega)
 rw [Int.pow_succ] at this
 exact this
theorem mod_step (a : Int) (k : Nat) (h : 0 <= a) : a % 2 ^ (k + 1) = a % 2 ^ k + 2 ^ k * (a / 2 ^ k % 2) := by
 obtain ⟨n, rfl⟩ := Int.eq_ofNat_of_zero_le h
 have := Nat.mod_mul (a := 2 ^ k) (b := 2) (x := n)
 rw [<- Nat.pow_succ] at this
 exact_mod_cast this
theorem div_step (a : Int) (k : Nat) (h : 0 <= a) : a / 2 ^ k = 2 * (a / 2 ^ (k + 1)) + a / 2 ^ k % 2 := by
 obtain ⟨n, rfl⟩ := Int.eq_ofNat_of_zero_le h
 have h1 : n / 2 ^ (k + 1) = n / 2 ^ k / 2 := by rw [Nat.pow_succ, Nat.div_div_eq_div_mul]
 have h2 : n / 2 ^ k = 2 * (n / 2 ^ (k + 1)) + n / 2 ^ k % 2 := by rw [h1]; omega
 exact_mod_cast h2
theorem bit_bd (a : Int) (k : Nat) (h0 : 0 <= a) (h : a < 18446744073709551616) : 0 <= a / 2 ^ k /\ a / 2 ^ k < 18446744073709551616 := by
 have hp := qBh k
 exact ⟨Int.ediv_nonneg h0 (by omega), Int.lt_of_le_of_lt (Int.ediv_le_self _ h0) h⟩
theorem or_above (S c : Int) (k : Nat) (hk : k < 64) (hS0 : 0 <= S) (hS : S < 2 ^ k) (hc0 : 0 <= c) (hc : c <= 1) : bits .or .u64 S (IntKind.u64.wrap (c * 2 ^ k)) = S + c * 2 ^ k := by
 have hp := qBh k
 have hh := pow_half hk
 have hw : IntKind.u64.wrap (c * 2 ^ k) = c * 2 ^ k := by
  rw [IntKind.wrap_u64]
  obtain rfl | rfl : c = 0 ∨ c = 1 := by omega
  ·simp
  ·rw [Int.one_mul]; exact Int.emod_eq_of_lt (by omega) (by omega)
 rw [hw]
 obtain ⟨s, rfl⟩ := Int.eq_ofNat_of_zero_le hS0
 have hs : s < 2 ^ k := by exact_mod_cast hS
 have hl : (2 : Nat) ^ k * 2 <= 18446744073709551616 := by rw [qBa] at hh; omega
 obtain rfl | rfl : c = 0 ∨ c = 1 := by omega
 ·have := bits_or_u64_nat s 0 (by omega) (by decide)
  simpa using this
 ·have := bits_or_u64_nat s (2 ^ k) (by omega) (by omega)
  have e := Nat.two_pow_add_eq_or_of_lt hs 1
  rw [Nat.mul_one, Nat.or_comm, Nat.add_comm] at e
  rw [<- e] at this
  simpa using this
theorem or_below (S c : Int) (hS0 : 0 <= S) (hS : S < 18446744073709551616) (hd : S % 2 = 0) (hc0 : 0 <= c) (hc : c <= 1) : bits .or .u64 S c = S + c := by
 exact bits_join .u64 64 (by decide) (fun n h0 h => by rw [IntKind.wrap_u64]; omega) 1 S c hS0 (by simpa using hd) (by simpa using hS) hc0 (by omega) (by omega)
theorem or_pow (Q : Int) (i : Nat) (hi : i < 64) (hQ0 : 0 <= Q) (hQ : Q * 2 ^ (i + 1) < 18446744073709551616) : bits .or .u64 (Q * 2 ^ (i + 1)) (IntKind.u64.wrap (1 * 2 ^ i)) = (2 * Q + 1) * 2 ^ i := by
 have hp := qBh i
 have hh := pow_half hi
 have hs : (2 : Int) ^ (i + 1) = 2 ^ i * 2 := Int.pow_succ 2 i
 have hw : IntKind.u64.wrap (1 * 2 ^ i) = 2 ^ i := by
  rw [IntKind.wrap_u64, Int.one_mul]
  exact Int.emod_eq_of_lt (by omega) (by omega)
 rw [hw, bits_join .u64 64 (by decide) (fun n h0 h => by rw [IntKind.wrap_u64]; omega) (i + 1) _ _ (Int.mul_nonneg hQ0 (by omega)) (Int.mul_emod_left _ _) (by simpa using hQ) (by omega) (by omega) (by omega)]
 rw [hs, Int.add_mul, Int.mul_comm 2 Q, Int.mul_assoc, Int.mul_comm 2 (2 ^ i)]
 omega
theorem bits_le (op : BinOp) (x y : Int) : 0 <= bits op .u64 x y /\ bits op .u64 x y <= 18446744073709551615 := by
 have := bits_in op x y
 omega
def W64 (x : Int) : Prop := 0 <= x /\ x <= 18446744073709551615
theorem doL_in (op : Int) {a b : Int} (ha : W64 a) (hb : W64 b) : W64 (doL op a b) := by
 have hp := qBh (min b.toNat 64)
 have h1 := bits_le .and a b
 have h2 := bits_le .or a b
 have h3 := bits_le .xor a b
 have h4 : 0 <= a / b /\ a / b <= a := ⟨Int.ediv_nonneg ha.1 hb.1, Int.ediv_le_self _ ha.1⟩
 have h5 : 0 <= a % b /\ a % b <= a := by
  by_cases h : b = 0
  ·subst h; simp; exact ha.1
  ·have := hb.1
   have hm := Int.emod_nonneg a h
   have := Int.ediv_mul_add_emod a b
   have : 0 <= a / b * b := Int.mul_nonneg h4.1 hb.1
   omega
 have h6 : 0 <= a / 2 ^ min b.toNat 64 /\ a / 2 ^ min b.toNat 64 <= a := ⟨Int.ediv_nonneg ha.1 (by omega), Int.ediv_le_self _ ha.1⟩
 unfold W64 at *
 unfold doL
 generalize a * 2 ^ min b.toNat 64 = y
 generalize a * b = z
 repeat' split
 all_goals omega
def formL (n : Int) : Int := if n = 0 then 0 else 2 ^ (n.toNat.log2 + 1) - 1
theorem form_pow {n : Int} (h0 : 0 <= n) (h : n <= 18446744073709551615) : ∃ k : Nat, k <= 64 /\ formL n = 2 ^ k - 1 /\ n < 2 ^ k /\ (0 < k -> (2 : Int) ^ (k - 1) <= n) := by
 unfold formL
 split
 ·rename_i e
  exact ⟨0, by omega, by simp, by simp [e], fun h => absurd h (by omega)⟩
 ·rename_i hne
  obtain ⟨m, rfl⟩ := Int.eq_ofNat_of_zero_le h0
  have hm : m ≠ 0 := by omega
  have h1 := Nat.lt_log2_self (n := m)
  have h2 := Nat.log2_self_le hm
  refine ⟨m.log2 + 1, ?_, by rw [Int.toNat_natCast], by rw [qBa]; omega, fun _ => by rw [qBa, Nat.add_sub_cancel]; exact_mod_cast h2⟩
  by_cases hc : m.log2 + 1 <= 64
  ·exact hc
  ·have h3 : 2 ^ 64 <= 2 ^ m.log2 := Nat.pow_le_pow_right (by decide) (by omega)
   have h4 : (2 : Nat) ^ 64 = 18446744073709551616 := by decide
   omega
theorem form_in {n : Int} (h0 : 0 <= n) (h : n <= 18446744073709551615) : 0 <= formL n /\ formL n <= 18446744073709551615 := by
 obtain ⟨k, hk, e, _, _⟩ := form_pow h0 h
 have h1 := qBh k
 have h2 := pow_le64 hk
 omega
theorem form_eq {n : Int} {k : Nat} (h0 : 0 <= n) (h : n <= 18446744073709551615) (h1 : n < 2 ^ k) (h2 : 0 < k -> (2 : Int) ^ (k - 1) <= n) : formL n = 2 ^ k - 1 := by
 obtain ⟨j, _, e, g1, g2⟩ := form_pow h0 h
 rw [e]
 have mono : ∀ a b : Nat, a <= b -> (2 : Int) ^ a <= 2 ^ b := fun a b hab => by
  rw [qBa, qBa]
  exact_mod_cast Nat.pow_le_pow_right (by decide) hab
 have : j = k := by
  rcases Nat.lt_trichotomy j k with hjk | hjk | hjk
  ·have := h2 (by omega)
   have := mono j (k - 1) (by omega)
   omega
  ·exact hjk
  ·have := g2 (by omega)
   have := mono k (j - 1) (by omega)
   omega
 rw [this]

def spanL (op a A b B : Int) : Int × Int :=
 if a = A /\ b = B then (doL op a b, doL op a b)
 else if op = 1 then (if 18446744073709551615 < A + B then (0, 18446744073709551615) else (a + b, A + B))
 else if op = 2 then (if a < B then (0, 18446744073709551615) else (a - B, A - b))
 else if op = 3 then (if 18446744073709551615 < A * B then (0, 18446744073709551615) else (a * b, A * B))
 else if op = 4 then (if b = 0 then (0, A) else (a / B, A / b))
 else if op = 5 then (if b = 0 then (0, A) else if A < b then (a, A) else (0, min A (B - 1)))
 else if op = 6 then (0, min A B)
 else if op = 7 then (max a b, formL (max A B))
 else if op = 8 then (0, formL (max A B))
 else if op = 9 then (if b = B /\ A * 2 ^ min b.toNat 64 <= 18446744073709551615 then (a * 2 ^ min b.toNat 64, A * 2 ^ min b.toNat 64) else (0, 18446744073709551615))
 else (a / 2 ^ min B.toNat 64, A / 2 ^ min b.toNat 64)

theorem and_le {x y : Int} (hx : W64 x) (hy : W64 y) : bits .and .u64 x y <= x /\ bits .and .u64 x y <= y := by
 rw [and_bv, BitVec.toNat_and]
 have h1 := bv_toNat hx.1 (by have := hx.2; omega)
 have h2 := bv_toNat hy.1 (by have := hy.2; omega)
 have h3 := Nat.and_le_left (n := (bv x).toNat) (m := (bv y).toNat)
 have h4 := Nat.and_le_right (n := (bv x).toNat) (m := (bv y).toNat)
 omega
theorem or_ge {x y : Int} (hx : W64 x) (hy : W64 y) : x <= bits .or .u64 x y /\ y <= bits .or .u64 x y := by
 rw [or_bv, BitVec.toNat_or]
 have h1 := bv_toNat hx.1 (by have := hx.2; omega)
 have h2 := bv_toNat hy.1 (by have := hy.2; omega)
 have h3 := Nat.left_le_or (n := (bv x).toNat) (m := (bv y).toNat)
 have h4 := Nat.right_le_or (n := (bv x).toNat) (m := (bv y).toNat)
 omega
theorem or_xor_lt {x y : Int} {k : Nat} (hx : W64 x) (hy : W64 y) (h1 : x < 2 ^ k) (h2 : y < 2 ^ k) : bits .or .u64 x y < 2 ^ k /\ bits .xor .u64 x y < 2 ^ k := by
 rw [or_bv, xor_bv, BitVec.toNat_or, BitVec.toNat_xor]
 have e1 := bv_toNat hx.1 (by have := hx.2; omega)
 have e2 := bv_toNat hy.1 (by have := hy.2; omega)
 rw [qBa] at h1 h2 ⊢
 have g1 : (bv x).toNat < 2 ^ k := by omega
 have g2 : (bv y).toNat < 2 ^ k := by omega
 have := Nat.or_lt_two_pow g1 g2
 have := Nat.xor_lt_two_pow g1 g2
 omega
theorem pow_min_mono {i j : Nat} (h : i <= j) : (2 : Int) ^ min i 64 <= 2 ^ min j 64 := by
 rw [qBa, qBa]
 exact_mod_cast Nat.pow_le_pow_right (by decide) (by omega)
theorem div_mono {x X d D : Int} (hx : 0 <= x) (hX : x <= X) (hd : 0 < d) (hD : d <= D) : x / D <= X / d := by
 have h1 : x / D <= X / D := Int.ediv_le_ediv (by omega) hX
 have h0 : 0 <= X / D := Int.ediv_nonneg (by omega) (by omega)
 have h2 : X / D <= X / d := by
  rw [Int.le_ediv_iff_mul_le hd]
  have h3 : X / D * d <= X / D * D := Int.mul_le_mul_of_nonneg_left hD h0
  have h4 : X / D * D <= X := Int.ediv_mul_le _ (by omega)
  omega
 omega

theorem span_sound {op a A b B x y : Int} (hop : 1 <= op /\ op <= 10) (ha : 0 <= a) (hA : A <= 18446744073709551615) (hb : 0 <= b) (hB : B <= 18446744073709551615) (hx : a <= x /\ x <= A) (hy : b <= y /\ y <= B) :
  (spanL op a A b B).1 <= doL op x y /\ doL op x y <= (spanL op a A b B).2 := by
 have Wx : W64 x := ⟨by omega, by omega⟩
 have Wy : W64 y := ⟨by omega, by omega⟩
 have hin := doL_in op Wx Wy
 unfold W64 at hin
 unfold spanL
 by_cases hs : a = A /\ b = B
 ·rw [if_pos hs]
  obtain ⟨rfl, rfl⟩ := hs
  obtain rfl : x = a := by omega
  obtain rfl : y = b := by omega
  exact ⟨Int.le_refl _, Int.le_refl _⟩
 rw [if_neg hs]
 by_cases h1 : op = 1
 ·subst h1
  rw [if_pos rfl]
  split
  ·exact hin
  ·show a + b <= (x + y) % 18446744073709551616 /\ (x + y) % 18446744073709551616 <= A + B
   omega
 rw [if_neg h1]
 by_cases h2 : op = 2
 ·subst h2
  rw [if_pos rfl]
  split
  ·exact hin
  ·show a - B <= (x - y) % 18446744073709551616 /\ (x - y) % 18446744073709551616 <= A - b
   omega
 rw [if_neg h2]
 by_cases h3 : op = 3
 ·subst h3
  rw [if_pos rfl]
  split
  ·exact hin
  ·show a * b <= x * y % 18446744073709551616 /\ x * y % 18446744073709551616 <= A * B
   have g1 : a * b <= x * y := Int.mul_le_mul hx.1 hy.1 hb (by omega)
   have g2 : x * y <= A * B := Int.mul_le_mul hx.2 hy.2 (by omega) (by omega)
   have g3 : 0 <= a * b := Int.mul_nonneg ha hb
   rw [Int.emod_eq_of_lt (by omega) (by omega)]
   exact ⟨g1, g2⟩
 rw [if_neg h3]
 by_cases h4 : op = 4
 ·subst h4
  rw [if_pos rfl]
  split
  ·show 0 <= x / y /\ x / y <= A
   have := Int.ediv_le_self (a := x) y Wx.1
   exact ⟨Int.ediv_nonneg Wx.1 Wy.1, by omega⟩
  ·show a / B <= x / y /\ x / y <= A / b
   exact ⟨div_mono ha hx.1 (by omega) hy.2, div_mono Wx.1 hx.2 (by omega) hy.1⟩
 rw [if_neg h4]
 by_cases h5 : op = 5
 ·subst h5
  rw [if_pos rfl]
  have g1 : doL 5 x y = x % y := rfl
  have g2 : x % y <= x := by
   have e := Int.ediv_mul_add_emod x y
   have := Int.mul_nonneg (Int.ediv_nonneg Wx.1 Wy.1) Wy.1
   omega
  rw [g1] at hin ⊢
  split
  ·exact ⟨hin.1, by show x % y <= A; omega⟩
  ·split
   ·show a <= x % y /\ x % y <= A
    rw [Int.emod_eq_of_lt Wx.1 (by omega)]
    exact hx
   ·have := Int.emod_lt_of_pos x (show 0 < y by omega)
    show 0 <= x % y /\ x % y <= min A (B - 1)
    omega
 rw [if_neg h5]
 by_cases h6 : op = 6
 ·subst h6
  rw [if_pos rfl]
  have g1 : doL 6 x y = bits .and .u64 x y := rfl
  rw [g1] at hin ⊢
  have := and_le Wx Wy
  show 0 <= bits .and .u64 x y /\ bits .and .u64 x y <= min A B
  omega
 rw [if_neg h6]
 obtain ⟨k, hk, e, g1, _⟩ := form_pow (n := max A B) (by omega) (by omega)
 by_cases h7 : op = 7
 ·subst h7
  rw [if_pos rfl]
  have q := or_ge Wx Wy
  have r := (or_xor_lt (k := k) Wx Wy (by omega) (by omega)).1
  show max a b <= bits .or .u64 x y /\ bits .or .u64 x y <= formL (max A B)
  omega
 rw [if_neg h7]
 by_cases h8 : op = 8
 ·subst h8
  rw [if_pos rfl]
  have r := (or_xor_lt (k := k) Wx Wy (by omega) (by omega)).2
  have q := bits_le .xor x y
  show 0 <= bits .xor .u64 x y /\ bits .xor .u64 x y <= formL (max A B)
  omega
 rw [if_neg h8]
 by_cases h9 : op = 9
 ·subst h9
  rw [if_pos rfl]
  split
  ·rename_i hc
   obtain ⟨rfl, hc⟩ := hc
   obtain rfl : y = b := by omega
   have hp := qBh (min y.toNat 64)
   have r1 : a * 2 ^ min y.toNat 64 <= x * 2 ^ min y.toNat 64 := Int.mul_le_mul_of_nonneg_right hx.1 (by omega)
   have r2 : x * 2 ^ min y.toNat 64 <= A * 2 ^ min y.toNat 64 := Int.mul_le_mul_of_nonneg_right hx.2 (by omega)
   have r0 : 0 <= a * 2 ^ min y.toNat 64 := Int.mul_nonneg ha (by omega)
   show a * 2 ^ min y.toNat 64 <= x * 2 ^ min y.toNat 64 % 18446744073709551616 /\ x * 2 ^ min y.toNat 64 % 18446744073709551616 <= A * 2 ^ min y.toNat 64
   rw [Int.emod_eq_of_lt (by omega) (by omega)]
   exact ⟨r1, r2⟩
  ·exact hin
 rw [if_neg h9]
 obtain rfl : op = 10 := by omega
 show a / 2 ^ min B.toNat 64 <= x / 2 ^ min y.toNat 64 /\ x / 2 ^ min y.toNat 64 <= A / 2 ^ min b.toNat 64
 exact ⟨div_mono ha hx.1 (qBh _) (pow_min_mono (by omega)), div_mono Wx.1 hx.2 (qBh _) (pow_min_mono (by omega))⟩
theorem span_right {op a A b B : Int} (hop : 1 <= op /\ op <= 10) (ha : 0 <= a) (hA : A <= 18446744073709551615) (hb : 0 <= b) (hB : B <= 18446744073709551615) (h1 : a <= A) (h2 : b <= B) :
  (spanL op a A b B).1 <= (spanL op a A b B).2 := by
 have h := span_sound hop ha hA hb hB (x := a) (y := b) ⟨by omega, by omega⟩ ⟨by omega, by omega⟩
 omega

def lessB (op : Int) (h : Bool) : Bool := (op == 18 && h) || (op == 19 && !h)
def sameB (op : Int) (h : Bool) : Bool := (op == 16 && h) || (op == 17 && !h)
def refineL (op a A b B : Int) (h : Bool) : Option (Int × Int) :=
 if b ≠ B then some (a, A)
 else if lessB op h = true then (if b <= a then none else some (a, min A (b - 1)))
 else if 18 <= op then (if A < b then none else some (max a b, A))
 else if sameB op h = true then (if a <= b /\ b <= A then some (b, b) else none)
 else if a = b /\ A = b then none
 else if a = b then some (b + 1, A)
 else if A = b then some (a, b - 1)
 else some (a, A)
def minF : List Int -> Int
 | [] => 0
 | x :: r => r.foldl min x
def maxF : List Int -> Int
 | [] => 0
 | x :: r => r.foldl max x
theorem foldl_min (r : List Int) : ∀ x : Int, r.foldl min x <= x /\ (∀ y ∈ r, r.foldl min x <= y) /\ (r.foldl min x = x ∨ r.foldl min x ∈ r) := by
 induction r with
 | nil => intro x; simp
 | cons z r ih =>
  intro x
  obtain ⟨h1, h2, h3⟩ := ih (min x z)
  refine ⟨by show r.foldl min (min x z) <= x; omega, fun y hy => ?_, ?_⟩
  ·show r.foldl min (min x z) <= y
   rcases List.mem_cons.1 hy with rfl | hy
   ·omega
   ·exact h2 y hy
  ·show r.foldl min (min x z) = x ∨ r.foldl min (min x z) ∈ z :: r
   rcases h3 with h3 | h3
   ·by_cases hc : x <= z
    ·left; rw [h3]; omega
    ·right; rw [h3, Int.min_eq_right (by omega)]; simp
   ·right; simp [h3]
theorem foldl_max (r : List Int) : ∀ x : Int, x <= r.foldl max x /\ (∀ y ∈ r, y <= r.foldl max x) /\ (r.foldl max x = x ∨ r.foldl max x ∈ r) := by
 induction r with
 | nil => intro x; simp
 | cons z r ih =>
  intro x
  obtain ⟨h1, h2, h3⟩ := ih (max x z)
  refine ⟨by show x <= r.foldl max (max x z); omega, fun y hy => ?_, ?_⟩
  ·show y <= r.foldl max (max x z)
   rcases List.mem_cons.1 hy with rfl | hy
   ·omega
   ·exact h2 y hy
  ·show r.foldl max (max x z) = x ∨ r.foldl max (max x z) ∈ z :: r
   rcases h3 with h3 | h3
   ·by_cases hc : z <= x
    ·left; rw [h3]; omega
    ·right; rw [h3, Int.max_eq_right (by omega)]; simp
   ·right; simp [h3]
theorem minF_le {xs : List Int} {y : Int} (h : y ∈ xs) : minF xs <= y := by
 cases xs with
 | nil => simp at h
 | cons x r =>
  rcases List.mem_cons.1 h with rfl | h
  ·exact (foldl_min r _).1
  ·exact (foldl_min r x).2.1 y h
theorem le_maxF {xs : List Int} {y : Int} (h : y ∈ xs) : y <= maxF xs := by
 cases xs with
 | nil => simp at h
 | cons x r =>
  rcases List.mem_cons.1 h with rfl | h
  ·exact (foldl_max r _).1
  ·exact (foldl_max r x).2.1 y h
theorem minF_mem {xs : List Int} (h : xs ≠ []) : minF xs ∈ xs := by
 cases xs with
 | nil => exact absurd rfl h
 | cons x r =>
  show r.foldl min x ∈ x :: r
  rcases (foldl_min r x).2.2 with h | h
  ·rw [h]; simp
  ·simp [h]
theorem maxF_mem {xs : List Int} (h : xs ≠ []) : maxF xs ∈ xs := by
 cases xs with
 | nil => exact absurd rfl h
 | cons x r =>
  show r.foldl max x ∈ x :: r
  rcases (foldl_max r x).2.2 with h | h
  ·rw [h]; simp
  ·simp [h]
theorem minF_snoc {xs : List Int} (h : xs ≠ []) (y : Int) : minF (xs ++ [y]) = min (minF xs) y := by
 cases xs with
 | nil => exact absurd rfl h
 | cons x r => show (r ++ [y]).foldl min x = min (r.foldl min x) y; rw [List.foldl_append]; rfl
theorem maxF_snoc {xs : List Int} (h : xs ≠ []) (y : Int) : maxF (xs ++ [y]) = max (maxF xs) y := by
 cases xs with
 | nil => exact absurd rfl h
 | cons x r => show (r ++ [y]).foldl max x = max (r.foldl max x) y; rw [List.foldl_append]; rfl

def okS (s : Int × Int) : Bool := decide (s.1 <= s.2)
def loF (ss : List (Int × Int)) : Int := minF (ss.map (·.1))
def hiF (ss : List (Int × Int)) : Int := maxF (ss.map (·.2))
def loM (ss : List (Int × Int)) : Int := maxF (ss.map (·.1))
def hiM (ss : List (Int × Int)) : Int := minF (ss.map (·.2))
def joinB (ss : List (Int × Int)) : Bool := !ss.isEmpty && ss.all okS
def meetB (ss : List (Int × Int)) : Bool := joinB ss && decide (loM ss <= hiM ss)
def joinL (ss : List (Int × Int)) : Int × Int := if joinB ss = true then (loF ss, hiF ss) else (0, 0)
def meetL (ss : List (Int × Int)) : Int × Int := if meetB ss = true then (loM ss, hiM ss) else (0, 0)
theorem plus_step (a b S C : Int) (k : Nat) (hk : k < 64) (ha0 : 0 <= a) (ha : a < 18446744073709551616) (hb0 : 0 <= b) (hb : b < 18446744073709551616) (hS0 : 0 <= S) (hS : S < 2 ^ k) (hC0 : 0 <= C) (hC : C <= 1) (h : S + C * 2 ^ k = a % 2 ^ k + b % 2 ^ k) :
  ∃ S' C' : Int, bits .or .u64 S (IntKind.u64.wrap (bits .and .u64 (IntKind.u64.wrap (IntKind.u64.wrap (bits .and .u64 (a / 2 ^ k) 1 + bits .and .u64 (b / 2 ^ k) 1) + C)) 1 * 2 ^ k)) = S' /\
   IntKind.u64.wrap (IntKind.u64.wrap (bits .and .u64 (a / 2 ^ k) 1 + bits .and .u64 (b / 2 ^ k) 1) + C) / 2 = C' /\
   0 <= S' /\ S' < 2 ^ (k + 1) /\ 0 <= C' /\ C' <= 1 /\ S' + C' * 2 ^ (k + 1) = a % 2 ^ (k + 1) + b % 2 ^ (k + 1) := by
 have hda := bit_bd a k ha0 ha
 have hdb := bit_bd b k hb0 hb
 rw [and_one hda.1 hda.2, and_one hdb.1 hdb.2, mod_step a k ha0, mod_step b k hb0, Int.pow_succ]
 have ex : ∃ x : Int, x = a / 2 ^ k % 2 := ⟨_, rfl⟩
 have ey : ∃ y : Int, y = b / 2 ^ k % 2 := ⟨_, rfl⟩
 obtain ⟨x, hx⟩ := ex
 obtain ⟨y, hy⟩ := ey
 have hx2 : x = 0 ∨ x = 1 := by omega
 have hy2 : y = 0 ∨ y = 1 := by omega
 rw [<- hx, <- hy]
 have hw : IntKind.u64.wrap (IntKind.u64.wrap (x + y) + C) = x + y + C := by
  rw [IntKind.wrap_u64, IntKind.wrap_u64]
  omega
 rw [hw, and_one (by omega) (by omega), or_above S ((x + y + C) % 2) k hk hS0 hS (by omega) (by omega)]
 have hp := qBh k
 refine ⟨_, _, rfl, rfl, ?_⟩
 have hC2 : C = 0 ∨ C = 1 := by omega
 clear hx hy hw
 generalize (2 : Int) ^ k = p at *
 generalize a % p = u at *
 generalize b % p = v at *
 rcases hx2 with rfl | rfl <;> rcases hy2 with rfl | rfl <;> rcases hC2 with rfl | rfl <;> simp at h ⊢ <;> omega

theorem plus_any (a b : Int) (w : World) (ha : 0 <= a /\ a <= 18446744073709551615) (hb : 0 <= b /\ b <= 18446744073709551615) :
  Calls Tryz.prog 119 #[.int .u64 a, .int .u64 b] w fun e w' =>
   e = .returned (.int .u64 ((a + b) % 18446744073709551616)) /\ w = w' := by
 go_enter Tryz.func119, Tryz.ntmps119
 go_wp2
 go_loop [5, 6, 7] (fun s c i => ∃ (k : Nat) (S C : Int), k <= 64 /\ i = .int .i64 k /\ s = .int .u64 S /\ c = .int .u64 C /\ 0 <= S /\ S < 2 ^ k /\ 0 <= C /\ C <= 1 /\ S + C * 2 ^ k = a % 2 ^ k + b % 2 ^ k) (fun _ _ i => 64 - (intOf i).toNat)
 case atStart => exact ⟨0, 0, 0, by omega, rfl, rfl, rfl, by omega, by simp, by omega, by omega, by simp [Int.emod_one]⟩
 case round =>
  obtain ⟨k, S, C, hk, rfl, rfl, rfl, hS0, hS, hC0, hC, h⟩ := hrel
  by_cases hlt : k < 64
  ·have HS : Hid (∃ S' C' : Int, bits .or .u64 S (IntKind.u64.wrap (bits .and .u64 (IntKind.u64.wrap (IntKind.u64.wrap (bits .and .u64 (a / 2 ^ k) 1 + bits .and .u64 (b / 2 ^ k) 1) + C)) 1 * 2 ^ k)) = S' /\
    IntKind.u64.wrap (IntKind.u64.wrap (bits .and .u64 (a / 2 ^ k) 1 + bits .and .u64 (b / 2 ^ k) 1) + C) / 2 = C' /\
    0 <= S' /\ S' < 2 ^ (k + 1) /\ 0 <= C' /\ C' <= 1 /\ S' + C' * 2 ^ (k + 1) = a % 2 ^ (k + 1) + b % 2 ^ (k + 1)) := plus_step a b S C k hlt ha.1 (by omega) hb.1 (by omega) hS0 hS hC0 hC h
   clear h hS
   go_wp2
   go_round
   case rel =>
    obtain ⟨S', C', e1, e2, r⟩ := HS.out
    exact ⟨k + 1, S', C', by omega, by go_num, by rw [e1], by rw [e2], r⟩
   case measure => simp [intOf]; omega
  ·obtain rfl : k = 64 := by omega
   have H : Hid (S = (a + b) % 18446744073709551616) := by
    have e : (2 : Int) ^ 64 = 18446744073709551616 := by decide
    rw [e] at h hS
    show S = _
    omega
   clear h hS
   go_wp2
   go_ret
   exact ⟨ret1 H.out, rfl⟩

theorem plus_not (b : Int) (w : World) (hb : 0 <= b /\ b <= 18446744073709551615) :
  Calls Tryz.prog 119 #[.int .u64 (bits .xor .u64 IntKind.u64.max b), .int .u64 1] w fun e w' =>
   e = .returned (.int .u64 (-b % 18446744073709551616)) /\ w = w' := by
 rw [not_val hb.1 (by omega)]
 have h := plus_any (18446744073709551615 - b) 1 w (by omega) (by omega)
 have e : (18446744073709551615 - b + 1) % 18446744073709551616 = -b % 18446744073709551616 := by omega
 rw [e] at h
 exact h
theorem minus_any (a b : Int) (w : World) (ha : 0 <= a /\ a <= 18446744073709551615) (hb : 0 <= b /\ b <= 18446744073709551615) :
  Calls Tryz.prog 120 #[.int .u64 a, .int .u64 b] w fun e w' =>
   e = .returned (.int .u64 ((a - b) % 18446744073709551616)) /\ w = w' := by
 have g1 : Hid True := trivial
 go_enter Tryz.func120, Tryz.ntmps120
 go_wp2_with (first
  | (go_at_call 119; have hq := g1; clear hq; refine (plus_not b _ hb).mono ?_; rintro e w' ⟨rfl, rfl⟩; clear g1)
  | (go_at_call 119; refine (plus_any a (-b % 18446744073709551616) _ ha (by omega)).mono ?_; rintro e w' ⟨rfl, rfl⟩))
 go_ret
 exact ⟨ret1 (by omega), rfl⟩

theorem times_step (a b S A : Int) (k : Nat) (hb0 : 0 <= b) (hA : A = a * 2 ^ k % 18446744073709551616) (hS : S = a * (b % 2 ^ k) % 18446744073709551616) :
  (A + A) % 18446744073709551616 = a * 2 ^ (k + 1) % 18446744073709551616 /\
  (b / 2 ^ k % 2 = 1 -> (S + A) % 18446744073709551616 = a * (b % 2 ^ (k + 1)) % 18446744073709551616) /\
  (b / 2 ^ k % 2 ≠ 1 -> S = a * (b % 2 ^ (k + 1)) % 18446744073709551616) := by
 rw [mod_step b k hb0, Int.pow_succ]
 refine ⟨?_, fun h => ?_, fun h => ?_⟩
 ·rw [<- Int.mul_assoc]
  generalize a * 2 ^ k = z at *
  omega
 ·rw [h, Int.mul_one, Int.mul_add]
  generalize a * 2 ^ k = z at *
  generalize a * (b % 2 ^ k) = y at *
  omega
 ·have : b / 2 ^ k % 2 = 0 := by omega
  rw [this]
  simpa using hS

theorem times_any (a b : Int) (w : World) (ha : 0 <= a /\ a <= 18446744073709551615) (hb : 0 <= b /\ b <= 18446744073709551615) :
  Calls Tryz.prog 121 #[.int .u64 a, .int .u64 b] w fun e w' =>
   e = .returned (.int .u64 (a * b % 18446744073709551616)) /\ w = w' := by
 go_enter Tryz.func121, Tryz.ntmps121
 go_wp2
 go_loop [0, 5, 6] (fun u s i => ∃ (k : Nat) (A S : Int), k <= 64 /\ i = .int .i64 k /\ u = .int .u64 A /\ s = .int .u64 S /\ 0 <= A /\ A <= 18446744073709551615 /\ 0 <= S /\ S <= 18446744073709551615 /\ A = a * 2 ^ k % 18446744073709551616 /\ S = a * (b % 2 ^ k) % 18446744073709551616) (fun _ _ i => 64 - (intOf i).toNat)
 case atStart => exact ⟨0, a, 0, by omega, rfl, rfl, rfl, by omega, by omega, by omega, by omega, by simp; omega, by simp [Int.emod_one]⟩
 case round =>
  obtain ⟨k, A, S, hk, rfl, rfl, rfl, hA0, hA1, hS0, hS1, hA, hS⟩ := hrel
  by_cases hlt : k < 64
  ·have HT := times_step a b S A k hb.1 hA hS
   have HB : Hid (bits .and .u64 (b / 2 ^ k) 1 = b / 2 ^ k % 2) := and_one (bit_bd b k hb.1 (by omega)).1 (bit_bd b k hb.1 (by omega)).2
   by_cases hbit : b / 2 ^ k % 2 = 1
   ·have HE : (bits .and .u64 (b / 2 ^ k) 1 == 1) = true := by rw [HB.out, hbit]; rfl
    have H1 : Hid ((A + A) % 18446744073709551616 = a * 2 ^ (k + 1) % 18446744073709551616) := HT.1
    have H2 : Hid ((S + A) % 18446744073709551616 = a * (b % 2 ^ (k + 1)) % 18446744073709551616) := HT.2.1 hbit
    clear HT hA hS hbit HB
    go_wp2_with (go_at_call 119; refine (plus_any _ _ _ (by omega) (by omega)).mono ?_; rintro e w' ⟨rfl, rfl⟩)
    go_round
    case rel => exact ⟨k + 1, _, _, by omega, by go_num, rfl, rfl, by omega, by omega, by omega, by omega, H1.out, H2.out⟩
    case measure => simp [intOf]; omega
   ·have HE : (bits .and .u64 (b / 2 ^ k) 1 == 1) = false := by rw [HB.out]; simpa using hbit
    have H1 : Hid ((A + A) % 18446744073709551616 = a * 2 ^ (k + 1) % 18446744073709551616) := HT.1
    have H2 : Hid (S = a * (b % 2 ^ (k + 1)) % 18446744073709551616) := HT.2.2 hbit
    clear HT hA hS hbit HB
    go_wp2_with (go_at_call 119; refine (plus_any _ _ _ (by omega) (by omega)).mono ?_; rintro e w' ⟨rfl, rfl⟩)
    go_round
    case rel => exact ⟨k + 1, _, _, by omega, by go_num, rfl, rfl, by omega, by omega, by omega, by omega, H1.out, H2.out⟩
    case measure => simp [intOf]; omega
  ·obtain rfl : k = 64 := by omega
   have H : Hid (S = a * b % 18446744073709551616) := by
    have e : (2 : Int) ^ 64 = 18446744073709551616 := by decide
    rw [e, Int.emod_eq_of_lt hb.1 (by omega)] at hS
    exact hS
   clear hA hS
   go_wp2
   go_ret
   exact ⟨ret1 H.out, rfl⟩
theorem split_q {a b Q R : Int} {n : Nat} (ha : 0 <= a /\ a <= 18446744073709551615) (hb : 0 < b) (hQ0 : 0 <= Q) (hR0 : 0 <= R) (h : a / 2 ^ n = Q * b + R) : Q * 2 ^ n < 18446744073709551616 := by
 have hp := qBh n
 have h1 : Q * 1 <= Q * b := Int.mul_le_mul_of_nonneg_left (by omega) hQ0
 have h2 : Q <= a / 2 ^ n := by omega
 have h3 : Q * 2 ^ n <= a / 2 ^ n * 2 ^ n := Int.mul_le_mul_of_nonneg_right h2 (by omega)
 have h4 : a / 2 ^ n * 2 ^ n <= a := Int.ediv_mul_le _ (by omega)
 omega
theorem split_up {a b Q R T : Int} {m : Nat} (ha0 : 0 <= a) (h : a / 2 ^ (m + 1) = Q * b + R) (hT : T = 2 * R + a / 2 ^ m % 2) :
  a / 2 ^ m = 2 * Q * b + T /\ a / 2 ^ m = (2 * Q + 1) * b + (T - b) := by
 have h1 := div_step a m ha0
 rw [h] at h1
 have e1 : 2 * Q * b = 2 * (Q * b) := Int.mul_assoc 2 Q b
 have e2 : (2 * Q + 1) * b = 2 * Q * b + 1 * b := Int.add_mul _ _ _
 constructor <;> omega
theorem split_keep (Q : Int) (m : Nat) : Q * 2 ^ (m + 1) = 2 * Q * 2 ^ m := by
 rw [Int.pow_succ, Int.mul_comm 2 Q, Int.mul_assoc, Int.mul_comm 2 (2 ^ m)]
theorem split_r {a R : Int} {m : Nat} (ha : 0 <= a /\ a <= 18446744073709551615) (hR0 : 0 <= R) (hR : R <= 18446744073709551615) :
  bits .or .u64 (IntKind.u64.wrap (R * 2)) (bits .and .u64 (a / 2 ^ m) 1) = (2 * R + a / 2 ^ m % 2) % 18446744073709551616 := by
 have hd := bit_bd a m ha.1 (by omega)
 rw [and_one hd.1 hd.2, IntKind.wrap_u64, or_below _ _ (by omega) (by omega) (by omega) (by omega) (by omega)]
 omega

theorem split_any (a b : Int) (w : World) (ha : 0 <= a /\ a <= 18446744073709551615) (hb : 0 <= b /\ b <= 18446744073709551615) (hb0 : 0 < b) :
  Calls Tryz.prog 122 #[.int .u64 a, .int .u64 b] w fun e w' =>
   e = .returned (.tuple #[.int .u64 (a / b), .int .u64 (a % b)]) /\ w = w' := by
 go_enter Tryz.func122, Tryz.ntmps122
 go_wp2
 go_loop [6, 7, 8] (fun q r i => ∃ (n : Nat) (V Q R I : Int), n <= 64 /\ i = .int .i64 I /\ q = .int .u64 V /\ r = .int .u64 R /\ I = n - 1 /\ V = Q * 2 ^ n /\ 0 <= Q /\ 0 <= R /\ R < b /\ a / 2 ^ n = Q * b + R) (fun _ _ i => (intOf i + 1).toNat)
 case atStart => exact ⟨64, 0, 0, 0, 63, by omega, rfl, rfl, rfl, by omega, by simp, by omega, by omega, by omega, by
  have e : (2 : Int) ^ 64 = 18446744073709551616 := by decide
  rw [e]; omega⟩
 case round =>
  obtain ⟨n, V, Q, R, I, hn, rfl, rfl, rfl, hI, hV, hQ0, hR0, hR, h⟩ := hrel
  cases n with
  | zero =>
   obtain rfl : I = -1 := by omega
   have H1 : Hid (V = a / b) := by
    show V = _
    simp at h hV
    rw [hV, h, Int.add_comm, Int.add_mul_ediv_right _ _ (by omega), Int.ediv_eq_zero_of_lt hR0 hR]
    omega
   have H2 : Hid (R = a % b) := by
    show R = _
    simp at h
    rw [h, Int.add_comm, Int.add_mul_emod_self_right, Int.emod_eq_of_lt hR0 hR]
   clear h hV hR hI
   go_wp2
   go_ret2
   rw [H1.out, H2.out]
   exact ⟨rfl, rfl⟩
  | succ m =>
   obtain rfl : I = (m : Int) := by omega
   have HQ := split_q ha hb0 hQ0 hR0 h
   have hm : m < 64 := by omega
   subst hV
   have HO : Hid (bits .or .u64 (Q * 2 ^ (m + 1)) (IntKind.u64.wrap (2 ^ m)) = (2 * Q + 1) * 2 ^ m) := by
    have := or_pow Q m hm hQ0 HQ
    rwa [Int.one_mul] at this
   have HK : Hid (Q * 2 ^ (m + 1) = 2 * Q * 2 ^ m) := split_keep Q m
   obtain ⟨T, hT⟩ : ∃ T, T = 2 * R + a / 2 ^ m % 2 := ⟨_, rfl⟩
   have HR : Hid (bits .or .u64 (IntKind.u64.wrap (R * 2)) (bits .and .u64 (a / 2 ^ m) 1) = T % 18446744073709551616) := by
    rw [hT]; exact split_r ha hR0 (by omega)
   have HU : Hid (a / 2 ^ m = 2 * Q * b + T /\ a / 2 ^ m = (2 * Q + 1) * b + (T - b)) := split_up ha.1 h hT
   have hT0 : 2 * R <= T := by omega
   have hT1 : T <= 2 * R + 1 := by omega
   clear h HQ hI hT
   go_wp2_with (go_at_call 120; refine (minus_any _ b _ (bits_le _ _ _) hb).mono ?_; rintro e w' ⟨rfl, rfl⟩)
   ·have h63 : R / 9223372036854775808 = 1 := by assumption
    go_round
    case rel =>
     refine ⟨m, _, 2 * Q + 1, T - b, _, by omega, rfl, rfl, ?_, rfl, HO.out, by omega, by omega, by omega, HU.out.2⟩
     rw [HR.out]
     exact congrArg _ (by omega)
    case measure => simp [intOf] <;> omega
   ·have h63 : ¬ R / 9223372036854775808 = 1 := by assumption
    have hor : (R / 9223372036854775808 == 1) = true ∨ b <= bits .or .u64 (R * 2) (bits .and .u64 (a / 2 ^ m) 1) := by assumption
    have HR2 : bits .or .u64 (R * 2) (bits .and .u64 (a / 2 ^ m) 1) = T := by
     have h := HR.out
     rw [IntKind.wrap_u64, Int.emod_eq_of_lt (by omega) (by omega)] at h
     rw [h]; omega
    rw [HR2] at hor
    have hge : b <= T := by
     rcases hor with h | h
     ·exact absurd (by simpa using h) h63
     ·exact h
    clear hor
    go_round
    case rel =>
     refine ⟨m, _, 2 * Q + 1, T - b, _, by omega, rfl, rfl, ?_, rfl, HO.out, by omega, by omega, by omega, HU.out.2⟩
     rw [HR2]
     exact congrArg _ (by omega)
    case measure => simp [intOf] <;> omega
   ·have h63 : ¬ R / 9223372036854775808 = 1 := by assumption
    have hor : (R / 9223372036854775808 == 1) = false /\ bits .or .u64 (R * 2) (bits .and .u64 (a / 2 ^ m) 1) < b := by assumption
    have HR2 : bits .or .u64 (R * 2) (bits .and .u64 (a / 2 ^ m) 1) = T := by
     have h := HR.out
     rw [IntKind.wrap_u64, Int.emod_eq_of_lt (by omega) (by omega)] at h
     rw [h]; omega
    rw [HR2] at hor
    go_round
    case rel =>
     refine ⟨m, _, 2 * Q, T, _, by omega, rfl, rfl, ?_, rfl, HK.out, by omega, by omega, hor.2, HU.out.1⟩
     rw [HR2]
    case measure => simp [intOf] <;> omega
theorem quo_any (a b : Int) (w : World) (ha : 0 <= a /\ a <= 18446744073709551615) (hb : 0 <= b /\ b <= 18446744073709551615) :
  Calls Tryz.prog 123 #[.int .u64 a, .int .u64 b] w fun e w' => e = .returned (.int .u64 (a / b)) /\ w = w' := by
 by_cases h : b = 0
 ·subst h
  go_enter Tryz.func123, Tryz.ntmps123
  go_wp2
  go_ret
  exact ⟨ret1 (by simp), rfl⟩
 ·have h' : (b == 0) = false := by simpa using h
  go_enter Tryz.func123, Tryz.ntmps123
  go_wp2
  go_ret
  exact ⟨rfl, rfl⟩
theorem rest_any (a b : Int) (w : World) (ha : 0 <= a /\ a <= 18446744073709551615) (hb : 0 <= b /\ b <= 18446744073709551615) :
  Calls Tryz.prog 124 #[.int .u64 a, .int .u64 b] w fun e w' => e = .returned (.int .u64 (a % b)) /\ w = w' := by
 by_cases h : b = 0
 ·subst h
  go_enter Tryz.func124, Tryz.ntmps124
  go_wp2
  go_ret
  exact ⟨ret1 (by simp), rfl⟩
 ·have h' : (b == 0) = false := by simpa using h
  go_enter Tryz.func124, Tryz.ntmps124
  go_wp2
  go_ret
  exact ⟨rfl, rfl⟩

theorem do_end {op a b x : Int} {c : Bool} {P : Prop} (h1 : x = doL op a b) (h2 : c = isOp op) (hP : P) : Ending.returned (.tuple #[.int .u64 x, .bool c]) = .returned (.tuple #[.int .u64 (doL op a b), .bool (isOp op)]) /\ P := ⟨ret2 h1 h2, hP⟩

set_option maxHeartbeats 400000 in
theorem do_any (op a b : Int) (w : World) (ha : 0 <= a /\ a <= 18446744073709551615) (hb : 0 <= b /\ b <= 18446744073709551615) :
    Calls Tryz.prog 111 #[.int .i64 op, .int .u64 a, .int .u64 b] w fun e w' =>
      e = .returned (.tuple #[.int .u64 (doL op a b), .bool (isOp op)]) /\ w = w' := by
  go_enter Tryz.func111, Tryz.ntmps111
  go_wp2_with (first
    | (go_at_call 123; refine (quo_any _ _ _ ha hb).mono ?_; rintro e w' ⟨rfl, rfl⟩)
    | (go_at_call 124; refine (rest_any _ _ _ ha hb).mono ?_; rintro e w' ⟨rfl, rfl⟩))
  all_goals go_ret2
  all_goals simp only [beq_iff_eq, beq_eq_false_iff_ne, ne_eq] at *
  all_goals first
    | (subst op; exact do_end (by simp [doL, IntKind.wrap_u64]) rfl (by trivial))
    | (refine do_end ?_ ?_ (by trivial)
       · unfold doL; repeat rw [if_neg (by assumption)]
       · unfold isOp; symm; apply decide_eq_false; omega)

theorem hold_end {op a b : Int} {x c : Bool} {P : Prop} (h1 : x = holdL op a b) (h2 : c = isCond op) (hP : P) : Ending.returned (.tuple #[.bool x, .bool c]) = .returned (.tuple #[.bool (holdL op a b), .bool (isCond op)]) /\ P := ⟨ret2b h1 h2, hP⟩

theorem holds_any (op a b : Int) (w : World) (ha : 0 <= a /\ a <= 18446744073709551615) (hb : 0 <= b /\ b <= 18446744073709551615) :
    Calls Tryz.prog 97 #[.int .i64 op, .int .u64 a, .int .u64 b] w fun e w' =>
      e = .returned (.tuple #[.bool (holdL op a b), .bool (isCond op)]) /\ w = w' := by
  go_enter Tryz.func97, Tryz.ntmps97
  go_wp2
  all_goals go_ret2
  all_goals simp only [beq_iff_eq, beq_eq_false_iff_ne, ne_eq] at *
  all_goals first
    | (subst op; exact hold_end rfl rfl (by trivial))
    | (refine hold_end ?_ ?_ (by trivial)
       · unfold holdL; repeat rw [if_neg (by assumption)]
       · unfold isCond; symm; apply decide_eq_false; omega)
theorem till_zero {f : Nat -> Int} (h64 : f 64 = 0) (hz : ∀ i n, i <= n -> f i = 0 -> f n = 0) {i b : Nat} (hi : i <= b) (h : i = b ∨ f i = 0) : f i = f (min b 64) := by
 by_cases hb : b <= 64
 ·rw [Nat.min_eq_left hb]
  rcases h with rfl | h
  ·rfl
  ·rw [h, hz i b hi h]
 ·rw [Nat.min_eq_right (by omega), h64]
  rcases h with rfl | h
  ·exact hz 64 i (by omega) h64
  ·exact h
theorem shl_zero (a : Int) : a * 2 ^ 64 % 18446744073709551616 = 0 := by
 have e : (2 : Int) ^ 64 = 18446744073709551616 := by decide
 rw [e]; omega
theorem shl_stays (a : Int) (i n : Nat) (h : i <= n) (hz : a * 2 ^ i % 18446744073709551616 = 0) : a * 2 ^ n % 18446744073709551616 = 0 := by
 obtain ⟨j, rfl⟩ := Nat.exists_eq_add_of_le h
 rw [Int.pow_add, <- Int.mul_assoc, Int.mul_emod, hz]
 simp
theorem shr_zero (a : Int) (h0 : 0 <= a) (h : a <= 18446744073709551615) : a / 2 ^ 64 = 0 := by
 have e : (2 : Int) ^ 64 = 18446744073709551616 := by decide
 rw [e]; omega
theorem div_pow_add (a : Int) (i j : Nat) : a / 2 ^ (i + j) = a / 2 ^ i / 2 ^ j := by
 rw [Int.pow_add, Int.ediv_ediv_of_nonneg (Int.le_of_lt (qBh i))]
theorem shr_stays (a : Int) (i n : Nat) (h : i <= n) (hz : a / 2 ^ i = 0) : a / 2 ^ n = 0 := by
 obtain ⟨j, rfl⟩ := Nat.exists_eq_add_of_le h
 rw [div_pow_add, hz]
 simp
theorem shl_next (a : Int) (i : Nat) : (a * 2 ^ i % 18446744073709551616 + a * 2 ^ i % 18446744073709551616) % 18446744073709551616 = a * 2 ^ (i + 1) % 18446744073709551616 := by
 rw [Int.pow_succ, <- Int.mul_assoc]
 generalize a * 2 ^ i = z
 omega

set_option maxHeartbeats 400000 in
theorem rshl_any (a b : Int) (w : World) (ha : 0 <= a /\ a <= 18446744073709551615) (hb : 0 <= b /\ b <= 18446744073709551615) :
  Calls Tryz.prog 103 #[.int .i64 9, .int .u64 a, .int .u64 b] w fun e w' =>
   e = .returned (.tuple #[.int .u64 (a * 2 ^ min b.toNat 64 % 18446744073709551616), .bool true]) /\ w = w' := by
 obtain ⟨B, rfl⟩ := Int.eq_ofNat_of_zero_le hb.1
 rw [Int.toNat_natCast]
 go_enter Tryz.func103, Tryz.ntmps103
 go_wp2
 go_loop [1, 10] (fun u i => ∃ (k : Nat) (A : Int), k <= B /\ i = .int .u64 k /\ u = .int .u64 A /\ 0 <= A /\ A <= 18446744073709551615 /\ A = a * 2 ^ k % 18446744073709551616) (fun _ i => B - (intOf i).toNat)
 case atStart => exact ⟨0, a, by omega, rfl, rfl, by omega, by omega, by simp; omega⟩
 case round =>
  obtain ⟨k, A, hk, rfl, rfl, hA0, hA1, hA⟩ := hrel
  have HA : Hid (A = a * 2 ^ k % 18446744073709551616) := hA
  clear hA
  by_cases hlt : k < B /\ 0 < A
  ·obtain ⟨h1, h2⟩ := hlt
   have HN : Hid ((A + A) % 18446744073709551616 = a * 2 ^ (k + 1) % 18446744073709551616) := by rw [HA.out]; exact shl_next a k
   clear HA
   go_wp2_with (go_at_call 119; refine (plus_any _ _ _ (by omega) (by omega)).mono ?_; rintro e w' ⟨rfl, rfl⟩)
   go_round
   case rel => exact ⟨k + 1, _, by omega, by go_num, rfl, by omega, by omega, HN.out⟩
   case measure => simp [intOf]; omega
  ·have HE : Hid (A = a * 2 ^ min B 64 % 18446744073709551616) := by
    rw [HA.out]
    exact till_zero (f := fun i => a * 2 ^ i % 18446744073709551616) (shl_zero a) (shl_stays a) hk (by
     by_cases h : k = B
     ·exact .inl h
     ·exact .inr (by show _ = (0 : Int); rw [<- HA.out]; omega))
   clear HA
   by_cases h1 : k < B
   ·obtain rfl : A = 0 := by omega
    go_wp2
    go_ret2
    exact ⟨ret2 HE.out rfl, rfl⟩
   ·go_wp2
    go_ret2
    exact ⟨ret2 HE.out rfl, rfl⟩

set_option maxHeartbeats 400000 in
theorem rshr_any (a b : Int) (w : World) (ha : 0 <= a /\ a <= 18446744073709551615) (hb : 0 <= b /\ b <= 18446744073709551615) :
  Calls Tryz.prog 103 #[.int .i64 10, .int .u64 a, .int .u64 b] w fun e w' =>
   e = .returned (.tuple #[.int .u64 (a / 2 ^ min b.toNat 64), .bool true]) /\ w = w' := by
 obtain ⟨B, rfl⟩ := Int.eq_ofNat_of_zero_le hb.1
 rw [Int.toNat_natCast]
 go_enter Tryz.func103, Tryz.ntmps103
 go_wp2
 go_loop [1, 10] (fun u i => ∃ (k : Nat) (A : Int), k <= B /\ i = .int .u64 k /\ u = .int .u64 A /\ 0 <= A /\ A <= 18446744073709551615 /\ A = a / 2 ^ k) (fun _ i => B - (intOf i).toNat)
 case atStart => exact ⟨0, a, by omega, rfl, rfl, by omega, by omega, by simp⟩
 case round =>
  obtain ⟨k, A, hk, rfl, rfl, hA0, hA1, hA⟩ := hrel
  have HA : Hid (A = a / 2 ^ k) := hA
  clear hA
  by_cases hlt : k < B /\ 0 < A
  ·obtain ⟨h1, h2⟩ := hlt
   have HN : Hid (A / 2 = a / 2 ^ (k + 1)) := by rw [HA.out, div_pow_add]; rfl
   clear HA
   go_wp2
   go_round
   case rel => exact ⟨k + 1, _, by omega, by go_num, rfl, by omega, by omega, HN.out⟩
   case measure => simp [intOf]; omega
  ·have HE : Hid (A = a / 2 ^ min B 64) := by
    rw [HA.out]
    exact till_zero (f := fun i => a / 2 ^ i) (shr_zero a ha.1 ha.2) (shr_stays a) hk (by
     by_cases h : k = B
     ·exact .inl h
     ·exact .inr (by show _ = (0 : Int); rw [<- HA.out]; omega))
   clear HA
   by_cases h1 : k < B
   ·obtain rfl : A = 0 := by omega
    go_wp2
    go_ret2
    exact ⟨ret2 HE.out rfl, rfl⟩
   ·go_wp2
    go_ret2
    exact ⟨ret2 HE.out rfl, rfl⟩
set_option maxHeartbeats 800000 in
theorem rdo_rest (op a b : Int) (w : World) (ha : 0 <= a /\ a <= 18446744073709551615) (hb : 0 <= b /\ b <= 18446744073709551615) (h9 : (op == 9) = false) (h10 : (op == 10) = false) (h4 : (op == 4) = false) (h5 : (op == 5) = false) :
    Calls Tryz.prog 103 #[.int .i64 op, .int .u64 a, .int .u64 b] w fun e w' =>
      e = .returned (.tuple #[.int .u64 (doL op a b), .bool (isOp op)]) /\ w = w' := by
  go_enter Tryz.func103, Tryz.ntmps103
  go_wp2_with (first
    | (go_at_call 119; refine (plus_any _ _ _ ha hb).mono ?_; rintro e w' ⟨rfl, rfl⟩)
    | (go_at_call 120; refine (minus_any _ _ _ ha hb).mono ?_; rintro e w' ⟨rfl, rfl⟩)
    | (go_at_call 121; refine (times_any _ _ _ ha hb).mono ?_; rintro e w' ⟨rfl, rfl⟩))
  all_goals go_ret2
  all_goals simp only [beq_iff_eq, beq_eq_false_iff_ne, ne_eq] at *
  all_goals first
    | (subst op; exact do_end (by simp [doL, ref_and, ref_or, ref_xor]) rfl (by trivial))
    | (refine do_end ?_ ?_ (by trivial)
       · unfold doL; repeat rw [if_neg (by assumption)]
       · unfold isOp; symm; apply decide_eq_false; omega)
theorem rdo_div (a b : Int) (w : World) (ha : 0 <= a /\ a <= 18446744073709551615) (hb : 0 <= b /\ b <= 18446744073709551615) :
  Calls Tryz.prog 103 #[.int .i64 4, .int .u64 a, .int .u64 b] w fun e w' =>
   e = .returned (.tuple #[.int .u64 (a / b), .bool true]) /\ w = w' := by
 by_cases h0 : 0 < b
 ·go_enter Tryz.func103, Tryz.ntmps103
  go_wp2_with (go_at_call 122; refine (split_any _ _ _ ha hb h0).mono ?_; rintro e w' ⟨rfl, rfl⟩)
  go_ret2
  exact ⟨rfl, rfl⟩
 ·obtain rfl : b = 0 := by omega
  go_enter Tryz.func103, Tryz.ntmps103
  go_wp2
  go_ret2
  exact ⟨ret2 (by simp) rfl, rfl⟩
theorem rdo_rem (a b : Int) (w : World) (ha : 0 <= a /\ a <= 18446744073709551615) (hb : 0 <= b /\ b <= 18446744073709551615) :
  Calls Tryz.prog 103 #[.int .i64 5, .int .u64 a, .int .u64 b] w fun e w' =>
   e = .returned (.tuple #[.int .u64 (a % b), .bool true]) /\ w = w' := by
 by_cases h0 : 0 < b
 ·go_enter Tryz.func103, Tryz.ntmps103
  go_wp2_with (go_at_call 122; refine (split_any _ _ _ ha hb h0).mono ?_; rintro e w' ⟨rfl, rfl⟩)
  go_ret2
  exact ⟨rfl, rfl⟩
 ·obtain rfl : b = 0 := by omega
  go_enter Tryz.func103, Tryz.ntmps103
  go_wp2
  go_ret2
  exact ⟨ret2 (by simp) rfl, rfl⟩

theorem rdo_any (op a b : Int) (w : World) (ha : 0 <= a /\ a <= 18446744073709551615) (hb : 0 <= b /\ b <= 18446744073709551615) :
  Calls Tryz.prog 103 #[.int .i64 op, .int .u64 a, .int .u64 b] w fun e w' =>
   e = .returned (.tuple #[.int .u64 (doL op a b), .bool (isOp op)]) /\ w = w' := by
 by_cases h4 : op = 4
 ·subst h4; exact rdo_div a b w ha hb
 by_cases h5 : op = 5
 ·subst h5; exact rdo_rem a b w ha hb
 by_cases h9 : op = 9
 ·subst h9; exact rshl_any a b w ha hb
 by_cases h10 : op = 10
 ·subst h10; exact rshr_any a b w ha hb
 exact rdo_rest op a b w ha hb (by simpa using h9) (by simpa using h10) (by simpa using h4) (by simpa using h5)

theorem do_as {op a b n : Int} {c : Bool} (h1 : Hid (n = doL op a b)) (h2 : Hid (c = isOp op)) (w : World) (ha : 0 <= a /\ a <= 18446744073709551615) (hb : 0 <= b /\ b <= 18446744073709551615) :
  Calls Tryz.prog 111 #[.int .i64 op, .int .u64 a, .int .u64 b] w fun e w' => e = .returned (.tuple #[.int .u64 n, .bool c]) /\ w = w' := by
 rw [h1.out, h2.out]; exact do_any op a b w ha hb
theorem rdo_as {op a b n : Int} {c : Bool} (h1 : Hid (n = doL op a b)) (h2 : Hid (c = isOp op)) (w : World) (ha : 0 <= a /\ a <= 18446744073709551615) (hb : 0 <= b /\ b <= 18446744073709551615) :
  Calls Tryz.prog 103 #[.int .i64 op, .int .u64 a, .int .u64 b] w fun e w' => e = .returned (.tuple #[.int .u64 n, .bool c]) /\ w = w' := by
 rw [h1.out, h2.out]; exact rdo_any op a b w ha hb
theorem holds_as {op a b : Int} {n c : Bool} (h1 : Hid (n = holdL op a b)) (h2 : Hid (c = isCond op)) (w : World) (ha : 0 <= a /\ a <= 18446744073709551615) (hb : 0 <= b /\ b <= 18446744073709551615) :
  Calls Tryz.prog 97 #[.int .i64 op, .int .u64 a, .int .u64 b] w fun e w' => e = .returned (.tuple #[.bool n, .bool c]) /\ w = w' := by
 rw [h1.out, h2.out]; exact holds_any op a b w ha hb
end Go.Proofs.YtkcofelpndlplaaGreat
