/-
  A5Plain
  A5More
  S6Plain
  S6Lists
  A5Ref
  A5Split
  A5Do
  A5RDo
  A5RAll
  A5As
-/
import Derived.Test.YtkondcjmhlppiaaGreatRows
import Derived.Laws.Bits64b
import Derived.Laws.BitsLemmas
import Derived.WalkSpells
import Derived.OpenShut
namespace Go.Proofs.YtkondcjmhlppiaaGreat
open Go.RowKit
set_option linter.unusedVariables false
def doL (op a b : Int) : Int :=
 if op = 1 then (a + b) % 18446744073709551616
 else if op = 2 then (a - b) % 18446744073709551616
 else if op = 3 then a * b % 18446744073709551616
 else if op = 4 then a / b
 else if op = 5 then a % b
 else if op = 6 then bits .and .u64 a b
 else if op = 7 then bits .or .u64 a b
 else if op = 8 then bits .xor .u64 a b
 else if op = 9 then a * 2 ^ min b.toNat 64 % 18446744073709551616
 else if op = 10 then a / 2 ^ min b.toNat 64
 else 0
def isOp (op : Int) : Bool := decide (1 <= op /\ op <= 10)
def holdL (op a b : Int) : Bool :=
 if op = 16 then a == b
 else if op = 17 then a != b
 else if op = 18 then decide (a < b)
 else if op = 19 then decide (b <= a)
 else false
def isCond (op : Int) : Bool := decide (16 <= op /\ op <= 19)

theorem ret2 {k : IntKind} {a a' : Int} {c c' : Bool} (h1 : a = a') (h2 : c = c') : Ending.returned (.tuple #[.int k a, .bool c]) = .returned (.tuple #[.int k a', .bool c']) := by rw [h1, h2]
theorem ret2b {a a' c c' : Bool} (h1 : a = a') (h2 : c = c') : Ending.returned (.tuple #[.bool a, .bool c]) = .returned (.tuple #[.bool a', .bool c']) := by rw [h1, h2]
theorem ret1 {k : IntKind} {a b : Int} (h : a = b) : Ending.returned (.int k a) = .returned (.int k b) := by rw [h]

def bv (x : Int) : BitVec 64 := BitVec.ofInt 64 x
theorem wrap_nat (v : BitVec 64) : IntKind.u64.wrap ((v.toNat : Nat) : Int) = (v.toNat : Int) := by
 have := v.isLt
 rw [IntKind.wrap_u64]
 omega
theorem and_bv (x y : Int) : bits .and .u64 x y = ((bv x &&& bv y).toNat : Int) := wrap_nat (bv x &&& bv y)
theorem or_bv (x y : Int) : bits .or .u64 x y = ((bv x ||| bv y).toNat : Int) := wrap_nat (bv x ||| bv y)
theorem xor_bv (x y : Int) : bits .xor .u64 x y = ((bv x ^^^ bv y).toNat : Int) := wrap_nat (bv x ^^^ bv y)
theorem bv_toNat {x : Int} (h0 : 0 <= x) (h : x < 18446744073709551616) : ((bv x).toNat : Int) = x := by
 obtain ⟨n, rfl⟩ := Int.eq_ofNat_of_zero_le h0
 unfold bv
 rw [BitVec.ofInt_natCast, BitVec.toNat_ofNat]
 omega
theorem bits_in (op : BinOp) (x y : Int) : 0 <= bits op .u64 x y /\ bits op .u64 x y < 18446744073709551616 := by
 have h : bits op .u64 x y = (bits op .u64 x y) := rfl
 unfold bits
 rw [IntKind.wrap_u64]
 omega

theorem two_pow_int (k : Nat) : (2 : Int) ^ k = ((2 ^ k : Nat) : Int) := by simp
theorem pow_pos_int (k : Nat) : 0 < (2 : Int) ^ k := by
 rw [two_pow_int]
 exact_mod_cast Nat.two_pow_pos k
theorem pow_le64 {k : Nat} (h : k <= 64) : (2 : Int) ^ k <= 18446744073709551616 := by
 rw [two_pow_int]
 have h1 : 2 ^ k <= 2 ^ 64 := Nat.pow_le_pow_right (by decide) h
 have h2 : (2 ^ 64 : Nat) = 18446744073709551616 := by decide
 omega
theorem bits_le (op : BinOp) (x y : Int) : 0 <= bits op .u64 x y /\ bits op .u64 x y <= 18446744073709551615 := by
 have := bits_in op x y
 omega
def W64 (x : Int) : Prop := 0 <= x /\ x <= 18446744073709551615
theorem doL_in (op : Int) {a b : Int} (ha : W64 a) (hb : W64 b) : W64 (doL op a b) := by
 have hp := pow_pos_int (min b.toNat 64)
 have h1 := bits_le .and a b
 have h2 := bits_le .or a b
 have h3 := bits_le .xor a b
 have h4 : 0 <= a / b /\ a / b <= a := ⟨Int.ediv_nonneg ha.1 hb.1, Int.ediv_le_self _ ha.1⟩
 have h5 : 0 <= a % b /\ a % b <= a := by
  by_cases h : b = 0
  ·subst h; simp; exact ha.1
  ·have := hb.1
   have hm := Int.emod_nonneg a h
   have := Int.ediv_mul_add_emod a b
   have : 0 <= a / b * b := Int.mul_nonneg h4.1 hb.1
   omega
 have h6 : 0 <= a / 2 ^ min b.toNat 64 /\ a / 2 ^ min b.toNat 64 <= a := ⟨Int.ediv_nonneg ha.1 (by omega), Int.ediv_le_self _ ha.1⟩
 unfold W64 at *
 unfold doL
 generalize a * 2 ^ min b.toNat 64 = y
 generalize a * b = z
 repeat' split
 all_goals omega
def formL (n : Int) : Int := if n = 0 then 0 else 2 ^ (n.toNat.log2 + 1) - 1
theorem form_pow {n : Int} (h0 : 0 <= n) (h : n <= 18446744073709551615) : ∃ k : Nat, k <= 64 /\ formL n = 2 ^ k - 1 /\ n < 2 ^ k /\ (0 < k -> (2 : Int) ^ (k - 1) <= n) := by
 unfold formL
 split
 ·rename_i e
  exact ⟨0, by omega, by simp, by simp [e], fun h => absurd h (by omega)⟩
 ·rename_i hne
  obtain ⟨m, rfl⟩ := Int.eq_ofNat_of_zero_le h0
  have hm : m ≠ 0 := by omega
  have h1 := Nat.lt_log2_self (n := m)
  have h2 := Nat.log2_self_le hm
  refine ⟨m.log2 + 1, ?_, by rw [Int.toNat_natCast], by rw [two_pow_int]; omega, fun _ => by rw [two_pow_int, Nat.add_sub_cancel]; exact_mod_cast h2⟩
  by_cases hc : m.log2 + 1 <= 64
  ·exact hc
  ·have h3 : 2 ^ 64 <= 2 ^ m.log2 := Nat.pow_le_pow_right (by decide) (by omega)
   have h4 : (2 : Nat) ^ 64 = 18446744073709551616 := by decide
   omega
theorem form_in {n : Int} (h0 : 0 <= n) (h : n <= 18446744073709551615) : 0 <= formL n /\ formL n <= 18446744073709551615 := by
 obtain ⟨k, hk, e, _, _⟩ := form_pow h0 h
 have h1 := pow_pos_int k
 have h2 := pow_le64 hk
 omega
theorem form_eq {n : Int} {k : Nat} (h0 : 0 <= n) (h : n <= 18446744073709551615) (h1 : n < 2 ^ k) (h2 : 0 < k -> (2 : Int) ^ (k - 1) <= n) : formL n = 2 ^ k - 1 := by
 obtain ⟨j, _, e, g1, g2⟩ := form_pow h0 h
 rw [e]
 have mono : ∀ a b : Nat, a <= b -> (2 : Int) ^ a <= 2 ^ b := fun a b hab => by
  rw [two_pow_int, two_pow_int]
  exact_mod_cast Nat.pow_le_pow_right (by decide) hab
 have : j = k := by
  rcases Nat.lt_trichotomy j k with hjk | hjk | hjk
  ·have := h2 (by omega)
   have := mono j (k - 1) (by omega)
   omega
  ·exact hjk
  ·have := g2 (by omega)
   have := mono k (j - 1) (by omega)
   omega
 rw [this]

def spanL (op a A b B : Int) : Int × Int :=
 if a = A /\ b = B then (doL op a b, doL op a b)
 else if op = 1 then (if 18446744073709551615 < A + B then (0, 18446744073709551615) else (a + b, A + B))
 else if op = 2 then (if a < B then (0, 18446744073709551615) else (a - B, A - b))
 else if op = 3 then (if 18446744073709551615 < A * B then (0, 18446744073709551615) else (a * b, A * B))
 else if op = 4 then (if b = 0 then (0, A) else (a / B, A / b))
 else if op = 5 then (if b = 0 then (0, A) else if A < b then (a, A) else (0, min A (B - 1)))
 else if op = 6 then (0, min A B)
 else if op = 7 then (max a b, formL (max A B))
 else if op = 8 then (0, formL (max A B))
 else if op = 9 then (if b = B /\ A * 2 ^ min b.toNat 64 <= 18446744073709551615 then (a * 2 ^ min b.toNat 64, A * 2 ^ min b.toNat 64) else (0, 18446744073709551615))
 else (a / 2 ^ min B.toNat 64, A / 2 ^ min b.toNat 64)

theorem and_le {x y : Int} (hx : W64 x) (hy : W64 y) : bits .and .u64 x y <= x /\ bits .and .u64 x y <= y := by
 rw [and_bv, BitVec.toNat_and]
 have h1 := bv_toNat hx.1 (by have := hx.2; omega)
 have h2 := bv_toNat hy.1 (by have := hy.2; omega)
 have h3 := Nat.and_le_left (n := (bv x).toNat) (m := (bv y).toNat)
 have h4 := Nat.and_le_right (n := (bv x).toNat) (m := (bv y).toNat)
 omega
theorem or_ge {x y : Int} (hx : W64 x) (hy : W64 y) : x <= bits .or .u64 x y /\ y <= bits .or .u64 x y := by
 rw [or_bv, BitVec.toNat_or]
 have h1 := bv_toNat hx.1 (by have := hx.2; omega)
 have h2 := bv_toNat hy.1 (by have := hy.2; omega)
 have h3 := Nat.left_le_or (n := (bv x).toNat) (m := (bv y).toNat)
 have h4 := Nat.right_le_or (n := (bv x).toNat) (m := (bv y).toNat)
 omega
theorem or_xor_lt {x y : Int} {k : Nat} (hx : W64 x) (hy : W64 y) (h1 : x < 2 ^ k) (h2 : y < 2 ^ k) : bits .or .u64 x y < 2 ^ k /\ bits .xor .u64 x y < 2 ^ k := by
 rw [or_bv, xor_bv, BitVec.toNat_or, BitVec.toNat_xor]
 have e1 := bv_toNat hx.1 (by have := hx.2; omega)
 have e2 := bv_toNat hy.1 (by have := hy.2; omega)
 rw [two_pow_int] at h1 h2 ⊢
 have g1 : (bv x).toNat < 2 ^ k := by omega
 have g2 : (bv y).toNat < 2 ^ k := by omega
 have := Nat.or_lt_two_pow g1 g2
 have := Nat.xor_lt_two_pow g1 g2
 omega
theorem pow_min_mono {i j : Nat} (h : i <= j) : (2 : Int) ^ min i 64 <= 2 ^ min j 64 := by
 rw [two_pow_int, two_pow_int]
 exact_mod_cast Nat.pow_le_pow_right (by decide) (by omega)
theorem div_mono {x X d D : Int} (hx : 0 <= x) (hX : x <= X) (hd : 0 < d) (hD : d <= D) : x / D <= X / d := by
 have h1 : x / D <= X / D := Int.ediv_le_ediv (by omega) hX
 have h0 : 0 <= X / D := Int.ediv_nonneg (by omega) (by omega)
 have h2 : X / D <= X / d := by
  rw [Int.le_ediv_iff_mul_le hd]
  have h3 : X / D * d <= X / D * D := Int.mul_le_mul_of_nonneg_left hD h0
  have h4 : X / D * D <= X := Int.ediv_mul_le _ (by omega)
  omega
 omega

theorem span_sound {op a A b B x y : Int} (hop : 1 <= op /\ op <= 10) (ha : 0 <= a) (hA : A <= 18446744073709551615) (hb : 0 <= b) (hB : B <= 18446744073709551615) (hx : a <= x /\ x <= A) (hy : b <= y /\ y <= B) :
  (spanL op a A b B).1 <= doL op x y /\ doL op x y <= (spanL op a A b B).2 := by
 have Wx : W64 x := ⟨by omega, by omega⟩
 have Wy : W64 y := ⟨by omega, by omega⟩
 have hin := doL_in op Wx Wy
 unfold W64 at hin
 unfold spanL
 by_cases hs : a = A /\ b = B
 ·rw [if_pos hs]
  obtain ⟨rfl, rfl⟩ := hs
  obtain rfl : x = a := by omega
  obtain rfl : y = b := by omega
  exact ⟨Int.le_refl _, Int.le_refl _⟩
 rw [if_neg hs]
 by_cases h1 : op = 1
 ·subst h1
  rw [if_pos rfl]
  split
  ·exact hin
  ·show a + b <= (x + y) % 18446744073709551616 /\ (x + y) % 18446744073709551616 <= A + B
   omega
 rw [if_neg h1]
 by_cases h2 : op = 2
 ·subst h2
  rw [if_pos rfl]
  split
  ·exact hin
  ·show a - B <= (x - y) % 18446744073709551616 /\ (x - y) % 18446744073709551616 <= A - b
   omega
 rw [if_neg h2]
 by_cases h3 : op = 3
 ·subst h3
  rw [if_pos rfl]
  split
  ·exact hin
  ·show a * b <= x * y % 18446744073709551616 /\ x * y % 18446744073709551616 <= A * B
   have g1 : a * b <= x * y := Int.mul_le_mul hx.1 hy.1 hb (by omega)
   have g2 : x * y <= A * B := Int.mul_le_mul hx.2 hy.2 (by omega) (by omega)
   have g3 : 0 <= a * b := Int.mul_nonneg ha hb
   rw [Int.emod_eq_of_lt (by omega) (by omega)]
   exact ⟨g1, g2⟩
 rw [if_neg h3]
 by_cases h4 : op = 4
 ·subst h4
  rw [if_pos rfl]
  split
  ·show 0 <= x / y /\ x / y <= A
   have := Int.ediv_le_self (a := x) y Wx.1
   exact ⟨Int.ediv_nonneg Wx.1 Wy.1, by omega⟩
  ·show a / B <= x / y /\ x / y <= A / b
   exact ⟨div_mono ha hx.1 (by omega) hy.2, div_mono Wx.1 hx.2 (by omega) hy.1⟩
 rw [if_neg h4]
 by_cases h5 : op = 5
 ·subst h5
  rw [if_pos rfl]
  have g1 : doL 5 x y = x % y := rfl
  have g2 : x % y <= x := by
   have e := Int.ediv_mul_add_emod x y
   have := Int.mul_nonneg (Int.ediv_nonneg Wx.1 Wy.1) Wy.1
   omega
  rw [g1] at hin ⊢
  split
  ·exact ⟨hin.1, by show x % y <= A; omega⟩
  ·split
   ·show a <= x % y /\ x % y <= A
    rw [Int.emod_eq_of_lt Wx.1 (by omega)]
    exact hx
   ·have := Int.emod_lt_of_pos x (show 0 < y by omega)
    show 0 <= x % y /\ x % y <= min A (B - 1)
    omega
 rw [if_neg h5]
 by_cases h6 : op = 6
 ·subst h6
  rw [if_pos rfl]
  have g1 : doL 6 x y = bits .and .u64 x y := rfl
  rw [g1] at hin ⊢
  have := and_le Wx Wy
  show 0 <= bits .and .u64 x y /\ bits .and .u64 x y <= min A B
  omega
 rw [if_neg h6]
 obtain ⟨k, hk, e, g1, _⟩ := form_pow (n := max A B) (by omega) (by omega)
 by_cases h7 : op = 7
 ·subst h7
  rw [if_pos rfl]
  have q := or_ge Wx Wy
  have r := (or_xor_lt (k := k) Wx Wy (by omega) (by omega)).1
  show max a b <= bits .or .u64 x y /\ bits .or .u64 x y <= formL (max A B)
  omega
 rw [if_neg h7]
 by_cases h8 : op = 8
 ·subst h8
  rw [if_pos rfl]
  have r := (or_xor_lt (k := k) Wx Wy (by omega) (by omega)).2
  have q := bits_le .xor x y
  show 0 <= bits .xor .u64 x y /\ bits .xor .u64 x y <= formL (max A B)
  omega
 rw [if_neg h8]
 by_cases h9 : op = 9
 ·subst h9
  rw [if_pos rfl]
  split
  ·rename_i hc
   obtain ⟨rfl, hc⟩ := hc
   obtain rfl : y = b := by omega
   have hp := pow_pos_int (min y.toNat 64)
   have r1 : a * 2 ^ min y.toNat 64 <= x * 2 ^ min y.toNat 64 := Int.mul_le_mul_of_nonneg_right hx.1 (by omega)
   have r2 : x * 2 ^ min y.toNat 64 <= A * 2 ^ min y.toNat 64 := Int.mul_le_mul_of_nonneg_right hx.2 (by omega)
   have r0 : 0 <= a * 2 ^ min y.toNat 64 := Int.mul_nonneg ha (by omega)
   show a * 2 ^ min y.toNat 64 <= x * 2 ^ min y.toNat 64 % 18446744073709551616 /\ x * 2 ^ min y.toNat 64 % 18446744073709551616 <= A * 2 ^ min y.toNat 64
   rw [Int.emod_eq_of_lt (by omega) (by omega)]
   exact ⟨r1, r2⟩
  ·exact hin
 rw [if_neg h9]
 obtain rfl : op = 10 := by omega
 show a / 2 ^ min B.toNat 64 <= x / 2 ^ min y.toNat 64 /\ x / 2 ^ min y.toNat 64 <= A / 2 ^ min b.toNat 64
 exact ⟨div_mono ha hx.1 (pow_pos_int _) (pow_min_mono (by omega)), div_mono Wx.1 hx.2 (pow_pos_int _) (pow_min_mono (by omega))⟩
theorem span_right {op a A b B : Int} (hop : 1 <= op /\ op <= 10) (ha : 0 <= a) (hA : A <= 18446744073709551615) (hb : 0 <= b) (hB : B <= 18446744073709551615) (h1 : a <= A) (h2 : b <= B) :
  (spanL op a A b B).1 <= (spanL op a A b B).2 := by
 have h := span_sound hop ha hA hb hB (x := a) (y := b) ⟨by omega, by omega⟩ ⟨by omega, by omega⟩
 omega

def lessB (op : Int) (h : Bool) : Bool := (op == 18 && h) || (op == 19 && !h)
def sameB (op : Int) (h : Bool) : Bool := (op == 16 && h) || (op == 17 && !h)
def refineL (op a A b B : Int) (h : Bool) : Option (Int × Int) :=
 if b ≠ B then some (a, A)
 else if lessB op h = true then (if b <= a then none else some (a, min A (b - 1)))
 else if 18 <= op then (if A < b then none else some (max a b, A))
 else if sameB op h = true then (if a <= b /\ b <= A then some (b, b) else none)
 else if a = b /\ A = b then none
 else if a = b then some (b + 1, A)
 else if A = b then some (a, b - 1)
 else some (a, A)
theorem refine_sound {op a A b B x y : Int} {h : Bool} (hop : 16 <= op /\ op <= 19) (hx : a <= x /\ x <= A) (hy : b <= y /\ y <= B) (hh : holdL op x y = h) :
  ∃ l u, refineL op a A b B h = some (l, u) /\ l <= x /\ x <= u /\ a <= l /\ u <= A := by
 unfold refineL
 by_cases hs : b ≠ B
 ·rw [if_pos hs]
  exact ⟨a, A, rfl, hx.1, hx.2, Int.le_refl _, Int.le_refl _⟩
 rw [if_neg hs]
 obtain rfl : b = B := by omega
 obtain rfl : y = b := by omega
 have hc : op = 16 ∨ op = 17 ∨ op = 18 ∨ op = 19 := by omega
 subst hh
 rcases hc with rfl | rfl | rfl | rfl
 ·have e : holdL 16 x y = (x == y) := rfl
  rw [e]
  by_cases hxy : x = y
  ·subst hxy
   rw [beq_self_eq_true]
   rw [if_neg (show ¬ lessB 16 true = true by decide), if_neg (show ¬ (18 : Int) <= 16 by decide), if_pos (show sameB 16 true = true by decide), if_pos hx]
   exact ⟨x, x, rfl, Int.le_refl _, Int.le_refl _, hx.1, hx.2⟩
  ·rw [beq_eq_false_iff_ne.2 hxy]
   rw [if_neg (show ¬ lessB 16 false = true by decide), if_neg (show ¬ (18 : Int) <= 16 by decide), if_neg (show ¬ sameB 16 false = true by decide)]
   by_cases h1 : a = y /\ A = y
   ·omega
   rw [if_neg h1]
   by_cases h2 : a = y
   ·rw [if_pos h2]
    exact ⟨y + 1, A, rfl, by omega, by omega, by omega, by omega⟩
   rw [if_neg h2]
   by_cases h3 : A = y
   ·rw [if_pos h3]
    exact ⟨a, y - 1, rfl, by omega, by omega, by omega, by omega⟩
   rw [if_neg h3]
   exact ⟨a, A, rfl, by omega, by omega, by omega, by omega⟩
 ·have e : holdL 17 x y = (x != y) := rfl
  rw [e]
  unfold bne
  by_cases hxy : x = y
  ·subst hxy
   rw [beq_self_eq_true, Bool.not_true]
   rw [if_neg (show ¬ lessB 17 false = true by decide), if_neg (show ¬ (18 : Int) <= 17 by decide), if_pos (show sameB 17 false = true by decide), if_pos hx]
   exact ⟨x, x, rfl, Int.le_refl _, Int.le_refl _, hx.1, hx.2⟩
  ·rw [beq_eq_false_iff_ne.2 hxy, Bool.not_false]
   rw [if_neg (show ¬ lessB 17 true = true by decide), if_neg (show ¬ (18 : Int) <= 17 by decide), if_neg (show ¬ sameB 17 true = true by decide)]
   by_cases h1 : a = y /\ A = y
   ·omega
   rw [if_neg h1]
   by_cases h2 : a = y
   ·rw [if_pos h2]
    exact ⟨y + 1, A, rfl, by omega, by omega, by omega, by omega⟩
   rw [if_neg h2]
   by_cases h3 : A = y
   ·rw [if_pos h3]
    exact ⟨a, y - 1, rfl, by omega, by omega, by omega, by omega⟩
   rw [if_neg h3]
   exact ⟨a, A, rfl, by omega, by omega, by omega, by omega⟩
 ·have e : holdL 18 x y = decide (x < y) := rfl
  rw [e]
  by_cases hxy : x < y
  ·rw [decide_eq_true hxy]
   rw [if_pos (show lessB 18 true = true by decide), if_neg (by omega)]
   exact ⟨a, min A (y - 1), rfl, by omega, by omega, by omega, by omega⟩
  ·rw [decide_eq_false hxy]
   rw [if_neg (show ¬ lessB 18 false = true by decide), if_pos (show (18 : Int) <= 18 by decide), if_neg (by omega)]
   exact ⟨max a y, A, rfl, by omega, by omega, by omega, by omega⟩
 ·have e : holdL 19 x y = decide (y <= x) := rfl
  rw [e]
  by_cases hxy : y <= x
  ·rw [decide_eq_true hxy]
   rw [if_neg (show ¬ lessB 19 true = true by decide), if_pos (show (18 : Int) <= 19 by decide), if_neg (by omega)]
   exact ⟨max a y, A, rfl, by omega, by omega, by omega, by omega⟩
  ·rw [decide_eq_false hxy]
   rw [if_pos (show lessB 19 false = true by decide), if_neg (by omega)]
   exact ⟨a, min A (y - 1), rfl, by omega, by omega, by omega, by omega⟩
def minF : List Int -> Int
 | [] => 0
 | x :: r => r.foldl min x
def maxF : List Int -> Int
 | [] => 0
 | x :: r => r.foldl max x
theorem foldl_min (r : List Int) : ∀ x : Int, r.foldl min x <= x /\ (∀ y ∈ r, r.foldl min x <= y) /\ (r.foldl min x = x ∨ r.foldl min x ∈ r) := by
 induction r with
 | nil => intro x; simp
 | cons z r ih =>
  intro x
  obtain ⟨h1, h2, h3⟩ := ih (min x z)
  refine ⟨by show r.foldl min (min x z) <= x; omega, fun y hy => ?_, ?_⟩
  ·show r.foldl min (min x z) <= y
   rcases List.mem_cons.1 hy with rfl | hy
   ·omega
   ·exact h2 y hy
  ·show r.foldl min (min x z) = x ∨ r.foldl min (min x z) ∈ z :: r
   rcases h3 with h3 | h3
   ·by_cases hc : x <= z
    ·left; rw [h3]; omega
    ·right; rw [h3, Int.min_eq_right (by omega)]; simp
   ·right; simp [h3]
theorem foldl_max (r : List Int) : ∀ x : Int, x <= r.foldl max x /\ (∀ y ∈ r, y <= r.foldl max x) /\ (r.foldl max x = x ∨ r.foldl max x ∈ r) := by
 induction r with
 | nil => intro x; simp
 | cons z r ih =>
  intro x
  obtain ⟨h1, h2, h3⟩ := ih (max x z)
  refine ⟨by show x <= r.foldl max (max x z); omega, fun y hy => ?_, ?_⟩
  ·show y <= r.foldl max (max x z)
   rcases List.mem_cons.1 hy with rfl | hy
   ·omega
   ·exact h2 y hy
  ·show r.foldl max (max x z) = x ∨ r.foldl max (max x z) ∈ z :: r
   rcases h3 with h3 | h3
   ·by_cases hc : z <= x
    ·left; rw [h3]; omega
    ·right; rw [h3, Int.max_eq_right (by omega)]; simp
   ·right; simp [h3]
theorem minF_le {xs : List Int} {y : Int} (h : y ∈ xs) : minF xs <= y := by
 cases xs with
 | nil => simp at h
 | cons x r =>
  rcases List.mem_cons.1 h with rfl | h
  ·exact (foldl_min r _).1
  ·exact (foldl_min r x).2.1 y h
theorem le_maxF {xs : List Int} {y : Int} (h : y ∈ xs) : y <= maxF xs := by
 cases xs with
 | nil => simp at h
 | cons x r =>
  rcases List.mem_cons.1 h with rfl | h
  ·exact (foldl_max r _).1
  ·exact (foldl_max r x).2.1 y h
theorem minF_mem {xs : List Int} (h : xs ≠ []) : minF xs ∈ xs := by
 cases xs with
 | nil => exact absurd rfl h
 | cons x r =>
  show r.foldl min x ∈ x :: r
  rcases (foldl_min r x).2.2 with h | h
  ·rw [h]; simp
  ·simp [h]
theorem maxF_mem {xs : List Int} (h : xs ≠ []) : maxF xs ∈ xs := by
 cases xs with
 | nil => exact absurd rfl h
 | cons x r =>
  show r.foldl max x ∈ x :: r
  rcases (foldl_max r x).2.2 with h | h
  ·rw [h]; simp
  ·simp [h]
theorem minF_snoc {xs : List Int} (h : xs ≠ []) (y : Int) : minF (xs ++ [y]) = min (minF xs) y := by
 cases xs with
 | nil => exact absurd rfl h
 | cons x r => show (r ++ [y]).foldl min x = min (r.foldl min x) y; rw [List.foldl_append]; rfl
theorem maxF_snoc {xs : List Int} (h : xs ≠ []) (y : Int) : maxF (xs ++ [y]) = max (maxF xs) y := by
 cases xs with
 | nil => exact absurd rfl h
 | cons x r => show (r ++ [y]).foldl max x = max (r.foldl max x) y; rw [List.foldl_append]; rfl

def okS (s : Int × Int) : Bool := decide (s.1 <= s.2)
def loF (ss : List (Int × Int)) : Int := minF (ss.map (·.1))
def hiF (ss : List (Int × Int)) : Int := maxF (ss.map (·.2))
def loM (ss : List (Int × Int)) : Int := maxF (ss.map (·.1))
def hiM (ss : List (Int × Int)) : Int := minF (ss.map (·.2))
def joinB (ss : List (Int × Int)) : Bool := !ss.isEmpty && ss.all okS
def meetB (ss : List (Int × Int)) : Bool := joinB ss && decide (loM ss <= hiM ss)
def joinL (ss : List (Int × Int)) : Int × Int := if joinB ss = true then (loF ss, hiF ss) else (0, 0)
def meetL (ss : List (Int × Int)) : Int × Int := if meetB ss = true then (loM ss, hiM ss) else (0, 0)
theorem joinB_ne {ss : List (Int × Int)} (h : joinB ss = true) : ss ≠ [] /\ ∀ s ∈ ss, s.1 <= s.2 := by
 unfold joinB at h
 rw [Bool.and_eq_true] at h
 refine ⟨fun e => by subst e; simp at h, fun s hs => ?_⟩
 exact of_decide_eq_true (List.all_eq_true.1 h.2 s hs)
theorem join_holds {ss : List (Int × Int)} (h : joinB ss = true) {s : Int × Int} (hs : s ∈ ss) : (joinL ss).1 <= s.1 /\ s.2 <= (joinL ss).2 /\ (joinL ss).1 <= (joinL ss).2 := by
 unfold joinL
 rw [if_pos h]
 have h1 : loF ss <= s.1 := minF_le (List.mem_map.2 ⟨s, hs, rfl⟩)
 have h2 : s.2 <= hiF ss := le_maxF (List.mem_map.2 ⟨s, hs, rfl⟩)
 have h3 := (joinB_ne h).2 s hs
 exact ⟨h1, h2, by show loF ss <= hiF ss; omega⟩
theorem quo_any (a b : Int) (w : World) (ha : 0 <= a /\ a <= 18446744073709551615) (hb : 0 <= b /\ b <= 18446744073709551615) :
  Calls Tryz.prog 94 #[.int .u64 a, .int .u64 b] w fun e w' => e = .returned (.int .u64 (a / b)) /\ w = w' := by
 by_cases h : b = 0
 ·subst h
  go_enter Tryz.func94, Tryz.ntmps94
  go_wp2
  go_ret
  exact ⟨ret1 (by simp), rfl⟩
 ·have h' : (b == 0) = false := by simpa using h
  go_enter Tryz.func94, Tryz.ntmps94
  go_wp2
  go_ret
  exact ⟨rfl, rfl⟩
theorem rest_any (a b : Int) (w : World) (ha : 0 <= a /\ a <= 18446744073709551615) (hb : 0 <= b /\ b <= 18446744073709551615) :
  Calls Tryz.prog 95 #[.int .u64 a, .int .u64 b] w fun e w' => e = .returned (.int .u64 (a % b)) /\ w = w' := by
 by_cases h : b = 0
 ·subst h
  go_enter Tryz.func95, Tryz.ntmps95
  go_wp2
  go_ret
  exact ⟨ret1 (by simp), rfl⟩
 ·have h' : (b == 0) = false := by simpa using h
  go_enter Tryz.func95, Tryz.ntmps95
  go_wp2
  go_ret
  exact ⟨rfl, rfl⟩

theorem do_end {op a b x : Int} {c : Bool} {P : Prop} (h1 : x = doL op a b) (h2 : c = isOp op) (hP : P) : Ending.returned (.tuple #[.int .u64 x, .bool c]) = .returned (.tuple #[.int .u64 (doL op a b), .bool (isOp op)]) /\ P := ⟨ret2 h1 h2, hP⟩

set_option maxHeartbeats 400000 in
theorem do_any (op a b : Int) (w : World) (ha : 0 <= a /\ a <= 18446744073709551615) (hb : 0 <= b /\ b <= 18446744073709551615) :
    Calls Tryz.prog 71 #[.int .i64 op, .int .u64 a, .int .u64 b] w fun e w' =>
      e = .returned (.tuple #[.int .u64 (doL op a b), .bool (isOp op)]) /\ w = w' := by
  go_enter Tryz.func71, Tryz.ntmps71
  go_wp2_with (first
    | (go_at_call 94; refine (quo_any _ _ _ ha hb).mono ?_; rintro e w' ⟨rfl, rfl⟩)
    | (go_at_call 95; refine (rest_any _ _ _ ha hb).mono ?_; rintro e w' ⟨rfl, rfl⟩))
  all_goals go_ret2
  all_goals simp only [beq_iff_eq, beq_eq_false_iff_ne, ne_eq] at *
  all_goals first
    | (subst op; exact do_end (by simp [doL, IntKind.wrap_u64]) rfl (by trivial))
    | (refine do_end ?_ ?_ (by trivial)
       · unfold doL; repeat rw [if_neg (by assumption)]
       · unfold isOp; symm; apply decide_eq_false; omega)

theorem hold_end {op a b : Int} {x c : Bool} {P : Prop} (h1 : x = holdL op a b) (h2 : c = isCond op) (hP : P) : Ending.returned (.tuple #[.bool x, .bool c]) = .returned (.tuple #[.bool (holdL op a b), .bool (isCond op)]) /\ P := ⟨ret2b h1 h2, hP⟩

theorem holds_any (op a b : Int) (w : World) (ha : 0 <= a /\ a <= 18446744073709551615) (hb : 0 <= b /\ b <= 18446744073709551615) :
    Calls Tryz.prog 73 #[.int .i64 op, .int .u64 a, .int .u64 b] w fun e w' =>
      e = .returned (.tuple #[.bool (holdL op a b), .bool (isCond op)]) /\ w = w' := by
  go_enter Tryz.func73, Tryz.ntmps73
  go_wp2
  all_goals go_ret2
  all_goals simp only [beq_iff_eq, beq_eq_false_iff_ne, ne_eq] at *
  all_goals first
    | (subst op; exact hold_end rfl rfl (by trivial))
    | (refine hold_end ?_ ?_ (by trivial)
       · unfold holdL; repeat rw [if_neg (by assumption)]
       · unfold isCond; symm; apply decide_eq_false; omega)
theorem do_as {op a b n : Int} {c : Bool} (h1 : Hid (n = doL op a b)) (h2 : Hid (c = isOp op)) (w : World) (ha : 0 <= a /\ a <= 18446744073709551615) (hb : 0 <= b /\ b <= 18446744073709551615) :
  Calls Tryz.prog 71 #[.int .i64 op, .int .u64 a, .int .u64 b] w fun e w' => e = .returned (.tuple #[.int .u64 n, .bool c]) /\ w = w' := by
 rw [h1.out, h2.out]; exact do_any op a b w ha hb
theorem holds_as {op a b : Int} {n c : Bool} (h1 : Hid (n = holdL op a b)) (h2 : Hid (c = isCond op)) (w : World) (ha : 0 <= a /\ a <= 18446744073709551615) (hb : 0 <= b /\ b <= 18446744073709551615) :
  Calls Tryz.prog 73 #[.int .i64 op, .int .u64 a, .int .u64 b] w fun e w' => e = .returned (.tuple #[.bool n, .bool c]) /\ w = w' := by
 rw [h1.out, h2.out]; exact holds_any op a b w ha hb
end Go.Proofs.YtkondcjmhlppiaaGreat
