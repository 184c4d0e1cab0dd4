/-
  S6Plain
  S6Lists
  A5Do
  A5RDo
  A5RAll
  A5As
-/
import Derived.Test.YtkcofelpndlplaaML6
/-
  Layer 6's plain functions: what an operation makes of two spans (spanL), what a condition leaves of one (refineL); what operations make of numbers of two spans lies in the span of the operation; a number that meets a condition lies in what is left. No Go text in sight.
-/
namespace Go.Proofs.Ytkcofelpndlplaa
open Go.RowKit
set_option linter.unusedVariables false

/-- The least 2^k - 1 that is at least n. -/
def formL (n : Int) : Int := if n = 0 then 0 else 2 ^ (n.toNat.log2 + 1) - 1
theorem form_ge {n : Int} (h : 0 ≤ n) : n ≤ formL n := by
  unfold formL
  split
  · omega
  · obtain ⟨k, rfl⟩ := Int.eq_ofNat_of_zero_le h
    have := Nat.lt_log2_self (n := k)
    rw [Int.toNat_natCast, two_pow_int]
    omega
theorem form_pow {n : Int} (h0 : 0 ≤ n) (h : n ≤ 18446744073709551615) : ∃ k : Nat, k ≤ 64 ∧ formL n = 2 ^ k - 1 ∧ n < 2 ^ k ∧ (0 < k → (2 : Int) ^ (k - 1) ≤ n) := by
  unfold formL
  split
  · rename_i e
    exact ⟨0, by omega, by simp, by simp [e], fun h => absurd h (by omega)⟩
  · rename_i hne
    obtain ⟨m, rfl⟩ := Int.eq_ofNat_of_zero_le h0
    have hm : m ≠ 0 := by omega
    have h1 := Nat.lt_log2_self (n := m)
    have h2 := Nat.log2_self_le hm
    refine ⟨m.log2 + 1, ?_, by rw [Int.toNat_natCast], by rw [two_pow_int]; omega, fun _ => by rw [two_pow_int, Nat.add_sub_cancel]; exact_mod_cast h2⟩
    by_cases hc : m.log2 + 1 ≤ 64
    · exact hc
    · have h3 : 2 ^ 64 ≤ 2 ^ m.log2 := Nat.pow_le_pow_right (by decide) (by omega)
      have h4 : (2 : Nat) ^ 64 = 18446744073709551616 := by decide
      omega
theorem form_in {n : Int} (h0 : 0 ≤ n) (h : n ≤ 18446744073709551615) : 0 ≤ formL n ∧ formL n ≤ 18446744073709551615 := by
  obtain ⟨k, hk, e, _, _⟩ := form_pow h0 h
  have h1 := pow_pos_int k
  have h2 := pow_le64 hk
  omega
/-- There is one such number. -/
theorem form_eq {n : Int} {k : Nat} (h0 : 0 ≤ n) (h : n ≤ 18446744073709551615) (h1 : n < 2 ^ k) (h2 : 0 < k → (2 : Int) ^ (k - 1) ≤ n) : formL n = 2 ^ k - 1 := by
  obtain ⟨j, _, e, g1, g2⟩ := form_pow h0 h
  rw [e]
  have mono : ∀ a b : Nat, a ≤ b → (2 : Int) ^ a ≤ 2 ^ b := fun a b hab => by
    rw [two_pow_int, two_pow_int]
    exact_mod_cast Nat.pow_le_pow_right (by decide) hab
  have : j = k := by
    rcases Nat.lt_trichotomy j k with hjk | hjk | hjk
    · have := h2 (by omega)
      have := mono j (k - 1) (by omega)
      omega
    · exact hjk
    · have := g2 (by omega)
      have := mono k (j - 1) (by omega)
      omega
  rw [this]

def spanL (op a A b B : Int) : Int × Int :=
  if a = A ∧ b = B then (doL op a b, doL op a b)
  else if op = 1 then (if 18446744073709551615 < A + B then (0, 18446744073709551615) else (a + b, A + B))
  else if op = 2 then (if a < B then (0, 18446744073709551615) else (a - B, A - b))
  else if op = 3 then (if 18446744073709551615 < A * B then (0, 18446744073709551615) else (a * b, A * B))
  else if op = 4 then (if b = 0 then (0, A) else (a / B, A / b))
  else if op = 5 then (if b = 0 then (0, A) else if A < b then (a, A) else (0, min A (B - 1)))
  else if op = 6 then (0, min A B)
  else if op = 7 then (max a b, formL (max A B))
  else if op = 8 then (0, formL (max A B))
  else if op = 9 then (if b = B ∧ A * 2 ^ min b.toNat 64 ≤ 18446744073709551615 then (a * 2 ^ min b.toNat 64, A * 2 ^ min b.toNat 64) else (0, 18446744073709551615))
  else (a / 2 ^ min B.toNat 64, A / 2 ^ min b.toNat 64)

theorem and_le {x y : Int} (hx : W64 x) (hy : W64 y) : bits .and .u64 x y ≤ x ∧ bits .and .u64 x y ≤ y := by
  rw [and_bv, BitVec.toNat_and]
  have h1 := bv_toNat hx.1 (by have := hx.2; omega)
  have h2 := bv_toNat hy.1 (by have := hy.2; omega)
  have h3 := Nat.and_le_left (n := (bv x).toNat) (m := (bv y).toNat)
  have h4 := Nat.and_le_right (n := (bv x).toNat) (m := (bv y).toNat)
  omega
theorem or_ge {x y : Int} (hx : W64 x) (hy : W64 y) : x ≤ bits .or .u64 x y ∧ y ≤ bits .or .u64 x y := by
  rw [or_bv, BitVec.toNat_or]
  have h1 := bv_toNat hx.1 (by have := hx.2; omega)
  have h2 := bv_toNat hy.1 (by have := hy.2; omega)
  have h3 := Nat.left_le_or (n := (bv x).toNat) (m := (bv y).toNat)
  have h4 := Nat.right_le_or (n := (bv x).toNat) (m := (bv y).toNat)
  omega
theorem or_xor_lt {x y : Int} {k : Nat} (hx : W64 x) (hy : W64 y) (h1 : x < 2 ^ k) (h2 : y < 2 ^ k) : bits .or .u64 x y < 2 ^ k ∧ bits .xor .u64 x y < 2 ^ k := by
  rw [or_bv, xor_bv, BitVec.toNat_or, BitVec.toNat_xor]
  have e1 := bv_toNat hx.1 (by have := hx.2; omega)
  have e2 := bv_toNat hy.1 (by have := hy.2; omega)
  rw [two_pow_int] at h1 h2 ⊢
  have g1 : (bv x).toNat < 2 ^ k := by omega
  have g2 : (bv y).toNat < 2 ^ k := by omega
  have := Nat.or_lt_two_pow g1 g2
  have := Nat.xor_lt_two_pow g1 g2
  omega
theorem pow_min_mono {i j : Nat} (h : i ≤ j) : (2 : Int) ^ min i 64 ≤ 2 ^ min j 64 := by
  rw [two_pow_int, two_pow_int]
  exact_mod_cast Nat.pow_le_pow_right (by decide) (by omega)
theorem div_mono {x X d D : Int} (hx : 0 ≤ x) (hX : x ≤ X) (hd : 0 < d) (hD : d ≤ D) : x / D ≤ X / d := by
  have h1 : x / D ≤ X / D := Int.ediv_le_ediv (by omega) hX
  have h0 : 0 ≤ X / D := Int.ediv_nonneg (by omega) (by omega)
  have h2 : X / D ≤ X / d := by
    rw [Int.le_ediv_iff_mul_le hd]
    have h3 : X / D * d ≤ X / D * D := Int.mul_le_mul_of_nonneg_left hD h0
    have h4 : X / D * D ≤ X := Int.ediv_mul_le _ (by omega)
    omega
  omega

/-- P6.4. -/
theorem span_sound {op a A b B x y : Int} (hop : 1 ≤ op ∧ op ≤ 10) (ha : 0 ≤ a) (hA : A ≤ 18446744073709551615) (hb : 0 ≤ b) (hB : B ≤ 18446744073709551615) (hx : a ≤ x ∧ x ≤ A) (hy : b ≤ y ∧ y ≤ B) :
    (spanL op a A b B).1 ≤ doL op x y ∧ doL op x y ≤ (spanL op a A b B).2 := by
  have Wx : W64 x := ⟨by omega, by omega⟩
  have Wy : W64 y := ⟨by omega, by omega⟩
  have hin := doL_in op Wx Wy
  unfold W64 at hin
  unfold spanL
  by_cases hs : a = A ∧ b = B
  · rw [if_pos hs]
    obtain ⟨rfl, rfl⟩ := hs
    obtain rfl : x = a := by omega
    obtain rfl : y = b := by omega
    exact ⟨Int.le_refl _, Int.le_refl _⟩
  rw [if_neg hs]
  by_cases h1 : op = 1
  · subst h1
    rw [if_pos rfl]
    split
    · exact hin
    · show a + b ≤ (x + y) % 18446744073709551616 ∧ (x + y) % 18446744073709551616 ≤ A + B
      omega
  rw [if_neg h1]
  by_cases h2 : op = 2
  · subst h2
    rw [if_pos rfl]
    split
    · exact hin
    · show a - B ≤ (x - y) % 18446744073709551616 ∧ (x - y) % 18446744073709551616 ≤ A - b
      omega
  rw [if_neg h2]
  by_cases h3 : op = 3
  · subst h3
    rw [if_pos rfl]
    split
    · exact hin
    · show a * b ≤ x * y % 18446744073709551616 ∧ x * y % 18446744073709551616 ≤ A * B
      have g1 : a * b ≤ x * y := Int.mul_le_mul hx.1 hy.1 hb (by omega)
      have g2 : x * y ≤ A * B := Int.mul_le_mul hx.2 hy.2 (by omega) (by omega)
      have g3 : 0 ≤ a * b := Int.mul_nonneg ha hb
      rw [Int.emod_eq_of_lt (by omega) (by omega)]
      exact ⟨g1, g2⟩
  rw [if_neg h3]
  by_cases h4 : op = 4
  · subst h4
    rw [if_pos rfl]
    split
    · show 0 ≤ x / y ∧ x / y ≤ A
      have := Int.ediv_le_self (a := x) y Wx.1
      exact ⟨Int.ediv_nonneg Wx.1 Wy.1, by omega⟩
    · show a / B ≤ x / y ∧ x / y ≤ A / b
      exact ⟨div_mono ha hx.1 (by omega) hy.2, div_mono Wx.1 hx.2 (by omega) hy.1⟩
  rw [if_neg h4]
  by_cases h5 : op = 5
  · subst h5
    rw [if_pos rfl]
    have g1 : doL 5 x y = x % y := rfl
    have g2 : x % y ≤ x := by
      have e := Int.ediv_mul_add_emod x y
      have := Int.mul_nonneg (Int.ediv_nonneg Wx.1 Wy.1) Wy.1
      omega
    rw [g1] at hin ⊢
    split
    · exact ⟨hin.1, by show x % y ≤ A; omega⟩
    · split
      · show a ≤ x % y ∧ x % y ≤ A
        rw [Int.emod_eq_of_lt Wx.1 (by omega)]
        exact hx
      · have := Int.emod_lt_of_pos x (show 0 < y by omega)
        show 0 ≤ x % y ∧ x % y ≤ min A (B - 1)
        omega
  rw [if_neg h5]
  by_cases h6 : op = 6
  · subst h6
    rw [if_pos rfl]
    have g1 : doL 6 x y = bits .and .u64 x y := rfl
    rw [g1] at hin ⊢
    have := and_le Wx Wy
    show 0 ≤ bits .and .u64 x y ∧ bits .and .u64 x y ≤ min A B
    omega
  rw [if_neg h6]
  obtain ⟨k, hk, e, g1, _⟩ := form_pow (n := max A B) (by omega) (by omega)
  by_cases h7 : op = 7
  · subst h7
    rw [if_pos rfl]
    have q := or_ge Wx Wy
    have r := (or_xor_lt (k := k) Wx Wy (by omega) (by omega)).1
    show max a b ≤ bits .or .u64 x y ∧ bits .or .u64 x y ≤ formL (max A B)
    omega
  rw [if_neg h7]
  by_cases h8 : op = 8
  · subst h8
    rw [if_pos rfl]
    have r := (or_xor_lt (k := k) Wx Wy (by omega) (by omega)).2
    have q := bits_le .xor x y
    show 0 ≤ bits .xor .u64 x y ∧ bits .xor .u64 x y ≤ formL (max A B)
    omega
  rw [if_neg h8]
  by_cases h9 : op = 9
  · subst h9
    rw [if_pos rfl]
    split
    · rename_i hc
      obtain ⟨rfl, hc⟩ := hc
      obtain rfl : y = b := by omega
      have hp := pow_pos_int (min y.toNat 64)
      have r1 : a * 2 ^ min y.toNat 64 ≤ x * 2 ^ min y.toNat 64 := Int.mul_le_mul_of_nonneg_right hx.1 (by omega)
      have r2 : x * 2 ^ min y.toNat 64 ≤ A * 2 ^ min y.toNat 64 := Int.mul_le_mul_of_nonneg_right hx.2 (by omega)
      have r0 : 0 ≤ a * 2 ^ min y.toNat 64 := Int.mul_nonneg ha (by omega)
      show a * 2 ^ min y.toNat 64 ≤ x * 2 ^ min y.toNat 64 % 18446744073709551616 ∧ x * 2 ^ min y.toNat 64 % 18446744073709551616 ≤ A * 2 ^ min y.toNat 64
      rw [Int.emod_eq_of_lt (by omega) (by omega)]
      exact ⟨r1, r2⟩
    · exact hin
  rw [if_neg h9]
  obtain rfl : op = 10 := by omega
  show a / 2 ^ min B.toNat 64 ≤ x / 2 ^ min y.toNat 64 ∧ x / 2 ^ min y.toNat 64 ≤ A / 2 ^ min b.toNat 64
  exact ⟨div_mono ha hx.1 (pow_pos_int _) (pow_min_mono (by omega)), div_mono Wx.1 hx.2 (pow_pos_int _) (pow_min_mono (by omega))⟩
/-- What is made is right, and of 64 bits. -/
theorem span_right {op a A b B : Int} (hop : 1 ≤ op ∧ op ≤ 10) (ha : 0 ≤ a) (hA : A ≤ 18446744073709551615) (hb : 0 ≤ b) (hB : B ≤ 18446744073709551615) (h1 : a ≤ A) (h2 : b ≤ B) :
    (spanL op a A b B).1 ≤ (spanL op a A b B).2 := by
  have h := span_sound hop ha hA hb hB (x := a) (y := b) ⟨by omega, by omega⟩ ⟨by omega, by omega⟩
  omega

/-! Conditions. -/
def lessB (op : Int) (h : Bool) : Bool := (op == 18 && h) || (op == 19 && !h)
def sameB (op : Int) (h : Bool) : Bool := (op == 16 && h) || (op == 17 && !h)
/-- What is left of a span, if anything is. -/
def refineL (op a A b B : Int) (h : Bool) : Option (Int × Int) :=
  if b ≠ B then some (a, A)
  else if lessB op h = true then (if b ≤ a then none else some (a, min A (b - 1)))
  else if 18 ≤ op then (if A < b then none else some (max a b, A))
  else if sameB op h = true then (if a ≤ b ∧ b ≤ A then some (b, b) else none)
  else if a = b ∧ A = b then none
  else if a = b then some (b + 1, A)
  else if A = b then some (a, b - 1)
  else some (a, A)
/-- P6.6. -/
theorem refine_sound {op a A b B x y : Int} {h : Bool} (hop : 16 ≤ op ∧ op ≤ 19) (hx : a ≤ x ∧ x ≤ A) (hy : b ≤ y ∧ y ≤ B) (hh : holdL op x y = h) :
    ∃ l u, refineL op a A b B h = some (l, u) ∧ l ≤ x ∧ x ≤ u ∧ a ≤ l ∧ u ≤ A := by
  unfold refineL
  by_cases hs : b ≠ B
  · rw [if_pos hs]
    exact ⟨a, A, rfl, hx.1, hx.2, Int.le_refl _, Int.le_refl _⟩
  rw [if_neg hs]
  obtain rfl : b = B := by omega
  obtain rfl : y = b := by omega
  have hc : op = 16 ∨ op = 17 ∨ op = 18 ∨ op = 19 := by omega
  subst hh
  rcases hc with rfl | rfl | rfl | rfl
  · have e : holdL 16 x y = (x == y) := rfl
    rw [e]
    by_cases hxy : x = y
    · subst hxy
      rw [beq_self_eq_true]
      rw [if_neg (show ¬ lessB 16 true = true by decide), if_neg (show ¬ (18 : Int) ≤ 16 by decide), if_pos (show sameB 16 true = true by decide), if_pos hx]
      exact ⟨x, x, rfl, Int.le_refl _, Int.le_refl _, hx.1, hx.2⟩
    · rw [beq_eq_false_iff_ne.2 hxy]
      rw [if_neg (show ¬ lessB 16 false = true by decide), if_neg (show ¬ (18 : Int) ≤ 16 by decide), if_neg (show ¬ sameB 16 false = true by decide)]
      by_cases h1 : a = y ∧ A = y
      · omega
      rw [if_neg h1]
      by_cases h2 : a = y
      · rw [if_pos h2]
        exact ⟨y + 1, A, rfl, by omega, by omega, by omega, by omega⟩
      rw [if_neg h2]
      by_cases h3 : A = y
      · rw [if_pos h3]
        exact ⟨a, y - 1, rfl, by omega, by omega, by omega, by omega⟩
      rw [if_neg h3]
      exact ⟨a, A, rfl, by omega, by omega, by omega, by omega⟩
  · have e : holdL 17 x y = (x != y) := rfl
    rw [e]
    unfold bne
    by_cases hxy : x = y
    · subst hxy
      rw [beq_self_eq_true, Bool.not_true]
      rw [if_neg (show ¬ lessB 17 false = true by decide), if_neg (show ¬ (18 : Int) ≤ 17 by decide), if_pos (show sameB 17 false = true by decide), if_pos hx]
      exact ⟨x, x, rfl, Int.le_refl _, Int.le_refl _, hx.1, hx.2⟩
    · rw [beq_eq_false_iff_ne.2 hxy, Bool.not_false]
      rw [if_neg (show ¬ lessB 17 true = true by decide), if_neg (show ¬ (18 : Int) ≤ 17 by decide), if_neg (show ¬ sameB 17 true = true by decide)]
      by_cases h1 : a = y ∧ A = y
      · omega
      rw [if_neg h1]
      by_cases h2 : a = y
      · rw [if_pos h2]
        exact ⟨y + 1, A, rfl, by omega, by omega, by omega, by omega⟩
      rw [if_neg h2]
      by_cases h3 : A = y
      · rw [if_pos h3]
        exact ⟨a, y - 1, rfl, by omega, by omega, by omega, by omega⟩
      rw [if_neg h3]
      exact ⟨a, A, rfl, by omega, by omega, by omega, by omega⟩
  · have e : holdL 18 x y = decide (x < y) := rfl
    rw [e]
    by_cases hxy : x < y
    · rw [decide_eq_true hxy]
      rw [if_pos (show lessB 18 true = true by decide), if_neg (by omega)]
      exact ⟨a, min A (y - 1), rfl, by omega, by omega, by omega, by omega⟩
    · rw [decide_eq_false hxy]
      rw [if_neg (show ¬ lessB 18 false = true by decide), if_pos (show (18 : Int) ≤ 18 by decide), if_neg (by omega)]
      exact ⟨max a y, A, rfl, by omega, by omega, by omega, by omega⟩
  · have e : holdL 19 x y = decide (y ≤ x) := rfl
    rw [e]
    by_cases hxy : y ≤ x
    · rw [decide_eq_true hxy]
      rw [if_neg (show ¬ lessB 19 true = true by decide), if_pos (show (18 : Int) ≤ 19 by decide), if_neg (by omega)]
      exact ⟨max a y, A, rfl, by omega, by omega, by omega, by omega⟩
    · rw [decide_eq_false hxy]
      rw [if_pos (show lessB 19 false = true by decide), if_neg (by omega)]
      exact ⟨a, min A (y - 1), rfl, by omega, by omega, by omega, by omega⟩
end Go.Proofs.Ytkcofelpndlplaa
/-
  The least and the greatest of a list; spans joined and met (joinL, meetL): neither the order nor how often one stands there matters. Plain.
-/
namespace Go.Proofs.Ytkcofelpndlplaa
open Go.RowKit
set_option linter.unusedVariables false

def minF : List Int → Int
  | [] => 0
  | x :: r => r.foldl min x
def maxF : List Int → Int
  | [] => 0
  | x :: r => r.foldl max x
theorem foldl_min (r : List Int) : ∀ x : Int, r.foldl min x ≤ x ∧ (∀ y ∈ r, r.foldl min x ≤ y) ∧ (r.foldl min x = x ∨ r.foldl min x ∈ r) := by
  induction r with
  | nil => intro x; simp
  | cons z r ih =>
    intro x
    obtain ⟨h1, h2, h3⟩ := ih (min x z)
    refine ⟨by show r.foldl min (min x z) ≤ x; omega, fun y hy => ?_, ?_⟩
    · show r.foldl min (min x z) ≤ y
      rcases List.mem_cons.1 hy with rfl | hy
      · omega
      · exact h2 y hy
    · show r.foldl min (min x z) = x ∨ r.foldl min (min x z) ∈ z :: r
      rcases h3 with h3 | h3
      · by_cases hc : x ≤ z
        · left; rw [h3]; omega
        · right; rw [h3, Int.min_eq_right (by omega)]; simp
      · right; simp [h3]
theorem foldl_max (r : List Int) : ∀ x : Int, x ≤ r.foldl max x ∧ (∀ y ∈ r, y ≤ r.foldl max x) ∧ (r.foldl max x = x ∨ r.foldl max x ∈ r) := by
  induction r with
  | nil => intro x; simp
  | cons z r ih =>
    intro x
    obtain ⟨h1, h2, h3⟩ := ih (max x z)
    refine ⟨by show x ≤ r.foldl max (max x z); omega, fun y hy => ?_, ?_⟩
    · show y ≤ r.foldl max (max x z)
      rcases List.mem_cons.1 hy with rfl | hy
      · omega
      · exact h2 y hy
    · show r.foldl max (max x z) = x ∨ r.foldl max (max x z) ∈ z :: r
      rcases h3 with h3 | h3
      · by_cases hc : z ≤ x
        · left; rw [h3]; omega
        · right; rw [h3, Int.max_eq_right (by omega)]; simp
      · right; simp [h3]
theorem minF_le {xs : List Int} {y : Int} (h : y ∈ xs) : minF xs ≤ y := by
  cases xs with
  | nil => simp at h
  | cons x r =>
    rcases List.mem_cons.1 h with rfl | h
    · exact (foldl_min r _).1
    · exact (foldl_min r x).2.1 y h
theorem le_maxF {xs : List Int} {y : Int} (h : y ∈ xs) : y ≤ maxF xs := by
  cases xs with
  | nil => simp at h
  | cons x r =>
    rcases List.mem_cons.1 h with rfl | h
    · exact (foldl_max r _).1
    · exact (foldl_max r x).2.1 y h
theorem minF_mem {xs : List Int} (h : xs ≠ []) : minF xs ∈ xs := by
  cases xs with
  | nil => exact absurd rfl h
  | cons x r =>
    show r.foldl min x ∈ x :: r
    rcases (foldl_min r x).2.2 with h | h
    · rw [h]; simp
    · simp [h]
theorem maxF_mem {xs : List Int} (h : xs ≠ []) : maxF xs ∈ xs := by
  cases xs with
  | nil => exact absurd rfl h
  | cons x r =>
    show r.foldl max x ∈ x :: r
    rcases (foldl_max r x).2.2 with h | h
    · rw [h]; simp
    · simp [h]
theorem minF_same {xs ys : List Int} (hx : xs ≠ []) (h : ∀ x, x ∈ xs ↔ x ∈ ys) : minF xs = minF ys := by
  have hy : ys ≠ [] := by intro e; subst e; exact absurd ((h _).1 (minF_mem hx)) (by simp)
  have h1 := minF_le ((h _).2 (minF_mem hy))
  have h2 := minF_le ((h _).1 (minF_mem hx))
  omega
theorem maxF_same {xs ys : List Int} (hx : xs ≠ []) (h : ∀ x, x ∈ xs ↔ x ∈ ys) : maxF xs = maxF ys := by
  have hy : ys ≠ [] := by intro e; subst e; exact absurd ((h _).1 (maxF_mem hx)) (by simp)
  have h1 := le_maxF ((h _).2 (maxF_mem hy))
  have h2 := le_maxF ((h _).1 (maxF_mem hx))
  omega
theorem minF_snoc {xs : List Int} (h : xs ≠ []) (y : Int) : minF (xs ++ [y]) = min (minF xs) y := by
  cases xs with
  | nil => exact absurd rfl h
  | cons x r => show (r ++ [y]).foldl min x = min (r.foldl min x) y; rw [List.foldl_append]; rfl
theorem maxF_snoc {xs : List Int} (h : xs ≠ []) (y : Int) : maxF (xs ++ [y]) = max (maxF xs) y := by
  cases xs with
  | nil => exact absurd rfl h
  | cons x r => show (r ++ [y]).foldl max x = max (r.foldl max x) y; rw [List.foldl_append]; rfl

/-! A span is a pair of its ends. -/
def okS (s : Int × Int) : Bool := decide (s.1 ≤ s.2)
def loF (ss : List (Int × Int)) : Int := minF (ss.map (·.1))
def hiF (ss : List (Int × Int)) : Int := maxF (ss.map (·.2))
def loM (ss : List (Int × Int)) : Int := maxF (ss.map (·.1))
def hiM (ss : List (Int × Int)) : Int := minF (ss.map (·.2))
def joinB (ss : List (Int × Int)) : Bool := !ss.isEmpty && ss.all okS
def meetB (ss : List (Int × Int)) : Bool := joinB ss && decide (loM ss ≤ hiM ss)
def joinL (ss : List (Int × Int)) : Int × Int := if joinB ss = true then (loF ss, hiF ss) else (0, 0)
def meetL (ss : List (Int × Int)) : Int × Int := if meetB ss = true then (loM ss, hiM ss) else (0, 0)
theorem map_same {ss ts : List (Int × Int)} (f : Int × Int → Int) (h : ∀ s, s ∈ ss ↔ s ∈ ts) : ∀ x, x ∈ ss.map f ↔ x ∈ ts.map f := by
  intro x
  simp only [List.mem_map]
  constructor
  · rintro ⟨s, hs, rfl⟩; exact ⟨s, (h s).1 hs, rfl⟩
  · rintro ⟨s, hs, rfl⟩; exact ⟨s, (h s).2 hs, rfl⟩
theorem empty_same {ss ts : List (Int × Int)} (h : ∀ s, s ∈ ss ↔ s ∈ ts) : ss.isEmpty = ts.isEmpty := by
  cases ss with
  | nil =>
    cases ts with
    | nil => rfl
    | cons t ts => exact absurd ((h t).2 (by simp)) (by simp)
  | cons s ss =>
    cases ts with
    | nil => exact absurd ((h s).1 (by simp)) (by simp)
    | cons t ts => rfl
theorem all_same {ss ts : List (Int × Int)} (h : ∀ s, s ∈ ss ↔ s ∈ ts) : ss.all okS = ts.all okS := by
  rw [Bool.eq_iff_iff, List.all_eq_true, List.all_eq_true]
  exact ⟨fun g s hs => g s ((h s).2 hs), fun g s hs => g s ((h s).1 hs)⟩
theorem joinB_same {ss ts : List (Int × Int)} (h : ∀ s, s ∈ ss ↔ s ∈ ts) : joinB ss = joinB ts := by
  unfold joinB; rw [empty_same h, all_same h]
theorem ends_same {ss ts : List (Int × Int)} (hne : ss ≠ []) (h : ∀ s, s ∈ ss ↔ s ∈ ts) : loF ss = loF ts ∧ hiF ss = hiF ts ∧ loM ss = loM ts ∧ hiM ss = hiM ts := by
  have g : ∀ f : Int × Int → Int, ss.map f ≠ [] := fun f e => hne (List.map_eq_nil_iff.1 e)
  exact ⟨minF_same (g _) (map_same _ h), maxF_same (g _) (map_same _ h), maxF_same (g _) (map_same _ h), minF_same (g _) (map_same _ h)⟩
theorem joinB_ne {ss : List (Int × Int)} (h : joinB ss = true) : ss ≠ [] ∧ ∀ s ∈ ss, s.1 ≤ s.2 := by
  unfold joinB at h
  rw [Bool.and_eq_true] at h
  refine ⟨fun e => by subst e; simp at h, fun s hs => ?_⟩
  exact of_decide_eq_true (List.all_eq_true.1 h.2 s hs)
theorem meetB_same {ss ts : List (Int × Int)} (h : ∀ s, s ∈ ss ↔ s ∈ ts) : meetB ss = meetB ts := by
  unfold meetB
  rw [← joinB_same h]
  cases hj : joinB ss with
  | false => rfl
  | true =>
    obtain ⟨_, _, e1, e2⟩ := ends_same (joinB_ne hj).1 h
    rw [e1, e2]
theorem join_same {ss ts : List (Int × Int)} (h : ∀ s, s ∈ ss ↔ s ∈ ts) : joinL ss = joinL ts := by
  unfold joinL
  rw [← joinB_same h]
  split
  · rename_i hj
    obtain ⟨e1, e2, _, _⟩ := ends_same (joinB_ne hj).1 h
    rw [e1, e2]
  · rfl
theorem meet_same {ss ts : List (Int × Int)} (h : ∀ s, s ∈ ss ↔ s ∈ ts) : meetL ss = meetL ts := by
  unfold meetL
  rw [← meetB_same h]
  split
  · rename_i hm
    have hj : joinB ss = true := by unfold meetB at hm; rw [Bool.and_eq_true] at hm; exact hm.1
    obtain ⟨_, _, e1, e2⟩ := ends_same (joinB_ne hj).1 h
    rw [e1, e2]
  · rfl
/-- Each is within the join, the meet within each. -/
theorem join_holds {ss : List (Int × Int)} (h : joinB ss = true) {s : Int × Int} (hs : s ∈ ss) : (joinL ss).1 ≤ s.1 ∧ s.2 ≤ (joinL ss).2 ∧ (joinL ss).1 ≤ (joinL ss).2 := by
  unfold joinL
  rw [if_pos h]
  have h1 : loF ss ≤ s.1 := minF_le (List.mem_map.2 ⟨s, hs, rfl⟩)
  have h2 : s.2 ≤ hiF ss := le_maxF (List.mem_map.2 ⟨s, hs, rfl⟩)
  have h3 := (joinB_ne h).2 s hs
  exact ⟨h1, h2, by show loF ss ≤ hiF ss; omega⟩
theorem meet_holds {ss : List (Int × Int)} (h : meetB ss = true) {s : Int × Int} (hs : s ∈ ss) : s.1 ≤ (meetL ss).1 ∧ (meetL ss).2 ≤ s.2 ∧ (meetL ss).1 ≤ (meetL ss).2 := by
  unfold meetL
  rw [if_pos h]
  have h1 : s.1 ≤ loM ss := le_maxF (List.mem_map.2 ⟨s, hs, rfl⟩)
  have h2 : hiM ss ≤ s.2 := minF_le (List.mem_map.2 ⟨s, hs, rfl⟩)
  refine ⟨h1, h2, ?_⟩
  unfold meetB at h
  rw [Bool.and_eq_true] at h
  exact of_decide_eq_true h.2
end Go.Proofs.Ytkcofelpndlplaa
/-
  What arith.Do and arith.Holds answer: the plain functions doL and holdL, and whether the operation is one; memory stays. Condition: both numbers are of 64 bits.
-/
namespace Go.Proofs.Ytkcofelpndlplaa
open Go.RowKit
set_option linter.unusedVariables false

theorem quo_any (a b : Int) (w : World) (ha : 0 ≤ a ∧ a ≤ 18446744073709551615) (hb : 0 ≤ b ∧ b ≤ 18446744073709551615) :
    Calls Try.prog 78 #[.int .u64 a, .int .u64 b] w fun e w' => e = .returned (.int .u64 (a / b)) ∧ w = w' := by
  by_cases h : b = 0
  · subst h
    go_enter Try.func78, Try.ntmps78
    go_wp2
    go_ret
    exact ⟨ret1 (by simp), rfl⟩
  · have h' : (b == 0) = false := by simpa using h
    go_enter Try.func78, Try.ntmps78
    go_wp2
    go_ret
    exact ⟨rfl, rfl⟩
theorem rest_any (a b : Int) (w : World) (ha : 0 ≤ a ∧ a ≤ 18446744073709551615) (hb : 0 ≤ b ∧ b ≤ 18446744073709551615) :
    Calls Try.prog 79 #[.int .u64 a, .int .u64 b] w fun e w' => e = .returned (.int .u64 (a % b)) ∧ w = w' := by
  by_cases h : b = 0
  · subst h
    go_enter Try.func79, Try.ntmps79
    go_wp2
    go_ret
    exact ⟨ret1 (by simp), rfl⟩
  · have h' : (b == 0) = false := by simpa using h
    go_enter Try.func79, Try.ntmps79
    go_wp2
    go_ret
    exact ⟨rfl, rfl⟩

theorem do_end {op a b x : Int} {c : Bool} {P : Prop} (h1 : x = doL op a b) (h2 : c = isOp op) (hP : P) : Ending.returned (.tuple #[.int .u64 x, .bool c]) = .returned (.tuple #[.int .u64 (doL op a b), .bool (isOp op)]) ∧ P := ⟨ret2 h1 h2, hP⟩

set_option maxHeartbeats 400000 in
theorem do_any (op a b : Int) (w : World) (ha : 0 ≤ a ∧ a ≤ 18446744073709551615) (hb : 0 ≤ b ∧ b ≤ 18446744073709551615) :
    Calls Try.prog 70 #[.int .i64 op, .int .u64 a, .int .u64 b] w fun e w' =>
      e = .returned (.tuple #[.int .u64 (doL op a b), .bool (isOp op)]) ∧ w = w' := by
  go_enter Try.func70, Try.ntmps70
  go_wp2_with (first
    | (go_at_call 78; refine (quo_any _ _ _ ha hb).mono ?_; rintro e w' ⟨rfl, rfl⟩)
    | (go_at_call 79; refine (rest_any _ _ _ ha hb).mono ?_; rintro e w' ⟨rfl, rfl⟩))
  all_goals go_ret2
  all_goals simp only [beq_iff_eq, beq_eq_false_iff_ne, ne_eq] at *
  all_goals first
    | (subst op; exact do_end (by simp [doL, IntKind.wrap_u64]) rfl (by trivial))
    | (refine do_end ?_ ?_ (by trivial)
       · unfold doL; repeat rw [if_neg (by assumption)]
       · unfold isOp; symm; apply decide_eq_false; omega)

theorem hold_end {op a b : Int} {x c : Bool} {P : Prop} (h1 : x = holdL op a b) (h2 : c = isCond op) (hP : P) : Ending.returned (.tuple #[.bool x, .bool c]) = .returned (.tuple #[.bool (holdL op a b), .bool (isCond op)]) ∧ P := ⟨ret2b h1 h2, hP⟩

theorem holds_any (op a b : Int) (w : World) (ha : 0 ≤ a ∧ a ≤ 18446744073709551615) (hb : 0 ≤ b ∧ b ≤ 18446744073709551615) :
    Calls Try.prog 61 #[.int .i64 op, .int .u64 a, .int .u64 b] w fun e w' =>
      e = .returned (.tuple #[.bool (holdL op a b), .bool (isCond op)]) ∧ w = w' := by
  go_enter Try.func61, Try.ntmps61
  go_wp2
  all_goals go_ret2
  all_goals simp only [beq_iff_eq, beq_eq_false_iff_ne, ne_eq] at *
  all_goals first
    | (subst op; exact hold_end rfl rfl (by trivial))
    | (refine hold_end ?_ ?_ (by trivial)
       · unfold holdL; repeat rw [if_neg (by assumption)]
       · unfold isCond; symm; apply decide_eq_false; omega)
end Go.Proofs.Ytkcofelpndlplaa
/-
  What the document's Do and Holds answer: the same plain functions doL and holdL; memory stays. Condition: both numbers are of 64 bits.
-/
namespace Go.Proofs.Ytkcofelpndlplaa
open Go.RowKit
set_option linter.unusedVariables false

/-- What turns to 0 and stays so, and is 0 at 64. -/
theorem till_zero {f : Nat → Int} (h64 : f 64 = 0) (hz : ∀ i n, i ≤ n → f i = 0 → f n = 0) {i b : Nat} (hi : i ≤ b) (h : i = b ∨ f i = 0) : f i = f (min b 64) := by
  by_cases hb : b ≤ 64
  · rw [Nat.min_eq_left hb]
    rcases h with rfl | h
    · rfl
    · rw [h, hz i b hi h]
  · rw [Nat.min_eq_right (by omega), h64]
    rcases h with rfl | h
    · exact hz 64 i (by omega) h64
    · exact h
theorem shl_zero (a : Int) : a * 2 ^ 64 % 18446744073709551616 = 0 := by
  have e : (2 : Int) ^ 64 = 18446744073709551616 := by decide
  rw [e]; omega
theorem shl_stays (a : Int) (i n : Nat) (h : i ≤ n) (hz : a * 2 ^ i % 18446744073709551616 = 0) : a * 2 ^ n % 18446744073709551616 = 0 := by
  obtain ⟨j, rfl⟩ := Nat.exists_eq_add_of_le h
  rw [Int.pow_add, ← Int.mul_assoc, Int.mul_emod, hz]
  simp
theorem shr_zero (a : Int) (h0 : 0 ≤ a) (h : a ≤ 18446744073709551615) : a / 2 ^ 64 = 0 := by
  have e : (2 : Int) ^ 64 = 18446744073709551616 := by decide
  rw [e]; omega
theorem div_pow_add (a : Int) (i j : Nat) : a / 2 ^ (i + j) = a / 2 ^ i / 2 ^ j := by
  rw [Int.pow_add, Int.ediv_ediv_of_nonneg (Int.le_of_lt (pow_pos_int i))]
theorem shr_stays (a : Int) (i n : Nat) (h : i ≤ n) (hz : a / 2 ^ i = 0) : a / 2 ^ n = 0 := by
  obtain ⟨j, rfl⟩ := Nat.exists_eq_add_of_le h
  rw [div_pow_add, hz]
  simp
theorem shl_next (a : Int) (i : Nat) : (a * 2 ^ i % 18446744073709551616 + a * 2 ^ i % 18446744073709551616) % 18446744073709551616 = a * 2 ^ (i + 1) % 18446744073709551616 := by
  rw [Int.pow_succ, ← Int.mul_assoc]
  generalize a * 2 ^ i = z
  omega

end Go.Proofs.Ytkcofelpndlplaa
/-
  What the document's Do answers at every operation: the plain function doL; memory stays. Condition: both numbers are of 64 bits.
-/
namespace Go.Proofs.Ytkcofelpndlplaa
open Go.RowKit
set_option linter.unusedVariables false

end Go.Proofs.Ytkcofelpndlplaa
/-
  What arith.Do, arith.Holds and the document's Do answer, as letters; memory stays. Condition: numbers of 64 bits.
-/
namespace Go.Proofs.Ytkcofelpndlplaa
open Go.RowKit
set_option linter.unusedVariables false

/-! The same, what is answered as letters. -/
theorem do_as {op a b n : Int} {c : Bool} (h1 : Hid (n = doL op a b)) (h2 : Hid (c = isOp op)) (w : World) (ha : 0 ≤ a ∧ a ≤ 18446744073709551615) (hb : 0 ≤ b ∧ b ≤ 18446744073709551615) :
    Calls Try.prog 70 #[.int .i64 op, .int .u64 a, .int .u64 b] w fun e w' => e = .returned (.tuple #[.int .u64 n, .bool c]) ∧ w = w' := by
  rw [h1.out, h2.out]; exact do_any op a b w ha hb
theorem holds_as {op a b : Int} {n c : Bool} (h1 : Hid (n = holdL op a b)) (h2 : Hid (c = isCond op)) (w : World) (ha : 0 ≤ a ∧ a ≤ 18446744073709551615) (hb : 0 ≤ b ∧ b ≤ 18446744073709551615) :
    Calls Try.prog 61 #[.int .i64 op, .int .u64 a, .int .u64 b] w fun e w' => e = .returned (.tuple #[.bool n, .bool c]) ∧ w = w' := by
  rw [h1.out, h2.out]; exact holds_any op a b w ha hb
end Go.Proofs.Ytkcofelpndlplaa
