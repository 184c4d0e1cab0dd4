/-
  The plain mathematics of numbers in groups of seven bits: what Put lays, what Get reads, over lists of integers. No Go text in sight, no condition.
-/
import Derived.WalkKit
import Derived.Laws.BitsAllLaws
namespace Go.Proofs.Ytbhiaclgakhcdaa
open Go.RowKit
set_option linter.unusedVariables false

/-- The encoding of a number, with so many bytes more at the most. -/
def encF : Nat → Int → List Int
  | 0, n => [n]
  | f + 1, n => if n < 128 then [n] else (n % 128 + 128) :: encF f (n / 128)
/-- The encoding of a number below 2^64. -/
def enc (n : Int) : List Int := encF 9 n
/-- The encodings, one behind the other. -/
def encs (ns : List Int) : List Int := ns.flatMap enc

/-- What Get tells of bytes, from the byte number k on, X read so far: the number, the width, the error. -/
def getL : Nat → Int → List Int → Int × Int × Int
  | _, _, [] => (0, 0, 10)
  | k, X, c :: r =>
    if k = 9 ∧ 1 < c then (0, 0, 12)
    else if 0 < k ∧ c = 0 then (0, 0, 12)
    else if c < 128 then (X + c % 128 * 2 ^ (7 * k), k + 1, 0)
    else getL (k + 1) (X + c % 128 * 2 ^ (7 * k)) r

theorem or_add (X c : Int) (k : Nat) (hX0 : 0 ≤ X) (hX : X < 2 ^ (7 * k)) (hc0 : 0 ≤ c) (hc : c < 128) (hk : k ≤ 9) (h9 : k = 9 → c ≤ 1) :
    bits .or .u64 X (c * 2 ^ (7 * k)) = X + c * 2 ^ (7 * k) := by
  have hp : (0 : Int) < 2 ^ (7 * k) := Int.pow_pos (by decide)
  have hn : 0 ≤ c * 2 ^ (7 * k) := Int.mul_nonneg hc0 (by omega)
  have hcap : c * 2 ^ (7 * k) < 18446744073709551616 ∧ (2 : Int) ^ (7 * k) ≤ 9223372036854775808 := by
    obtain h | h | h | h | h | h | h | h | h | h : k = 0 ∨ k = 1 ∨ k = 2 ∨ k = 3 ∨ k = 4 ∨ k = 5 ∨ k = 6 ∨ k = 7 ∨ k = 8 ∨ k = 9 := by omega
    all_goals (subst h; simp at *; omega)
  rw [u64_or X (c * 2 ^ (7 * k)) hX0 (by omega) hn hcap.1]
  obtain ⟨x, rfl⟩ := Int.eq_ofNat_of_zero_le hX0
  obtain ⟨d, rfl⟩ := Int.eq_ofNat_of_zero_le hc0
  have e1 : ((d : Int) * 2 ^ (7 * k)).toNat = d * 2 ^ (7 * k) := by
    have : ((d : Int) * 2 ^ (7 * k)) = ((d * 2 ^ (7 * k) : Nat) : Int) := by simp
    rw [this]; exact Int.toNat_natCast _
  have hx : x < 2 ^ (7 * k) := by exact_mod_cast hX
  rw [e1, Int.toNat_natCast, Nat.or_comm, nat_join (7 * k) _ _ (by simp) hx]
  simp; omega
theorem or_add' (X c : Int) (k : Nat) (hX0 : 0 ≤ X) (hX : X < 2 ^ (7 * k)) (hc0 : 0 ≤ c) (hc : c ≤ 255) (hk : k ≤ 9) (h9 : k = 9 → c ≤ 1) :
    bits .or .u64 X (IntKind.u64.wrap (c % 128 * 2 ^ (7 * k))) = X + c % 128 * 2 ^ (7 * k) := by
  have hcap : 0 ≤ c % 128 * 2 ^ (7 * k) ∧ c % 128 * 2 ^ (7 * k) < 18446744073709551616 := by
    obtain h | h | h | h | h | h | h | h | h | h : k = 0 ∨ k = 1 ∨ k = 2 ∨ k = 3 ∨ k = 4 ∨ k = 5 ∨ k = 6 ∨ k = 7 ∨ k = 8 ∨ k = 9 := by omega
    all_goals (subst h; simp at *; omega)
  rw [IntWalk.u64_in _ ⟨hcap.1, by omega⟩]
  exact or_add X (c % 128) k hX0 hX (by omega) (by omega) hk (by omega)
theorem or9 (X c : Int) (hX0 : 0 ≤ X) (hX : X < 2 ^ (7 * 9)) (hc0 : 0 ≤ c) (hc : c ≤ 1) :
    bits .or .u64 X (c % 128 * 9223372036854775808) = X + c % 128 * 2 ^ (7 * 9) := by
  have h := or_add X (c % 128) 9 hX0 hX (by omega) (by omega) (by omega) (by omega)
  simpa using h
theorem or_lt (X c : Int) (k : Nat) (hX0 : 0 ≤ X) (hX : X < 2 ^ (7 * k)) (hc0 : 0 ≤ c) (hk : k ≤ 8) :
    0 ≤ X + c % 128 * 2 ^ (7 * k) ∧ X + c % 128 * 2 ^ (7 * k) < 2 ^ (7 * (k + 1)) := by
  obtain h | h | h | h | h | h | h | h | h : k = 0 ∨ k = 1 ∨ k = 2 ∨ k = 3 ∨ k = 4 ∨ k = 5 ∨ k = 6 ∨ k = 7 ∨ k = 8 := by omega
  all_goals (subst h; simp at *; omega)

theorem getL_form {k : Nat} {X c : Int} {r : List Int} (h : (k = 9 ∧ 1 < c) ∨ (0 < k ∧ c = 0)) : getL k X (c :: r) = (0, 0, 12) := by
  unfold getL
  rcases h with h | h
  · rw [if_pos h]
  · rw [if_pos h]; split <;> rfl
theorem getL_done {k : Nat} {X c : Int} {r : List Int} (h1 : ¬ (k = 9 ∧ 1 < c)) (h2 : ¬ (0 < k ∧ c = 0)) (h : c < 128) : getL k X (c :: r) = (X + c % 128 * 2 ^ (7 * k), (k : Int) + 1, 0) := by
  rw [getL, if_neg h1, if_neg h2, if_pos h]
theorem getL_more {k : Nat} {X c : Int} {r : List Int} (h1 : ¬ (k = 9 ∧ 1 < c)) (h2 : ¬ (0 < k ∧ c = 0)) (h : 128 ≤ c) : getL k X (c :: r) = getL (k + 1) (X + c % 128 * 2 ^ (7 * k)) r := by
  rw [getL, if_neg h1, if_neg h2, if_neg (by omega)]

/-- What Get tells: an error with noughts; or a number below 2^64 and its width. -/
theorem getL_tells : ∀ (xs : List Int) (k : Nat) (X : Int), k ≤ 9 → 0 ≤ X → X < 2 ^ (7 * k) → (∀ x ∈ xs, 0 ≤ x ∧ x ≤ 255) →
    (getL k X xs = (0, 0, 10) ∨ getL k X xs = (0, 0, 12)) ∨ ∃ (n : Int) (j : Nat), getL k X xs = (n, (j : Int), 0) ∧ 0 ≤ n ∧ n < 18446744073709551616 ∧ k + 1 ≤ j ∧ j ≤ k + xs.length ∧ j ≤ 10
  | [], k, X, _, _, _, _ => .inl (.inl rfl)
  | c :: r, k, X, hk, h0, h1, hb => by
    have hc := hb c (by simp)
    by_cases hf : (k = 9 ∧ 1 < c) ∨ (0 < k ∧ c = 0)
    · exact .inl (.inr (getL_form hf))
    · have g1 : ¬ (k = 9 ∧ 1 < c) := fun h => hf (.inl h)
      have g2 : ¬ (0 < k ∧ c = 0) := fun h => hf (.inr h)
      by_cases h3 : c < 128
      · refine .inr ⟨X + c % 128 * 2 ^ (7 * k), k + 1, by rw [getL_done g1 g2 h3]; simp, ?_, ?_, by omega, by simp, by omega⟩
        all_goals
          obtain h | h | h | h | h | h | h | h | h | h : k = 0 ∨ k = 1 ∨ k = 2 ∨ k = 3 ∨ k = 4 ∨ k = 5 ∨ k = 6 ∨ k = 7 ∨ k = 8 ∨ k = 9 := by omega
          all_goals (subst h; simp at *; omega)
      · have hl := or_lt X c k h0 h1 hc.1 (by omega)
        rw [getL_more g1 g2 (by omega)]
        rcases getL_tells r (k + 1) _ (by omega) hl.1 hl.2 (fun x hx => hb x (by simp [hx])) with h | ⟨n, j, h, a1, a2, a3, a4, a5⟩
        · exact .inl h
        · exact .inr ⟨n, j, h, a1, a2, by omega, by simp; omega, a5⟩
theorem getL_bd (xs : List Int) (hb : ∀ x ∈ xs, 0 ≤ x ∧ x ≤ 255) : 0 ≤ (getL 0 0 xs).1 ∧ (getL 0 0 xs).1 < 18446744073709551616 := by
  rcases getL_tells xs 0 0 (by omega) (by omega) (by simp) hb with (h | h) | ⟨n, j, h, a1, a2, _⟩ <;> rw [h] <;> simp <;> omega

/-- The element at a place, and what stands behind it. -/
theorem drop_at (xs : List Int) (k : Nat) (h : k < xs.length) : xs.drop k = xs.getD k 0 :: xs.drop (k + 1) := by
  rw [List.drop_eq_getElem_cons h]; simp [List.getD, h]
theorem getD_mem (xs : List Int) (k : Nat) (h : k < xs.length) : xs.getD k 0 ∈ xs := by
  simp [List.getD, h]

/-! ### The encoding -/
theorem encF_succ : ∀ (f : Nat) (n : Int), 0 ≤ n → n < 128 ^ (f + 1) → encF (f + 1) n = encF f n
  | 0, n, _, h => by
    have h' : n < 128 := by simpa using h
    simp [encF, h']
  | f + 1, n, h0, h => by
    have e : (128 : Int) ^ (f + 1 + 1) = 128 ^ (f + 1) * 128 := Int.pow_succ _ _
    rw [e] at h
    have := encF_succ f (n / 128) (by omega) (by omega)
    rw [encF, this, encF]
theorem enc_lt {m : Int} (h : m < 128) : enc m = [m] := by unfold enc encF; rw [if_pos h]
theorem enc_ge {m : Int} (h : 128 ≤ m) (h' : m < 18446744073709551616) : enc m = (m % 128 + 128) :: enc (m / 128) := by
  have e : enc (m / 128) = encF 8 (m / 128) := encF_succ 8 (m / 128) (by omega) (by
    have e : (128 : Int) ^ (8 + 1) = 9223372036854775808 := by decide
    rw [e]; omega)
  rw [e]; unfold enc; rw [encF, if_neg (by omega)]
theorem encF_len (f : Nat) : ∀ n : Int, 1 ≤ (encF f n).length ∧ (encF f n).length ≤ f + 1 := by
  induction f with
  | zero => intro n; simp [encF]
  | succ f ih =>
    intro n
    have := ih (n / 128)
    unfold encF
    split <;> simp <;> omega
theorem enc_len (n : Int) : 1 ≤ (enc n).length ∧ (enc n).length ≤ 10 := encF_len 9 n
theorem encF_byte (f : Nat) : ∀ n : Int, 0 ≤ n → n < 256 * 128 ^ f → ∀ x ∈ encF f n, 0 ≤ x ∧ x ≤ 255 := by
  induction f with
  | zero => intro n h0 h x hx; simp [encF] at hx; simp at h; omega
  | succ f ih =>
    intro n h0 h x hx
    have e : (256 : Int) * 128 ^ (f + 1) = 256 * 128 ^ f * 128 := by rw [Int.pow_succ, Int.mul_assoc]
    rw [e] at h
    unfold encF at hx
    split at hx
    · simp at hx; omega
    · simp at hx
      rcases hx with hx | hx
      · omega
      · exact ih (n / 128) (by omega) (by omega) x hx
theorem enc_byte {n : Int} (h0 : 0 ≤ n) (h : n < 18446744073709551616) : ∀ x ∈ enc n, 0 ≤ x ∧ x ≤ 255 := encF_byte 9 n h0 (by
  have e : (256 : Int) * 128 ^ 9 = 2361183241434822606848 := by decide
  rw [e]; omega)
theorem encs_byte {ns : List Int} (h : ∀ n ∈ ns, 0 ≤ n ∧ n < 18446744073709551616) : ∀ x ∈ encs ns, 0 ≤ x ∧ x ≤ 255 := by
  intro x hx
  unfold encs at hx
  rw [List.mem_flatMap] at hx
  obtain ⟨n, hn, hx⟩ := hx
  exact enc_byte (h n hn).1 (h n hn).2 x hx
theorem encs_nil : encs [] = [] := rfl
theorem encs_cons (n : Int) (r : List Int) : encs (n :: r) = enc n ++ encs r := by simp [encs]
theorem encs_append (a b : List Int) : encs (a ++ b) = encs a ++ encs b := by simp [encs]
theorem encs_one (n : Int) : encs [n] = enc n := by simp [encs]
theorem encs_len (ns : List Int) : (encs ns).length ≤ 10 * ns.length ∧ ns.length ≤ (encs ns).length := by
  induction ns with
  | nil => simp [encs]
  | cons n r ih => rw [encs_cons]; have := enc_len n; simp; omega
theorem take_at (xs : List Int) (k : Nat) (h : k < xs.length) : xs.take (k + 1) = xs.take k ++ [xs.getD k 0] := by
  rw [List.take_succ_eq_append_getElem h]; simp [List.getD, h]
theorem encs_take (xs : List Int) (k : Nat) (h : k < xs.length) : encs (xs.take (k + 1)) = encs (xs.take k) ++ enc (xs.getD k 0) := by
  rw [take_at xs k h, encs_append, encs_one]

theorem encF_mono (f : Nat) : ∀ a b : Int, a ≤ b → (encF f a).length ≤ (encF f b).length := by
  induction f with
  | zero => intro a b h; simp [encF]
  | succ f ih =>
    intro a b h
    have hl := encF_len f (b / 128)
    have := ih (a / 128) (b / 128) (by omega)
    unfold encF
    by_cases h1 : a < 128
    · rw [if_pos h1]
      split
      · simp
      · simp
    · rw [if_neg h1, if_neg (by omega)]; simp; omega
theorem enc_mono {a b : Int} (h : a ≤ b) : (enc a).length ≤ (enc b).length := encF_mono 9 a b h

/-- The number whose groups of seven bits these bytes are, the lowest first. -/
def val : List Int → Int
  | [] => 0
  | c :: r => c % 128 + 128 * val r
theorem pow7 (n : Nat) : (2 : Int) ^ (7 * (n + 1)) = 128 * 2 ^ (7 * n) := by
  rw [Nat.mul_add, Int.pow_add]; omega
theorem val_snoc (l : List Int) (c : Int) : val (l ++ [c]) = val l + c % 128 * 2 ^ (7 * l.length) := by
  induction l with
  | nil => simp [val]
  | cons a l ih =>
    rw [List.cons_append, val, ih, val, List.length_cons, pow7, Int.mul_add]
    have : 128 * (c % 128 * 2 ^ (7 * l.length)) = c % 128 * (128 * 2 ^ (7 * l.length)) := by rw [Int.mul_left_comm]
    omega
theorem val_bd (l : List Int) : 0 ≤ val l ∧ val l < 2 ^ (7 * l.length) := by
  induction l with
  | nil => simp [val]
  | cons a l ih => rw [val, List.length_cons, pow7]; omega
theorem val_take (xs : List Int) (k : Nat) (h : k < xs.length) : val (xs.take (k + 1)) = val (xs.take k) + xs.getD k 0 % 128 * 2 ^ (7 * k) := by
  rw [take_at xs k h, val_snoc, List.length_take, Nat.min_eq_left (by omega)]
theorem getL_run (xs : List Int) (k : Nat) (hk : k ≤ xs.length) (h9 : k ≤ 9) (h : ∀ j, j < k → 128 ≤ xs.getD j 0) : getL 0 0 xs = getL k (val (xs.take k)) (xs.drop k) := by
  induction k with
  | zero => simp [val]
  | succ k ih =>
    rw [ih (by omega) (by omega) (fun j hj => h j (by omega)), drop_at xs k (by omega)]
    have hc := h k (by omega)
    rw [getL_more (by omega) (by omega) hc, val_take xs k (by omega)]
/-- The number, from a place on to the last. -/
theorem val_drop (xs : List Int) (k i : Nat) (hi : i ≤ k) (hk : k < xs.length) : val ((xs.take (k + 1)).drop i) = xs.getD i 0 % 128 + 128 * val ((xs.take (k + 1)).drop (i + 1)) := by
  have h : i < (xs.take (k + 1)).length := by simp; omega
  rw [drop_at _ i h, val]
  congr 2
  simp [List.getD, List.getElem?_take]
  rw [if_pos (by omega)]
theorem val_drop_bd (xs : List Int) (k i : Nat) (hi : 1 ≤ i) (hk9 : k ≤ 9) : 0 ≤ val ((xs.take (k + 1)).drop i) ∧ val ((xs.take (k + 1)).drop i) < 9223372036854775808 := by
  have h := val_bd ((xs.take (k + 1)).drop i)
  have hl : ((xs.take (k + 1)).drop i).length ≤ 9 := by simp; omega
  have : (2 : Int) ^ (7 * ((xs.take (k + 1)).drop i).length) ≤ 2 ^ 63 := by
    have h2 : (2 : Nat) ^ (7 * ((xs.take (k + 1)).drop i).length) ≤ 2 ^ 63 := Nat.pow_le_pow_right (by decide) (by omega)
    exact_mod_cast h2
  omega
theorem val_whole (xs : List Int) (k : Nat) (hk : k < xs.length) (hk9 : k ≤ 9) (h9 : k = 9 → xs.getD 9 0 ≤ 1) (h0 : 0 ≤ xs.getD k 0) : 0 ≤ val (xs.take (k + 1)) ∧ val (xs.take (k + 1)) < 18446744073709551616 := by
  have hb := val_bd (xs.take k)
  rw [val_take xs k hk]
  rw [List.length_take, Nat.min_eq_left (by omega)] at hb
  obtain h | h | h | h | h | h | h | h | h | h : k = 0 ∨ k = 1 ∨ k = 2 ∨ k = 3 ∨ k = 4 ∨ k = 5 ∨ k = 6 ∨ k = 7 ∨ k = 8 ∨ k = 9 := by omega
  all_goals (subst h; simp at *; omega)

/-- Are the two lists the same? -/
def eqB (a b : List Int) : Bool := decide (a = b)
theorem eqB_true {a b : List Int} (h : a = b) : eqB a b = true := decide_eq_true h
theorem eqB_false {a b : List Int} (h : a ≠ b) : eqB a b = false := decide_eq_false h

/-- All bytes of an encoding but the last are 128 or above; the last is below. -/
theorem encF_hi (f : Nat) : ∀ n : Int, 0 ≤ n → n < 128 ^ (f + 1) → ∀ i, (i + 1 < (encF f n).length → 128 ≤ (encF f n).getD i 0) ∧ (i + 1 = (encF f n).length → 0 ≤ (encF f n).getD i 0 ∧ (encF f n).getD i 0 < 128) := by
  induction f with
  | zero => intro n h0 h i; simp [encF] at *; intro hi; subst hi; simp; omega
  | succ f ih =>
    intro n h0 h i
    have e : (128 : Int) ^ (f + 1 + 1) = 128 ^ (f + 1) * 128 := Int.pow_succ _ _
    rw [e] at h
    have hr := ih (n / 128) (by omega) (by omega)
    have hl := encF_len f (n / 128)
    unfold encF
    split
    · simp; intro hi; subst hi; simp; omega
    · cases i with
      | zero => exact ⟨fun _ => by simp; omega, fun hi => by exfalso; simp at hi; rw [hi] at hl; simp at hl⟩
      | succ i => have := hr i; simp at this ⊢; exact this
theorem enc_hi {n : Int} (h0 : 0 ≤ n) (h : n < 18446744073709551616) (i : Nat) : (i + 1 < (enc n).length → 128 ≤ (enc n).getD i 0) ∧ (i + 1 = (enc n).length → 0 ≤ (enc n).getD i 0 ∧ (enc n).getD i 0 < 128) :=
  encF_hi 9 n h0 (by
    have e : (128 : Int) ^ (9 + 1) = 1180591620717411303424 := by decide
    rw [e]; omega) i
/-- The groups of seven bits of a number, no mark on them. -/
def digs (n : Int) : List Int := (enc n).map (· % 128)
theorem digs_len (n : Int) : (digs n).length = (enc n).length := by simp [digs]
theorem digs_lt {m : Int} (h0 : 0 ≤ m) (h : m < 128) : digs m = [m % 128] := by rw [digs, enc_lt h]; rfl
theorem digs_ge {m : Int} (h : 128 ≤ m) (h' : m < 18446744073709551616) : digs m = m % 128 :: digs (m / 128) := by
  rw [digs, enc_ge h h', List.map_cons, digs]; congr 1; omega
/-- The first k marked, the others not yet. -/
def marked (n : Int) (k : Nat) : List Int := (enc n).take k ++ (digs n).drop k
theorem marked_len (n : Int) (k : Nat) : (marked n k).length = (enc n).length := by simp [marked, digs_len]; omega
theorem marked_zero (n : Int) : marked n 0 = digs n := by simp [marked]
theorem marked_at (n : Int) (k : Nat) (h : k < (enc n).length) : (marked n k).getD k 0 = (enc n).getD k 0 % 128 := by
  have hl : ((enc n).take k).length = k := by simp; omega
  simp only [marked, List.getD]
  rw [List.getElem?_append_right (by omega), hl, Nat.sub_self, List.getElem?_drop]
  simp [digs, List.getElem?_eq_getElem h]
theorem marked_set (n : Int) (k : Nat) (h : k < (enc n).length) : (marked n k).set k ((enc n).getD k 0) = marked n (k + 1) := by
  have hl : ((enc n).take k).length = k := by simp; omega
  simp only [marked]
  have hd : k < (digs n).length := by rw [digs_len]; exact h
  rw [List.set_append_right _ _ (by omega), hl, Nat.sub_self, take_at _ k h, List.drop_eq_getElem_cons hd, List.set_cons_zero]
  simp
theorem marked_end {n : Int} (h0 : 0 ≤ n) (h : n < 18446744073709551616) (k : Nat) (hk : k + 1 = (enc n).length) : marked n k = enc n := by
  have h1 := (enc_hi h0 h k).2 hk
  have hk' : k < (enc n).length := by omega
  have hd : k < (digs n).length := by rw [digs_len]; exact hk'
  have e : (digs n).drop k = (enc n).drop k := by
    rw [List.drop_eq_getElem_cons hk', List.drop_eq_getElem_cons hd, List.drop_eq_nil_of_le (by rw [digs_len]; omega), List.drop_eq_nil_of_le (by omega)]
    simp [List.getD, List.getElem?_eq_getElem hk'] at h1
    simp [digs]; omega
  rw [marked, e, List.take_append_drop]

/-- What All tells: the numbers, and the error; acc has been read so far; f: so many rounds are left. -/
def allA : Nat → List Int → List Int → List Int × Int
  | 0, acc, _ => (acc, 0)
  | _ + 1, acc, [] => (acc, 0)
  | f + 1, acc, c :: r => if (getL 0 0 (c :: r)).2.2 = 0 then allA f (acc ++ [(getL 0 0 (c :: r)).1]) ((c :: r).drop (getL 0 0 (c :: r)).2.1.toNat) else ([], (getL 0 0 (c :: r)).2.2)
def allL (xs : List Int) : List Int × Int := allA xs.length [] xs
theorem allA_nil (f : Nat) (acc : List Int) : allA f acc [] = (acc, 0) := by cases f <;> rfl
theorem allA_err {f : Nat} {acc xs : List Int} (hf : xs.length ≤ f) (hne : xs ≠ []) {a b e : Int} (hg : getL 0 0 xs = (a, b, e)) (he : e ≠ 0) : allA f acc xs = ([], e) := by
  cases xs with
  | nil => exact absurd rfl hne
  | cons c r =>
    cases f with
    | zero => simp at hf
    | succ f => rw [allA, hg, if_neg he]
theorem allA_ok {f : Nat} {acc xs : List Int} (hf : xs.length ≤ f) (hne : xs ≠ []) {n : Int} {j : Nat} (hg : getL 0 0 xs = (n, (j : Int), 0)) : allA f acc xs = allA (f - 1) (acc ++ [n]) (xs.drop j) := by
  cases xs with
  | nil => exact absurd rfl hne
  | cons c r =>
    cases f with
    | zero => simp at hf
    | succ f => rw [allA, hg, if_pos rfl]; simp
theorem allA_nums : ∀ (f : Nat) (acc xs : List Int), (∀ x ∈ xs, 0 ≤ x ∧ x ≤ 255) → (∀ n ∈ acc, 0 ≤ n ∧ n < 18446744073709551616) → ∀ n ∈ (allA f acc xs).1, 0 ≤ n ∧ n < 18446744073709551616
  | 0, acc, xs, _, ha => ha
  | f + 1, acc, [], _, ha => ha
  | f + 1, acc, c :: r, hx, ha => by
    rw [allA]
    split
    · refine allA_nums f _ _ (fun x h => hx x (List.mem_of_mem_drop h)) ?_
      intro n hn
      rcases List.mem_append.1 hn with h | h
      · exact ha n h
      · simp at h; subst h; exact getL_bd _ hx
    · intro n hn; simp at hn
theorem allL_nums (xs : List Int) (hx : ∀ x ∈ xs, 0 ≤ x ∧ x ≤ 255) : ∀ n ∈ (allL xs).1, 0 ≤ n ∧ n < 18446744073709551616 := allA_nums _ _ _ hx (by simp)
def sLen : Value → Nat | .slice _ n _ => n | _ => 0

theorem ret3 {k1 k2 k3 : IntKind} {a a' b b' c c' : Int} (h1 : a = a') (h2 : b = b') (h3 : c = c') : Ending.returned (.tuple #[.int k1 a, .int k2 b, .int k3 c]) = .returned (.tuple #[.int k1 a', .int k2 b', .int k3 c']) := by rw [h1, h2, h3]
theorem ret1 {k : IntKind} {a b : Int} (h : a = b) : Ending.returned (.int k a) = .returned (.int k b) := by rw [h]
theorem retb {a b : Bool} (h : a = b) : Ending.returned (.bool a) = .returned (.bool b) := by rw [h]
end Go.Proofs.Ytbhiaclgakhcdaa
