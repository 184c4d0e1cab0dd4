/-
  The plain mathematics of there and back: what the encoding lays is read, whatever stands behind it; no beginning of it is taken; what is read is an encoding. No Go text in sight.
-/
import Derived.Test.YtbhiaclgakhcdaaVPlain
namespace Go.Proofs.Ytbhiaclgakhcdaa
open Go.RowKit
set_option linter.unusedVariables false

theorem pow128 (f : Nat) : (128 : Int) ^ (f + 1) = 128 * 128 ^ f := by rw [Int.pow_succ, Int.mul_comm]
theorem getL_encF (more : List Int) : ∀ (f k : Nat) (m X : Int), k + f = 9 → 0 ≤ m → m < 2 * 128 ^ f → (0 < k → 0 < m) →
    getL k X (encF f m ++ more) = (X + m * 2 ^ (7 * k), ((k + (encF f m).length : Nat) : Int), 0)
  | 0, k, m, X, hk, h0, h1, hp => by
    have hk9 : k = 9 := by omega
    have h1' : m < 2 := by simpa using h1
    have hpos := hp (by omega)
    rw [encF, List.singleton_append, getL_done (by omega) (by omega) (by omega)]
    have : m % 128 = m := by omega
    rw [this]; simp
  | f + 1, k, m, X, hk, h0, h1, hp => by
    rw [pow128] at h1
    unfold encF
    by_cases hl : m < 128
    · rw [if_pos hl, List.singleton_append, getL_done (by omega) (by omega) hl]
      have : m % 128 = m := by omega
      rw [this]; simp
    · rw [if_neg hl, List.cons_append, getL_more (by omega) (by omega) (by omega), getL_encF more f (k + 1) (m / 128) _ (by omega) (by omega) (by omega) (by omega)]
      have e : (m % 128 + 128) % 128 = m % 128 := by omega
      rw [e, pow7]
      have e2 : m = m % 128 + 128 * (m / 128) := by omega
      have e3 : m * 2 ^ (7 * k) = m % 128 * 2 ^ (7 * k) + m / 128 * (128 * 2 ^ (7 * k)) := by
        rw [← Int.mul_assoc, Int.mul_comm (m / 128) 128, ← Int.add_mul, ← e2]
      rw [e3]
      refine Prod.ext ?_ (Prod.ext ?_ rfl)
      · simp; omega
      · simp; omega
theorem getL_enc {n : Int} (h0 : 0 ≤ n) (h : n < 18446744073709551616) (more : List Int) : getL 0 0 (enc n ++ more) = (n, ((enc n).length : Int), 0) := by
  have := getL_encF more 9 0 n 0 (by omega) h0 (by
    have e : (2 : Int) * 128 ^ 9 = 18446744073709551616 := by decide
    rw [e]; exact h) (by omega)
  simpa [enc] using this

theorem getL_short : ∀ (f k : Nat) (m X : Int) (j : Nat), k + f = 9 → 0 ≤ m → j < (encF f m).length → getL k X ((encF f m).take j) = (0, 0, 10)
  | 0, k, m, X, j, hk, h0, hj => by
    obtain rfl : j = 0 := by simp [encF] at hj; exact hj
    rfl
  | f + 1, k, m, X, j, hk, h0, hj => by
    unfold encF at hj ⊢
    by_cases hl : m < 128
    · rw [if_pos hl] at hj ⊢
      obtain rfl : j = 0 := by simp at hj; exact hj
      rfl
    · rw [if_neg hl] at hj ⊢
      cases j with
      | zero => rfl
      | succ j =>
        rw [List.take_succ_cons, getL_more (by omega) (by omega) (by omega)]
        exact getL_short f (k + 1) (m / 128) _ j (by omega) (by omega) (by simpa using hj)
theorem getL_begin {n : Int} (h0 : 0 ≤ n) (j : Nat) (hj : j < (enc n).length) : getL 0 0 ((enc n).take j) = (0, 0, 10) := getL_short 9 0 n 0 j (by omega) h0 hj

theorem getL_back : ∀ (xs : List Int) (k : Nat) (X n : Int) (j : Nat), k ≤ 9 → (∀ x ∈ xs, 0 ≤ x ∧ x ≤ 255) → getL k X xs = (n, (j : Int), 0) →
    k < j ∧ ∃ m : Int, n = X + m * 2 ^ (7 * k) ∧ encF (9 - k) m = xs.take (j - k) ∧ (0 < k → 0 < m) ∧ 0 ≤ m
  | [], k, X, n, j, _, _, h => by
    exfalso
    have := congrArg (fun p => p.2.2) h
    simp [getL] at this
  | c :: r, k, X, n, j, hk, hb, h => by
    have hc := hb c (by simp)
    by_cases hf : (k = 9 ∧ 1 < c) ∨ (0 < k ∧ c = 0)
    · exfalso
      rw [getL_form hf] at h
      have := congrArg (fun p => p.2.2) h
      simp at this
    have g1 : ¬ (k = 9 ∧ 1 < c) := fun h => hf (.inl h)
    have g2 : ¬ (0 < k ∧ c = 0) := fun h => hf (.inr h)
    by_cases h3 : c < 128
    · rw [getL_done g1 g2 h3] at h
      have e1 := congrArg (fun p => p.1) h
      have e2 := congrArg (fun p => p.2.1) h
      simp at e1 e2
      have ej : j = k + 1 := by omega
      subst ej
      have em : c % 128 = c := by omega
      rw [em] at e1
      refine ⟨by omega, c, e1.symm, ?_, by omega, by omega⟩
      have : k + 1 - k = 1 := by omega
      rw [this]
      simp only [List.take_succ_cons, List.take_zero]
      cases hq : 9 - k with
      | zero => rfl
      | succ q => rw [encF, if_pos h3]
    · rw [getL_more g1 g2 (by omega)] at h
      obtain ⟨hj, m, hm, he, hp, h0⟩ := getL_back r (k + 1) _ n j (by omega) (fun x hx => hb x (by simp [hx])) h
      have hp := hp (by omega)
      refine ⟨by omega, c % 128 + 128 * m, ?_, ?_, by omega, by omega⟩
      · rw [hm, pow7, Int.add_mul, Int.add_assoc, Int.mul_comm 128 m, Int.mul_assoc]
      · have e1 : 9 - k = (9 - (k + 1)) + 1 := by omega
        have e2 : j - k = (j - (k + 1)) + 1 := by omega
        rw [e1, e2, encF, if_neg (by omega), List.take_succ_cons]
        have e3 : (c % 128 + 128 * m) % 128 + 128 = c := by omega
        have e4 : (c % 128 + 128 * m) / 128 = m := by omega
        rw [e3, e4, he]
theorem enc_back {xs : List Int} {n : Int} {j : Nat} (hb : ∀ x ∈ xs, 0 ≤ x ∧ x ≤ 255) (h : getL 0 0 xs = (n, (j : Int), 0)) : enc n = xs.take j := by
  obtain ⟨_, m, hm, he, _, _⟩ := getL_back xs 0 0 n j (by omega) hb h
  have : n = m := by simpa using hm
  subst this
  simpa [enc] using he

theorem allA_encs : ∀ (ns acc : List Int) (f : Nat), (encs ns).length ≤ f → (∀ n ∈ ns, 0 ≤ n ∧ n < 18446744073709551616) → allA f acc (encs ns) = (acc ++ ns, 0)
  | [], acc, f, _, _ => by rw [encs_nil, allA_nil]; simp
  | n :: r, acc, f, hf, hn => by
    have h1 := hn n (by simp)
    have hl := enc_len n
    rw [encs_cons] at hf ⊢
    have hg := getL_enc h1.1 h1.2 (encs r)
    rw [allA_ok hf (by intro e; have := congrArg List.length e; simp at this; rw [this.1] at hl; simp at hl) hg, List.drop_left]
    rw [List.length_append] at hf
    rw [allA_encs r (acc ++ [n]) (f - 1) (by omega) (fun x hx => hn x (by simp [hx]))]
    simp
theorem allL_encs (ns : List Int) (hn : ∀ n ∈ ns, 0 ≤ n ∧ n < 18446744073709551616) : allL (encs ns) = (ns, 0) := by
  have := allA_encs ns [] (encs ns).length (Nat.le_refl _) hn
  simpa [allL] using this
theorem enc_inj {a b : Int} (ha : 0 ≤ a) (ha' : a < 18446744073709551616) (hb : 0 ≤ b) (hb' : b < 18446744073709551616) (h : enc a = enc b) : a = b := by
  have h1 := getL_enc ha ha' []
  rw [h, getL_enc hb hb' []] at h1
  exact (congrArg (fun p => p.1) h1).symm
theorem encF_step (f : Nat) : ∀ n : Int, 0 ≤ n → (encF f (n + 1)).length ≤ (encF f n).length + 1 := by
  induction f with
  | zero => intro n _; simp [encF]
  | succ f ih =>
    intro n h0
    have h1 := ih (n / 128) (by omega)
    unfold encF
    by_cases ha : n + 1 < 128
    · rw [if_pos ha]; simp
    · rw [if_neg ha]
      by_cases hb : n < 128
      · have : (n + 1) / 128 = 1 := by omega
        rw [if_pos hb, this]
        cases f <;> simp [encF]
      · rw [if_neg hb]
        have : (n + 1) / 128 = n / 128 ∨ (n + 1) / 128 = n / 128 + 1 := by omega
        rcases this with e | e <;> rw [e] <;> simp <;> omega
theorem enc_step {n : Int} (h : 0 ≤ n) : (enc (n + 1)).length ≤ (enc n).length + 1 := encF_step 9 n h
end Go.Proofs.Ytbhiaclgakhcdaa
