
/-
  Layer 26, landed, plain: a text cut at a byte; the library's digits are ours; a number that was written is read. No Go text in sight.
-/
import Derived.Test.YtbfbfbbpajaclaaDoorMB10
import Derived.Lib.ParseIntBCases
import Derived.Lib.ParseIntBTie
import Derived.Lib.ItoaNum
import Derived.Lib.IndexMore
import Derived.Lib.IndexBytes
import Derived.Lib.Strings
import Derived.Lib.Join
namespace Go.Proofs.YtbfbfbbpajaclaaDoor
open Go.RowKit
set_option linter.unusedVariables false
set_option linter.unusedSimpArgs false

/-- A text cut at the first c. -/
def cutL (c : UInt8) : List UInt8 → List UInt8 × List UInt8 × Bool
  | [] => ([], [], false)
  | x :: r => if x = c then ([], r, true) else (x :: (cutL c r).1, (cutL c r).2)
theorem cutL_none (c : UInt8) : ∀ l : List UInt8, (∀ x ∈ l, x ≠ c) → cutL c l = (l, [], false)
  | [], _ => rfl
  | x :: r, h => by
    have e := cutL_none c r fun y hy => h y (by simp [hy])
    simp [cutL, h x (by simp), e]
theorem cutL_some (c : UInt8) : ∀ a r : List UInt8, (∀ x ∈ a, x ≠ c) → cutL c (a ++ c :: r) = (a, r, true)
  | [], r, _ => by simp [cutL]
  | x :: a, r, h => by
    have e := cutL_some c a r fun y hy => h y (by simp [hy])
    simp [cutL, h x (by simp), e]
theorem cutL_split (c : UInt8) : ∀ l : List UInt8, (∀ x ∈ (cutL c l).1, x ≠ c) ∧ (((cutL c l).2.2 = true ∧ l = (cutL c l).1 ++ c :: (cutL c l).2.1) ∨ ((cutL c l).2.2 = false ∧ l = (cutL c l).1 ∧ (cutL c l).2.1 = []))
  | [] => by simp [cutL]
  | x :: r => by
    obtain ⟨h1, h2⟩ := cutL_split c r
    unfold cutL
    by_cases h : x = c
    · rw [if_pos h]; subst h; simp
    · rw [if_neg h]
      refine ⟨fun y hy => ?_, ?_⟩
      · simp only [List.mem_cons] at hy
        rcases hy with rfl | hy
        · exact h
        · exact h1 y hy
      · rcases h2 with ⟨e, h2⟩ | ⟨e, h2, h3⟩
        · exact .inl ⟨e, by simp only [List.cons_append, List.cons.injEq, true_and]; exact h2⟩
        · exact .inr ⟨e, by simp only [List.cons.injEq, true_and]; exact h2, h3⟩
theorem indexByte_ge (l : List UInt8) (c : UInt8) : -1 ≤ Lib.indexByte l c := by rw [← Lib.index_one]; exact Lib.index_ge _ _
theorem cut_eq (c : UInt8) : ∀ l : List UInt8, Lib.cut l [c] = cutL c l
  | [] => by simp [Lib.cut, Lib.index, cutL]
  | x :: r => by
    have ih := cut_eq c r
    unfold Lib.cut at ih ⊢
    rw [Lib.index_one] at ih ⊢
    unfold cutL
    have hg := indexByte_ge r c
    by_cases h : x = c
    · subst h
      simp [Lib.indexByte]
    · have hb : (x == c) = false := by simp [h]
      rw [if_neg h]
      by_cases hn : Lib.indexByte r c = -1
      · rw [if_neg (by omega)] at ih
        have e : Lib.indexByte (x :: r) c = -1 := by simp [Lib.indexByte, hb, hn]
        rw [e, if_neg (by omega), ← ih]
      · have hb2 : (Lib.indexByte r c == -1) = false := by simp [hn]
        have e : Lib.indexByte (x :: r) c = Lib.indexByte r c + 1 := by simp [Lib.indexByte, hb, hb2]
        rw [if_pos (by omega)] at ih
        rw [e, if_pos (by omega), ← ih]
        have e2 : (Lib.indexByte r c + 1).toNat = (Lib.indexByte r c).toNat + 1 := by omega
        simp only [e2, List.length_singleton]
        rfl
theorem cutL_len (c : UInt8) (l : List UInt8) : (cutL c l).1.length ≤ l.length ∧ (cutL c l).2.1.length ≤ l.length := by
  obtain ⟨_, ⟨_, h⟩ | ⟨_, h, h'⟩⟩ := cutL_split c l
  · have := congrArg List.length h; simp at this; omega
  · rw [h']; rw [← h]; simp

/-- The library's digits are ours. -/
theorem digF_dec : ∀ f u : Nat, u < 10 ^ (f + 1) → digF (f + 1) u = Lib.decDigits u
  | 0, u, h => by
    have h10 : u < 10 := by simpa using h
    rw [Lib.decDigits_one h10, digF_last (by omega)]
    rw [Nat.mod_eq_of_lt h10]; rfl
  | f + 1, u, h => by
    by_cases h10 : u < 10
    · rw [Lib.decDigits_one h10, digF_last (by omega), Nat.mod_eq_of_lt h10]; rfl
    · have h1 : u / 10 < 10 ^ (f + 1) := by rw [Nat.pow_succ] at h; omega
      rw [digF_more (by omega), digF_dec f (u / 10) h1, Lib.decDigits.eq_1 u, dif_neg h10]; rfl
theorem num_itoa {n : Int} (h : -9223372036854775808 ≤ n ∧ n ≤ 9223372036854775807) : Lib.itoa n = numL n := by
  unfold Lib.itoa numL
  have hp : (9223372036854775808 : Nat) < 10 ^ 20 := by decide
  split
  · rw [show (20 : Nat) = 19 + 1 by rfl, digF_dec 19 _ (Nat.lt_of_le_of_lt (by omega) hp), show n.natAbs = (-n).toNat by omega]
  · rw [show (20 : Nat) = 19 + 1 by rfl, digF_dec 19 _ (Nat.lt_of_le_of_lt (by omega) hp)]

/-- A number that was written is read. -/
theorem parseM_app (M : Nat) : ∀ (a : List UInt8) (c : UInt8) (acc u : Nat), Lib.parseUintM M acc a = .ok u → Lib.parseUintM M acc (a ++ [c]) = Lib.parseUintM M u [c]
  | [], c, acc, u, h => by simp only [Lib.parseUintM] at h; injection h with h; subst h; rfl
  | x :: a, c, acc, u, h => by
    simp only [Lib.parseUintM, List.cons_append] at h ⊢
    split at h
    · rename_i h1
      rw [if_pos h1]
      split at h
      · cases h
      · rename_i h2
        rw [if_neg h2]
        split at h
        · cases h
        · rename_i h3
          rw [if_neg h3]
          exact parseM_app M a c _ u h
    · cases h
theorem parseM_dig : ∀ (f u : Nat), u ≤ 18446744073709551615 → u < 10 ^ (f + 1) → Lib.parseUintM (2 ^ 64 - 1) 0 (digF (f + 1) u) = .ok u
  | 0, u, h, h1 => by
    have h10 : u < 10 := by simpa using h1
    have hd : (dig u).toNat = 48 + u := dig_nat h10
    rw [digF_last (by omega), Nat.mod_eq_of_lt h10]
    simp only [Lib.parseUintM, hd]
    rw [if_pos (by omega), if_neg (by omega), if_neg (by omega)]
    simp
  | f + 1, u, h, h1 => by
    have hd : (dig (u % 10)).toNat = 48 + u % 10 := dig_nat (by omega)
    by_cases h10 : u < 10
    · rw [digF_last (by omega)]
      simp only [Lib.parseUintM, hd]
      rw [if_pos (by omega), if_neg (by omega), if_neg (by omega)]
      simp; omega
    · have h2 : u / 10 < 10 ^ (f + 1) := by rw [Nat.pow_succ] at h1; omega
      rw [digF_more (by omega), parseM_app _ _ _ _ _ (parseM_dig f (u / 10) (by omega) h2)]
      simp only [Lib.parseUintM, hd]
      rw [if_pos (by omega), if_neg (by omega), if_neg (by omega)]
      simp; omega
theorem parse_dig {u : Nat} (h : u ≤ 18446744073709551615) : Lib.parseUintB 64 (digF 20 u) = .ok u := by
  have hp : (18446744073709551615 : Nat) < 10 ^ 20 := by decide
  unfold Lib.parseUintB
  rw [if_neg (digF_ne 19 u), show (20 : Nat) = 19 + 1 by rfl, parseM_dig 19 u h (Nat.lt_of_le_of_lt h hp)]
theorem parse_num {n : Int} (h : -9223372036854775808 ≤ n ∧ n ≤ 9223372036854775807) : Lib.atoiAll (numL n) = .ok n := by
  rw [← Lib.parseIntB_64]
  unfold numL
  by_cases h0 : n < 0
  · rw [if_pos h0, Lib.parseIntB_minus, parse_dig (by omega)]
    simp only [Lib.signedC]
    rw [if_neg (by omega)]
    congr 1; omega
  · rw [if_neg h0]
    have hne := digF_ne 19 n.toNat
    have hdg := digF_dig 20 n.toNat
    rcases hd : digF 20 n.toNat with _ | ⟨c, r⟩
    · exact absurd hd hne
    · have hc := hdg c (by rw [hd]; simp)
      rw [Lib.parseIntB_plain 64 c r (by omega) (by omega), ← hd, parse_dig (by omega)]
      simp only [Lib.signlessC]
      rw [if_neg (by omega)]
      congr 1; omega
theorem dig_dec {u : Nat} (h : u ≤ 18446744073709551615) : Lib.decDigits u = digF 20 u := by
  have hp : (18446744073709551615 : Nat) < 10 ^ 20 := by decide
  rw [show (20 : Nat) = 19 + 1 by rfl, digF_dec 19 _ (Nat.lt_of_le_of_lt h hp)]
theorem sat_in (l : List UInt8) : -9223372036854775808 ≤ Lib.atoiSat l ∧ Lib.atoiSat l ≤ 9223372036854775807 := by
  unfold Lib.atoiSat
  split <;> omega
theorem has_byte : ∀ (l : List UInt8) (c : UInt8), decide (0 ≤ Lib.indexByte l c) = l.contains c
  | [], c => by simp [Lib.indexByte]
  | x :: r, c => by
    have ih := has_byte r c
    have hg := indexByte_ge r c
    by_cases h : x = c
    · subst h; simp [Lib.indexByte]
    · have hb : (x == c) = false := by simp [h]
      have hb' : (c == x) = false := by simp; exact fun e => h e.symm
      rw [List.contains_cons, hb', Bool.false_or, ← ih]
      by_cases hn : Lib.indexByte r c = -1
      · simp [Lib.indexByte, hb, hn]
      · have hb2 : (Lib.indexByte r c == -1) = false := by simp [hn]
        simp only [Lib.indexByte, hb, hb2, if_neg, Bool.false_eq_true, if_false]
        have : 0 ≤ Lib.indexByte r c := by omega
        simp [this]; omega
end Go.Proofs.YtbfbfbbpajaclaaDoor
