/-
  What the landed Refine answers; the landed functions as the laws' walks ask for them. Condition: spans of numbers of 64 bits.
-/
import Derived.Test.YtammakfpmimljaaS6LRefA
import Derived.Test.YtammakfpmimljaaS6LDo
namespace Go.Proofs.Ytammakfpmimljaa
open Go.RowKit
set_option linter.unusedVariables false
set_option maxRecDepth 20000

theorem isCond_eq (op : Int) : isCond op = decide (16 ≤ op ∧ op ≤ 19) := rfl
theorem lequal_any (a A n : Int) (h : Bool) (w : World) (ha : W64 a) (hA : W64 A) (hn : W64 n) (haA : a ≤ A) :
    Calls Try.prog 43 #[.agg #[.int .u64 a, .int .u64 A], .int .u64 n, .bool h] w fun e w' => e = .returned (optV (if h = true then (if a ≤ n ∧ n ≤ A then some (n, n) else none) else if a = n ∧ A = n then none else if a = n then some (n + 1, A) else if A = n then some (a, n - 1) else some (a, A))) ∧ Below w.heap.size w w' := by
  have hn' : 0 ≤ n ∧ n ≤ 18446744073709551615 := hn
  have ha' : 0 ≤ a ∧ a ≤ 18446744073709551615 := ha
  have hA' : 0 ≤ A ∧ A ≤ 18446744073709551615 := hA
  cases h
  · rw [if_neg (by simp)]
    by_cases h1 : a = n ∧ A = n
    · rw [if_pos h1]
      obtain ⟨rfl, rfl⟩ := h1
      exact lequal_none _ w
    rw [if_neg h1]
    by_cases h2 : a = n
    · rw [if_pos h2]
      subst h2
      exact lequal_lo A a w (by simp; omega) (wrap_in (by omega) (by omega))
    rw [if_neg h2]
    by_cases h3 : A = n
    · rw [if_pos h3]
      subst h3
      exact lequal_hi a A w (by simpa using h2) (wrap_in (by omega) (by omega))
    · rw [if_neg h3]
      exact lequal_far a A n w (by simpa using h2) (by simpa using h3)
  · rw [if_pos rfl]
    have e : (if a ≤ n ∧ n ≤ A then some (n, n) else none) = meetO a A n n := by
      unfold meetO
      by_cases hc : a ≤ n ∧ n ≤ A
      · rw [if_pos hc, if_pos (by omega), Int.max_eq_right hc.1, Int.min_eq_right hc.2]
      · rw [if_neg hc, if_neg (by omega)]
    rw [e]
    exact lequal_yes a A n w ha hA hn
theorem lbelow_any (a A n : Int) (h : Bool) (w : World) (ha : W64 a) (hA : W64 A) (hn : W64 n) (haA : a ≤ A) :
    Calls Try.prog 44 #[.agg #[.int .u64 a, .int .u64 A], .int .u64 n, .bool h] w fun e w' => e = .returned (optV (if h = true then (if n ≤ a then none else some (a, min A (n - 1))) else if A < n then none else some (max a n, A))) ∧ Below w.heap.size w w' := by
  have hn' : 0 ≤ n ∧ n ≤ 18446744073709551615 := hn
  have ha' : 0 ≤ a ∧ a ≤ 18446744073709551615 := ha
  have hA' : 0 ≤ A ∧ A ≤ 18446744073709551615 := hA
  cases h
  · rw [if_neg (by simp)]
    have e : (if A < n then none else some (max a n, A)) = meetO a A n 18446744073709551615 := by
      unfold meetO
      rw [Int.min_eq_left hA'.2]
      by_cases hc : A < n
      · rw [if_pos hc, if_neg (by omega)]
      · rw [if_neg hc, if_pos (by omega)]
    rw [e]
    exact lbelow_from a A n w ha hA hn
  · rw [if_pos rfl]
    by_cases h0 : n = 0
    · subst h0
      rw [if_pos ha'.1]
      exact lbelow_zero a A w
    · have e : (if n ≤ a then none else some (a, min A (n - 1))) = meetO a A 0 (n - 1) := by
        unfold meetO
        rw [Int.max_eq_left ha'.1]
        by_cases hc : n ≤ a
        · rw [if_pos hc, if_neg (by omega)]
        · rw [if_neg hc, if_pos (by omega)]
      rw [e]
      exact lbelow_less a A n w ha hA hn (by simpa using h0)
/-- The landed Refine. -/
theorem lrefine_any : KRefine := by
  intro op a A b B h w ha hA hb hB
  obtain ⟨m, HN⟩ : ∃ m, Hid (m = holdL op 0 0) := ⟨_, rfl⟩
  unfold refineR
  by_cases c1 : 16 ≤ op ∧ op ≤ 19
  case neg => rw [if_neg (fun h => c1 h.1)]; exact lref_no1 op a A b B h w HN (by show _ = _; rw [isCond_eq, decide_eq_false c1])
  have HO : Hid (true = isCond op) := by show _ = _; rw [isCond_eq, decide_eq_true c1]
  by_cases c2 : a ≤ A ∧ b ≤ B
  case neg =>
    rw [if_neg (fun h => c2 h.2)]
    exact lref_no2 op a A b B h w HN HO (by show _ = _; rw [← Bool.decide_and, decide_eq_false c2])
  have HR : Hid (true = (decide (a ≤ A) && decide (b ≤ B))) := by show _ = _; rw [← Bool.decide_and, decide_eq_true c2]
  rw [if_pos ⟨c1, c2⟩]
  by_cases hs : b = B
  case neg =>
    have e : refineL op a A b B h = some (a, A) := by unfold refineL; rw [if_pos hs]
    rw [e]
    exact lref_wide op a A b B h w HN HO HR (by show _ = _; symm; simpa using hs)
  subst hs
  have HS : Hid (true = (b == b)) := by show _ = _; simp
  have c : op = 16 ∨ op = 17 ∨ op = 18 ∨ op = 19 := by omega
  rcases c with rfl | rfl | rfl | rfl
  · have e : refineL 16 a A b b h = (if h = true then (if a ≤ b ∧ b ≤ A then some (b, b) else none) else if a = b ∧ A = b then none else if a = b then some (b + 1, A) else if A = b then some (a, b - 1) else some (a, A)) := by
      unfold refineL; rw [if_neg (by simp)]; cases h <;> rfl
    rw [e]
    obtain ⟨p, q, c, HP⟩ := optV_as (if h = true then (if a ≤ b ∧ b ≤ A then some (b, b) else none) else if a = b ∧ A = b then none else if a = b then some (b + 1, A) else if A = b then some (a, b - 1) else some (a, A))
    rw [HP.out]
    exact lref_16 a A b b h w HN HO HR HS p q c (fun w => by rw [← HP.out]; exact lequal_any a A b h w ha hA hb c2.1)
  · have e : refineL 17 a A b b h = (if (!h) = true then (if a ≤ b ∧ b ≤ A then some (b, b) else none) else if a = b ∧ A = b then none else if a = b then some (b + 1, A) else if A = b then some (a, b - 1) else some (a, A)) := by
      unfold refineL; rw [if_neg (by simp)]; cases h <;> rfl
    rw [e]
    obtain ⟨p, q, c, HP⟩ := optV_as (if (!h) = true then (if a ≤ b ∧ b ≤ A then some (b, b) else none) else if a = b ∧ A = b then none else if a = b then some (b + 1, A) else if A = b then some (a, b - 1) else some (a, A))
    rw [HP.out]
    exact lref_17 a A b b h w HN HO HR HS p q c (fun w => by rw [← HP.out]; exact lequal_any a A b (!h) w ha hA hb c2.1)
  · have e : refineL 18 a A b b h = (if h = true then (if b ≤ a then none else some (a, min A (b - 1))) else if A < b then none else some (max a b, A)) := by
      unfold refineL; rw [if_neg (by simp)]; cases h <;> rfl
    rw [e]
    obtain ⟨p, q, c, HP⟩ := optV_as (if h = true then (if b ≤ a then none else some (a, min A (b - 1))) else if A < b then none else some (max a b, A))
    rw [HP.out]
    exact lref_18 a A b b h w HN HO HR HS p q c (fun w => by rw [← HP.out]; exact lbelow_any a A b h w ha hA hb c2.1)
  · have e : refineL 19 a A b b h = (if (!h) = true then (if b ≤ a then none else some (a, min A (b - 1))) else if A < b then none else some (max a b, A)) := by
      unfold refineL; rw [if_neg (by simp)]; cases h <;> rfl
    rw [e]
    obtain ⟨p, q, c, HP⟩ := optV_as (if (!h) = true then (if b ≤ a then none else some (a, min A (b - 1))) else if A < b then none else some (max a b, A))
    rw [HP.out]
    exact lref_19 a A b b h w HN HO HR HS p q c (fun w => by rw [← HP.out]; exact lbelow_any a A b (!h) w ha hA hb c2.1)
theorem kjoin : KJoin := fun v ss w hs hwf => ljoin_any v ss w hs hwf
theorem kmeet : KMeet := fun v ss w hs hwf => lmeet_any v ss w hs hwf
theorem kfull : KFull := fun w => lfull_any w
theorem ksingle : KSingle := fun n w _ => lsingle_any n w
theorem awake6 (w : World) : Calls Try.prog 9 #[] w fun e w' => e = .returned (.bool true) ∧ Below w.heap.size w w' := sawake_any ldo_any kjoin lrefine_any kfull ksingle w
end Go.Proofs.Ytammakfpmimljaa
