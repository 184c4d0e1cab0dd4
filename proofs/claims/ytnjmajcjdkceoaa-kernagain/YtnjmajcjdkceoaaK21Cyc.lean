
/-
  Fair turns alone: all that stay ready take turns in rounds, rising. No Go text in sight.
-/
import Derived.Test.YtnjmajcjdkceoaaK21DD
namespace Go.Proofs.Ytnjmajcjdkceoaa
set_option linter.unusedVariables false
set_option linter.unusedSimpArgs false
/-- The turn in which the one at a place was picked last, behind so many turns. -/
def cyc (n : Nat) : Nat → Nat → Nat
  | 0, _ => 0
  | i + 1, j => if i % n = j then i + 1 else cyc n i j
theorem div_step {n i : Nat} (hn : 0 < n) : (i % n + 1 < n ∧ (i + 1) % n = i % n + 1 ∧ (i + 1) / n = i / n) ∨ (i % n + 1 = n ∧ (i + 1) % n = 0 ∧ (i + 1) / n = i / n + 1) := by
  have h1 := Nat.mod_lt i hn
  have h2 := Nat.div_add_mod i n
  by_cases h : i % n + 1 < n
  · left
    have e : i + 1 = n * (i / n) + (i % n + 1) := by omega
    refine ⟨h, ?_, ?_⟩
    · rw [e, Nat.mul_add_mod, Nat.mod_eq_of_lt h]
    · rw [e, Nat.mul_add_div hn, Nat.div_eq_of_lt h, Nat.add_zero]
  · right
    have e : i + 1 = n * (i / n + 1) + 0 := by rw [Nat.mul_add, Nat.mul_one]; omega
    refine ⟨by omega, ?_, ?_⟩
    · rw [e, Nat.mul_add_mod]; exact Nat.mod_eq_of_lt hn
    · rw [e, Nat.mul_add_div hn, Nat.div_eq_of_lt hn]
theorem cyc_is {n : Nat} (hn : 0 < n) : ∀ (i j : Nat), j < n → (j < i % n → cyc n i j = n * (i / n) + j + 1) ∧ (i % n ≤ j → (i / n = 0 → cyc n i j = 0) ∧ ∀ q, i / n = q + 1 → cyc n i j = n * q + j + 1)
  | 0, j, hj => by
    refine ⟨fun h => by simp at h, fun _ => ⟨fun _ => rfl, fun q h => by simp at h⟩⟩
  | i + 1, j, hj => by
    obtain ⟨h1, h2⟩ := cyc_is hn i j hj
    have hdm := Nat.div_add_mod i n
    have hs : cyc n (i + 1) j = if i % n = j then i + 1 else cyc n i j := rfl
    rcases div_step (i := i) hn with ⟨g1, g2, g3⟩ | ⟨g1, g2, g3⟩
    · rw [g2, g3, hs]
      constructor
      · intro h
        by_cases e : i % n = j
        · rw [if_pos e]; omega
        · rw [if_neg e]; exact h1 (by omega)
      · intro h
        rw [if_neg (by omega)]
        exact h2 (by omega)
    · rw [g2, g3, hs]
      refine ⟨fun h => absurd h (Nat.not_lt_zero _), fun _ => ⟨fun h => absurd h (Nat.succ_ne_zero _), fun q hq => ?_⟩⟩
      have hq' : q = i / n := (Nat.succ.inj hq).symm
      subst hq'
      by_cases e : i % n = j
      · rw [if_pos e]; omega
      · rw [if_neg e]; exact h1 (by omega)
theorem cyc_least {n : Nat} (hn : 0 < n) (i : Nat) {j : Nat} (hj : j < n) : (j < i % n → cyc n i (i % n) < cyc n i j) ∧ (i % n ≤ j → cyc n i (i % n) ≤ cyc n i j) := by
  have hr := Nat.mod_lt i hn
  obtain ⟨_, a2⟩ := cyc_is hn i (i % n) hr
  obtain ⟨b1, b2⟩ := cyc_is hn i j hj
  obtain ⟨a3, a4⟩ := a2 (Nat.le_refl _)
  cases hq : i / n with
  | zero =>
    rw [a3 hq]
    exact ⟨fun h => by rw [b1 h]; omega, fun _ => Nat.zero_le _⟩
  | succ q =>
    rw [a4 q hq]
    refine ⟨fun h => ?_, fun h => ?_⟩
    · rw [b1 h, hq, Nat.mul_add, Nat.mul_one]; omega
    · rw [(b2 h).2 q hq]; omega
/-- The picks of so many fair turns. -/
def cycL (A : List Int) (i : Nat) : List Int := (List.range i).map (fun k => A.getD (k % A.length) 0)
theorem cycL_more (A : List Int) (i : Nat) : cycL A (i + 1) = cycL A i ++ [A.getD (i % A.length) 0] := by simp [cycL, List.range_succ]
theorem cycL_len (A : List Int) (i : Nat) : (cycL A i).length = i := by simp [cycL]
theorem getD_inj {A : List Int} (h : A.Pairwise (· < ·)) {i j : Nat} (hi : i < A.length) (hj : j < A.length) (e : A.getD i 0 = A.getD j 0) : i = j := by
  have hp := List.pairwise_iff_getElem.1 h
  have e' : A[i] = A[j] := by simpa [List.getD, hi, hj] using e
  rcases Nat.lt_trichotomy i j with g | g | g
  · have := hp i j hi hj g; omega
  · exact g
  · have := hp j i hj hi g; omega
theorem cyc_last {A : List Int} (h : A.Pairwise (· < ·)) {j : Nat} (hj : j < A.length) : ∀ i, lastP (cycL A i) (A.getD j 0) = cyc A.length i j
  | 0 => rfl
  | i + 1 => by
    rw [cycL_more, lastP_more, cycL_len, cyc_last h hj i]
    have hi := Nat.mod_lt i (show 0 < A.length by omega)
    show _ = if i % A.length = j then i + 1 else cyc A.length i j
    by_cases e : i % A.length = j
    · rw [if_pos e, if_pos (by rw [e])]
    · rw [if_neg e, if_neg (fun q => e (getD_inj h hi hj q))]
theorem best_at (f : Int → Nat) {l : List Int} {r : Nat} (hr : r < l.length) (h1 : ∀ j, j < r → f (l.getD r 0) < f (l.getD j 0)) (h2 : ∀ j, j < l.length → r ≤ j → f (l.getD r 0) ≤ f (l.getD j 0)) : best f l = l.getD r 0 := by
  have key : ∀ i, i ≤ l.length → i = 0 ∨ (1 ≤ i ∧ i ≤ r ∧ f (l.getD r 0) < (bestS f l i).2) ∨ (r < i ∧ bestS f l i = (l.getD r 0, f (l.getD r 0))) := by
    intro i
    induction i with
    | zero => intro _; exact .inl rfl
    | succ i ih =>
      intro hi
      right
      have hs : bestS f l (i + 1) = if i = 0 ∨ f (l.getD i 0) < (bestS f l i).2 then (l.getD i 0, f (l.getD i 0)) else bestS f l i := rfl
      by_cases hir : i < r
      · left
        refine ⟨by omega, by omega, ?_⟩
        rw [hs]
        split
        · exact h1 i hir
        · rcases ih (by omega) with e | ⟨_, _, e⟩ | ⟨e, _⟩
          · rename_i hn; exact absurd (.inl e) hn
          · exact e
          · omega
      · right
        refine ⟨by omega, ?_⟩
        rw [hs]
        by_cases e : i = r
        · subst e
          rw [if_pos]
          rcases ih (by omega) with e | ⟨_, _, e⟩ | ⟨e, _⟩
          · exact .inl e
          · exact .inr e
          · omega
        · rcases ih (by omega) with e2 | ⟨_, e2, _⟩ | ⟨_, e2⟩
          · omega
          · omega
          · rw [e2, if_neg]
            have := h2 i (by omega) (by omega)
            rintro (q | q)
            · omega
            · simp only at q; omega
  have hne : l ≠ [] := fun e => by rw [e] at hr; simp at hr
  rw [bestS_all f hne]
  rcases key l.length (Nat.le_refl _) with e | ⟨_, e, _⟩ | ⟨_, e⟩
  · omega
  · omega
  · rw [e]
/-- One fair turn of those that stay ready. -/
theorem cyc_fair {m : List Int} {A : List Int} (hA : ∀ p, (⟨m, p⟩ : Kn).inM 1 = A) (hne : A ≠ []) (i : Nat) : (⟨m, cycL A i⟩ : Kn).fair = (A.getD (i % A.length) 0, true, ⟨m, cycL A (i + 1)⟩) := by
  have hup : A.Pairwise (· < ·) := by rw [← hA []]; exact inL_up _ _ _
  have hn : 0 < A.length := List.length_pos_iff.2 hne
  have hr := Nat.mod_lt i hn
  have hb : best (lastP (cycL A i)) A = A.getD (i % A.length) 0 := by
    refine best_at _ hr (fun j hj => ?_) (fun j hj hj2 => ?_)
    · rw [cyc_last hup hr, cyc_last hup (by omega)]
      exact (cyc_least hn i (by omega)).1 hj
    · rw [cyc_last hup hr, cyc_last hup hj]
      exact (cyc_least hn i hj).2 hj2
  unfold Kn.fair
  rw [hA, if_neg hne, cycL_more]
  simp only [hb]
end Go.Proofs.Ytnjmajcjdkceoaa
