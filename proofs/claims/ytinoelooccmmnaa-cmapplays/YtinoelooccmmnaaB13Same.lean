
/-
  The two books answer alike: by rising keys, and in the order in which keys came. No Go text in sight.
-/
import Derived.Test.YtinoelooccmmnaaB13Alg
namespace Go.Proofs.Ytinoelooccmmnaa
set_option linter.unusedVariables false
set_option linter.unusedSimpArgs false

section
variable {key x : Int} {A R D : List Pp}
theorem pos_split {D : List Pp} (h : posP key D < D.length) : ∃ T U y, D = T ++ ⟨key, y⟩ :: U ∧ posP key D = T.length ∧ valP key D = y := by
  have hk := posP_at h
  refine ⟨D.take (posP key D), D.drop (posP key D + 1), (D.getD (posP key D) Pp.nil).v, ?_, by rw [List.length_take]; omega, rfl⟩
  have e : ∀ q : Pp, q.k = key → (⟨key, q.v⟩ : Pp) = q := fun q hq => by cases q; simp only at hq; rw [hq]
  rw [e _ hk, List.getD_eq_getElem?_getD, List.getElem?_eq_getElem h]
  simp
/-- The key isn't there. -/
theorem doc_no (hA : Lo key A) (hR : Hi key R) (hp : (A ++ R).Perm D) : hasP key D = false ∧ valP key D = 0 ∧ posP key D = D.length := by
  have hn : posP key D = D.length := posP_none (fun i hi => by
    have hm : D.getD i Pp.nil ∈ A ++ R := hp.mem_iff.2 (by rw [List.getD_eq_getElem?_getD, List.getElem?_eq_getElem hi]; exact List.getElem_mem hi)
    rcases List.mem_append.1 hm with g | g
    · have := hA _ g; omega
    · have := hR _ g; omega)
  refine ⟨?_, ?_, hn⟩
  · rw [hasP, hn]; simp
  · rw [valP, hn]; simp [Pp.nil]
/-- The key is there. -/
theorem doc_yes (hA : Lo key A) (hR : Hi key R) (hp : (A ++ ⟨key, x⟩ :: R).Perm D) : hasP key D = true ∧ valP key D = x ∧ (∀ y, (A ++ ⟨key, y⟩ :: R).Perm (D.set (posP key D) ⟨key, y⟩)) ∧ (A ++ R).Perm (D.eraseIdx (posP key D)) := by
  have hlt : posP key D < D.length := by
    rcases Nat.lt_or_ge (posP key D) D.length with g | g
    · exact g
    · exact absurd rfl (posP_no (key := key) (by omega) ⟨key, x⟩ (hp.mem_iff.1 (by simp)))
  obtain ⟨T, U, y, e1, e2, e3⟩ := pos_split hlt
  have hy : y = x := by
    have hm : (⟨key, y⟩ : Pp) ∈ A ++ ⟨key, x⟩ :: R := hp.mem_iff.2 (by rw [e1]; simp)
    rcases List.mem_append.1 hm with g | g
    · have := hA _ g
      simp at this
    · rcases List.mem_cons.1 g with g | g
      · injection g
      · have := hR _ g
        simp at this
  subst hy
  have hc : (A ++ R).Perm (T ++ U) := by
    have h0 : (A ++ (⟨key, y⟩ : Pp) :: R).Perm (T ++ ⟨key, y⟩ :: U) := by rw [← e1]; exact hp
    have h1 : ((⟨key, y⟩ : Pp) :: (A ++ R)).Perm (⟨key, y⟩ :: (T ++ U)) := (List.perm_middle.symm.trans h0).trans List.perm_middle
    exact h1.cons_inv
  refine ⟨by rw [hasP]; exact decide_eq_true hlt, e3, fun z => ?_, ?_⟩
  · rw [e2]
    have : D.set T.length ⟨key, z⟩ = T ++ ⟨key, z⟩ :: U := by
      rw [e1, List.set_append_right _ _ (Nat.le_refl _)]
      simp
    rw [this]
    exact (List.perm_middle.trans (List.Perm.cons _ hc)).trans List.perm_middle.symm
  · rw [e2]
    have : D.eraseIdx T.length = T ++ U := by
      rw [e1, List.eraseIdx_append_of_length_le (Nat.le_refl _)]
      simp
    rw [this]
    exact hc
end
/-- They answer alike, and hold the same pairs behind it. -/
theorem do_same {cap : Nat} {S D : List Pp} (hs : Srt S) (hp : S.Perm D) (op key val : Int) : (doS cap S op key val).1 = (doP cap D op key val).1 ∧ (doS cap S op key val).2.Perm (doP cap D op key val).2 := by
  have hl := hp.length_eq
  obtain ⟨A, R, hA, hR, _, hL⟩ := srt_part hs key
  rcases hL with rfl | ⟨x, rfl⟩
  · obtain ⟨e1, e2, e3⟩ := doc_no hA hR hp
    have hee : D.eraseIdx D.length = D := List.eraseIdx_of_length_le (Nat.le_refl _)
    have set : ∀ y z, (setS cap (A ++ R) ⟨key, y⟩ z) = if cap ≤ D.length then (⟨40, false, 0⟩, A ++ R) else (⟨0, false, z⟩, A ++ ⟨key, y⟩ :: R) := by
      intro y z
      by_cases hc : cap ≤ D.length
      · rw [if_pos hc, set_full hA hR _ _ (by omega)]
      · rw [if_neg hc, set_new hA hR _ _ (by omega)]
    have hmore : ∀ y, (A ++ ⟨key, y⟩ :: R).Perm (D ++ [⟨key, y⟩]) := fun y => (List.perm_middle.trans (List.Perm.cons _ hp)).trans (show ([(⟨key, y⟩ : Pp)] ++ D).Perm (D ++ [⟨key, y⟩]) from List.perm_append_comm)
    unfold doS doP
    rw [hit_no hA hR, had_no hA hR, drop_no hA hR, e1, e2, e3, hee, set, set]
    by_cases h0 : op = 0
    · rw [if_pos h0, if_pos h0]; exact ⟨rfl, hp⟩
    by_cases h1 : op = 1
    · rw [if_neg h0, if_pos h1, if_neg h0, if_pos h1]; exact ⟨rfl, hp⟩
    by_cases h2 : op = 2
    · rw [if_neg h0, if_neg h1, if_pos h2, if_neg h0, if_neg h1, if_pos (Or.inl h2)]
      by_cases hc : cap ≤ D.length
      · rw [if_pos hc, if_pos ⟨rfl, hc⟩]; exact ⟨rfl, hp⟩
      · rw [if_neg hc, if_neg (fun e => hc e.2), if_neg (by omega), if_neg (by decide)]; exact ⟨rfl, hmore _⟩
    by_cases h3 : op = 3
    · rw [if_neg h0, if_neg h1, if_neg h2, if_pos h3, if_neg h0, if_neg h1, if_neg (by omega), if_pos h3]; exact ⟨rfl, hp⟩
    by_cases h4 : op = 4
    · rw [if_neg h0, if_neg h1, if_neg h2, if_neg h3, if_pos h4, if_neg h0, if_neg h1, if_pos (Or.inr h4)]
      by_cases hc : cap ≤ D.length
      · rw [if_pos hc, if_pos ⟨rfl, hc⟩]; exact ⟨rfl, hp⟩
      · rw [if_neg hc, if_neg (fun e => hc e.2), if_pos h4, if_neg (by decide)]; exact ⟨rfl, hmore _⟩
    · rw [if_neg h0, if_neg h1, if_neg h2, if_neg h3, if_neg h4, if_neg h0, if_neg h1, if_neg (by omega), if_neg h3]; exact ⟨rfl, hp⟩
  · obtain ⟨e1, e2, e3, e4⟩ := doc_yes hA hR hp
    unfold doS doP
    rw [hit_yes hA hR, had_yes hA hR, drop_yes hA hR, e1, e2, set_yes hA hR, set_yes hA hR]
    by_cases h0 : op = 0
    · rw [if_pos h0, if_pos h0]; exact ⟨rfl, hp⟩
    by_cases h1 : op = 1
    · rw [if_neg h0, if_pos h1, if_neg h0, if_pos h1]; exact ⟨rfl, hp⟩
    by_cases h2 : op = 2
    · rw [if_neg h0, if_neg h1, if_pos h2, if_neg h0, if_neg h1, if_pos (Or.inl h2), if_neg (fun e => by cases e.1), if_neg (by omega), if_pos rfl]; exact ⟨rfl, e3 _⟩
    by_cases h3 : op = 3
    · rw [if_neg h0, if_neg h1, if_neg h2, if_pos h3, if_neg h0, if_neg h1, if_neg (by omega), if_pos h3]; exact ⟨rfl, e4⟩
    by_cases h4 : op = 4
    · rw [if_neg h0, if_neg h1, if_neg h2, if_neg h3, if_pos h4, if_neg h0, if_neg h1, if_pos (Or.inr h4), if_neg (fun e => by cases e.1), if_pos h4, if_pos rfl]; exact ⟨rfl, e3 _⟩
    · rw [if_neg h0, if_neg h1, if_neg h2, if_neg h3, if_neg h4, if_neg h0, if_neg h1, if_neg (by omega), if_neg h3]; exact ⟨rfl, hp⟩
end Go.Proofs.Ytinoelooccmmnaa
