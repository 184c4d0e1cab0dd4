
/-
  An LRU, plain: what its laws say. No Go text in sight.
-/
import Derived.Test.YtoaceadfdelgfaaL14Pl
namespace Go.Proofs.Ytoaceadfdelgfaa
set_option linter.unusedVariables false
set_option linter.unusedSimpArgs false

section
variable {cap : Nat} {S : List Pp} {R : List Int}
theorem InvA.nodup (h : InvA cap S R) : R.Nodup := by
  rw [h.keys.nodup_iff]
  have h1 : (S.map Pp.k).Pairwise (fun a b => a < b) := List.pairwise_map.2 h.srt
  exact h1.imp (fun {a b} hab => by omega)
theorem InvA.length (h : InvA cap S R) : R.length = S.length := by rw [h.keys.length_eq, List.length_map]
theorem hit_iff (hs : Srt S) (key : Int) : hitS key S = true ↔ key ∈ S.map Pp.k := by
  constructor
  · intro h
    obtain ⟨A, D, hA, hD, _, hL⟩ := srt_part hs key
    rcases hL with rfl | ⟨x, rfl⟩
    · rw [hit_no hA hD] at h; cases h
    · simp
  · intro h; exact (hit_mem hs h).1
theorem InvA.hit (h : InvA cap S R) (key : Int) : hitS key S = true ↔ key ∈ R := by rw [hit_iff h.srt, h.keys.mem_iff]
theorem fgt_no {key : Int} {R : List Int} (h : key ∉ R) : fgt key R = R := by
  unfold fgt
  apply List.filter_eq_self.2
  intro k hk
  have : k ≠ key := fun e => h (by rw [← e]; exact hk)
  simpa using this
/-- What is driven out stands last. -/
theorem fgt_last (hn : R.Nodup) (h : R ≠ []) : fgt (lastR R) R = R.dropLast ∧ lastR R = R.getD (R.length - 1) 0 := by
  obtain ⟨A, x, rfl⟩ : ∃ A x, R = A ++ [x] := ⟨R.dropLast, R.getLast h, (List.dropLast_concat_getLast h).symm⟩
  have hl : lastR (A ++ [x]) = x := by unfold lastR; simp
  rw [hl]
  obtain ⟨n1, n2, n3⟩ := List.nodup_append.1 hn
  refine ⟨?_, by simp⟩
  have hx : x ∉ A := fun e => n3 x e x (by simp) rfl
  rw [List.dropLast_concat]
  unfold fgt
  rw [List.filter_append, List.filter_cons_of_neg (by simp)]
  have := fgt_no hx
  unfold fgt at this
  rw [this]
  simp
/-- Refused by a book: just where an LRU drives one out. -/
theorem e40 (h : InvA cap S R) (op key val : Int) : (doS cap S op key val).1.E = 40 ↔ evA cap S op key = true := by
  have hset : ∀ p v, p.k = key → ((setS cap S p v).1.E = 40 ↔ (hitS key S = false ∧ S.length = cap)) := by
    intro p v hp
    unfold setS
    rw [hp]
    cases hh : hitS key S with
    | true => simp
    | false =>
      simp only [Bool.false_eq_true, if_false]
      have := h.len
      by_cases hc : cap ≤ S.length
      · rw [if_pos hc]
        simp
        omega
      · rw [if_neg hc]
        simp
        omega
  have hev : (op = 2 ∨ op = 4) → (evA cap S op key = true ↔ (hitS key S = false ∧ S.length = cap)) := by
    intro ho
    unfold evA
    rw [decide_eq_true ho]
    simp
  by_cases h2 : op = 2
  · subst h2
    rw [do_put, hset _ _ rfl, hev (.inl rfl)]
  by_cases h4 : op = 4
  · subst h4
    rw [do_add, hset _ _ rfl, hev (.inr rfl)]
  · have he : evA cap S op key = false := by unfold evA; rw [decide_eq_false (by omega)]; rfl
    rw [he]
    constructor
    · intro hE
      exfalso
      unfold doS at hE
      rw [if_neg h2, if_neg h4] at hE
      split at hE
      · simp at hE
      · split at hE
        · simp at hE
        · split at hE <;> simp at hE
    · intro hE; cases hE
/-- As a book answers, where that refuses nothing. -/
theorem doA_book {op key : Int} (he : evA cap S op key = false) (val : Int) : (doA cap S R op key val).1 = ⟨(doS cap S op key val).1.E, (doS cap S op key val).1.f, (doS cap S op key val).1.v, false, 0, 0⟩ ∧ (doA cap S R op key val).2.1 = (doS cap S op key val).2 := by
  unfold doA outA
  rw [he]
  exact ⟨rfl, rfl⟩
/-- Where one is driven out. -/
theorem doA_evict (h : InvA cap S R) {op key : Int} (he : evA cap S op key = true) (val : Int) : (doA cap S R op key val).1.E = 0 ∧ (doA cap S R op key val).1.f = false ∧ (doA cap S R op key val).1.o = true ∧ (doA cap S R op key val).2.1.length = cap := by
  have he' := he
  unfold evA at he'
  simp only [Bool.and_eq_true, decide_eq_true_eq, Bool.not_eq_true'] at he'
  obtain ⟨⟨h24, hh⟩, hlen⟩ := he'
  have hR : R ≠ [] := fun e => by
    have := h.length
    rw [e] at this
    have := h.cap1
    simp at *
    omega
  have hm := hit_mem h.srt (h.keys.mem_iff.1 (last_mem hR))
  have hh1 : hitS key (dropS S (lastR R)) = false := by
    cases hq : hitS key (dropS S (lastR R)) with
    | false => rfl
    | true =>
      have h1 := (hit_iff (srt_drop h.srt _) key).1 hq
      rw [drop_keys h.srt] at h1
      have h2 := (hit_iff h.srt key).2 (List.mem_filter.1 h1).1
      rw [hh] at h2
      cases h2
  have hset : ∀ p v, p.k = key → (setS cap (dropS S (lastR R)) p v).1 = ⟨0, false, v⟩ ∧ (setS cap (dropS S (lastR R)) p v).2.length = cap := by
    intro p v hp
    unfold setS
    rw [hp, if_neg (by rw [hh1]; decide), if_neg (by omega)]
    refine ⟨rfl, ?_⟩
    simp only
    rw [insL_len _ _ _ (findS_le _ _)]
    omega
  unfold doA outA
  rw [he]
  simp only [if_true]
  rcases h24 with rfl | rfl
  · rw [do_put]
    obtain ⟨g1, g2⟩ := hset ⟨key, val⟩ (hadS key (dropS S (lastR R))) rfl
    rw [g1]
    exact ⟨rfl, rfl, trivial, g2⟩
  · rw [do_add]
    obtain ⟨g1, g2⟩ := hset ⟨key, (hadS key (dropS S (lastR R)) + val) % 18446744073709551616⟩ ((hadS key (dropS S (lastR R)) + val) % 18446744073709551616) rfl
    rw [g1]
    exact ⟨rfl, rfl, trivial, g2⟩
end
end Go.Proofs.Ytoaceadfdelgfaa
