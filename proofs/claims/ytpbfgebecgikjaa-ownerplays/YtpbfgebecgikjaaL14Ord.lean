
/-
  The landed LRU's order, plain: what it makes of the keys that it knew and of its book. No Go text in sight.
-/
import Derived.Test.YtpbfgebecgikjaaL14Laws
import Derived.Test.YtpbfgebecgikjaaL14LB
namespace Go.Proofs.Ytpbfgebecgikjaa
set_option linter.unusedVariables false
set_option linter.unusedSimpArgs false

def frontO (key : Int) (R : List Int) : List Int := key :: fgt key R
section
variable {cap : Nat} {S : List Pp} {R : List Int}
theorem srt_nodup (hs : Srt S) : (S.map Pp.k).Nodup := by
  have h1 : (S.map Pp.k).Pairwise (fun a b => a < b) := List.pairwise_map.2 hs
  exact h1.imp (fun {a b} hab => by omega)
/-- The keys that it knew, less those that are gone; and the new one. -/
theorem ordO_old (hs : Srt S) {p : Int → Bool} (hk : (S.map Pp.k).Perm (R.filter p)) : ordO S R = R.filter p := by
  have hmem : ∀ k, hitS k S = true ↔ (k ∈ R ∧ p k = true) := fun k => by rw [hit_iff hs, hk.mem_iff, List.mem_filter]
  have hh : heldO S R = R.filter p := by
    unfold heldO
    apply List.filter_congr
    intro k hkR
    have := hmem k
    cases hq : p k with
    | true => exact this.2 ⟨hkR, hq⟩
    | false =>
      cases hy : hitS k S with
      | false => rfl
      | true => have := (this.1 hy).2; rw [hq] at this; cases this
  unfold ordO
  rw [restO_eq _ _ (srt_nodup hs), hh]
  have : (S.map Pp.k).filter (fun k => decide (k ∉ R.filter p)) = [] := by
    apply List.filter_eq_nil_iff.2
    intro k hkS
    have := hk.mem_iff.1 hkS
    simpa using this
  rw [this, List.append_nil]
theorem ordO_new (hs : Srt S) {p : Int → Bool} {key : Int} (hk : (S.map Pp.k).Perm (key :: R.filter p)) (hn : key ∉ R) : ordO S R = R.filter p ++ [key] := by
  have hmem : ∀ k, hitS k S = true ↔ (k = key ∨ (k ∈ R ∧ p k = true)) := fun k => by rw [hit_iff hs, hk.mem_iff, List.mem_cons, List.mem_filter]
  have hh : heldO S R = R.filter p := by
    unfold heldO
    apply List.filter_congr
    intro k hkR
    have := hmem k
    cases hq : p k with
    | true => exact this.2 (.inr ⟨hkR, hq⟩)
    | false =>
      cases hy : hitS k S with
      | false => rfl
      | true =>
        rcases this.1 hy with e | e
        · rw [e] at hkR; exact absurd hkR hn
        · rw [hq] at e; cases e.2
  unfold ordO
  rw [restO_eq _ _ (srt_nodup hs), hh]
  congr 1
  have h1 := hk.filter (fun k => decide (k ∉ R.filter p))
  have h2 : (key :: R.filter p).filter (fun k => decide (k ∉ R.filter p)) = [key] := by
    rw [List.filter_cons_of_pos (by simp; exact .inl hn)]
    congr 1
    apply List.filter_eq_nil_iff.2
    intro k hkS
    simpa using hkS
  rw [h2] at h1
  exact List.perm_singleton.1 h1
theorem fgt_filter (key : Int) (p : Int → Bool) (R : List Int) : fgt key (R.filter p) = R.filter (fun k => p k && decide (k ≠ key)) := by
  unfold fgt
  rw [List.filter_filter]
  congr 1
  funext k
  exact Bool.and_comm _ _
theorem fgt_add (key : Int) (R : List Int) : fgt key (R ++ [key]) = fgt key R := by
  unfold fgt
  rw [List.filter_append, List.filter_cons_of_neg (by simp)]
  simp
theorem nodup_front {A : List Int} (hn : A.Nodup) {key : Int} (hk : key ∈ A) : (key :: fgt key A).Perm A := by
  induction A with
  | nil => cases hk
  | cons x l ih =>
    obtain ⟨h1, h2⟩ := List.nodup_cons.1 hn
    by_cases e : x = key
    · subst e
      have : fgt x (x :: l) = l := by
        have h3 : fgt x (x :: l) = fgt x l := by unfold fgt; rw [List.filter_cons_of_neg (by simp)]
        rw [h3, fgt_no h1]
      rw [this]
    · have h3 : fgt key (x :: l) = x :: fgt key l := by unfold fgt; rw [List.filter_cons_of_pos (by simpa using e)]
      rw [h3]
      have hl : key ∈ l := by
        rcases List.mem_cons.1 hk with g | g
        · exact absurd g.symm e
        · exact g
      exact (List.Perm.swap x key _).trans (List.Perm.cons x (ih h2 hl))
theorem InvA.order (h : InvA cap S R) : ordO S R = R := by
  have h1 : R.filter (fun _ => true) = R := List.filter_eq_self.2 (fun _ _ => rfl)
  rw [ordO_old h.srt (p := fun _ => true) (by rw [h1]; exact h.keys.symm), h1]
/-- What the order is behind an operation. -/
theorem InvA.order_do (h : InvA cap S R) (op key val : Int) : (if tchA S op key = true then frontO key (ordO (doA cap S R op key val).2.1 R) else ordO (doA cap S R op key val).2.1 R) = (doA cap S R op key val).2.2 := by
  have hi := h.do op key val
  have hR := h.nodup
  obtain ⟨p, hp, hin⟩ : ∃ p : Int → Bool, (outA cap S R op key).2 = R.filter p ∧ (key ∈ R → key ∈ R.filter p) := by
    unfold outA
    cases he : evA cap S op key with
    | true =>
      refine ⟨fun k => decide (k ≠ lastR R), rfl, fun hk => ?_⟩
      have := (h.hit key).2 hk
      unfold evA at he
      rw [this] at he
      simp at he
    | false =>
      have h1 : R.filter (fun _ => true) = R := List.filter_eq_self.2 (fun _ _ => rfl)
      exact ⟨fun _ => true, h1.symm, fun hk => by rw [h1]; exact hk⟩
  have hkeys := hi.keys.symm
  have hsrt := hi.srt
  revert hkeys
  show ((doA cap S R op key val).2.1.map Pp.k).Perm (ordA cap S R op key) → _ = ordA cap S R op key
  unfold ordA
  rw [hp]
  intro hkeys
  cases ht : tchA S op key with
  | true =>
    rw [ht] at hkeys
    simp only [if_true] at hkeys ⊢
    by_cases hk : key ∈ R
    · rw [ordO_old hsrt (p := p) (hkeys.trans (nodup_front (hR.filter p) (hin hk)))]
      rfl
    · have h2 : key ∉ R.filter p := fun e => hk (List.mem_filter.1 e).1
      rw [fgt_no h2] at hkeys
      rw [ordO_new hsrt hkeys hk, frontO, fgt_add]
  | false =>
    rw [ht] at hkeys
    simp only [Bool.false_eq_true, if_false] at hkeys ⊢
    by_cases h3 : op = 3
    · rw [if_pos h3] at hkeys ⊢
      rw [fgt_filter] at hkeys ⊢
      exact ordO_old hsrt hkeys
    · rw [if_neg h3] at hkeys ⊢
      exact ordO_old hsrt hkeys
/-- Whether a key was touched, by the answer. -/
def tchO (op E : Int) (f : Bool) : Bool := if op = 0 then f else if op = 2 ∨ op = 4 then decide (E = 0) else false
theorem InvA.tch (h : InvA cap S R) (op key val : Int) : tchO op (doA cap S R op key val).1.E (doA cap S R op key val).1.f = tchA S op key := by
  cases he : evA cap S op key with
  | true =>
    obtain ⟨g1, g2, _⟩ := doA_evict h he val
    rw [g1, g2]
    unfold evA at he
    simp only [Bool.and_eq_true, decide_eq_true_eq] at he
    obtain ⟨⟨h24, _⟩, _⟩ := he
    unfold tchO tchA
    rw [decide_eq_true h24, if_neg (by omega), if_pos h24]
    rfl
  | false =>
    rw [(doA_book he val).1]
    have hE := e40 h op key val
    rw [he] at hE
    simp only [Bool.false_eq_true, iff_false] at hE
    unfold tchO tchA
    simp only
    by_cases h0 : op = 0
    · subst h0
      rw [if_pos rfl, do_get]
      simp
    · rw [if_neg h0, decide_eq_false h0, Bool.false_and, Bool.or_false]
      by_cases h24 : op = 2 ∨ op = 4
      · rw [if_pos h24, decide_eq_true h24]
        have hset : ∀ p v, (setS cap S p v).1.E ≠ 40 → (setS cap S p v).1.E = 0 := by
          intro p v
          unfold setS
          split
          · intro _; rfl
          · split
            · intro hq; exact absurd rfl hq
            · intro _; rfl
        have : (doS cap S op key val).1.E = 0 := by
          rcases h24 with rfl | rfl
          · rw [do_put] at hE ⊢; exact hset _ _ hE
          · rw [do_add] at hE ⊢; exact hset _ _ hE
        rw [this]
        rfl
      · rw [if_neg h24, decide_eq_false h24]
end
end Go.Proofs.Ytpbfgebecgikjaa
