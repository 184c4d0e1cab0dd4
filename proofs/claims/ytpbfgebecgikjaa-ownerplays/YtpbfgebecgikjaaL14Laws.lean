
/-
  An LRU, plain: what its laws say. No Go text in sight.
-/
import Derived.Test.YtpbfgebecgikjaaB13Alg
namespace Go.Proofs.Ytpbfgebecgikjaa
set_option linter.unusedVariables false
set_option linter.unusedSimpArgs false

/-- An answer, whole. -/
structure Rq where
  E : Int
  f : Bool
  v : Int
  o : Bool
  k : Int
  u : Int
def fgt (key : Int) (R : List Int) : List Int := R.filter (fun k => decide (k ≠ key))
def lastR (R : List Int) : Int := R.reverse.getD 0 0
def evA (cap : Nat) (S : List Pp) (op key : Int) : Bool := decide (op = 2 ∨ op = 4) && !hitS key S && decide (S.length = cap)
def tchA (S : List Pp) (op key : Int) : Bool := decide (op = 2 ∨ op = 4) || (decide (op = 0) && hitS key S)
def outA (cap : Nat) (S : List Pp) (R : List Int) (op key : Int) : List Pp × List Int := if evA cap S op key = true then (dropS S (lastR R), fgt (lastR R) R) else (S, R)
def ordA (cap : Nat) (S : List Pp) (R : List Int) (op key : Int) : List Int :=
  if tchA S op key = true then key :: fgt key (outA cap S R op key).2
  else if op = 3 then fgt key (outA cap S R op key).2
  else (outA cap S R op key).2
def doA (cap : Nat) (S : List Pp) (R : List Int) (op key val : Int) : Rq × List Pp × List Int :=
  (⟨(doS cap (outA cap S R op key).1 op key val).1.E, (doS cap (outA cap S R op key).1 op key val).1.f, (doS cap (outA cap S R op key).1 op key val).1.v, evA cap S op key, if evA cap S op key = true then lastR R else 0, if evA cap S op key = true then hadS (lastR R) S else 0⟩,
   (doS cap (outA cap S R op key).1 op key val).2, ordA cap S R op key)
/-- What an LRU keeps: the order is all its keys. -/
structure InvA (cap : Nat) (S : List Pp) (R : List Int) : Prop where
  srt : Srt S
  keys : R.Perm (S.map Pp.k)
  len : S.length ≤ cap
  cap1 : 1 ≤ cap
section
variable {cap : Nat} {S : List Pp} {R : List Int}
theorem fgt_lo {key : Int} {A D : List Pp} (hA : Lo key A) (hD : Hi key D) : fgt key ((A ++ D).map Pp.k) = (A ++ D).map Pp.k := by
  unfold fgt
  apply List.filter_eq_self.2
  intro k hk
  obtain ⟨p, hp, rfl⟩ := List.mem_map.1 hk
  rcases List.mem_append.1 hp with g | g
  · have := hA p g; simp; omega
  · have := hD p g; simp; omega
theorem fgt_mid {key x : Int} {A D : List Pp} (hA : Lo key A) (hD : Hi key D) : fgt key ((A ++ ⟨key, x⟩ :: D).map Pp.k) = (A ++ D).map Pp.k := by
  rw [← fgt_lo hA hD]
  unfold fgt
  rw [List.map_append, List.map_cons, List.filter_append, List.filter_cons_of_neg (by simp), ← List.filter_append, ← List.map_append]
theorem drop_keys (hs : Srt S) (key : Int) : (dropS S key).map Pp.k = fgt key (S.map Pp.k) := by
  obtain ⟨A, D, hA, hD, _, hL⟩ := srt_part hs key
  rcases hL with rfl | ⟨x, rfl⟩
  · rw [drop_no hA hD, fgt_lo hA hD]
  · rw [drop_yes hA hD, fgt_mid hA hD]
theorem set_keys (hs : Srt S) (key y val : Int) (hr : hitS key S = true ∨ S.length < cap) : ((setS cap S ⟨key, y⟩ val).2.map Pp.k).Perm (key :: fgt key (S.map Pp.k)) := by
  obtain ⟨A, D, hA, hD, _, hL⟩ := srt_part hs key
  rcases hL with rfl | ⟨x, rfl⟩
  · rcases hr with hr | hr
    · rw [hit_no hA hD] at hr
      cases hr
    · rw [set_new hA hD _ _ hr, fgt_lo hA hD, List.map_append, List.map_append]
      exact List.perm_middle
  · rw [set_yes hA hD, fgt_mid hA hD, List.map_append, List.map_append]
    exact List.perm_middle
theorem hit_mem (hs : Srt S) {key : Int} (h : key ∈ S.map Pp.k) : hitS key S = true ∧ (dropS S key).length + 1 = S.length := by
  obtain ⟨A, D, hA, hD, _, hL⟩ := srt_part hs key
  rcases hL with rfl | ⟨x, rfl⟩
  · rw [← fgt_lo hA hD] at h
    have := (List.mem_filter.1 h).2
    simp at this
  · rw [hit_yes hA hD, drop_yes hA hD]
    exact ⟨rfl, by simp; omega⟩
theorem fgt_front (hs : Srt S) {key : Int} (h : hitS key S = true) : (key :: fgt key (S.map Pp.k)).Perm (S.map Pp.k) := by
  obtain ⟨A, D, hA, hD, _, hL⟩ := srt_part hs key
  rcases hL with rfl | ⟨x, rfl⟩
  · rw [hit_no hA hD] at h
    cases h
  · rw [fgt_mid hA hD, List.map_append, List.map_append]
    exact List.perm_middle.symm
theorem fgt_perm {A B : List Int} (h : A.Perm B) (key : Int) : (fgt key A).Perm (fgt key B) := List.Perm.filter _ h
theorem last_mem (h : R ≠ []) : lastR R ∈ R := by
  unfold lastR
  cases hr : R.reverse with
  | nil => exact absurd (List.reverse_eq_nil_iff.1 hr) h
  | cons a l =>
    have : a ∈ R.reverse := by rw [hr]; simp
    simpa using this
/-- Behind what is driven out: what is kept, and there is room. -/
theorem InvA.out (h : InvA cap S R) (op key : Int) : InvA cap (outA cap S R op key).1 (outA cap S R op key).2 ∧ ((op = 2 ∨ op = 4) → hitS key (outA cap S R op key).1 = true ∨ (outA cap S R op key).1.length < cap) := by
  unfold outA
  cases he : evA cap S op key with
  | true =>
    simp only [if_true]
    have hlen : S.length = cap := by
      unfold evA at he
      simp only [Bool.and_eq_true, decide_eq_true_eq] at he
      exact he.2
    have hR : R ≠ [] := fun e => by
      have := h.keys.length_eq
      rw [e, List.length_map] at this
      simp at this
      have := h.cap1
      omega
    have hm := hit_mem h.srt (h.keys.mem_iff.1 (last_mem hR))
    refine ⟨⟨srt_drop h.srt _, by rw [drop_keys h.srt]; exact fgt_perm h.keys _, by omega, h.cap1⟩, fun _ => .inr (by omega)⟩
  | false =>
    simp only [Bool.false_eq_true, if_false]
    refine ⟨h, fun ho => ?_⟩
    unfold evA at he
    rw [decide_eq_true ho, Bool.true_and] at he
    cases hh : hitS key S with
    | true => exact .inl rfl
    | false =>
      rw [hh] at he
      simp at he
      have := h.len
      exact .inr (by omega)
theorem InvA.do (h : InvA cap S R) (op key val : Int) : InvA cap (doA cap S R op key val).2.1 (doA cap S R op key val).2.2 := by
  obtain ⟨ho, hroom⟩ := h.out op key
  unfold doA
  simp only
  refine ⟨srt_do ho.srt _ _ _, ?_, doS_len ho.len, h.cap1⟩
  unfold ordA
  by_cases h24 : op = 2 ∨ op = 4
  · have ht : tchA S op key = true := by unfold tchA; rw [decide_eq_true h24]; rfl
    rw [if_pos ht]
    have hk : ∀ y z, (key :: fgt key (outA cap S R op key).2).Perm ((setS cap (outA cap S R op key).1 ⟨key, y⟩ z).2.map Pp.k) := fun y z => (List.Perm.cons _ (fgt_perm ho.keys key)).trans (set_keys ho.srt key y z (hroom h24)).symm
    rcases h24 with rfl | rfl
    · rw [do_put]; exact hk _ _
    · rw [do_add]; exact hk _ _
  · have he : evA cap S op key = false := by unfold evA; rw [decide_eq_false h24]; rfl
    have hoe : outA cap S R op key = (S, R) := by unfold outA; rw [he]; rfl
    rw [hoe]
    simp only
    by_cases h0 : op = 0
    · subst h0
      rw [do_get]
      cases hh : hitS key S with
      | true =>
        rw [if_pos (by unfold tchA; rw [hh]; rfl)]
        exact (List.Perm.cons _ (fgt_perm h.keys key)).trans (fgt_front h.srt hh)
      | false =>
        rw [if_neg (by unfold tchA; rw [hh]; decide), if_neg (by decide)]
        exact h.keys
    · rw [if_neg (by unfold tchA; rw [decide_eq_false h24, decide_eq_false h0]; simp)]
      by_cases h3 : op = 3
      · subst h3
        rw [if_pos rfl, do_del]
        simp only
        rw [drop_keys h.srt]
        exact fgt_perm h.keys key
      · rw [if_neg h3]
        have : (doS cap S op key val).2 = S := by
          unfold doS
          rw [if_neg h0]
          by_cases h1 : op = 1
          · rw [if_pos h1]
          · rw [if_neg h1, if_neg (fun e => h24 (.inl e)), if_neg h3, if_neg (fun e => h24 (.inr e))]
        rw [this]
        exact h.keys
end
section
variable {cap : Nat} {S : List Pp} {R : List Int}
theorem InvA.nodup (h : InvA cap S R) : R.Nodup := by
  rw [h.keys.nodup_iff]
  have h1 : (S.map Pp.k).Pairwise (fun a b => a < b) := List.pairwise_map.2 h.srt
  exact h1.imp (fun {a b} hab => by omega)
theorem InvA.length (h : InvA cap S R) : R.length = S.length := by rw [h.keys.length_eq, List.length_map]
theorem hit_iff (hs : Srt S) (key : Int) : hitS key S = true ↔ key ∈ S.map Pp.k := by
  constructor
  · intro h
    obtain ⟨A, D, hA, hD, _, hL⟩ := srt_part hs key
    rcases hL with rfl | ⟨x, rfl⟩
    · rw [hit_no hA hD] at h; cases h
    · simp
  · intro h; exact (hit_mem hs h).1
theorem InvA.hit (h : InvA cap S R) (key : Int) : hitS key S = true ↔ key ∈ R := by rw [hit_iff h.srt, h.keys.mem_iff]
theorem fgt_no {key : Int} {R : List Int} (h : key ∉ R) : fgt key R = R := by
  unfold fgt
  apply List.filter_eq_self.2
  intro k hk
  have : k ≠ key := fun e => h (by rw [← e]; exact hk)
  simpa using this
/-- What is driven out stands last. -/
theorem fgt_last (hn : R.Nodup) (h : R ≠ []) : fgt (lastR R) R = R.dropLast ∧ lastR R = R.getD (R.length - 1) 0 := by
  obtain ⟨A, x, rfl⟩ : ∃ A x, R = A ++ [x] := ⟨R.dropLast, R.getLast h, (List.dropLast_concat_getLast h).symm⟩
  have hl : lastR (A ++ [x]) = x := by unfold lastR; simp
  rw [hl]
  obtain ⟨n1, n2, n3⟩ := List.nodup_append.1 hn
  refine ⟨?_, by simp⟩
  have hx : x ∉ A := fun e => n3 x e x (by simp) rfl
  rw [List.dropLast_concat]
  unfold fgt
  rw [List.filter_append, List.filter_cons_of_neg (by simp)]
  have := fgt_no hx
  unfold fgt at this
  rw [this]
  simp
/-- Refused by a book: just where an LRU drives one out. -/
theorem e40 (h : InvA cap S R) (op key val : Int) : (doS cap S op key val).1.E = 40 ↔ evA cap S op key = true := by
  have hset : ∀ p v, p.k = key → ((setS cap S p v).1.E = 40 ↔ (hitS key S = false ∧ S.length = cap)) := by
    intro p v hp
    unfold setS
    rw [hp]
    cases hh : hitS key S with
    | true => simp
    | false =>
      simp only [Bool.false_eq_true, if_false]
      have := h.len
      by_cases hc : cap ≤ S.length
      · rw [if_pos hc]
        simp
        omega
      · rw [if_neg hc]
        simp
        omega
  have hev : (op = 2 ∨ op = 4) → (evA cap S op key = true ↔ (hitS key S = false ∧ S.length = cap)) := by
    intro ho
    unfold evA
    rw [decide_eq_true ho]
    simp
  by_cases h2 : op = 2
  · subst h2
    rw [do_put, hset _ _ rfl, hev (.inl rfl)]
  by_cases h4 : op = 4
  · subst h4
    rw [do_add, hset _ _ rfl, hev (.inr rfl)]
  · have he : evA cap S op key = false := by unfold evA; rw [decide_eq_false (by omega)]; rfl
    rw [he]
    constructor
    · intro hE
      exfalso
      unfold doS at hE
      rw [if_neg h2, if_neg h4] at hE
      split at hE
      · simp at hE
      · split at hE
        · simp at hE
        · split at hE <;> simp at hE
    · intro hE; cases hE
/-- As a book answers, where that refuses nothing. -/
theorem doA_book {op key : Int} (he : evA cap S op key = false) (val : Int) : (doA cap S R op key val).1 = ⟨(doS cap S op key val).1.E, (doS cap S op key val).1.f, (doS cap S op key val).1.v, false, 0, 0⟩ ∧ (doA cap S R op key val).2.1 = (doS cap S op key val).2 := by
  unfold doA outA
  rw [he]
  exact ⟨rfl, rfl⟩
/-- Where one is driven out. -/
theorem doA_evict (h : InvA cap S R) {op key : Int} (he : evA cap S op key = true) (val : Int) : (doA cap S R op key val).1.E = 0 ∧ (doA cap S R op key val).1.f = false ∧ (doA cap S R op key val).1.o = true ∧ (doA cap S R op key val).2.1.length = cap := by
  have he' := he
  unfold evA at he'
  simp only [Bool.and_eq_true, decide_eq_true_eq, Bool.not_eq_true'] at he'
  obtain ⟨⟨h24, hh⟩, hlen⟩ := he'
  have hR : R ≠ [] := fun e => by
    have := h.length
    rw [e] at this
    have := h.cap1
    simp at *
    omega
  have hm := hit_mem h.srt (h.keys.mem_iff.1 (last_mem hR))
  have hh1 : hitS key (dropS S (lastR R)) = false := by
    cases hq : hitS key (dropS S (lastR R)) with
    | false => rfl
    | true =>
      have h1 := (hit_iff (srt_drop h.srt _) key).1 hq
      rw [drop_keys h.srt] at h1
      have h2 := (hit_iff h.srt key).2 (List.mem_filter.1 h1).1
      rw [hh] at h2
      cases h2
  have hset : ∀ p v, p.k = key → (setS cap (dropS S (lastR R)) p v).1 = ⟨0, false, v⟩ ∧ (setS cap (dropS S (lastR R)) p v).2.length = cap := by
    intro p v hp
    unfold setS
    rw [hp, if_neg (by rw [hh1]; decide), if_neg (by omega)]
    refine ⟨rfl, ?_⟩
    simp only
    rw [insL_len _ _ _ (findS_le _ _)]
    omega
  unfold doA outA
  rw [he]
  simp only [if_true]
  rcases h24 with rfl | rfl
  · rw [do_put]
    obtain ⟨g1, g2⟩ := hset ⟨key, val⟩ (hadS key (dropS S (lastR R))) rfl
    rw [g1]
    exact ⟨rfl, rfl, trivial, g2⟩
  · rw [do_add]
    obtain ⟨g1, g2⟩ := hset ⟨key, (hadS key (dropS S (lastR R)) + val) % 18446744073709551616⟩ ((hadS key (dropS S (lastR R)) + val) % 18446744073709551616) rfl
    rw [g1]
    exact ⟨rfl, rfl, trivial, g2⟩
end
end Go.Proofs.Ytpbfgebecgikjaa
