
/-
  An LRU, plain: its pairs by rising keys, its keys by recency. No Go text in sight.
-/
import Derived.Test.YtoaceadfdelgfaaB13Alg
namespace Go.Proofs.Ytoaceadfdelgfaa
set_option linter.unusedVariables false
set_option linter.unusedSimpArgs false

/-- An answer, whole. -/
structure Rq where
  E : Int
  f : Bool
  v : Int
  o : Bool
  k : Int
  u : Int
def fgt (key : Int) (R : List Int) : List Int := R.filter (fun k => decide (k ≠ key))
def lastR (R : List Int) : Int := R.reverse.getD 0 0
def evA (cap : Nat) (S : List Pp) (op key : Int) : Bool := decide (op = 2 ∨ op = 4) && !hitS key S && decide (S.length = cap)
def tchA (S : List Pp) (op key : Int) : Bool := decide (op = 2 ∨ op = 4) || (decide (op = 0) && hitS key S)
def outA (cap : Nat) (S : List Pp) (R : List Int) (op key : Int) : List Pp × List Int := if evA cap S op key = true then (dropS S (lastR R), fgt (lastR R) R) else (S, R)
def ordA (cap : Nat) (S : List Pp) (R : List Int) (op key : Int) : List Int :=
  if tchA S op key = true then key :: fgt key (outA cap S R op key).2
  else if op = 3 then fgt key (outA cap S R op key).2
  else (outA cap S R op key).2
def doA (cap : Nat) (S : List Pp) (R : List Int) (op key val : Int) : Rq × List Pp × List Int :=
  (⟨(doS cap (outA cap S R op key).1 op key val).1.E, (doS cap (outA cap S R op key).1 op key val).1.f, (doS cap (outA cap S R op key).1 op key val).1.v, evA cap S op key, if evA cap S op key = true then lastR R else 0, if evA cap S op key = true then hadS (lastR R) S else 0⟩,
   (doS cap (outA cap S R op key).1 op key val).2, ordA cap S R op key)
/-- What an LRU keeps: the order is all its keys. -/
structure InvA (cap : Nat) (S : List Pp) (R : List Int) : Prop where
  srt : Srt S
  keys : R.Perm (S.map Pp.k)
  len : S.length ≤ cap
  cap1 : 1 ≤ cap
section
variable {cap : Nat} {S : List Pp} {R : List Int}
theorem fgt_lo {key : Int} {A D : List Pp} (hA : Lo key A) (hD : Hi key D) : fgt key ((A ++ D).map Pp.k) = (A ++ D).map Pp.k := by
  unfold fgt
  apply List.filter_eq_self.2
  intro k hk
  obtain ⟨p, hp, rfl⟩ := List.mem_map.1 hk
  rcases List.mem_append.1 hp with g | g
  · have := hA p g; simp; omega
  · have := hD p g; simp; omega
theorem fgt_mid {key x : Int} {A D : List Pp} (hA : Lo key A) (hD : Hi key D) : fgt key ((A ++ ⟨key, x⟩ :: D).map Pp.k) = (A ++ D).map Pp.k := by
  rw [← fgt_lo hA hD]
  unfold fgt
  rw [List.map_append, List.map_cons, List.filter_append, List.filter_cons_of_neg (by simp), ← List.filter_append, ← List.map_append]
theorem drop_keys (hs : Srt S) (key : Int) : (dropS S key).map Pp.k = fgt key (S.map Pp.k) := by
  obtain ⟨A, D, hA, hD, _, hL⟩ := srt_part hs key
  rcases hL with rfl | ⟨x, rfl⟩
  · rw [drop_no hA hD, fgt_lo hA hD]
  · rw [drop_yes hA hD, fgt_mid hA hD]
theorem set_keys (hs : Srt S) (key y val : Int) (hr : hitS key S = true ∨ S.length < cap) : ((setS cap S ⟨key, y⟩ val).2.map Pp.k).Perm (key :: fgt key (S.map Pp.k)) := by
  obtain ⟨A, D, hA, hD, _, hL⟩ := srt_part hs key
  rcases hL with rfl | ⟨x, rfl⟩
  · rcases hr with hr | hr
    · rw [hit_no hA hD] at hr
      cases hr
    · rw [set_new hA hD _ _ hr, fgt_lo hA hD, List.map_append, List.map_append]
      exact List.perm_middle
  · rw [set_yes hA hD, fgt_mid hA hD, List.map_append, List.map_append]
    exact List.perm_middle
theorem hit_mem (hs : Srt S) {key : Int} (h : key ∈ S.map Pp.k) : hitS key S = true ∧ (dropS S key).length + 1 = S.length := by
  obtain ⟨A, D, hA, hD, _, hL⟩ := srt_part hs key
  rcases hL with rfl | ⟨x, rfl⟩
  · rw [← fgt_lo hA hD] at h
    have := (List.mem_filter.1 h).2
    simp at this
  · rw [hit_yes hA hD, drop_yes hA hD]
    exact ⟨rfl, by simp; omega⟩
theorem fgt_front (hs : Srt S) {key : Int} (h : hitS key S = true) : (key :: fgt key (S.map Pp.k)).Perm (S.map Pp.k) := by
  obtain ⟨A, D, hA, hD, _, hL⟩ := srt_part hs key
  rcases hL with rfl | ⟨x, rfl⟩
  · rw [hit_no hA hD] at h
    cases h
  · rw [fgt_mid hA hD, List.map_append, List.map_append]
    exact List.perm_middle.symm
theorem fgt_perm {A B : List Int} (h : A.Perm B) (key : Int) : (fgt key A).Perm (fgt key B) := List.Perm.filter _ h
theorem last_mem (h : R ≠ []) : lastR R ∈ R := by
  unfold lastR
  cases hr : R.reverse with
  | nil => exact absurd (List.reverse_eq_nil_iff.1 hr) h
  | cons a l =>
    have : a ∈ R.reverse := by rw [hr]; simp
    simpa using this
/-- Behind what is driven out: what is kept, and there is room. -/
theorem InvA.out (h : InvA cap S R) (op key : Int) : InvA cap (outA cap S R op key).1 (outA cap S R op key).2 ∧ ((op = 2 ∨ op = 4) → hitS key (outA cap S R op key).1 = true ∨ (outA cap S R op key).1.length < cap) := by
  unfold outA
  cases he : evA cap S op key with
  | true =>
    simp only [if_true]
    have hlen : S.length = cap := by
      unfold evA at he
      simp only [Bool.and_eq_true, decide_eq_true_eq] at he
      exact he.2
    have hR : R ≠ [] := fun e => by
      have := h.keys.length_eq
      rw [e, List.length_map] at this
      simp at this
      have := h.cap1
      omega
    have hm := hit_mem h.srt (h.keys.mem_iff.1 (last_mem hR))
    refine ⟨⟨srt_drop h.srt _, by rw [drop_keys h.srt]; exact fgt_perm h.keys _, by omega, h.cap1⟩, fun _ => .inr (by omega)⟩
  | false =>
    simp only [Bool.false_eq_true, if_false]
    refine ⟨h, fun ho => ?_⟩
    unfold evA at he
    rw [decide_eq_true ho, Bool.true_and] at he
    cases hh : hitS key S with
    | true => exact .inl rfl
    | false =>
      rw [hh] at he
      simp at he
      have := h.len
      exact .inr (by omega)
theorem InvA.do (h : InvA cap S R) (op key val : Int) : InvA cap (doA cap S R op key val).2.1 (doA cap S R op key val).2.2 := by
  obtain ⟨ho, hroom⟩ := h.out op key
  unfold doA
  simp only
  refine ⟨srt_do ho.srt _ _ _, ?_, doS_len ho.len, h.cap1⟩
  unfold ordA
  by_cases h24 : op = 2 ∨ op = 4
  · have ht : tchA S op key = true := by unfold tchA; rw [decide_eq_true h24]; rfl
    rw [if_pos ht]
    have hk : ∀ y z, (key :: fgt key (outA cap S R op key).2).Perm ((setS cap (outA cap S R op key).1 ⟨key, y⟩ z).2.map Pp.k) := fun y z => (List.Perm.cons _ (fgt_perm ho.keys key)).trans (set_keys ho.srt key y z (hroom h24)).symm
    rcases h24 with rfl | rfl
    · rw [do_put]; exact hk _ _
    · rw [do_add]; exact hk _ _
  · have he : evA cap S op key = false := by unfold evA; rw [decide_eq_false h24]; rfl
    have hoe : outA cap S R op key = (S, R) := by unfold outA; rw [he]; rfl
    rw [hoe]
    simp only
    by_cases h0 : op = 0
    · subst h0
      rw [do_get]
      cases hh : hitS key S with
      | true =>
        rw [if_pos (by unfold tchA; rw [hh]; rfl)]
        exact (List.Perm.cons _ (fgt_perm h.keys key)).trans (fgt_front h.srt hh)
      | false =>
        rw [if_neg (by unfold tchA; rw [hh]; decide), if_neg (by decide)]
        exact h.keys
    · rw [if_neg (by unfold tchA; rw [decide_eq_false h24, decide_eq_false h0]; simp)]
      by_cases h3 : op = 3
      · subst h3
        rw [if_pos rfl, do_del]
        simp only
        rw [drop_keys h.srt]
        exact fgt_perm h.keys key
      · rw [if_neg h3]
        have : (doS cap S op key val).2 = S := by
          unfold doS
          rw [if_neg h0]
          by_cases h1 : op = 1
          · rw [if_pos h1]
          · rw [if_neg h1, if_neg (fun e => h24 (.inl e)), if_neg h3, if_neg (fun e => h24 (.inr e))]
        rw [this]
        exact h.keys
end
end Go.Proofs.Ytoaceadfdelgfaa
