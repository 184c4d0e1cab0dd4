/-
  P7.5, with no Go text in sight: a way through a code that is taken, in which each loop leads back at most its bound times between two goings-on, meets at most as many places as the code costs.
-/
import Derived.Test.YtfmibjgihicedaaF7Plain
namespace Go.Proofs.Ytfmibjgihicedaa
open Go.RowKit
set_option linter.unusedVariables false

/-- What one loop does to a place's count: how often it is met in all, how often still. -/
def wayS (p q : Int) (c : Int → Int) (s : Int × Int) (l : Lp) : Int × Int :=
  if withinB l q then (s.1 * (l.b + 1), if withinB l p then (l.b - c l.t) * s.1 + s.2 else if p ≤ q then s.1 * (l.b + 1) else 0) else s
def wayF (p q : Int) (c : Int → Int) (ls : List Lp) (s : Int × Int) : Int × Int := ls.foldl (wayS p q c) s
def wayP (p q : Int) (c : Int → Int) (ls : List Lp) : Int := (wayF p q c ls (1, if p ≤ q then 1 else 0)).2
/-- The counts lie within the bounds. -/
def Cnt (ls : List Lp) (c : Int → Int) : Prop := ∀ l ∈ ls, 0 ≤ c l.t ∧ c l.t ≤ l.b
theorem way_fst (p q : Int) (c : Int → Int) : ∀ (ls : List Lp) (s : Int × Int), (wayF p q c ls s).1 = timesT q ls s.1
  | [], s => rfl
  | l :: r, s => by
    show (wayF p q c r (wayS p q c s l)).1 = _
    rw [way_fst p q c r, timesT]
    unfold wayS
    split <;> rfl
theorem mul_bd {b c P : Int} (h0 : 0 ≤ c) (h1 : c ≤ b) (hP : 1 ≤ P) : 0 ≤ (b - c) * P ∧ (b - c) * P + P ≤ P * (b + 1) := by
  have e1 : 0 ≤ (b - c) * P := Int.mul_nonneg (by omega) (by omega)
  have e2 : 0 ≤ c * P := Int.mul_nonneg h0 (by omega)
  have e3 : (b - c) * P = b * P - c * P := Int.sub_mul ..
  have e4 : P * (b + 1) = b * P + P := by rw [Int.mul_add, Int.mul_comm]; omega
  omega
theorem way_bd {p q : Int} {c : Int → Int} : ∀ {ls : List Lp} {s : Int × Int}, Cnt ls c → Bnd ls → 1 ≤ s.1 → 0 ≤ s.2 → s.2 ≤ s.1 → 1 ≤ (wayF p q c ls s).1 ∧ 0 ≤ (wayF p q c ls s).2 ∧ (wayF p q c ls s).2 ≤ (wayF p q c ls s).1
  | [], s, _, _, h1, h2, h3 => ⟨h1, h2, h3⟩
  | l :: r, s, hc, hb, h1, h2, h3 => by
    have hcr : Cnt r c := fun x hx => hc x (by simp [hx])
    have hbr : Bnd r := fun x hx => hb x (by simp [hx])
    have hl := hc l (by simp)
    have hbl := hb l (by simp)
    show 1 ≤ (wayF p q c r (wayS p q c s l)).1 ∧ _
    have hm := mul_bd hl.1 hl.2 h1
    have hg := mul_grow h1 (show 0 ≤ l.b by omega)
    refine way_bd hcr hbr ?_ ?_ ?_ <;> unfold wayS <;> split <;> first | assumption | skip
    · show 1 ≤ s.1 * (l.b + 1); omega
    · show 0 ≤ (if withinB l p then (l.b - c l.t) * s.1 + s.2 else if p ≤ q then s.1 * (l.b + 1) else 0)
      split
      · omega
      · split <;> omega
    · show (if withinB l p then (l.b - c l.t) * s.1 + s.2 else if p ≤ q then s.1 * (l.b + 1) else 0) ≤ s.1 * (l.b + 1)
      split
      · omega
      · split <;> omega
/-- A step forward: into a body by its head alone, out of it behind its end; the counts of the loops that it stays in stay. -/
def Fwd (ls : List Lp) (p p' : Int) (c c' : Int → Int) : Prop := p < p' ∧ ∀ l ∈ ls, (withinB l p = true → withinB l p' = true → c' l.t = c l.t) ∧ (withinB l p = true → withinB l p' = false → l.t < p') ∧ (withinB l p = false → withinB l p' = true → p' = l.h)
theorem way_fwd {p p' q : Int} {c c' : Int → Int} {d : Int} (hd : d = 0 ∨ (d = 1 ∧ q = p)) : ∀ {ls : List Lp} {s s' : Int × Int}, Fwd ls p p' c c' → Cnt ls c → Cnt ls c' → Bnd ls → s'.1 = s.1 → 1 ≤ s.1 → 0 ≤ s.2 → s.2 ≤ s.1 → 0 ≤ s'.2 → s'.2 ≤ s.1 → s'.2 + d ≤ s.2 →
    (wayF p' q c' ls s').2 + d ≤ (wayF p q c ls s).2
  | [], s, s', _, _, _, _, _, _, _, _, _, _, h => h
  | l :: r, s, s', hf, hc, hc', hb, he, h1, h2, h3, h4, h5, h6 => by
    have hfr : Fwd r p p' c c' := ⟨hf.1, fun x hx => hf.2 x (by simp [hx])⟩
    have hcr : Cnt r c := fun x hx => hc x (by simp [hx])
    have hcr' : Cnt r c' := fun x hx => hc' x (by simp [hx])
    have hbr : Bnd r := fun x hx => hb x (by simp [hx])
    have hl := hc l (by simp)
    have hl' := hc' l (by simp)
    have hbl := hb l (by simp)
    obtain ⟨f1, f2, f3⟩ := hf.2 l (by simp)
    have hlt := hf.1
    have hm := mul_bd hl.1 hl.2 h1
    have hm' := mul_bd hl'.1 hl'.2 h1
    have hg := mul_grow h1 (show 0 ≤ l.b by omega)
    show (wayF p' q c' r (wayS p' q c' s' l)).2 + d ≤ (wayF p q c r (wayS p q c s l)).2
    cases hq : withinB l q
    · have e1 : wayS p' q c' s' l = s' := by unfold wayS; rw [hq]; rfl
      have e2 : wayS p q c s l = s := by unfold wayS; rw [hq]; rfl
      rw [e1, e2]
      exact way_fwd hd hfr hcr hcr' hbr he h1 h2 h3 h4 h5 h6
    · have e1 : wayS p' q c' s' l = (s.1 * (l.b + 1), if withinB l p' then (l.b - c' l.t) * s.1 + s'.2 else if p' ≤ q then s.1 * (l.b + 1) else 0) := by unfold wayS; rw [hq, he]; rfl
      have e2 : wayS p q c s l = (s.1 * (l.b + 1), if withinB l p then (l.b - c l.t) * s.1 + s.2 else if p ≤ q then s.1 * (l.b + 1) else 0) := by unfold wayS; rw [hq]; rfl
      rw [e1, e2]
      have hq' := within_iff.1 hq
      cases hp : withinB l p <;> cases hp' : withinB l p'
      · have hd0 : d = 0 := by
          rcases hd with h | ⟨_, h⟩
          · exact h
          · subst h; rw [hq] at hp; cases hp
        refine way_fwd hd hfr hcr hcr' hbr rfl ?_ ?_ ?_ ?_ ?_ ?_ <;> simp <;> (try split) <;> (try split) <;> omega
      · have hh := f3 hp hp'
        have hd0 : d = 0 := by
          rcases hd with h | ⟨_, h⟩
          · exact h
          · subst h; rw [hq] at hp; cases hp
        have hpq : p ≤ q := by omega
        refine way_fwd hd hfr hcr hcr' hbr rfl ?_ ?_ ?_ ?_ ?_ ?_ <;> simp [hpq] <;> omega
      · have hh := f2 hp hp'
        have hpq : ¬ p' ≤ q := by omega
        refine way_fwd hd hfr hcr hcr' hbr rfl ?_ ?_ ?_ ?_ ?_ ?_ <;> simp [hpq] <;> omega
      · have hcc := f1 hp hp'
        rw [hcc]
        refine way_fwd hd hfr hcr hcr' hbr rfl ?_ ?_ ?_ ?_ ?_ ?_ <;> simp <;> omega
theorem wayP_fwd {p p' q : Int} {c c' : Int → Int} {ls : List Lp} (hf : Fwd ls p p' c c') (hc : Cnt ls c) (hc' : Cnt ls c') (hb : Bnd ls) : wayP p' q c' ls + (if q = p then 1 else 0) ≤ wayP p q c ls := by
  have hlt := hf.1
  unfold wayP
  by_cases hqp : q = p
  · rw [if_pos hqp]
    refine way_fwd (.inr ⟨rfl, hqp⟩) hf hc hc' hb rfl (by simp) ?_ ?_ ?_ ?_ ?_ <;> simp <;> (try split) <;> (try split) <;> omega
  · rw [if_neg hqp]
    refine way_fwd (.inl rfl) hf hc hc' hb rfl (by simp) ?_ ?_ ?_ ?_ ?_ <;> simp <;> (try split) <;> (try split) <;> omega
/-- Two states alike, as seen from a place. -/
theorem way_like {p p' q : Int} {c c' : Int → Int} (hpq : p ≤ q ↔ p' ≤ q) : ∀ {ls : List Lp} {s : Int × Int}, (∀ l ∈ ls, withinB l q = true → withinB l p' = withinB l p ∧ c' l.t = c l.t) → wayF p' q c' ls s = wayF p q c ls s
  | [], s, _ => rfl
  | l :: r, s, h => by
    have hr : ∀ l ∈ r, withinB l q = true → withinB l p' = withinB l p ∧ c' l.t = c l.t := fun x hx => h x (by simp [hx])
    show wayF p' q c' r (wayS p' q c' s l) = wayF p q c r (wayS p q c s l)
    have e : wayS p' q c' s l = wayS p q c s l := by
      unfold wayS
      cases hq : withinB l q
      · rfl
      · obtain ⟨h1, h2⟩ := h l (by simp) hq
        rw [h1, h2]
        by_cases hx : p ≤ q
        · rw [if_pos hx, if_pos (hpq.1 hx)]
        · rw [if_neg hx, if_neg (fun y => hx (hpq.2 y))]
    rw [e]
    exact way_like hpq hr
/-- Loops that have both places in them. -/
theorem way_both {p p' q : Int} {c c' : Int → Int} {d : Int} : ∀ {ls : List Lp} {s s' : Int × Int}, (∀ l ∈ ls, withinB l q = true → withinB l p' = true ∧ withinB l p = true ∧ c' l.t = c l.t) → s'.1 = s.1 → s'.2 + d ≤ s.2 → (wayF p' q c' ls s').2 + d ≤ (wayF p q c ls s).2
  | [], s, s', _, _, h => h
  | l :: r, s, s', h, he, h6 => by
    have hr : ∀ l ∈ r, withinB l q = true → withinB l p' = true ∧ withinB l p = true ∧ c' l.t = c l.t := fun x hx => h x (by simp [hx])
    show (wayF p' q c' r (wayS p' q c' s' l)).2 + d ≤ (wayF p q c r (wayS p q c s l)).2
    cases hq : withinB l q
    · have e1 : wayS p' q c' s' l = s' := by unfold wayS; rw [hq]; rfl
      have e2 : wayS p q c s l = s := by unfold wayS; rw [hq]; rfl
      rw [e1, e2]
      exact way_both hr he h6
    · obtain ⟨h1, h2, h3⟩ := h l (by simp) hq
      have e1 : wayS p' q c' s' l = (s.1 * (l.b + 1), (l.b - c l.t) * s.1 + s'.2) := by unfold wayS; rw [hq, h1, h3, he]; rfl
      have e2 : wayS p q c s l = (s.1 * (l.b + 1), (l.b - c l.t) * s.1 + s.2) := by unfold wayS; rw [hq, h2]; rfl
      rw [e1, e2]
      exact way_both hr rfl (by show _ + _ + d ≤ _; omega)
/-- Loops that are left behind. -/
theorem way_out {p q : Int} {c : Int → Int} : ∀ {ls : List Lp} {s : Int × Int}, (∀ l ∈ ls, withinB l p = false) → s.2 = (if p ≤ q then s.1 else 0) → (wayF p q c ls s).2 = (if p ≤ q then (wayF p q c ls s).1 else 0)
  | [], s, _, h => h
  | l :: r, s, h, hs => by
    have hr : ∀ l ∈ r, withinB l p = false := fun x hx => h x (by simp [hx])
    show (wayF p q c r (wayS p q c s l)).2 = (if p ≤ q then (wayF p q c r (wayS p q c s l)).1 else 0)
    refine way_out hr ?_
    unfold wayS
    rw [h l (by simp)]
    cases hq : withinB l q
    · exact hs
    · rfl
theorem wayF_app (p q : Int) (c : Int → Int) (A B : List Lp) (s : Int × Int) : wayF p q c (A ++ B) s = wayF p q c B (wayF p q c A s) := List.foldl_append
/-- A step back. -/
theorem wayP_back {q : Int} {c c' : Int → Int} {A B : List Lp} {L : Lp} (hc : Cnt (A ++ L :: B) c) (hc' : Cnt (A ++ L :: B) c') (hb : Bnd (A ++ L :: B)) (hh : L.h < L.t) (hA : ∀ l ∈ A, l.t < L.t) (hB : ∀ l ∈ B, L.t < l.t)
    (nA : ∀ l ∈ A, ¬ (l.h < L.h ∧ L.h ≤ l.t)) (nB : ∀ l ∈ B, ¬ (L.h < l.h ∧ l.h ≤ L.t)) (hs : ∀ t, t ≠ L.t → c' t = c t) (hL : c' L.t = c L.t + 1) : wayP L.h q c' (A ++ L :: B) + (if q = L.t then 1 else 0) ≤ wayP L.t q c (A ++ L :: B) := by
  cases hq : withinB L q
  · have hq' := within_no.1 hq
    have hne : q ≠ L.t := by omega
    rw [if_neg hne]
    have hpq : L.t ≤ q ↔ L.h ≤ q := by omega
    unfold wayP
    have e : (if L.h ≤ q then (1 : Int) else 0) = if L.t ≤ q then 1 else 0 := by
      by_cases hx : L.t ≤ q
      · rw [if_pos hx, if_pos (hpq.1 hx)]
      · rw [if_neg hx, if_neg (fun y => hx (hpq.2 y))]
    rw [e, way_like (p := L.t) (p' := L.h) (c := c) (c' := c') hpq]
    · omega
    intro l hl hlq
    have hlq' := within_iff.1 hlq
    have hmem : l ∈ A ∨ l = L ∨ l ∈ B := by simpa using hl
    rcases hmem with h | rfl | h
    · have h1 := hA l h
      have h2 := nA l h
      have w1 : withinB l L.t = false := within_no.2 (by omega)
      have w2 : withinB l L.h = false := within_no.2 (by omega)
      exact ⟨by rw [w1, w2], hs _ (by omega)⟩
    · rw [hq] at hlq; cases hlq
    · have h1 := hB l h
      have h2 := nB l h
      refine ⟨?_, hs _ (by omega)⟩
      by_cases hx : l.h ≤ L.h
      · rw [within_iff.2 (by omega), within_iff.2 (by omega)]
      · rw [within_no.2 (by omega), within_no.2 (by omega)]
  · have hq' := within_iff.1 hq
    have cA : Cnt A c' := fun l hl => hc' l (by simp [hl])
    have cA0 : Cnt A c := fun l hl => hc l (by simp [hl])
    have bA : Bnd A := fun l hl => hb l (by simp [hl])
    have cL := hc L (by simp)
    have cL' := hc' L (by simp)
    unfold wayP
    rw [wayF_app, wayF_app]
    have hb1 := way_bd (p := L.h) (q := q) (s := (1, if L.h ≤ q then 1 else 0)) cA bA (by simp) (by simp; split <;> omega) (by simp; split <;> omega)
    have hb0 := way_bd (p := L.t) (q := q) (s := (1, if L.t ≤ q then 1 else 0)) cA0 bA (by simp) (by simp; split <;> omega) (by simp; split <;> omega)
    have ho := way_out (p := L.t) (q := q) (c := c) (ls := A) (s := (1, if L.t ≤ q then 1 else 0)) (fun l hl => within_no.2 (by have := hA l hl; omega)) rfl
    have hP : (wayF L.h q c' A (1, if L.h ≤ q then 1 else 0)).1 = (wayF L.t q c A (1, if L.t ≤ q then 1 else 0)).1 := by rw [way_fst, way_fst]
    generalize wayF L.h q c' A (1, if L.h ≤ q then 1 else 0) = s' at hb1 hP ⊢
    generalize wayF L.t q c A (1, if L.t ≤ q then 1 else 0) = s at hb0 ho hP ⊢
    obtain ⟨P', R'⟩ := s'
    obtain ⟨P, R⟩ := s
    simp only at hb1 hb0 ho hP
    subst hP
    have e1 : wayS L.h q c' (P', R') L = (P' * (L.b + 1), (L.b - c' L.t) * P' + R') := by unfold wayS; rw [hq, within_iff.2 (show L.h ≤ L.h ∧ L.h ≤ L.t by omega)]; rfl
    have e2 : wayS L.t q c (P', R) L = (P' * (L.b + 1), (L.b - c L.t) * P' + R) := by unfold wayS; rw [hq, within_iff.2 (show L.h ≤ L.t ∧ L.t ≤ L.t by omega)]; rfl
    show (wayF L.h q c' B (wayS L.h q c' (P', R') L)).2 + _ ≤ (wayF L.t q c B (wayS L.t q c (P', R) L)).2
    rw [e1, e2]
    have e3 : (L.b - c' L.t) * P' = (L.b - c L.t) * P' - P' := by rw [hL, show L.b - (c L.t + 1) = (L.b - c L.t) - 1 by omega, Int.sub_mul, Int.one_mul]
    refine way_both (d := if q = L.t then 1 else 0) ?_ rfl ?_
    · intro l hl hlq
      have hlq' := within_iff.1 hlq
      have h1 := hB l hl
      have h2 := nB l hl
      exact ⟨within_iff.2 (by omega), within_iff.2 (by omega), hs _ (by omega)⟩
    · show (L.b - c' L.t) * P' + R' + _ ≤ (L.b - c L.t) * P' + R
      rw [e3]
      by_cases hx : q = L.t
      · rw [if_pos hx]
        rw [if_pos (by omega)] at ho
        omega
      · rw [if_neg hx]
        omega
/-- What is left of the way. -/
def left (ls : List Lp) (p : Int) (c : Int → Int) : Nat → Int
  | 0 => 0
  | n + 1 => left ls p c n + wayP p n c ls
theorem left_step {ls : List Lp} {p p' : Int} {c c' : Int → Int} (h : ∀ q : Nat, wayP p' q c' ls + (if (q : Int) = p then 1 else 0) ≤ wayP p q c ls) (n : Nat) : left ls p' c' n + (if 0 ≤ p ∧ p < n then 1 else 0) ≤ left ls p c n := by
  induction n with
  | zero => simp [left]; omega
  | succ n ih =>
    rw [left, left]
    have h1 := h n
    by_cases h2 : (n : Int) = p
    · rw [if_pos h2] at h1
      rw [if_pos (by omega)]
      split at ih <;> omega
    · rw [if_neg h2] at h1
      by_cases h3 : 0 ≤ p ∧ p < n
      · rw [if_pos h3] at ih; rw [if_pos (by omega)]; omega
      · rw [if_neg h3] at ih; rw [if_neg (by omega)]; omega
theorem wayP_bd {ls : List Lp} {p q : Int} {c : Int → Int} (hc : Cnt ls c) (hb : Bnd ls) : 0 ≤ wayP p q c ls ∧ wayP p q c ls ≤ timesT q ls 1 := by
  have h := way_bd (p := p) (q := q) (s := (1, if p ≤ q then 1 else 0)) hc hb (by simp) (by simp; split <;> omega) (by simp; split <;> omega)
  rw [way_fst] at h
  exact h.2
theorem left_cost {ls : List Lp} {p : Int} {c : Int → Int} (hc : Cnt ls c) (hb : Bnd ls) (n : Nat) : left ls p c n ≤ costT ls n := by
  induction n with
  | zero => simp [left, costT]
  | succ n ih => rw [left, costT]; have := wayP_bd (p := p) (q := n) hc hb; omega
theorem way_pos {p : Int} {c : Int → Int} : ∀ {ls : List Lp} {s : Int × Int}, Cnt ls c → Bnd ls → 1 ≤ s.1 → 1 ≤ s.2 → 1 ≤ (wayF p p c ls s).2
  | [], s, _, _, _, h => h
  | l :: r, s, hc, hb, h1, h2 => by
    have hl := hc l (by simp)
    have hbl := hb l (by simp)
    show 1 ≤ (wayF p p c r (wayS p p c s l)).2
    have hm := mul_bd hl.1 hl.2 h1
    have hg := mul_grow h1 (show 0 ≤ l.b by omega)
    refine way_pos (fun x hx => hc x (by simp [hx])) (fun x hx => hb x (by simp [hx])) ?_ ?_ <;> unfold wayS <;> cases hq : withinB l p <;> simp <;> omega
theorem left_pos {ls : List Lp} {c : Int → Int} (hc : Cnt ls c) (hb : Bnd ls) (p n : Nat) (hp : p < n) : 1 ≤ left ls p c n := by
  have hnn : ∀ m, 0 ≤ left ls p c m := by
    intro m
    induction m with
    | zero => simp [left]
    | succ m ih => rw [left]; have := wayP_bd (p := p) (q := m) hc hb; omega
  induction n with
  | zero => omega
  | succ n ih =>
    rw [left]
    by_cases h : p = n
    · subst h
      have h1 := hnn p
      have h2 : 1 ≤ wayP p p c ls := way_pos hc hb (by simp) (by simp)
      omega
    · have h1 := ih (by omega)
      have h2 := wayP_bd (p := p) (q := n) hc hb
      omega
/-- One step of a way through a code that is taken. -/
theorem way_step {xs : List In} (T : Taken xs) {k : Nat} {k' : Int} {c c' : Int → Int} (hk : k < xs.length) (hc : Cnt (loopsL xs) c) (hs : ∀ t : Int, t ≠ k → c' t = c t)
    (h : (k' = k + 1 ∧ ((nth xs k).op = 20 → c' k = 0) ∧ (nth xs k).on = true) ∨ (k' = k + (nth xs k).far ∧ (nth xs k).leads = true ∧ (nth xs k).op ≠ 20) ∨ (k' = k + (nth xs k).far ∧ (nth xs k).op = 20 ∧ c k < (nth xs k).imm ∧ c' k = c k + 1)) :
    Cnt (loopsL xs) c' ∧ 0 ≤ k' ∧ k' < xs.length ∧ left (loopsL xs) k' c' xs.length + 1 ≤ left (loopsL xs) k c xs.length := by
  have hpl : Placed xs := T.place
  have hb := bnd_ok hpl
  obtain ⟨hr, g0, g1, g2⟩ := place_ok hk (T.place k hk)
  have hg := goes_parts (nth xs k)
  have hloop : ∀ l ∈ loopsL xs, l.t = k → (nth xs k).op = 20 ∧ l = lpAt xs k := by
    intro l hl ht
    obtain ⟨j, hj, h20, rfl⟩ := loopsU_mem.1 hl
    simp only [lpAt] at ht
    obtain rfl : j = k := by omega
    exact ⟨h20, rfl⟩
  have hcnt : Cnt (loopsL xs) c' := by
    intro l hl
    by_cases ht : l.t = k
    · obtain ⟨h20, rfl⟩ := hloop l hl ht
      have h1 := hc _ hl
      have h2 := hb _ hl
      simp only [lpAt] at h1 h2 ⊢
      rcases h with ⟨_, h, _⟩ | ⟨_, _, h⟩ | ⟨_, _, h3, h4⟩
      · have := h h20; omega
      · exact absurd h20 h
      · omega
    · rw [hs _ ht]; exact hc l hl
  refine ⟨hcnt, ?_⟩
  have hstep : (0 ≤ k' ∧ k' < xs.length) ∧ ∀ q : Nat, wayP k' q c' (loopsL xs) + (if (q : Int) = k then 1 else 0) ≤ wayP k q c (loopsL xs) := by
    by_cases hback : k' = k + (nth xs k).far ∧ (nth xs k).op = 20 ∧ c k < (nth xs k).imm ∧ c' k = c k + 1
    · obtain ⟨hk', h20, h3, h4⟩ := hback
      refine ⟨by omega, fun q => ?_⟩
      have hmem : lpAt xs k ∈ loopsL xs := loopsU_mem.2 ⟨k, hk, h20, rfl⟩
      obtain ⟨A, B, hAB⟩ := List.append_of_mem hmem
      have hsort := loopsU_sorted xs xs.length
      rw [show loopsU xs xs.length = loopsL xs from rfl, hAB, List.pairwise_append] at hsort
      obtain ⟨s1, s2, s3⟩ := hsort
      have hAs : ∀ l ∈ A, l.t < (lpAt xs k).t := fun l hl => s3 l hl _ (by simp)
      have hBs : ∀ l ∈ B, (lpAt xs k).t < l.t := fun l hl => (List.pairwise_cons.1 s2).1 l hl
      have hcr := T.cross
      have nA : ∀ l ∈ A, ¬ (l.h < (lpAt xs k).h ∧ (lpAt xs k).h ≤ l.t) := fun l hl hx => by
        have h := crossF_none _ _ hcr A B [] (lpAt xs k) hAB l (by simpa using hl)
        have h' := hAs l hl
        rw [(enters_iff (l := l)).2 (by omega)] at h
        cases h
      have nB : ∀ l ∈ B, ¬ ((lpAt xs k).h < l.h ∧ l.h ≤ (lpAt xs k).t) := fun l hl hx => by
        obtain ⟨B1, B2, rfl⟩ := List.append_of_mem hl
        have h := crossF_none _ _ hcr (A ++ lpAt xs k :: B1) B2 [] l (by rw [hAB]; simp) (lpAt xs k) (by simp)
        have h' := hBs l hl
        rw [(enters_iff (l := lpAt xs k)).2 (by omega)] at h
        cases h
      have e1 : k' = (lpAt xs k).h := hk'
      have e2 : (k : Int) = (lpAt xs k).t := rfl
      have hlt : (lpAt xs k).h < (lpAt xs k).t := by obtain ⟨_, _, _, _, _, h, _⟩ := loop_ok hpl hmem; exact h
      rw [hAB] at hc hcnt hb ⊢
      rw [e1, e2]
      exact wayP_back hc hcnt hb hlt hAs hBs nA nB hs h4
    · have hfw : k < k' ∧ k' < xs.length ∧ ((k' = k + 1) ∨ ((nth xs k).leads = true ∧ k' = k + (nth xs k).far ∧ (nth xs k).op ≠ 20)) := by
        rcases h with ⟨h1, h2, h3⟩ | ⟨h1, h2, h3⟩ | h
        · have := g2 h3; omega
        · refine ⟨?_, by omega, .inr ⟨h2, h1, h3⟩⟩
          rcases hg with h | h | h | h
          · rw [h.2.2.1] at h2; cases h2
          · omega
          · exact absurd h.2.1 h3
          · rw [h.2.2.2.1] at h2; cases h2
        · exact absurd h hback
      refine ⟨by omega, fun q => wayP_fwd ⟨hfw.1, fun l hl => ⟨fun h1 h2 => ?_, fun h1 h2 => ?_, fun h1 h2 => ?_⟩⟩ hc hcnt hb⟩
      · rw [within_iff] at h1 h2
        refine hs _ fun ht => ?_
        omega
      · rw [within_iff] at h1
        rw [within_no] at h2
        omega
      · rw [within_no] at h1
        rw [within_iff] at h2
        rcases hfw.2.2 with h3 | ⟨h3, h4, _⟩
        · omega
        · have h5 := T.intr k hk
          unfold intrB at h5
          rw [h3, Bool.true_and, List.any_eq_false] at h5
          have h6 := h5 l hl
          rw [enters_iff, ← h4] at h6
          omega
  refine ⟨hstep.1.1, hstep.1.2, ?_⟩
  have := left_step hstep.2 xs.length
  rw [if_pos (by omega)] at this
  exact this
end Go.Proofs.Ytfmibjgihicedaa
