
/-
  The document's way to layer 7's answers (bodies as lists of places) against the plain functions; a code with one more instruction. No Go text in sight.
-/
import Derived.Test.YtkcofelpndlplaaML9
namespace Go.Proofs.Ytkcofelpndlplaa
open Go.RowKit
set_option linter.unusedVariables false

def memB (l : List Int) (n : Int) : Bool := decide (n ∈ l)
theorem has_iff {l : List Int} {n : Int} : memB l n = true ↔ n ∈ l := by simp [memB]
theorem has_no {l : List Int} {n : Int} : memB l n = false ↔ n ∉ l := by simp [memB]
abbrev row (rows : List (List Int)) (p : Nat) : List Int := rows.getD p []
/-- The bodies: by place the Ats around it, of the loops whose At is below n. -/
def bodyU (xs : List In) (n : Nat) : List (List Int) := (List.range xs.length).map fun (p : Nat) => aroundL (loopsU xs n) (p : Int)
def bodyL (xs : List In) : List (List Int) := bodyU xs xs.length
theorem bodyU_len (xs : List In) (n : Nat) : (bodyU xs n).length = xs.length := by simp [bodyU]
theorem bodyU_row {xs : List In} {n p : Nat} (h : p < xs.length) : row (bodyU xs n) p = aroundL (loopsU xs n) p := by
  simp [row, bodyU, List.getD, h]
theorem around_mem {ls : List Lp} {p n : Int} : n ∈ aroundL ls p ↔ ∃ l ∈ ls, inLpB l p = true ∧ l.t = n := by
  unfold aroundL
  simp [and_assoc]
theorem body_mem {xs : List In} {p m : Nat} (hp : p < xs.length) (hm : m < xs.length) (h20 : (nth xs m).op = 20) : memB (row (bodyL xs) p) m = inLpB (lpAt xs m) p := by
  rw [Bool.eq_iff_iff, has_iff, bodyL, bodyU_row hp, around_mem]
  constructor
  · rintro ⟨l, hl, hw, ht⟩
    obtain ⟨k, hk, _, rfl⟩ := loopsU_mem.1 hl
    simp only [lpAt] at ht
    obtain rfl : k = m := by omega
    exact hw
  · intro h
    exact ⟨lpAt xs m, loopsU_mem.2 ⟨m, hm, h20, rfl⟩, h, rfl⟩
def cntU (rows : List (List Int)) (m l : Nat) : Nat → Int
  | 0 => 0
  | p + 1 => cntU rows m l p + if memB (row rows p) m && memB (row rows p) l then 1 else 0
def allU (rows : List (List Int)) (m l : Nat) : Nat → Bool
  | 0 => true
  | p + 1 => allU rows m l p && !(memB (row rows p) m && !memB (row rows p) l)
theorem cnt_iff {rows : List (List Int)} {m l n : Nat} : 0 ≤ cntU rows m l n ∧ cntU rows m l n ≤ n ∧ (0 < cntU rows m l n ↔ ∃ p, p < n ∧ memB (row rows p) m = true ∧ memB (row rows p) l = true) := by
  induction n with
  | zero => simp [cntU]
  | succ n ih =>
    obtain ⟨i1, i2, i3⟩ := ih
    rw [cntU]
    cases h : (memB (row rows n) m && memB (row rows n) l)
    · refine ⟨by simp; exact i1, by simp; omega, ?_⟩
      simp only [Bool.false_eq_true, if_false, Int.add_zero, i3]
      constructor
      · rintro ⟨p, hp, h1⟩
        exact ⟨p, by omega, h1⟩
      · rintro ⟨p, hp, h1, h2⟩
        refine ⟨p, ?_, h1, h2⟩
        by_cases e : p = n
        · subst e; rw [h1, h2] at h; cases h
        · omega
    · refine ⟨by simp; omega, by simp; omega, ?_⟩
      rw [Bool.and_eq_true] at h
      simp only [if_true]
      exact ⟨fun _ => ⟨n, by omega, h⟩, fun _ => by omega⟩
theorem all_iff {rows : List (List Int)} {m l n : Nat} : allU rows m l n = false ↔ ∃ p, p < n ∧ memB (row rows p) m = true ∧ memB (row rows p) l = false := by
  induction n with
  | zero => simp [allU]
  | succ n ih =>
    rw [allU]
    cases h : (memB (row rows n) m && !memB (row rows n) l)
    · simp only [Bool.not_false, Bool.and_true, ih]
      constructor
      · rintro ⟨p, hp, h1⟩
        exact ⟨p, by omega, h1⟩
      · rintro ⟨p, hp, h1, h2⟩
        refine ⟨p, ?_, h1, h2⟩
        by_cases e : p = n
        · subst e; rw [h1, h2] at h; cases h
        · omega
    · rw [Bool.and_eq_true, Bool.not_eq_true'] at h
      simp only [Bool.not_true, Bool.and_false, true_iff]
      exact ⟨n, by omega, h⟩
def pairB (xs : List In) (rows : List (List Int)) (l m : Nat) : Bool := decide ((nth xs m).op = 20) && (decide (0 < cntU rows m l xs.length) && !allU rows m l xs.length)
def crossRB (xs : List In) (rows : List (List Int)) (l : Nat) : Bool := decide ((nth xs l).op = 20) && (List.range l).any (pairB xs rows l)
/-- The same, by the loops. -/
def crossPB (xs : List In) (l : Nat) : Bool := decide ((nth xs l).op = 20) && (loopsU xs l).any fun e => entersB e (lpAt xs l).t (lpAt xs l).h
def loopsF (xs : List In) : Nat → Nat → List Lp
  | _, 0 => []
  | k, m + 1 => lps xs k ++ loopsF xs (k + 1) m
theorem loopsF_all (xs : List In) : ∀ (m k : Nat), loopsU xs (k + m) = loopsU xs k ++ loopsF xs k m
  | 0, k => by simp [loopsF]
  | m + 1, k => by
    rw [loopsF, ← List.append_assoc, ← loopsU, ← loopsF_all xs m (k + 1)]
    congr 1; omega
theorem crossF_step (xs : List In) (m k : Nat) : crossF (loopsU xs k) (loopsF xs k (m + 1)) = if crossPB xs k then some (k : Int) else crossF (loopsU xs (k + 1)) (loopsF xs (k + 1) m) := by
  rw [loopsF, loopsU]
  unfold lps crossPB
  by_cases h : (nth xs k).op = 20
  · rw [if_pos h]
    simp only [List.singleton_append, crossF, h, decide_true, Bool.true_and]
    rfl
  · rw [if_neg h, decide_eq_false h, Bool.false_and, if_neg (by simp), List.nil_append, List.append_nil]
theorem crossF_first (xs : List In) : ∀ (m k : Nat), (∀ j, j < k → crossPB xs j = false) → crossF (loopsU xs k) (loopsF xs k m) = (first (crossPB xs) (k + m)).map fun (j : Nat) => (j : Int)
  | 0, k, h => by rw [Nat.add_zero, first_none h]; rfl
  | m + 1, k, h => by
    rw [crossF_step]
    cases hk : crossPB xs k
    · rw [if_neg (by simp), crossF_first xs m (k + 1) (fun j hj => ?_), show k + 1 + m = k + (m + 1) by omega]
      by_cases e : j = k
      · rw [e]; exact hk
      · exact h j (by omega)
    · rw [if_pos rfl, first_some h (by omega) hk]; rfl
theorem crossRB_eq {xs : List In} (h : Placed xs) {l : Nat} (hl : l < xs.length) : crossRB xs (bodyL xs) l = crossPB xs l := by
  unfold crossRB crossPB
  by_cases h20 : (nth xs l).op = 20
  · rw [Bool.eq_iff_iff]
    simp only [h20, decide_true, Bool.true_and]
    obtain ⟨_, _, _, _, l0, l1, l2, _⟩ := loop_ok h (l := lpAt xs l) (loopsU_mem.2 ⟨l, hl, h20, rfl⟩)
    rw [List.any_eq_true, List.any_eq_true]
    constructor
    · rintro ⟨m, hm, hp⟩
      rw [List.mem_range] at hm
      unfold pairB at hp
      simp only [Bool.and_eq_true, decide_eq_true_eq, Bool.not_eq_true'] at hp
      obtain ⟨hm20, hc, ha⟩ := hp
      obtain ⟨p, hp, hp1, hp2⟩ := cnt_iff.2.2.1 hc
      obtain ⟨q, hq, hq1, hq2⟩ := all_iff.1 ha
      rw [body_mem hp (by omega) hm20] at hp1
      rw [body_mem hp hl h20] at hp2
      rw [body_mem hq (by omega) hm20] at hq1
      rw [body_mem hq hl h20] at hq2
      rw [within_iff] at hp1 hp2 hq1
      rw [within_no] at hq2
      refine ⟨lpAt xs m, loopsU_mem.2 ⟨m, hm, hm20, rfl⟩, enters_iff.2 ?_⟩
      have e1 : (lpAt xs m).t = m := rfl
      have e2 : (lpAt xs l).t = l := rfl
      omega
    · rintro ⟨e, he, hen⟩
      obtain ⟨m, hm, hm20, rfl⟩ := loopsU_mem.1 he
      obtain ⟨_, _, _, _, m0, m1, m2, _⟩ := loop_ok h (l := lpAt xs m) (loopsU_mem.2 ⟨m, by omega, hm20, rfl⟩)
      rw [enters_iff] at hen
      refine ⟨m, List.mem_range.2 hm, ?_⟩
      unfold pairB
      simp only [Bool.and_eq_true, decide_eq_true_eq, Bool.not_eq_true']
      have e1 : (lpAt xs m).t = m := rfl
      have e2 : (lpAt xs l).t = l := rfl
      refine ⟨hm20, cnt_iff.2.2.2 ⟨(lpAt xs l).h.toNat, by omega, ?_, ?_⟩, all_iff.2 ⟨(lpAt xs m).h.toNat, by omega, ?_, ?_⟩⟩
      · rw [body_mem (by omega) (by omega) hm20, within_iff]; omega
      · rw [body_mem (by omega) hl h20, within_iff]; omega
      · rw [body_mem (by omega) (by omega) hm20, within_iff]; omega
      · rw [body_mem (by omega) hl h20, within_no]; omega
  · rw [decide_eq_false h20, Bool.false_and, Bool.false_and]
theorem cross_eq {xs : List In} (h : Placed xs) : crossF [] (loopsL xs) = (first (crossRB xs (bodyL xs)) xs.length).map fun (j : Nat) => (j : Int) := by
  have h1 := crossF_first xs xs.length 0 (fun j hj => by omega)
  have h2 := loopsF_all xs xs.length 0
  rw [Nat.zero_add] at h1 h2
  have e : loopsF xs 0 xs.length = loopsL xs := by unfold loopsL; rw [h2]; rfl
  rw [e] at h1
  rw [first_congr (q := crossPB xs) (fun j hj => crossRB_eq h hj)]
  exact h1
def outB (xs : List In) (rows : List (List Int)) (p : Nat) (to : Int) (l : Int) : Bool := !memB (row rows p) l && decide (to ≠ l - (nth xs l.toNat).d)
def enterRB (xs : List In) (rows : List (List Int)) (p : Nat) : Bool :=
  (nth xs p).leads && (decide (0 ≤ (nth xs p).far) && (row rows ((p : Int) + (nth xs p).far).toNat).any (outB xs rows p (p + (nth xs p).far)))
theorem enter_eq {xs : List In} (h : Placed xs) (hc : crossF [] (loopsL xs) = none) {p : Nat} (hp : p < xs.length) : enterRB xs (bodyL xs) p = intrB xs (loopsL xs) p := by
  obtain ⟨hr, g0, g1, g2⟩ := place_ok hp (h p hp)
  unfold enterRB intrB
  rcases goes_parts (nth xs p) with hg | hg | hg | hg
  · rw [hg.2.2.1]; rfl
  · obtain ⟨_, o1, o2, f, hl, _, d0, d1⟩ := hg
    rw [hl, Bool.true_and, Bool.true_and, decide_eq_true (by omega), Bool.true_and]
    have hq : ((p : Int) + (nth xs p).far).toNat < xs.length := by omega
    have eq : ((((p : Int) + (nth xs p).far).toNat : Nat) : Int) = (p : Int) + (nth xs p).far := by omega
    rw [Bool.eq_iff_iff, List.any_eq_true, List.any_eq_true]
    constructor
    · rintro ⟨t, ht, ho⟩
      rw [bodyL, bodyU_row hq, around_mem, eq] at ht
      obtain ⟨l, hl', hw, rfl⟩ := ht
      obtain ⟨k, hk, h20, e, l0, l1, l2, _⟩ := loop_ok h hl'
      refine ⟨l, hl', enters_iff.2 ?_⟩
      unfold outB at ho
      rw [Bool.and_eq_true, Bool.not_eq_true', decide_eq_true_eq] at ho
      obtain ⟨o1, o2⟩ := ho
      have et : l.t = (k : Nat) := by rw [e]
      have eh : l.h = k - (nth xs k).d := by rw [e]
      rw [et, body_mem hp hk h20, within_no] at o1
      rw [et, show ((k : Int)).toNat = k by omega] at o2
      have e3 : lpAt xs k = l := by
        obtain ⟨k', hk', _, e'⟩ := loopsU_mem.1 hl'
        have : k' = k := by have : l.t = (k' : Int) := by rw [e']; rfl
                            omega
        rw [e', this]
      rw [e3] at o1
      rw [within_iff] at hw
      omega
    · rintro ⟨l, hl', hen⟩
      obtain ⟨k, hk, h20, e, l0, l1, l2, _⟩ := loop_ok h hl'
      rw [enters_iff] at hen
      refine ⟨l.t, ?_, ?_⟩
      · rw [bodyL, bodyU_row hq, around_mem, eq]
        exact ⟨l, hl', within_iff.2 (by omega), rfl⟩
      · unfold outB
        rw [Bool.and_eq_true, Bool.not_eq_true', decide_eq_true_eq]
        have et : l.t = (k : Nat) := by rw [e]
        have eh : l.h = k - (nth xs k).d := by rw [e]
        have e3 : lpAt xs k = l := by
          obtain ⟨k', hk', _, e'⟩ := loopsU_mem.1 hl'
          have : k' = k := by have : l.t = (k' : Int) := by rw [e']; rfl
                              omega
          rw [e', this]
        rw [et, body_mem hp hk h20, within_no, e3, show ((k : Int)).toNat = k by omega]
        omega
  · obtain ⟨_, o1, f, hl, _, d0, d1, _⟩ := hg
    rw [decide_eq_false (by omega), Bool.false_and, Bool.and_false, hl, Bool.true_and, eq_comm, List.any_eq_false]
    intro l hl' hen
    rw [enters_iff] at hen
    obtain ⟨A, B, hAB⟩ := List.append_of_mem (show lpAt xs p ∈ loopsL xs from loopsU_mem.2 ⟨p, hp, o1, rfl⟩)
    have hsort := loopsU_sorted xs xs.length
    rw [show loopsU xs xs.length = loopsL xs from rfl, hAB, List.pairwise_append] at hsort
    obtain ⟨s1, s2, s3⟩ := hsort
    have e1 : (lpAt xs p).t = p := rfl
    have e2 : (lpAt xs p).h = p + (nth xs p).far := rfl
    have hmem : l ∈ A ∨ l = lpAt xs p ∨ l ∈ B := by rw [hAB] at hl'; simpa using hl'
    rcases hmem with h1 | rfl | h1
    · have h2 := crossF_none _ _ hc A B [] (lpAt xs p) hAB l (by simpa using h1)
      have h3 := s3 l h1 (lpAt xs p) (by simp)
      rw [(enters_iff (l := l)).2 (by omega)] at h2
      cases h2
    · omega
    · have h3 := (List.pairwise_cons.1 s2).1 l h1
      omega
  · rw [hg.2.2.2.1]; rfl
def earlyR (xs : List In) : List Int → Int → Int
  | [], t => t
  | l :: r, t => if t ≤ 256 then earlyR xs r (t * ((nth xs l.toNat).imm + 1)) else t
def costR (xs : List In) (rows : List (List Int)) : Nat → Int
  | 0 => 0
  | n + 1 => costR xs rows n + earlyR xs (row rows n) 1
def Named (xs : List In) (ls : List Lp) : Prop := ∀ l ∈ ls, (nth xs l.t.toNat).imm = l.b
theorem early_min {xs : List In} {p : Int} : ∀ {ls : List Lp} {t : Int}, Bnd ls → Named xs ls → 1 ≤ t → t ≤ 65536 → 1 ≤ earlyR xs (aroundL ls p) t ∧ earlyR xs (aroundL ls p) t ≤ 65536 ∧ min (earlyR xs (aroundL ls p) t) 257 = min (timesT p ls t) 257
  | [], t, _, _, h1, h2 => ⟨h1, h2, rfl⟩
  | l :: r, t, hb, hn, h1, h2 => by
    have hl := hb l (by simp)
    have hbr : Bnd r := fun x hx => hb x (by simp [hx])
    have hnr : Named xs r := fun x hx => hn x (by simp [hx])
    cases hw : inLpB l p
    · have e : aroundL (l :: r) p = aroundL r p := by simp [aroundL, hw]
      rw [e, timesT, hw]
      exact early_min hbr hnr h1 h2
    · have e : aroundL (l :: r) p = l.t :: aroundL r p := by simp [aroundL, hw]
      rw [e, earlyR, timesT, hw, hn l (by simp), if_pos rfl]
      have hg := mul_grow h1 (show 0 ≤ l.b by omega)
      by_cases h : t ≤ 256
      · rw [if_pos h]
        have h3 : t * (l.b + 1) ≤ 256 * 256 := Int.mul_le_mul h (by omega) (by omega) (by omega)
        exact early_min hbr hnr (by omega) (by omega)
      · rw [if_neg h]
        have h3 := timesT_ge (p := p) hbr (show 1 ≤ t * (l.b + 1) by omega)
        exact ⟨h1, h2, by omega⟩
theorem named_ok {xs : List In} {n : Nat} : Named xs (loopsU xs n) := fun l hl => by
  obtain ⟨k, hk, _, rfl⟩ := loopsU_mem.1 hl
  simp [lpAt]
theorem early_ok {xs : List In} (h : Placed xs) {p : Nat} (hp : p < xs.length) : 1 ≤ earlyR xs (row (bodyL xs) p) 1 ∧ earlyR xs (row (bodyL xs) p) 1 ≤ 65536 ∧ min (earlyR xs (row (bodyL xs) p) 1) 257 = timesC p (loopsL xs) 1 := by
  rw [bodyL, bodyU_row hp, timesC_eq (bnd_ok h)]
  exact early_min (bnd_ok h) named_ok (by omega) (by omega)
theorem costR_ok {xs : List In} (h : Placed xs) {n : Nat} (hn : n ≤ xs.length) : costC (loopsL xs) n ≤ costR xs (bodyL xs) n ∧ 0 ≤ costR xs (bodyL xs) n ∧ costR xs (bodyL xs) n ≤ 65536 * n ∧ (costC (loopsL xs) n ≤ 256 → costR xs (bodyL xs) n = costC (loopsL xs) n) := by
  induction n with
  | zero => simp [costC, costR]
  | succ n ih =>
    have h1 := early_ok h (show n < xs.length by omega)
    have h2 := ih (by omega)
    have h3 := (costC_le (bnd_ok h) n).2.1
    rw [costC, costR]
    omega
/-- The document's check. -/
def checkR (xs : List In) : Int × Int :=
  if xs.length = 0 then (0, 10) else if 64 < xs.length then (0, 11) else
  match first (placeB xs) xs.length with
  | some k => (k, placeE xs k)
  | none => match first (crossRB xs (bodyL xs)) xs.length with
    | some t => (t, 31)
    | none => match first (enterRB xs (bodyL xs)) xs.length with
      | some p => (p, 31)
      | none => if 256 < costR xs (bodyL xs) xs.length then (0, 32) else (0, 0)
theorem checkR_eq (xs : List In) : checkR xs = checkL xs := by
  unfold checkR checkL
  split
  · rfl
  split
  · rfl
  rcases first_cases (placeB xs) xs.length with ⟨h1, h2⟩ | ⟨k, h1, _⟩
  · rw [h1]
    have hp : Placed xs := h2
    dsimp only
    rw [cross_eq hp]
    rcases first_cases (crossRB xs (bodyL xs)) xs.length with ⟨c1, c2⟩ | ⟨k, c1, _⟩
    · have hc : crossF [] (loopsL xs) = none := by rw [cross_eq hp, c1]; rfl
      rw [c1, first_congr (q := intrB xs (loopsL xs)) (fun j hj => enter_eq hp hc hj)]
      dsimp only [Option.map]
      cases first (intrB xs (loopsL xs)) xs.length with
      | some p => rfl
      | none =>
        dsimp only
        have := costR_ok hp (Nat.le_refl _)
        by_cases hx : costC (loopsL xs) xs.length ≤ 256
        · rw [if_neg (by omega), if_neg (by omega)]
        · rw [if_pos (by omega), if_pos (by omega)]
    · rw [c1]; rfl
  · rw [h1]
theorem cost_eq {xs : List In} (T : Taken xs) : costR xs (bodyL xs) xs.length = costC (loopsL xs) xs.length ∧ costC (loopsL xs) xs.length = costT (loopsL xs) xs.length := by
  have h1 := costR_ok T.place (Nat.le_refl _)
  have h2 := costC_le (bnd_ok T.place) xs.length
  have h3 := T.cost
  exact ⟨h1.2.2.2 h3, (h2.2.2 h3).symm⟩
/-- The document's Next. -/
def nextU (i : In) (k : Int) : Nat → List Int
  | 0 => []
  | n + 1 => nextU i k n ++ if (i.leads && decide ((n : Int) = k + i.far)) || (i.on && decide ((n : Int) = k + 1)) then [(n : Int)] else []
theorem nextU_none {i : In} {k : Int} (h1 : i.leads = false) (h2 : i.on = false) (n : Nat) : nextU i k n = [] := by
  induction n with
  | zero => rfl
  | succ n ih => rw [nextU, ih, h1, h2]; rfl
theorem nextU_one {i : In} {k a : Int} (h0 : 0 ≤ a) (h : ∀ n : Nat, ((i.leads && decide ((n : Int) = k + i.far)) || (i.on && decide ((n : Int) = k + 1))) = decide ((n : Int) = a)) (n : Nat) : nextU i k n = if a < n then [a] else [] := by
  induction n with
  | zero => rw [if_neg (by omega)]; rfl
  | succ n ih =>
    rw [nextU, ih, h]
    by_cases h1 : a < n
    · have h2 : a < ((n + 1 : Nat) : Int) := by omega
      have h3 : ¬ (n : Int) = a := by omega
      simp only [h1, h2, h3, if_true, decide_false, Bool.false_eq_true, if_false, List.append_nil]
    · by_cases h2 : (n : Int) = a
      · have h3 : a < ((n + 1 : Nat) : Int) := by omega
        rw [if_neg h1, if_pos h3, decide_eq_true h2, if_pos rfl, h2]; rfl
      · have h3 : ¬ a < ((n + 1 : Nat) : Int) := by omega
        simp only [h1, h2, h3, decide_false, Bool.false_eq_true, if_false, List.append_nil]
theorem nextU_two {i : In} {k a b : Int} (h0 : 0 ≤ a) (hab : a < b) (h : ∀ n : Nat, ((i.leads && decide ((n : Int) = k + i.far)) || (i.on && decide ((n : Int) = k + 1))) = (decide ((n : Int) = a) || decide ((n : Int) = b))) (n : Nat) : nextU i k n = (if a < n then [a] else []) ++ if b < n then [b] else [] := by
  induction n with
  | zero =>
    have h1 : ¬ a < ((0 : Nat) : Int) := by omega
    have h2 : ¬ b < ((0 : Nat) : Int) := by omega
    simp only [h1, h2, if_false]; rfl
  | succ n ih =>
    rw [nextU, ih, h]
    by_cases h1 : b < n
    · have c1 : a < n := by omega
      have c2 : a < ((n + 1 : Nat) : Int) := by omega
      have c3 : b < ((n + 1 : Nat) : Int) := by omega
      have c4 : ¬ (n : Int) = a := by omega
      have c5 : ¬ (n : Int) = b := by omega
      simp only [h1, c1, c2, c3, c4, c5, if_true, decide_false, Bool.or_self, Bool.false_eq_true, if_false, List.append_nil]
    · by_cases h2 : (n : Int) = b
      · have c1 : a < n := by omega
        have c2 : a < ((n + 1 : Nat) : Int) := by omega
        have c3 : b < ((n + 1 : Nat) : Int) := by omega
        rw [if_neg h1, if_pos c1, if_pos c2, if_pos c3, decide_eq_true h2, Bool.or_true, if_pos rfl, h2]; rfl
      · have c3 : ¬ b < ((n + 1 : Nat) : Int) := by omega
        by_cases h3 : a < n
        · have c2 : a < ((n + 1 : Nat) : Int) := by omega
          have c4 : ¬ (n : Int) = a := by omega
          simp only [h1, h2, h3, c2, c3, c4, if_true, decide_false, Bool.or_self, Bool.false_eq_true, if_false, List.append_nil]
        · by_cases h4 : (n : Int) = a
          · have c2 : a < ((n + 1 : Nat) : Int) := by omega
            rw [if_neg h1, if_neg h3, if_pos c2, if_neg c3, decide_eq_true h4, Bool.true_or, if_pos rfl, h4]; rfl
          · have c2 : ¬ a < ((n + 1 : Nat) : Int) := by omega
            simp only [h1, h2, h3, h4, c2, c3, decide_false, Bool.or_self, Bool.false_eq_true, if_false, List.append_nil]
theorem next_eq {xs : List In} {k : Nat} (hk : k < xs.length) (h : placeB xs k = false) : nextU (nth xs k) k xs.length = nextL (nth xs k) k := by
  obtain ⟨hr, g0, g1, g2⟩ := place_ok hk h
  have hz : ∀ (a b : Bool) (n c : Int), n = c → (decide (n = c)) = true := fun _ _ _ _ h => decide_eq_true h
  unfold nextL
  cases hl : (nth xs k).leads <;> cases ho : (nth xs k).on
  · simp only [if_true]; exact nextU_none hl ho _
  · have := g2 ho
    rw [nextU_one (a := k + 1) (by omega) (fun n => by rw [hl, ho]; simp), if_pos (by omega)]; rfl
  · rw [nextU_one (a := k + (nth xs k).far) (by omega) (fun n => by rw [hl, ho]; simp), if_pos (by omega)]; rfl
  · have := g2 ho
    simp only [Bool.true_eq_false, if_false, if_true]
    by_cases h1 : (nth xs k).far = 1
    · rw [if_pos h1, nextU_one (a := k + 1) (by omega) (fun n => by rw [hl, ho, h1]; simp), if_pos (by omega)]
    · rw [if_neg h1]
      by_cases h2 : (k : Int) + (nth xs k).far < k + 1
      · rw [nextU_two (a := k + (nth xs k).far) (b := k + 1) (by omega) h2 (fun n => by rw [hl, ho]; simp), if_pos (by omega), if_pos (by omega), Int.min_eq_left (by omega), Int.max_eq_right (by omega)]; rfl
      · rw [nextU_two (a := k + 1) (b := k + (nth xs k).far) (by omega) (by omega) (fun n => by rw [hl, ho]; simp [Bool.or_comm]), if_pos (by omega), if_pos (by omega), Int.min_eq_right (by omega), Int.max_eq_left (by omega)]; rfl
/-- One more instruction, at the end. -/
def exitI : In := ⟨22, 0, 0, 0, 0⟩
theorem exit_goes : exitI.right = true ∧ exitI.far = 0 ∧ exitI.leads = false ∧ exitI.on = false := by
  refine ⟨by decide, by decide, by decide, by decide⟩
theorem nth_last (xs : List In) (i : In) : nth (xs ++ [i]) xs.length = i := by simp [nth, List.getD]
theorem loops_exit (xs : List In) : loopsL (xs ++ [exitI]) = loopsL xs := by
  unfold loopsL
  rw [List.length_append]
  show loopsU (xs ++ [exitI]) (xs.length + 1) = _
  rw [loopsU, loopsU_app (Nat.le_refl _)]
  unfold lps
  rw [nth_last, if_neg (by decide), List.append_nil]
theorem timesC_none {p : Int} : ∀ {ls : List Lp} {t : Int}, (∀ l ∈ ls, inLpB l p = false) → timesC p ls t = t
  | [], t, _ => rfl
  | l :: r, t, h => by
    rw [timesC, h l (by simp)]
    exact timesC_none fun x hx => h x (by simp [hx])
theorem check_exit {xs : List In} (T : Taken xs) : (xs.length = 64 → checkL (xs ++ [exitI]) = (0, 11)) ∧ (xs.length < 64 → checkL (xs ++ [exitI]) = if 256 ≤ costC (loopsL xs) xs.length then (0, 32) else (0, 0)) := by
  have hlen : (xs ++ [exitI]).length = xs.length + 1 := by simp
  have hpos := T.pos
  have htop := T.top
  refine ⟨fun h => ?_, fun h => ?_⟩
  · unfold checkL
    rw [hlen, if_neg (by omega), if_pos (by omega)]
  · unfold checkL
    rw [hlen, if_neg (by omega), if_neg (by omega), loops_exit, T.cross]
    rw [first_none]
    · dsimp only
      rw [first_none]
      · dsimp only
        rw [costC, timesC_none]
        · by_cases hx : 256 ≤ costC (loopsL xs) xs.length
          · rw [if_pos hx, if_pos (by omega)]
          · rw [if_neg hx, if_neg (by omega)]
        · intro l hl
          obtain ⟨_, _, _, _, _, _, h2, _⟩ := loop_ok T.place hl
          exact within_no.2 (by omega)
      · intro j hj
        unfold intrB
        by_cases e : j = xs.length
        · subst e
          rw [nth_last, exit_goes.2.2.1]; rfl
        · rw [nth_app (by omega)]
          exact T.intr j (by omega)
    · intro j hj
      unfold placeB placeE
      by_cases e : j = xs.length
      · subst e
        rw [nth_last, exit_goes.1, exit_goes.2.1, exit_goes.2.2.2, hlen, if_neg (by simp), if_neg (by omega), if_neg (by simp)]
        rfl
      · obtain ⟨h1, h2, h3, h4⟩ := place_ok (show j < xs.length by omega) (T.place j (by omega))
        rw [nth_app (by omega), h1, hlen, if_neg (by simp), if_neg (by omega), if_neg (by omega)]
        rfl
/-- The loops of a code that is taken. -/
theorem around_has {xs : List In} (T : Taken xs) {l : Lp} (hl : l ∈ loopsL xs) : l.t ∈ aroundL (loopsL xs) l.h := by
  obtain ⟨_, _, _, _, h0, h1, h2, _⟩ := loop_ok T.place hl
  exact around_mem.2 ⟨l, hl, within_iff.2 (by omega), rfl⟩
theorem around_rising {xs : List In} (p : Int) : (aroundL (loopsL xs) p).Pairwise (· < ·) := by
  unfold aroundL
  rw [List.pairwise_map]
  exact (loopsU_sorted xs xs.length).filter _
end Go.Proofs.Ytkcofelpndlplaa
