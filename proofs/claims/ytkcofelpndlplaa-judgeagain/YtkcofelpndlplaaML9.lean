
/-
  Layer 7's plain functions: where a code leads, its loops, what is wrong with it, its cost. No Go text in sight.
-/
import Derived.Test.YtkcofelpndlplaaML8
namespace Go.Proofs.Ytkcofelpndlplaa
open Go.RowKit
set_option linter.unusedVariables false

def In.far (i : In) : Int := (goesL i.op i.d i.a i.b i.imm).1
def In.leads (i : In) : Bool := (goesL i.op i.d i.a i.b i.imm).2.1
def In.on (i : In) : Bool := (goesL i.op i.d i.a i.b i.imm).2.2
theorem goes_parts (i : In) : (i.right = false ∧ i.far = 0 ∧ i.leads = false ∧ i.on = false) ∨ (i.right = true ∧ 15 ≤ i.op ∧ i.op ≤ 19 ∧ i.far = i.d + 1 ∧ i.leads = true ∧ i.on = decide (i.op ≠ 15) ∧ 0 ≤ i.d ∧ i.d ≤ 63) ∨
    (i.right = true ∧ i.op = 20 ∧ i.far = -i.d ∧ i.leads = true ∧ i.on = true ∧ 1 ≤ i.d ∧ i.d ≤ 63 ∧ 1 ≤ i.imm ∧ i.imm ≤ 255) ∨ (i.right = true ∧ (i.op < 15 ∨ 20 < i.op) ∧ i.far = 0 ∧ i.leads = false ∧ i.on = decide (i.op ≠ 22)) := by
  obtain ⟨op, d, a, b, imm⟩ := i
  unfold In.far In.leads In.on In.right
  cases hr : rightB op d a b imm
  · left; simp [goesL, hr]
  right
  by_cases h1 : op = 15
  · subst h1; left
    have := right_far hr (by omega)
    simp [goesL, hr]; omega
  by_cases h2 : 16 ≤ op ∧ op ≤ 19
  · left
    have := right_far hr (by omega)
    simp [goesL, hr, h1, h2]; omega
  by_cases h3 : op = 20
  · subst h3; right; left
    have h := hr
    rw [rightB_20] at h
    simp at h
    simp [goesL, hr]; omega
  · right; right
    unfold goesL
    rw [if_neg (by simp [hr]), if_neg h1, if_neg h2, if_neg h3]
    refine ⟨rfl, by show op < 15 ∨ 20 < op; omega, rfl, rfl, ?_⟩
    by_cases h4 : op = 22 <;> simp [h4]
theorem far_bd (i : In) : -63 ≤ i.far ∧ i.far ≤ 64 := by
  rcases goes_parts i with h | h | h | h <;> omega
/-- The first number that is so. -/
def first (p : Nat → Bool) (n : Nat) : Option Nat := (List.range n).find? p
theorem first_some {p : Nat → Bool} {n k : Nat} (h : ∀ j, j < k → p j = false) (hk : k < n) (hp : p k = true) : first p n = some k := by
  unfold first
  have e : List.range n = List.range k ++ (List.range' k (n - k)) := by
    have e := @List.range'_append_1 0 k (n - k)
    rw [List.range_eq_range', List.range_eq_range', Nat.zero_add] at *
    rw [e]; congr 1; omega
  rw [e, List.find?_append]
  have h1 : (List.range k).find? p = none := by
    rw [List.find?_eq_none]; intro x hx; rw [List.mem_range] at hx; simp [h x hx]
  rw [h1]
  obtain ⟨m, hm⟩ : ∃ m, n - k = m + 1 := ⟨n - k - 1, by omega⟩
  rw [hm, List.range'_succ]
  simp [hp]
theorem first_none {p : Nat → Bool} {n : Nat} (h : ∀ j, j < n → p j = false) : first p n = none := by
  unfold first
  rw [List.find?_eq_none]; intro x hx; rw [List.mem_range] at hx; simp [h x hx]
theorem first_cases (p : Nat → Bool) (n : Nat) : (first p n = none ∧ ∀ j, j < n → p j = false) ∨ ∃ k, first p n = some k ∧ k < n ∧ p k = true ∧ ∀ j, j < k → p j = false := by
  by_cases h : ∃ k, k < n ∧ p k = true
  · have hw : ∃ k, k < n ∧ p k = true ∧ ∀ j, j < k → p j = false := by
      obtain ⟨k, hk, hp⟩ := h
      induction k using Nat.strongRecOn with
      | _ k ih =>
        by_cases hj : ∃ j, j < k ∧ p j = true
        · obtain ⟨j, hj, hpj⟩ := hj
          exact ih j hj (by omega) hpj
        · refine ⟨k, hk, hp, fun j hjk => ?_⟩
          cases hpj : p j
          · rfl
          · exact absurd ⟨j, hjk, hpj⟩ hj
    obtain ⟨k, hk, hp, hf⟩ := hw
    exact .inr ⟨k, first_some hf hk hp, hk, hp, hf⟩
  · refine .inl ⟨first_none fun j hj => ?_, fun j hj => ?_⟩ <;>
    · cases hpj : p j
      · rfl
      · exact absurd ⟨j, hj, hpj⟩ h
theorem first_congr {p q : Nat → Bool} {n : Nat} (h : ∀ j, j < n → p j = q j) : first p n = first q n := by
  rcases first_cases q n with ⟨h1, h2⟩ | ⟨k, h1, h2, h3, h4⟩
  · rw [h1]; exact first_none fun j hj => (h j hj).trans (h2 j hj)
  · rw [h1]; exact first_some (fun j hj => (h j (by omega)).trans (h4 j hj)) h2 ((h k h2).trans h3)

/-- A loop: its head, its At, its bound. -/
structure Lp where
  h : Int
  t : Int
  b : Int
def Lp.nil : Lp := ⟨0, 0, 0⟩
def inLpB (l : Lp) (p : Int) : Bool := decide (l.h ≤ p) && decide (p ≤ l.t)
def entersB (l : Lp) (p q : Int) : Bool := !inLpB l p && (inLpB l q && decide (q ≠ l.h))
theorem within_iff {l : Lp} {p : Int} : inLpB l p = true ↔ l.h ≤ p ∧ p ≤ l.t := by simp [inLpB]
theorem within_no {l : Lp} {p : Int} : inLpB l p = false ↔ ¬ (l.h ≤ p ∧ p ≤ l.t) := by rw [← within_iff]; simp
theorem enters_iff {l : Lp} {p q : Int} : entersB l p q = true ↔ ¬ (l.h ≤ p ∧ p ≤ l.t) ∧ l.h < q ∧ q ≤ l.t := by
  unfold entersB
  rw [Bool.and_eq_true, Bool.and_eq_true, Bool.not_eq_true', within_no, within_iff, decide_eq_true_eq]
  omega
abbrev nth (xs : List In) (k : Nat) : In := xs.getD k In.nil
theorem nth_app {xs ys : List In} {k : Nat} (h : k < xs.length) : nth (xs ++ ys) k = nth xs k := by
  simp [nth, List.getD, List.getElem?_append_left h]
def lpAt (xs : List In) (k : Nat) : Lp := ⟨k + (nth xs k).far, k, (nth xs k).imm⟩
def lps (xs : List In) (k : Nat) : List Lp := if (nth xs k).op = 20 then [lpAt xs k] else []
/-- The loops whose At is below n. -/
def loopsU (xs : List In) : Nat → List Lp
  | 0 => []
  | n + 1 => loopsU xs n ++ lps xs n
def loopsL (xs : List In) : List Lp := loopsU xs xs.length
theorem loopsU_mem {xs : List In} {n : Nat} {l : Lp} : l ∈ loopsU xs n ↔ ∃ k, k < n ∧ (nth xs k).op = 20 ∧ l = lpAt xs k := by
  induction n with
  | zero => simp [loopsU]
  | succ n ih =>
    rw [loopsU, List.mem_append, ih]
    constructor
    · rintro (⟨k, h1, h2, h3⟩ | h)
      · exact ⟨k, by omega, h2, h3⟩
      · unfold lps at h
        split at h
        · rename_i h20
          simp at h
          exact ⟨n, by omega, h20, h⟩
        · simp at h
    · rintro ⟨k, h1, h2, h3⟩
      by_cases hk : k < n
      · exact .inl ⟨k, hk, h2, h3⟩
      · obtain rfl : k = n := by omega
        right; unfold lps; rw [if_pos h2, h3]; simp
theorem loopsU_len (xs : List In) (n : Nat) : (loopsU xs n).length ≤ n := by
  induction n with
  | zero => simp [loopsU]
  | succ n ih => rw [loopsU, List.length_append]; unfold lps; split <;> simp <;> omega
theorem loopsU_app {xs ys : List In} {n : Nat} (h : n ≤ xs.length) : loopsU (xs ++ ys) n = loopsU xs n := by
  induction n with
  | zero => rfl
  | succ n ih => rw [loopsU, loopsU, ih (by omega)]; unfold lps lpAt; rw [nth_app (by omega)]
/-- The loops' Ats rise. -/
theorem loopsU_sorted (xs : List In) (n : Nat) : (loopsU xs n).Pairwise (fun a b => a.t < b.t) := by
  induction n with
  | zero => exact List.Pairwise.nil
  | succ n ih =>
    rw [loopsU, List.pairwise_append]
    refine ⟨ih, ?_, ?_⟩
    · unfold lps; split <;> simp
    · intro a ha b hb
      obtain ⟨k, hk, _, rfl⟩ := loopsU_mem.1 ha
      unfold lps at hb
      split at hb <;> simp at hb
      subst hb
      simp [lpAt]; omega
/-- The first loop that begins in the midst of an earlier one's body. -/
def crossF : List Lp → List Lp → Option Int
  | _, [] => none
  | prev, l :: r => if prev.any (fun e => entersB e l.t l.h) then some l.t else crossF (prev ++ [l]) r
theorem crossF_none : ∀ (r prev : List Lp), crossF prev r = none → ∀ (a b c : List Lp) (l : Lp), r = a ++ l :: b → ∀ e ∈ prev ++ a, entersB e l.t l.h = false
  | [], prev, h, a, b, c, l, e => by simp at e
  | x :: r, prev, h, a, b, c, l, e => by
    rw [crossF] at h
    split at h
    · cases h
    · rename_i hx
      cases a with
      | nil =>
        simp at e
        obtain ⟨rfl, rfl⟩ := e
        intro e he
        simp at he hx
        exact hx e he
      | cons y a =>
        simp at e
        obtain ⟨rfl, rfl⟩ := e
        intro e he
        refine crossF_none (a ++ l :: b) (prev ++ [x]) h a b c l rfl e (by simpa using he)
def intrB (xs : List In) (ls : List Lp) (k : Nat) : Bool := (nth xs k).leads && ls.any (fun l => entersB l k (k + (nth xs k).far))
/-- What is wrong with one instruction where it stands. -/
def placeE (xs : List In) (k : Nat) : Int :=
  if (nth xs k).right = false then 12 else if (k : Int) + (nth xs k).far < 0 ∨ (xs.length : Int) ≤ k + (nth xs k).far then 30 else if (nth xs k).on = true ∧ k + 1 = xs.length then 36 else 0
def placeB (xs : List In) (k : Nat) : Bool := decide (placeE xs k ≠ 0)
/-- How often a place is met, at most. -/
def timesT (p : Int) : List Lp → Int → Int
  | [], t => t
  | l :: r, t => timesT p r (if inLpB l p then t * (l.b + 1) else t)
def timesC (p : Int) : List Lp → Int → Int
  | [], t => t
  | l :: r, t => timesC p r (if inLpB l p then min (t * (l.b + 1)) 257 else t)
def costT (ls : List Lp) : Nat → Int
  | 0 => 0
  | n + 1 => costT ls n + timesT n ls 1
def costC (ls : List Lp) : Nat → Int
  | 0 => 0
  | n + 1 => costC ls n + timesC n ls 1
/-- P7.1. -/
def checkL (xs : List In) : Int × Int :=
  if xs.length = 0 then (0, 10) else if 64 < xs.length then (0, 11) else
  match first (placeB xs) xs.length with
  | some k => (k, placeE xs k)
  | none => match crossF [] (loopsL xs) with
    | some t => (t, 31)
    | none => match first (intrB xs (loopsL xs)) xs.length with
      | some p => (p, 31)
      | none => if 256 < costC (loopsL xs) xs.length then (0, 32) else (0, 0)
/-- Bounds of a code whose instructions are right. -/
def Bnd (ls : List Lp) : Prop := ∀ l ∈ ls, 1 ≤ l.b ∧ l.b ≤ 255
theorem mul_grow {t b : Int} (ht : 1 ≤ t) (hb : 0 ≤ b) : t ≤ t * (b + 1) := by
  have : 0 ≤ t * b := Int.mul_nonneg (by omega) hb
  rw [Int.mul_add]; omega
theorem timesT_ge {p : Int} : ∀ {ls : List Lp} {t : Int}, Bnd ls → 1 ≤ t → t ≤ timesT p ls t
  | [], t, _, _ => Int.le_refl _
  | l :: r, t, hb, ht => by
    have h1 := hb l (by simp)
    rw [timesT]
    split
    · exact Int.le_trans (mul_grow ht (by omega)) (timesT_ge (fun x hx => hb x (by simp [hx])) (Int.le_trans ht (mul_grow ht (by omega))))
    · exact timesT_ge (fun x hx => hb x (by simp [hx])) ht
theorem timesC_min {p : Int} : ∀ {ls : List Lp} {t : Int}, Bnd ls → 1 ≤ t → timesC p ls (min t 257) = min (timesT p ls t) 257
  | [], t, _, _ => rfl
  | l :: r, t, hb, ht => by
    have h1 := hb l (by simp)
    rw [timesC, timesT]
    have hr : Bnd r := fun x hx => hb x (by simp [hx])
    split
    · have hg := mul_grow ht (show 0 ≤ l.b by omega)
      have e : min (min t 257 * (l.b + 1)) 257 = min (t * (l.b + 1)) 257 := by
        by_cases h : t ≤ 257
        · rw [Int.min_eq_left h]
        · have : min t 257 = 257 := by omega
          rw [this]; omega
      rw [e]
      exact timesC_min hr (by omega)
    · exact timesC_min hr ht
theorem timesC_eq {p : Int} {ls : List Lp} (hb : Bnd ls) : timesC p ls 1 = min (timesT p ls 1) 257 := timesC_min (t := 1) hb (by omega)
theorem costC_le {ls : List Lp} (hb : Bnd ls) (n : Nat) : costC ls n ≤ costT ls n ∧ (n : Int) ≤ costC ls n ∧ (costC ls n ≤ 256 → costT ls n = costC ls n) := by
  induction n with
  | zero => simp [costC, costT]
  | succ n ih =>
    have h1 := timesT_ge (p := n) hb (show (1 : Int) ≤ 1 by omega)
    rw [costC, costT, timesC_eq hb]
    omega
/-- The Ats of the loops around a place. -/
def aroundL (ls : List Lp) (p : Int) : List Int := (ls.filter (fun l => inLpB l p)).map Lp.t
/-- The places behind a place. -/
def nextL (i : In) (k : Int) : List Int :=
  if i.leads = false then (if i.on = false then [] else [k + 1]) else if i.on = true then (if i.far = 1 then [k + 1] else [min (k + i.far) (k + 1), max (k + i.far) (k + 1)]) else [k + i.far]
/-- A code that is taken. -/
structure Taken (xs : List In) : Prop where
  pos : 0 < xs.length
  top : xs.length ≤ 64
  place : ∀ k, k < xs.length → placeB xs k = false
  cross : crossF [] (loopsL xs) = none
  intr : ∀ k, k < xs.length → intrB xs (loopsL xs) k = false
  cost : costC (loopsL xs) xs.length ≤ 256
theorem check_ok {xs : List In} : (checkL xs).2 = 0 ↔ Taken xs := by
  unfold checkL
  constructor
  · intro h
    split at h
    · cases h
    split at h
    · cases h
    split at h
    · rename_i k hk
      rcases first_cases (placeB xs) xs.length with ⟨h1, _⟩ | ⟨j, h1, _, h2, _⟩
      · rw [h1] at hk; cases hk
      · rw [h1] at hk
        injection hk with hk
        subst hk
        unfold placeB at h2
        simp only [decide_eq_true_eq] at h2
        exact absurd h h2
    rename_i hp
    split at h
    · cases h
    rename_i hc
    split at h
    · cases h
    rename_i hi
    split at h
    · cases h
    refine ⟨by omega, by omega, ?_, hc, ?_, by omega⟩
    · rcases first_cases (placeB xs) xs.length with ⟨_, h2⟩ | ⟨k, h1, _⟩
      · exact h2
      · rw [h1] at hp; cases hp
    · rcases first_cases (intrB xs (loopsL xs)) xs.length with ⟨_, h2⟩ | ⟨k, h1, _⟩
      · exact h2
      · rw [h1] at hi; cases hi
  · intro h
    have := h.pos
    have := h.top
    have := h.cost
    rw [if_neg (by omega), if_neg (by omega), first_none h.place, h.cross, first_none h.intr]
    dsimp only
    rw [if_neg (by omega)]
theorem check_pair {xs : List In} (h : (checkL xs).2 = 0) : checkL xs = (0, 0) := by
  have h := check_ok.1 h
  unfold checkL
  have := h.pos
  have := h.top
  have := h.cost
  rw [if_neg (by omega), if_neg (by omega), first_none h.place, h.cross, first_none h.intr]
  dsimp only
  rw [if_neg (by omega)]
theorem place_ok {xs : List In} {k : Nat} (hk : k < xs.length) (h : placeB xs k = false) : (nth xs k).right = true ∧ 0 ≤ (k : Int) + (nth xs k).far ∧ (k : Int) + (nth xs k).far < xs.length ∧ ((nth xs k).on = true → k + 1 < xs.length) := by
  unfold placeB placeE at h
  simp only [decide_eq_false_iff_not, ne_eq, Decidable.not_not] at h
  split at h
  · omega
  split at h
  · omega
  split at h
  · omega
  rename_i h1 h2 h3
  refine ⟨by simpa using h1, by omega, by omega, fun hon => ?_⟩
  have : ¬ k + 1 = xs.length := fun e => h3 ⟨hon, e⟩
  omega
/-- Places alone. -/
def Placed (xs : List In) : Prop := ∀ k, k < xs.length → placeB xs k = false
theorem loop_ok {xs : List In} (h : Placed xs) {l : Lp} (hl : l ∈ loopsL xs) : ∃ k : Nat, k < xs.length ∧ (nth xs k).op = 20 ∧ l = ⟨k - (nth xs k).d, k, (nth xs k).imm⟩ ∧ 0 ≤ l.h ∧ l.h < l.t ∧ l.t < xs.length ∧ 1 ≤ l.b ∧ l.b ≤ 255 := by
  obtain ⟨k, hk, h20, rfl⟩ := loopsU_mem.1 hl
  obtain ⟨hr, h0, h1, _⟩ := place_ok hk (h k hk)
  have hg := goes_parts (nth xs k)
  refine ⟨k, hk, h20, ?_, ?_, ?_, ?_, ?_, ?_⟩
  · unfold lpAt
    rcases hg with h | h | h | h
    · rw [h.1] at hr; cases hr
    · omega
    · rw [h.2.2.1]; rfl
    · omega
  all_goals
    show _
    simp only [lpAt]
    rcases hg with h | h | h | h
    · rw [h.1] at hr; cases hr
    · omega
    · omega
    · omega
theorem bnd_ok {xs : List In} (h : Placed xs) : Bnd (loopsL xs) := fun l hl => by
  obtain ⟨k, _, _, _, _, _, _, h1, h2⟩ := loop_ok h hl
  exact ⟨h1, h2⟩
end Go.Proofs.Ytkcofelpndlplaa
