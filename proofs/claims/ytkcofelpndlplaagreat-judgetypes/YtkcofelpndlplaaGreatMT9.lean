/-
  F7Plain
  F7RPlain
-/
import Derived.Test.YtkcofelpndlplaaGreatMT6
namespace Go.Proofs.YtkcofelpndlplaaGreat
open Go.RowKit
set_option linter.unusedVariables false
def In.far (i : In) : Int := (goesL i.op i.d i.a i.b i.imm).1
def In.leads (i : In) : Bool := (goesL i.op i.d i.a i.b i.imm).2.1
def In.on (i : In) : Bool := (goesL i.op i.d i.a i.b i.imm).2.2
theorem qBm (i : In) : (i.right = false /\ i.far = 0 /\ i.leads = false /\ i.on = false) ∨ (i.right = true /\ 15 <= i.op /\ i.op <= 19 /\ i.far = i.d + 1 /\ i.leads = true /\ i.on = decide (i.op ≠ 15) /\ 0 <= i.d /\ i.d <= 63) ∨
  (i.right = true /\ i.op = 20 /\ i.far = -i.d /\ i.leads = true /\ i.on = true /\ 1 <= i.d /\ i.d <= 63 /\ 1 <= i.imm /\ i.imm <= 255) ∨ (i.right = true /\ (i.op < 15 ∨ 20 < i.op) /\ i.far = 0 /\ i.leads = false /\ i.on = decide (i.op ≠ 22)) := by
 obtain ⟨op, d, a, b, imm⟩ := i
 unfold In.far In.leads In.on In.right
 cases hr : rightB op d a b imm
 ·left; simp [goesL, hr]
 right
 by_cases h1 : op = 15
 ·subst h1; left
  have := right_far hr (by omega)
  simp [goesL, hr]; omega
 by_cases h2 : 16 <= op /\ op <= 19
 ·left
  have := right_far hr (by omega)
  simp [goesL, hr, h1, h2]; omega
 by_cases h3 : op = 20
 ·subst h3; right; left
  have h := hr
  rw [qCm] at h
  simp at h
  simp [goesL, hr]; omega
 ·right; right
  unfold goesL
  rw [if_neg (by simp [hr]), if_neg h1, if_neg h2, if_neg h3]
  refine ⟨rfl, by show op < 15 ∨ 20 < op; omega, rfl, rfl, ?_⟩
  by_cases h4 : op = 22 <;> simp [h4]
theorem far_bd (i : In) : -63 <= i.far /\ i.far <= 64 := by
 rcases qBm i with h | h | h | h <;> omega
def first (p : Nat -> Bool) (n : Nat) : Option Nat := (List.range n).find? p
theorem qCv {p : Nat -> Bool} {n k : Nat} (h : ∀ j, j < k -> p j = false) (hk : k < n) (hp : p k = true) : first p n = some k := by
 unfold first
 have e : List.range n = List.range k ++ (List.range' k (n - k)) := by
  have e := @List.range'_append_1 0 k (n - k)
  rw [List.range_eq_range', List.range_eq_range', Nat.zero_add] at *
  rw [e]; congr 1; omega
 rw [e, List.find?_append]
 have h1 : (List.range k).find? p = none := by
  rw [List.find?_eq_none]; intro x hx; rw [List.mem_range] at hx; simp [h x hx]
 rw [h1]
 obtain ⟨m, hm⟩ : ∃ m, n - k = m + 1 := ⟨n - k - 1, by omega⟩
 rw [hm, List.range'_succ]
 simp [hp]
theorem qBv {p : Nat -> Bool} {n : Nat} (h : ∀ j, j < n -> p j = false) : first p n = none := by
 unfold first
 rw [List.find?_eq_none]; intro x hx; rw [List.mem_range] at hx; simp [h x hx]
theorem first_cases (p : Nat -> Bool) (n : Nat) : (first p n = none /\ ∀ j, j < n -> p j = false) ∨ ∃ k, first p n = some k /\ k < n /\ p k = true /\ ∀ j, j < k -> p j = false := by
 by_cases h : ∃ k, k < n /\ p k = true
 ·have hw : ∃ k, k < n /\ p k = true /\ ∀ j, j < k -> p j = false := by
   obtain ⟨k, hk, hp⟩ := h
   induction k using Nat.strongRecOn with
   | _ k ih =>
    by_cases hj : ∃ j, j < k /\ p j = true
    ·obtain ⟨j, hj, hpj⟩ := hj
     exact ih j hj (by omega) hpj
    ·refine ⟨k, hk, hp, fun j hjk => ?_⟩
     cases hpj : p j
     ·rfl
     ·exact absurd ⟨j, hjk, hpj⟩ hj
  obtain ⟨k, hk, hp, hf⟩ := hw
  exact .inr ⟨k, qCv hf hk hp, hk, hp, hf⟩
 ·refine .inl ⟨qBv fun j hj => ?_, fun j hj => ?_⟩ <;>
  ·cases hpj : p j
   ·rfl
   ·exact absurd ⟨j, hj, hpj⟩ h
theorem first_congr {p q : Nat -> Bool} {n : Nat} (h : ∀ j, j < n -> p j = q j) : first p n = first q n := by
 rcases first_cases q n with ⟨h1, h2⟩ | ⟨k, h1, h2, h3, h4⟩
 ·rw [h1]; exact qBv fun j hj => (h j hj).trans (h2 j hj)
 ·rw [h1]; exact qCv (fun j hj => (h j (by omega)).trans (h4 j hj)) h2 ((h k h2).trans h3)

structure Lp where
 h : Int
 t : Int
 b : Int
def Lp.nil : Lp := ⟨0, 0, 0⟩
def inLpB (l : Lp) (p : Int) : Bool := decide (l.h <= p) && decide (p <= l.t)
def entersB (l : Lp) (p q : Int) : Bool := !inLpB l p && (inLpB l q && decide (q ≠ l.h))
theorem within_iff {l : Lp} {p : Int} : inLpB l p = true ↔ l.h <= p /\ p <= l.t := by simp [inLpB]
theorem within_no {l : Lp} {p : Int} : inLpB l p = false ↔ ¬ (l.h <= p /\ p <= l.t) := by rw [<- within_iff]; simp
theorem enters_iff {l : Lp} {p q : Int} : entersB l p q = true ↔ ¬ (l.h <= p /\ p <= l.t) /\ l.h < q /\ q <= l.t := by
 unfold entersB
 rw [Bool.and_eq_true, Bool.and_eq_true, Bool.not_eq_true', within_no, within_iff, decide_eq_true_eq]
 omega
abbrev nth (xs : List In) (k : Nat) : In := xs.getD k In.nil
def lpAt (xs : List In) (k : Nat) : Lp := ⟨k + (nth xs k).far, k, (nth xs k).imm⟩
def lps (xs : List In) (k : Nat) : List Lp := if (nth xs k).op = 20 then [lpAt xs k] else []
def loopsU (xs : List In) : Nat -> List Lp
 | 0 => []
 | n + 1 => loopsU xs n ++ lps xs n
def loopsL (xs : List In) : List Lp := loopsU xs xs.length
theorem loopsU_mem {xs : List In} {n : Nat} {l : Lp} : l ∈ loopsU xs n ↔ ∃ k, k < n /\ (nth xs k).op = 20 /\ l = lpAt xs k := by
 induction n with
 | zero => simp [loopsU]
 | succ n ih =>
  rw [loopsU, List.mem_append, ih]
  constructor
  ·rintro (⟨k, h1, h2, h3⟩ | h)
   ·exact ⟨k, by omega, h2, h3⟩
   ·unfold lps at h
    split at h
    ·rename_i h20
     simp at h
     exact ⟨n, by omega, h20, h⟩
    ·simp at h
  ·rintro ⟨k, h1, h2, h3⟩
   by_cases hk : k < n
   ·exact .inl ⟨k, hk, h2, h3⟩
   ·obtain rfl : k = n := by omega
    right; unfold lps; rw [if_pos h2, h3]; simp
theorem loopsU_len (xs : List In) (n : Nat) : (loopsU xs n).length <= n := by
 induction n with
 | zero => simp [loopsU]
 | succ n ih => rw [loopsU, List.length_append]; unfold lps; split <;> simp <;> omega
theorem loopsU_sorted (xs : List In) (n : Nat) : (loopsU xs n).Pairwise (fun a b => a.t < b.t) := by
 induction n with
 | zero => exact List.Pairwise.nil
 | succ n ih =>
  rw [loopsU, List.pairwise_append]
  refine ⟨ih, ?_, ?_⟩
  ·unfold lps; split <;> simp
  ·intro a ha b hb
   obtain ⟨k, hk, _, rfl⟩ := loopsU_mem.1 ha
   unfold lps at hb
   split at hb <;> simp at hb
   subst hb
   simp [lpAt]; omega
def crossF : List Lp -> List Lp -> Option Int
 | _, [] => none
 | prev, l :: r => if prev.any (fun e => entersB e l.t l.h) then some l.t else crossF (prev ++ [l]) r
theorem crossF_none : ∀ (r prev : List Lp), crossF prev r = none -> ∀ (a b c : List Lp) (l : Lp), r = a ++ l :: b -> ∀ e ∈ prev ++ a, entersB e l.t l.h = false
 | [], prev, h, a, b, c, l, e => by simp at e
 | x :: r, prev, h, a, b, c, l, e => by
  rw [crossF] at h
  split at h
  ·cases h
  ·rename_i hx
   cases a with
   | nil =>
    simp at e
    obtain ⟨rfl, rfl⟩ := e
    intro e he
    simp at he hx
    exact hx e he
   | cons y a =>
    simp at e
    obtain ⟨rfl, rfl⟩ := e
    intro e he
    refine crossF_none (a ++ l :: b) (prev ++ [x]) h a b c l rfl e (by simpa using he)
def intrB (xs : List In) (ls : List Lp) (k : Nat) : Bool := (nth xs k).leads && ls.any (fun l => entersB l k (k + (nth xs k).far))
def placeE (xs : List In) (k : Nat) : Int :=
 if (nth xs k).right = false then 12 else if (k : Int) + (nth xs k).far < 0 ∨ (xs.length : Int) <= k + (nth xs k).far then 30 else if (nth xs k).on = true /\ k + 1 = xs.length then 36 else 0
def placeB (xs : List In) (k : Nat) : Bool := decide (placeE xs k ≠ 0)
def timesT (p : Int) : List Lp -> Int -> Int
 | [], t => t
 | l :: r, t => timesT p r (if inLpB l p then t * (l.b + 1) else t)
def timesC (p : Int) : List Lp -> Int -> Int
 | [], t => t
 | l :: r, t => timesC p r (if inLpB l p then min (t * (l.b + 1)) 257 else t)
def costT (ls : List Lp) : Nat -> Int
 | 0 => 0
 | n + 1 => costT ls n + timesT n ls 1
def costC (ls : List Lp) : Nat -> Int
 | 0 => 0
 | n + 1 => costC ls n + timesC n ls 1
def checkL (xs : List In) : Int × Int :=
 if xs.length = 0 then (0, 10) else if 64 < xs.length then (0, 11) else
 match first (placeB xs) xs.length with
 | some k => (k, placeE xs k)
 | none => match crossF [] (loopsL xs) with
  | some t => (t, 31)
  | none => match first (intrB xs (loopsL xs)) xs.length with
   | some p => (p, 31)
   | none => if 256 < costC (loopsL xs) xs.length then (0, 32) else (0, 0)
def Bnd (ls : List Lp) : Prop := ∀ l ∈ ls, 1 <= l.b /\ l.b <= 255
theorem mul_grow {t b : Int} (ht : 1 <= t) (hb : 0 <= b) : t <= t * (b + 1) := by
 have : 0 <= t * b := Int.mul_nonneg (by omega) hb
 rw [Int.mul_add]; omega
theorem timesT_ge {p : Int} : ∀ {ls : List Lp} {t : Int}, Bnd ls -> 1 <= t -> t <= timesT p ls t
 | [], t, _, _ => Int.le_refl _
 | l :: r, t, hb, ht => by
  have h1 := hb l (by simp)
  rw [timesT]
  split
  ·exact Int.le_trans (mul_grow ht (by omega)) (timesT_ge (fun x hx => hb x (by simp [hx])) (Int.le_trans ht (mul_grow ht (by omega))))
  ·exact timesT_ge (fun x hx => hb x (by simp [hx])) ht
theorem timesC_min {p : Int} : ∀ {ls : List Lp} {t : Int}, Bnd ls -> 1 <= t -> timesC p ls (min t 257) = min (timesT p ls t) 257
 | [], t, _, _ => rfl
 | l :: r, t, hb, ht => by
  have h1 := hb l (by simp)
  rw [timesC, timesT]
  have hr : Bnd r := fun x hx => hb x (by simp [hx])
  split
  ·have hg := mul_grow ht (show 0 <= l.b by omega)
   have e : min (min t 257 * (l.b + 1)) 257 = min (t * (l.b + 1)) 257 := by
    by_cases h : t <= 257
    ·rw [Int.min_eq_left h]
    ·have : min t 257 = 257 := by omega
     rw [this]; omega
   rw [e]
   exact timesC_min hr (by omega)
  ·exact timesC_min hr ht
theorem timesC_eq {p : Int} {ls : List Lp} (hb : Bnd ls) : timesC p ls 1 = min (timesT p ls 1) 257 := timesC_min (t := 1) hb (by omega)
theorem costC_le {ls : List Lp} (hb : Bnd ls) (n : Nat) : costC ls n <= costT ls n /\ (n : Int) <= costC ls n /\ (costC ls n <= 256 -> costT ls n = costC ls n) := by
 induction n with
 | zero => simp [costC, costT]
 | succ n ih =>
  have h1 := timesT_ge (p := n) hb (show (1 : Int) <= 1 by omega)
  rw [costC, costT, timesC_eq hb]
  omega
def aroundL (ls : List Lp) (p : Int) : List Int := (ls.filter (fun l => inLpB l p)).map Lp.t
structure Taken (xs : List In) : Prop where
 pos : 0 < xs.length
 top : xs.length <= 64
 place : ∀ k, k < xs.length -> placeB xs k = false
 cross : crossF [] (loopsL xs) = none
 intr : ∀ k, k < xs.length -> intrB xs (loopsL xs) k = false
 cost : costC (loopsL xs) xs.length <= 256
theorem check_ok {xs : List In} : (checkL xs).2 = 0 ↔ Taken xs := by
 unfold checkL
 constructor
 ·intro h
  split at h
  ·cases h
  split at h
  ·cases h
  split at h
  ·rename_i k hk
   rcases first_cases (placeB xs) xs.length with ⟨h1, _⟩ | ⟨j, h1, _, h2, _⟩
   ·rw [h1] at hk; cases hk
   ·rw [h1] at hk
    injection hk with hk
    subst hk
    unfold placeB at h2
    simp only [decide_eq_true_eq] at h2
    exact absurd h h2
  rename_i hp
  split at h
  ·cases h
  rename_i hc
  split at h
  ·cases h
  rename_i hi
  split at h
  ·cases h
  refine ⟨by omega, by omega, ?_, hc, ?_, by omega⟩
  ·rcases first_cases (placeB xs) xs.length with ⟨_, h2⟩ | ⟨k, h1, _⟩
   ·exact h2
   ·rw [h1] at hp; cases hp
  ·rcases first_cases (intrB xs (loopsL xs)) xs.length with ⟨_, h2⟩ | ⟨k, h1, _⟩
   ·exact h2
   ·rw [h1] at hi; cases hi
 ·intro h
  have := h.pos
  have := h.top
  have := h.cost
  rw [if_neg (by omega), if_neg (by omega), qBv h.place, h.cross, qBv h.intr]
  dsimp only
  rw [if_neg (by omega)]
theorem check_pair {xs : List In} (h : (checkL xs).2 = 0) : checkL xs = (0, 0) := by
 have h := check_ok.1 h
 unfold checkL
 have := h.pos
 have := h.top
 have := h.cost
 rw [if_neg (by omega), if_neg (by omega), qBv h.place, h.cross, qBv h.intr]
 dsimp only
 rw [if_neg (by omega)]
theorem qCf {xs : List In} {k : Nat} (hk : k < xs.length) (h : placeB xs k = false) : (nth xs k).right = true /\ 0 <= (k : Int) + (nth xs k).far /\ (k : Int) + (nth xs k).far < xs.length /\ ((nth xs k).on = true -> k + 1 < xs.length) := by
 unfold placeB placeE at h
 simp only [decide_eq_false_iff_not, ne_eq, Decidable.not_not] at h
 split at h
 ·omega
 split at h
 ·omega
 split at h
 ·omega
 rename_i h1 h2 h3
 refine ⟨by simpa using h1, by omega, by omega, fun hon => ?_⟩
 have : ¬ k + 1 = xs.length := fun e => h3 ⟨hon, e⟩
 omega
def Placed (xs : List In) : Prop := ∀ k, k < xs.length -> placeB xs k = false
theorem loop_ok {xs : List In} (h : Placed xs) {l : Lp} (hl : l ∈ loopsL xs) : ∃ k : Nat, k < xs.length /\ (nth xs k).op = 20 /\ l = ⟨k - (nth xs k).d, k, (nth xs k).imm⟩ /\ 0 <= l.h /\ l.h < l.t /\ l.t < xs.length /\ 1 <= l.b /\ l.b <= 255 := by
 obtain ⟨k, hk, h20, rfl⟩ := loopsU_mem.1 hl
 obtain ⟨hr, h0, h1, _⟩ := qCf hk (h k hk)
 have hg := qBm (nth xs k)
 refine ⟨k, hk, h20, ?_, ?_, ?_, ?_, ?_, ?_⟩
 ·unfold lpAt
  rcases hg with h | h | h | h
  ·rw [h.1] at hr; cases hr
  ·omega
  ·rw [h.2.2.1]; rfl
  ·omega
 all_goals
  show _
  simp only [lpAt]
  rcases hg with h | h | h | h
  ·rw [h.1] at hr; cases hr
  ·omega
  ·omega
  ·omega
theorem bnd_ok {xs : List In} (h : Placed xs) : Bnd (loopsL xs) := fun l hl => by
 obtain ⟨k, _, _, _, _, _, _, h1, h2⟩ := loop_ok h hl
 exact ⟨h1, h2⟩
def memB (l : List Int) (n : Int) : Bool := decide (n ∈ l)
theorem has_iff {l : List Int} {n : Int} : memB l n = true ↔ n ∈ l := by simp [memB]
abbrev row (rows : List (List Int)) (p : Nat) : List Int := rows.getD p []
def bodyU (xs : List In) (n : Nat) : List (List Int) := (List.range xs.length).map fun (p : Nat) => aroundL (loopsU xs n) (p : Int)
def bodyL (xs : List In) : List (List Int) := bodyU xs xs.length
theorem bodyU_row {xs : List In} {n p : Nat} (h : p < xs.length) : row (bodyU xs n) p = aroundL (loopsU xs n) p := by
 simp [row, bodyU, List.getD, h]
theorem around_mem {ls : List Lp} {p n : Int} : n ∈ aroundL ls p ↔ ∃ l ∈ ls, inLpB l p = true /\ l.t = n := by
 unfold aroundL
 simp [and_assoc]
theorem body_mem {xs : List In} {p m : Nat} (hp : p < xs.length) (hm : m < xs.length) (h20 : (nth xs m).op = 20) : memB (row (bodyL xs) p) m = inLpB (lpAt xs m) p := by
 rw [Bool.eq_iff_iff, has_iff, bodyL, bodyU_row hp, around_mem]
 constructor
 ·rintro ⟨l, hl, hw, ht⟩
  obtain ⟨k, hk, _, rfl⟩ := loopsU_mem.1 hl
  simp only [lpAt] at ht
  obtain rfl : k = m := by omega
  exact hw
 ·intro h
  exact ⟨lpAt xs m, loopsU_mem.2 ⟨m, hm, h20, rfl⟩, h, rfl⟩
def cntU (rows : List (List Int)) (m l : Nat) : Nat -> Int
 | 0 => 0
 | p + 1 => cntU rows m l p + if memB (row rows p) m && memB (row rows p) l then 1 else 0
def allU (rows : List (List Int)) (m l : Nat) : Nat -> Bool
 | 0 => true
 | p + 1 => allU rows m l p && !(memB (row rows p) m && !memB (row rows p) l)
theorem cnt_iff {rows : List (List Int)} {m l n : Nat} : 0 <= cntU rows m l n /\ cntU rows m l n <= n /\ (0 < cntU rows m l n ↔ ∃ p, p < n /\ memB (row rows p) m = true /\ memB (row rows p) l = true) := by
 induction n with
 | zero => simp [cntU]
 | succ n ih =>
  obtain ⟨i1, i2, i3⟩ := ih
  rw [cntU]
  cases h : (memB (row rows n) m && memB (row rows n) l)
  ·refine ⟨by simp; exact i1, by simp; omega, ?_⟩
   simp only [Bool.false_eq_true, if_false, Int.add_zero, i3]
   constructor
   ·rintro ⟨p, hp, h1⟩
    exact ⟨p, by omega, h1⟩
   ·rintro ⟨p, hp, h1, h2⟩
    refine ⟨p, ?_, h1, h2⟩
    by_cases e : p = n
    ·subst e; rw [h1, h2] at h; cases h
    ·omega
  ·refine ⟨by simp; omega, by simp; omega, ?_⟩
   rw [Bool.and_eq_true] at h
   simp only [if_true]
   exact ⟨fun _ => ⟨n, by omega, h⟩, fun _ => by omega⟩
theorem all_iff {rows : List (List Int)} {m l n : Nat} : allU rows m l n = false ↔ ∃ p, p < n /\ memB (row rows p) m = true /\ memB (row rows p) l = false := by
 induction n with
 | zero => simp [allU]
 | succ n ih =>
  rw [allU]
  cases h : (memB (row rows n) m && !memB (row rows n) l)
  ·simp only [Bool.not_false, Bool.and_true, ih]
   constructor
   ·rintro ⟨p, hp, h1⟩
    exact ⟨p, by omega, h1⟩
   ·rintro ⟨p, hp, h1, h2⟩
    refine ⟨p, ?_, h1, h2⟩
    by_cases e : p = n
    ·subst e; rw [h1, h2] at h; cases h
    ·omega
  ·rw [Bool.and_eq_true, Bool.not_eq_true'] at h
   simp only [Bool.not_true, Bool.and_false, true_iff]
   exact ⟨n, by omega, h⟩
def pairB (xs : List In) (rows : List (List Int)) (l m : Nat) : Bool := decide ((nth xs m).op = 20) && (decide (0 < cntU rows m l xs.length) && !allU rows m l xs.length)
def crossRB (xs : List In) (rows : List (List Int)) (l : Nat) : Bool := decide ((nth xs l).op = 20) && (List.range l).any (pairB xs rows l)
def crossPB (xs : List In) (l : Nat) : Bool := decide ((nth xs l).op = 20) && (loopsU xs l).any fun e => entersB e (lpAt xs l).t (lpAt xs l).h
def loopsF (xs : List In) : Nat -> Nat -> List Lp
 | _, 0 => []
 | k, m + 1 => lps xs k ++ loopsF xs (k + 1) m
theorem loopsF_all (xs : List In) : ∀ (m k : Nat), loopsU xs (k + m) = loopsU xs k ++ loopsF xs k m
 | 0, k => by simp [loopsF]
 | m + 1, k => by
  rw [loopsF, <- List.append_assoc, <- loopsU, <- loopsF_all xs m (k + 1)]
  congr 1; omega
theorem crossF_step (xs : List In) (m k : Nat) : crossF (loopsU xs k) (loopsF xs k (m + 1)) = if crossPB xs k then some (k : Int) else crossF (loopsU xs (k + 1)) (loopsF xs (k + 1) m) := by
 rw [loopsF, loopsU]
 unfold lps crossPB
 by_cases h : (nth xs k).op = 20
 ·rw [if_pos h]
  simp only [List.singleton_append, crossF, h, decide_true, Bool.true_and]
  rfl
 ·rw [if_neg h, decide_eq_false h, Bool.false_and, if_neg (by simp), List.nil_append, List.append_nil]
theorem crossF_first (xs : List In) : ∀ (m k : Nat), (∀ j, j < k -> crossPB xs j = false) -> crossF (loopsU xs k) (loopsF xs k m) = (first (crossPB xs) (k + m)).map fun (j : Nat) => (j : Int)
 | 0, k, h => by rw [Nat.add_zero, qBv h]; rfl
 | m + 1, k, h => by
  rw [crossF_step]
  cases hk : crossPB xs k
  ·rw [if_neg (by simp), crossF_first xs m (k + 1) (fun j hj => ?_), show k + 1 + m = k + (m + 1) by omega]
   by_cases e : j = k
   ·rw [e]; exact hk
   ·exact h j (by omega)
  ·rw [if_pos rfl, qCv h (by omega) hk]; rfl
theorem crossRB_eq {xs : List In} (h : Placed xs) {l : Nat} (hl : l < xs.length) : crossRB xs (bodyL xs) l = crossPB xs l := by
 unfold crossRB crossPB
 by_cases h20 : (nth xs l).op = 20
 ·rw [Bool.eq_iff_iff]
  simp only [h20, decide_true, Bool.true_and]
  obtain ⟨_, _, _, _, l0, l1, l2, _⟩ := loop_ok h (l := lpAt xs l) (loopsU_mem.2 ⟨l, hl, h20, rfl⟩)
  rw [List.any_eq_true, List.any_eq_true]
  constructor
  ·rintro ⟨m, hm, hp⟩
   rw [List.mem_range] at hm
   unfold pairB at hp
   simp only [Bool.and_eq_true, decide_eq_true_eq, Bool.not_eq_true'] at hp
   obtain ⟨hm20, hc, ha⟩ := hp
   obtain ⟨p, hp, hp1, hp2⟩ := cnt_iff.2.2.1 hc
   obtain ⟨q, hq, hq1, hq2⟩ := all_iff.1 ha
   rw [body_mem hp (by omega) hm20] at hp1
   rw [body_mem hp hl h20] at hp2
   rw [body_mem hq (by omega) hm20] at hq1
   rw [body_mem hq hl h20] at hq2
   rw [within_iff] at hp1 hp2 hq1
   rw [within_no] at hq2
   refine ⟨lpAt xs m, loopsU_mem.2 ⟨m, hm, hm20, rfl⟩, enters_iff.2 ?_⟩
   have e1 : (lpAt xs m).t = m := rfl
   have e2 : (lpAt xs l).t = l := rfl
   omega
  ·rintro ⟨e, he, hen⟩
   obtain ⟨m, hm, hm20, rfl⟩ := loopsU_mem.1 he
   obtain ⟨_, _, _, _, m0, m1, m2, _⟩ := loop_ok h (l := lpAt xs m) (loopsU_mem.2 ⟨m, by omega, hm20, rfl⟩)
   rw [enters_iff] at hen
   refine ⟨m, List.mem_range.2 hm, ?_⟩
   unfold pairB
   simp only [Bool.and_eq_true, decide_eq_true_eq, Bool.not_eq_true']
   have e1 : (lpAt xs m).t = m := rfl
   have e2 : (lpAt xs l).t = l := rfl
   refine ⟨hm20, cnt_iff.2.2.2 ⟨(lpAt xs l).h.toNat, by omega, ?_, ?_⟩, all_iff.2 ⟨(lpAt xs m).h.toNat, by omega, ?_, ?_⟩⟩
   ·rw [body_mem (by omega) (by omega) hm20, within_iff]; omega
   ·rw [body_mem (by omega) hl h20, within_iff]; omega
   ·rw [body_mem (by omega) (by omega) hm20, within_iff]; omega
   ·rw [body_mem (by omega) hl h20, within_no]; omega
 ·rw [decide_eq_false h20, Bool.false_and, Bool.false_and]
theorem cross_eq {xs : List In} (h : Placed xs) : crossF [] (loopsL xs) = (first (crossRB xs (bodyL xs)) xs.length).map fun (j : Nat) => (j : Int) := by
 have h1 := crossF_first xs xs.length 0 (fun j hj => by omega)
 have h2 := loopsF_all xs xs.length 0
 rw [Nat.zero_add] at h1 h2
 have e : loopsF xs 0 xs.length = loopsL xs := by unfold loopsL; rw [h2]; rfl
 rw [e] at h1
 rw [first_congr (q := crossPB xs) (fun j hj => crossRB_eq h hj)]
 exact h1
def outB (xs : List In) (rows : List (List Int)) (p : Nat) (to : Int) (l : Int) : Bool := !memB (row rows p) l && decide (to ≠ l - (nth xs l.toNat).d)
def enterRB (xs : List In) (rows : List (List Int)) (p : Nat) : Bool :=
 (nth xs p).leads && (decide (0 <= (nth xs p).far) && (row rows ((p : Int) + (nth xs p).far).toNat).any (outB xs rows p (p + (nth xs p).far)))
theorem enter_eq {xs : List In} (h : Placed xs) (hc : crossF [] (loopsL xs) = none) {p : Nat} (hp : p < xs.length) : enterRB xs (bodyL xs) p = intrB xs (loopsL xs) p := by
  obtain ⟨hr, g0, g1, g2⟩ := qCf hp (h p hp)
  unfold enterRB intrB
  rcases qBm (nth xs p) with hg | hg | hg | hg
  · rw [hg.2.2.1]; rfl
  · obtain ⟨_, o1, o2, f, hl, _, d0, d1⟩ := hg
    rw [hl, Bool.true_and, Bool.true_and, decide_eq_true (by omega), Bool.true_and]
    have hq : ((p : Int) + (nth xs p).far).toNat < xs.length := by omega
    have eq : ((((p : Int) + (nth xs p).far).toNat : Nat) : Int) = (p : Int) + (nth xs p).far := by omega
    rw [Bool.eq_iff_iff, List.any_eq_true, List.any_eq_true]
    constructor
    · rintro ⟨t, ht, ho⟩
      rw [bodyL, bodyU_row hq, around_mem, eq] at ht
      obtain ⟨l, hl', hw, rfl⟩ := ht
      obtain ⟨k, hk, h20, e, l0, l1, l2, _⟩ := loop_ok h hl'
      refine ⟨l, hl', enters_iff.2 ?_⟩
      unfold outB at ho
      rw [Bool.and_eq_true, Bool.not_eq_true', decide_eq_true_eq] at ho
      obtain ⟨o1, o2⟩ := ho
      have et : l.t = (k : Nat) := by rw [e]
      have eh : l.h = k - (nth xs k).d := by rw [e]
      rw [et, body_mem hp hk h20, within_no] at o1
      rw [et, show ((k : Int)).toNat = k by omega] at o2
      have e3 : lpAt xs k = l := by
        obtain ⟨k', hk', _, e'⟩ := loopsU_mem.1 hl'
        have : k' = k := by have : l.t = (k' : Int) := by rw [e']; rfl
                            omega
        rw [e', this]
      rw [e3] at o1
      rw [within_iff] at hw
      omega
    · rintro ⟨l, hl', hen⟩
      obtain ⟨k, hk, h20, e, l0, l1, l2, _⟩ := loop_ok h hl'
      rw [enters_iff] at hen
      refine ⟨l.t, ?_, ?_⟩
      · rw [bodyL, bodyU_row hq, around_mem, eq]
        exact ⟨l, hl', within_iff.2 (by omega), rfl⟩
      · unfold outB
        rw [Bool.and_eq_true, Bool.not_eq_true', decide_eq_true_eq]
        have et : l.t = (k : Nat) := by rw [e]
        have eh : l.h = k - (nth xs k).d := by rw [e]
        have e3 : lpAt xs k = l := by
          obtain ⟨k', hk', _, e'⟩ := loopsU_mem.1 hl'
          have : k' = k := by have : l.t = (k' : Int) := by rw [e']; rfl
                              omega
          rw [e', this]
        rw [et, body_mem hp hk h20, within_no, e3, show ((k : Int)).toNat = k by omega]
        omega
  · obtain ⟨_, o1, f, hl, _, d0, d1, _⟩ := hg
    rw [decide_eq_false (by omega), Bool.false_and, Bool.and_false, hl, Bool.true_and, eq_comm, List.any_eq_false]
    intro l hl' hen
    rw [enters_iff] at hen
    obtain ⟨A, B, hAB⟩ := List.append_of_mem (show lpAt xs p ∈ loopsL xs from loopsU_mem.2 ⟨p, hp, o1, rfl⟩)
    have hsort := loopsU_sorted xs xs.length
    rw [show loopsU xs xs.length = loopsL xs from rfl, hAB, List.pairwise_append] at hsort
    obtain ⟨s1, s2, s3⟩ := hsort
    have e1 : (lpAt xs p).t = p := rfl
    have e2 : (lpAt xs p).h = p + (nth xs p).far := rfl
    have hmem : l ∈ A ∨ l = lpAt xs p ∨ l ∈ B := by rw [hAB] at hl'; simpa using hl'
    rcases hmem with h1 | rfl | h1
    · have h2 := crossF_none _ _ hc A B [] (lpAt xs p) hAB l (by simpa using h1)
      have h3 := s3 l h1 (lpAt xs p) (by simp)
      rw [(enters_iff (l := l)).2 (by omega)] at h2
      cases h2
    · omega
    · have h3 := (List.pairwise_cons.1 s2).1 l h1
      omega
  · rw [hg.2.2.2.1]; rfl
def earlyR (xs : List In) : List Int -> Int -> Int
 | [], t => t
 | l :: r, t => if t <= 256 then earlyR xs r (t * ((nth xs l.toNat).imm + 1)) else t
def costR (xs : List In) (rows : List (List Int)) : Nat -> Int
 | 0 => 0
 | n + 1 => costR xs rows n + earlyR xs (row rows n) 1
def Named (xs : List In) (ls : List Lp) : Prop := ∀ l ∈ ls, (nth xs l.t.toNat).imm = l.b
theorem early_min {xs : List In} {p : Int} : ∀ {ls : List Lp} {t : Int}, Bnd ls -> Named xs ls -> 1 <= t -> t <= 65536 -> 1 <= earlyR xs (aroundL ls p) t /\ earlyR xs (aroundL ls p) t <= 65536 /\ min (earlyR xs (aroundL ls p) t) 257 = min (timesT p ls t) 257
 | [], t, _, _, h1, h2 => ⟨h1, h2, rfl⟩
 | l :: r, t, hb, hn, h1, h2 => by
  have hl := hb l (by simp)
  have hbr : Bnd r := fun x hx => hb x (by simp [hx])
  have hnr : Named xs r := fun x hx => hn x (by simp [hx])
  cases hw : inLpB l p
  ·have e : aroundL (l :: r) p = aroundL r p := by simp [aroundL, hw]
   rw [e, timesT, hw]
   exact early_min hbr hnr h1 h2
  ·have e : aroundL (l :: r) p = l.t :: aroundL r p := by simp [aroundL, hw]
   rw [e, earlyR, timesT, hw, hn l (by simp), if_pos rfl]
   have hg := mul_grow h1 (show 0 <= l.b by omega)
   by_cases h : t <= 256
   ·rw [if_pos h]
    have h3 : t * (l.b + 1) <= 256 * 256 := Int.mul_le_mul h (by omega) (by omega) (by omega)
    exact early_min hbr hnr (by omega) (by omega)
   ·rw [if_neg h]
    have h3 := timesT_ge (p := p) hbr (show 1 <= t * (l.b + 1) by omega)
    exact ⟨h1, h2, by omega⟩
theorem named_ok {xs : List In} {n : Nat} : Named xs (loopsU xs n) := fun l hl => by
 obtain ⟨k, hk, _, rfl⟩ := loopsU_mem.1 hl
 simp [lpAt]
theorem early_ok {xs : List In} (h : Placed xs) {p : Nat} (hp : p < xs.length) : 1 <= earlyR xs (row (bodyL xs) p) 1 /\ earlyR xs (row (bodyL xs) p) 1 <= 65536 /\ min (earlyR xs (row (bodyL xs) p) 1) 257 = timesC p (loopsL xs) 1 := by
 rw [bodyL, bodyU_row hp, timesC_eq (bnd_ok h)]
 exact early_min (bnd_ok h) named_ok (by omega) (by omega)
theorem costR_ok {xs : List In} (h : Placed xs) {n : Nat} (hn : n <= xs.length) : costC (loopsL xs) n <= costR xs (bodyL xs) n /\ 0 <= costR xs (bodyL xs) n /\ costR xs (bodyL xs) n <= 65536 * n /\ (costC (loopsL xs) n <= 256 -> costR xs (bodyL xs) n = costC (loopsL xs) n) := by
 induction n with
 | zero => simp [costC, costR]
 | succ n ih =>
  have h1 := early_ok h (show n < xs.length by omega)
  have h2 := ih (by omega)
  have h3 := (costC_le (bnd_ok h) n).2.1
  rw [costC, costR]
  omega
def checkR (xs : List In) : Int × Int :=
 if xs.length = 0 then (0, 10) else if 64 < xs.length then (0, 11) else
 match first (placeB xs) xs.length with
 | some k => (k, placeE xs k)
 | none => match first (crossRB xs (bodyL xs)) xs.length with
  | some t => (t, 31)
  | none => match first (enterRB xs (bodyL xs)) xs.length with
   | some p => (p, 31)
   | none => if 256 < costR xs (bodyL xs) xs.length then (0, 32) else (0, 0)
theorem checkR_eq (xs : List In) : checkR xs = checkL xs := by
 unfold checkR checkL
 split
 ·rfl
 split
 ·rfl
 rcases first_cases (placeB xs) xs.length with ⟨h1, h2⟩ | ⟨k, h1, _⟩
 ·rw [h1]
  have hp : Placed xs := h2
  dsimp only
  rw [cross_eq hp]
  rcases first_cases (crossRB xs (bodyL xs)) xs.length with ⟨c1, c2⟩ | ⟨k, c1, _⟩
  ·have hc : crossF [] (loopsL xs) = none := by rw [cross_eq hp, c1]; rfl
   rw [c1, first_congr (q := intrB xs (loopsL xs)) (fun j hj => enter_eq hp hc hj)]
   dsimp only [Option.map]
   cases first (intrB xs (loopsL xs)) xs.length with
   | some p => rfl
   | none =>
    dsimp only
    have := costR_ok hp (Nat.le_refl _)
    by_cases hx : costC (loopsL xs) xs.length <= 256
    ·rw [if_neg (by omega), if_neg (by omega)]
    ·rw [if_pos (by omega), if_pos (by omega)]
  ·rw [c1]; rfl
 ·rw [h1]
end Go.Proofs.YtkcofelpndlplaaGreat
