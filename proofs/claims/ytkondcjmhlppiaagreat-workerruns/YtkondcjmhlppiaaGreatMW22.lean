/-
  F7Plain
  F7RPlain
  O2Named
  O2Like
  F7Way
-/
import Derived.Test.YtkondcjmhlppiaaGreatMW18
namespace Go.Proofs.YtkondcjmhlppiaaGreat
open Go.RowKit
set_option linter.unusedVariables false
set_option maxHeartbeats 800000
set_option linter.unusedSimpArgs false
def In.far (i : In) : Int := (goesL i.op i.d i.a i.b i.imm).1
def In.leads (i : In) : Bool := (goesL i.op i.d i.a i.b i.imm).2.1
def In.on (i : In) : Bool := (goesL i.op i.d i.a i.b i.imm).2.2
theorem goes_parts (i : In) : (i.right = false /\ i.far = 0 /\ i.leads = false /\ i.on = false) ∨ (i.right = true /\ 15 <= i.op /\ i.op <= 19 /\ i.far = i.d + 1 /\ i.leads = true /\ i.on = decide (i.op ≠ 15) /\ 0 <= i.d /\ i.d <= 63) ∨
  (i.right = true /\ i.op = 20 /\ i.far = -i.d /\ i.leads = true /\ i.on = true /\ 1 <= i.d /\ i.d <= 63 /\ 1 <= i.imm /\ i.imm <= 255) ∨ (i.right = true /\ (i.op < 15 ∨ 20 < i.op) /\ i.far = 0 /\ i.leads = false /\ i.on = decide (i.op ≠ 22)) := by
 obtain ⟨op, d, a, b, imm⟩ := i
 unfold In.far In.leads In.on In.right
 cases hr : rightB op d a b imm
 ·left; simp [goesL, hr]
 right
 by_cases h1 : op = 15
 ·subst h1; left
  have := right_far hr (by omega)
  simp [goesL, hr]; omega
 by_cases h2 : 16 <= op /\ op <= 19
 ·left
  have := right_far hr (by omega)
  simp [goesL, hr, h1, h2]; omega
 by_cases h3 : op = 20
 ·subst h3; right; left
  have h := hr
  rw [rightB_20] at h
  simp at h
  simp [goesL, hr]; omega
 ·right; right
  unfold goesL
  rw [if_neg (by simp [hr]), if_neg h1, if_neg h2, if_neg h3]
  refine ⟨rfl, by show op < 15 ∨ 20 < op; omega, rfl, rfl, ?_⟩
  by_cases h4 : op = 22 <;> simp [h4]
theorem far_bd (i : In) : -63 <= i.far /\ i.far <= 64 := by
 rcases goes_parts i with h | h | h | h <;> omega
def first (p : Nat -> Bool) (n : Nat) : Option Nat := (List.range n).find? p
theorem first_some {p : Nat -> Bool} {n k : Nat} (h : ∀ j, j < k -> p j = false) (hk : k < n) (hp : p k = true) : first p n = some k := by
 unfold first
 have e : List.range n = List.range k ++ (List.range' k (n - k)) := by
  have e := @List.range'_append_1 0 k (n - k)
  rw [List.range_eq_range', List.range_eq_range', Nat.zero_add] at *
  rw [e]; congr 1; omega
 rw [e, List.find?_append]
 have h1 : (List.range k).find? p = none := by
  rw [List.find?_eq_none]; intro x hx; rw [List.mem_range] at hx; simp [h x hx]
 rw [h1]
 obtain ⟨m, hm⟩ : ∃ m, n - k = m + 1 := ⟨n - k - 1, by omega⟩
 rw [hm, List.range'_succ]
 simp [hp]
theorem first_none {p : Nat -> Bool} {n : Nat} (h : ∀ j, j < n -> p j = false) : first p n = none := by
 unfold first
 rw [List.find?_eq_none]; intro x hx; rw [List.mem_range] at hx; simp [h x hx]
theorem first_cases (p : Nat -> Bool) (n : Nat) : (first p n = none /\ ∀ j, j < n -> p j = false) ∨ ∃ k, first p n = some k /\ k < n /\ p k = true /\ ∀ j, j < k -> p j = false := by
 by_cases h : ∃ k, k < n /\ p k = true
 ·have hw : ∃ k, k < n /\ p k = true /\ ∀ j, j < k -> p j = false := by
   obtain ⟨k, hk, hp⟩ := h
   induction k using Nat.strongRecOn with
   | _ k ih =>
    by_cases hj : ∃ j, j < k /\ p j = true
    ·obtain ⟨j, hj, hpj⟩ := hj
     exact ih j hj (by omega) hpj
    ·refine ⟨k, hk, hp, fun j hjk => ?_⟩
     cases hpj : p j
     ·rfl
     ·exact absurd ⟨j, hjk, hpj⟩ hj
  obtain ⟨k, hk, hp, hf⟩ := hw
  exact .inr ⟨k, first_some hf hk hp, hk, hp, hf⟩
 ·refine .inl ⟨first_none fun j hj => ?_, fun j hj => ?_⟩ <;>
  ·cases hpj : p j
   ·rfl
   ·exact absurd ⟨j, hj, hpj⟩ h
structure Lp where
 h : Int
 t : Int
 b : Int
def Lp.nil : Lp := ⟨0, 0, 0⟩
def inLpB (l : Lp) (p : Int) : Bool := decide (l.h <= p) && decide (p <= l.t)
def entersB (l : Lp) (p q : Int) : Bool := !inLpB l p && (inLpB l q && decide (q ≠ l.h))
theorem within_iff {l : Lp} {p : Int} : inLpB l p = true ↔ l.h <= p /\ p <= l.t := by simp [inLpB]
theorem within_no {l : Lp} {p : Int} : inLpB l p = false ↔ ¬ (l.h <= p /\ p <= l.t) := by rw [<- within_iff]; simp
theorem enters_iff {l : Lp} {p q : Int} : entersB l p q = true ↔ ¬ (l.h <= p /\ p <= l.t) /\ l.h < q /\ q <= l.t := by
 unfold entersB
 rw [Bool.and_eq_true, Bool.and_eq_true, Bool.not_eq_true', within_no, within_iff, decide_eq_true_eq]
 omega
abbrev nth (xs : List In) (k : Nat) : In := xs.getD k In.nil
def lpAt (xs : List In) (k : Nat) : Lp := ⟨k + (nth xs k).far, k, (nth xs k).imm⟩
def lps (xs : List In) (k : Nat) : List Lp := if (nth xs k).op = 20 then [lpAt xs k] else []
def loopsU (xs : List In) : Nat -> List Lp
 | 0 => []
 | n + 1 => loopsU xs n ++ lps xs n
def loopsL (xs : List In) : List Lp := loopsU xs xs.length
theorem loopsU_mem {xs : List In} {n : Nat} {l : Lp} : l ∈ loopsU xs n ↔ ∃ k, k < n /\ (nth xs k).op = 20 /\ l = lpAt xs k := by
 induction n with
 | zero => simp [loopsU]
 | succ n ih =>
  rw [loopsU, List.mem_append, ih]
  constructor
  ·rintro (⟨k, h1, h2, h3⟩ | h)
   ·exact ⟨k, by omega, h2, h3⟩
   ·unfold lps at h
    split at h
    ·rename_i h20
     simp at h
     exact ⟨n, by omega, h20, h⟩
    ·simp at h
  ·rintro ⟨k, h1, h2, h3⟩
   by_cases hk : k < n
   ·exact .inl ⟨k, hk, h2, h3⟩
   ·obtain rfl : k = n := by omega
    right; unfold lps; rw [if_pos h2, h3]; simp
theorem loopsU_len (xs : List In) (n : Nat) : (loopsU xs n).length <= n := by
 induction n with
 | zero => simp [loopsU]
 | succ n ih => rw [loopsU, List.length_append]; unfold lps; split <;> simp <;> omega
theorem loopsU_sorted (xs : List In) (n : Nat) : (loopsU xs n).Pairwise (fun a b => a.t < b.t) := by
 induction n with
 | zero => exact List.Pairwise.nil
 | succ n ih =>
  rw [loopsU, List.pairwise_append]
  refine ⟨ih, ?_, ?_⟩
  ·unfold lps; split <;> simp
  ·intro a ha b hb
   obtain ⟨k, hk, _, rfl⟩ := loopsU_mem.1 ha
   unfold lps at hb
   split at hb <;> simp at hb
   subst hb
   simp [lpAt]; omega
def crossF : List Lp -> List Lp -> Option Int
 | _, [] => none
 | prev, l :: r => if prev.any (fun e => entersB e l.t l.h) then some l.t else crossF (prev ++ [l]) r
theorem crossF_none : ∀ (r prev : List Lp), crossF prev r = none -> ∀ (a b c : List Lp) (l : Lp), r = a ++ l :: b -> ∀ e ∈ prev ++ a, entersB e l.t l.h = false
 | [], prev, h, a, b, c, l, e => by simp at e
 | x :: r, prev, h, a, b, c, l, e => by
  rw [crossF] at h
  split at h
  ·cases h
  ·rename_i hx
   cases a with
   | nil =>
    simp at e
    obtain ⟨rfl, rfl⟩ := e
    intro e he
    simp at he hx
    exact hx e he
   | cons y a =>
    simp at e
    obtain ⟨rfl, rfl⟩ := e
    intro e he
    refine crossF_none (a ++ l :: b) (prev ++ [x]) h a b c l rfl e (by simpa using he)
def intrB (xs : List In) (ls : List Lp) (k : Nat) : Bool := (nth xs k).leads && ls.any (fun l => entersB l k (k + (nth xs k).far))
def placeE (xs : List In) (k : Nat) : Int :=
 if (nth xs k).right = false then 12 else if (k : Int) + (nth xs k).far < 0 ∨ (xs.length : Int) <= k + (nth xs k).far then 30 else if (nth xs k).on = true /\ k + 1 = xs.length then 36 else 0
def placeB (xs : List In) (k : Nat) : Bool := decide (placeE xs k ≠ 0)
def timesT (p : Int) : List Lp -> Int -> Int
 | [], t => t
 | l :: r, t => timesT p r (if inLpB l p then t * (l.b + 1) else t)
def timesC (p : Int) : List Lp -> Int -> Int
 | [], t => t
 | l :: r, t => timesC p r (if inLpB l p then min (t * (l.b + 1)) 257 else t)
def costT (ls : List Lp) : Nat -> Int
 | 0 => 0
 | n + 1 => costT ls n + timesT n ls 1
def costC (ls : List Lp) : Nat -> Int
 | 0 => 0
 | n + 1 => costC ls n + timesC n ls 1
def checkL (xs : List In) : Int × Int :=
 if xs.length = 0 then (0, 10) else if 64 < xs.length then (0, 11) else
 match first (placeB xs) xs.length with
 | some k => (k, placeE xs k)
 | none => match crossF [] (loopsL xs) with
  | some t => (t, 31)
  | none => match first (intrB xs (loopsL xs)) xs.length with
   | some p => (p, 31)
   | none => if 256 < costC (loopsL xs) xs.length then (0, 32) else (0, 0)
def Bnd (ls : List Lp) : Prop := ∀ l ∈ ls, 1 <= l.b /\ l.b <= 255
theorem mul_grow {t b : Int} (ht : 1 <= t) (hb : 0 <= b) : t <= t * (b + 1) := by
 have : 0 <= t * b := Int.mul_nonneg (by omega) hb
 rw [Int.mul_add]; omega
theorem timesT_ge {p : Int} : ∀ {ls : List Lp} {t : Int}, Bnd ls -> 1 <= t -> t <= timesT p ls t
 | [], t, _, _ => Int.le_refl _
 | l :: r, t, hb, ht => by
  have h1 := hb l (by simp)
  rw [timesT]
  split
  ·exact Int.le_trans (mul_grow ht (by omega)) (timesT_ge (fun x hx => hb x (by simp [hx])) (Int.le_trans ht (mul_grow ht (by omega))))
  ·exact timesT_ge (fun x hx => hb x (by simp [hx])) ht
theorem timesC_min {p : Int} : ∀ {ls : List Lp} {t : Int}, Bnd ls -> 1 <= t -> timesC p ls (min t 257) = min (timesT p ls t) 257
 | [], t, _, _ => rfl
 | l :: r, t, hb, ht => by
  have h1 := hb l (by simp)
  rw [timesC, timesT]
  have hr : Bnd r := fun x hx => hb x (by simp [hx])
  split
  ·have hg := mul_grow ht (show 0 <= l.b by omega)
   have e : min (min t 257 * (l.b + 1)) 257 = min (t * (l.b + 1)) 257 := by
    by_cases h : t <= 257
    ·rw [Int.min_eq_left h]
    ·have : min t 257 = 257 := by omega
     rw [this]; omega
   rw [e]
   exact timesC_min hr (by omega)
  ·exact timesC_min hr ht
theorem timesC_eq {p : Int} {ls : List Lp} (hb : Bnd ls) : timesC p ls 1 = min (timesT p ls 1) 257 := timesC_min (t := 1) hb (by omega)
theorem costC_le {ls : List Lp} (hb : Bnd ls) (n : Nat) : costC ls n <= costT ls n /\ (n : Int) <= costC ls n /\ (costC ls n <= 256 -> costT ls n = costC ls n) := by
 induction n with
 | zero => simp [costC, costT]
 | succ n ih =>
  have h1 := timesT_ge (p := n) hb (show (1 : Int) <= 1 by omega)
  rw [costC, costT, timesC_eq hb]
  omega
structure Taken (xs : List In) : Prop where
 pos : 0 < xs.length
 top : xs.length <= 64
 place : ∀ k, k < xs.length -> placeB xs k = false
 cross : crossF [] (loopsL xs) = none
 intr : ∀ k, k < xs.length -> intrB xs (loopsL xs) k = false
 cost : costC (loopsL xs) xs.length <= 256
theorem check_ok {xs : List In} : (checkL xs).2 = 0 ↔ Taken xs := by
 unfold checkL
 constructor
 ·intro h
  split at h
  ·cases h
  split at h
  ·cases h
  split at h
  ·rename_i k hk
   rcases first_cases (placeB xs) xs.length with ⟨h1, _⟩ | ⟨j, h1, _, h2, _⟩
   ·rw [h1] at hk; cases hk
   ·rw [h1] at hk
    injection hk with hk
    subst hk
    unfold placeB at h2
    simp only [decide_eq_true_eq] at h2
    exact absurd h h2
  rename_i hp
  split at h
  ·cases h
  rename_i hc
  split at h
  ·cases h
  rename_i hi
  split at h
  ·cases h
  refine ⟨by omega, by omega, ?_, hc, ?_, by omega⟩
  ·rcases first_cases (placeB xs) xs.length with ⟨_, h2⟩ | ⟨k, h1, _⟩
   ·exact h2
   ·rw [h1] at hp; cases hp
  ·rcases first_cases (intrB xs (loopsL xs)) xs.length with ⟨_, h2⟩ | ⟨k, h1, _⟩
   ·exact h2
   ·rw [h1] at hi; cases hi
 ·intro h
  have := h.pos
  have := h.top
  have := h.cost
  rw [if_neg (by omega), if_neg (by omega), first_none h.place, h.cross, first_none h.intr]
  dsimp only
  rw [if_neg (by omega)]
theorem place_ok {xs : List In} {k : Nat} (hk : k < xs.length) (h : placeB xs k = false) : (nth xs k).right = true /\ 0 <= (k : Int) + (nth xs k).far /\ (k : Int) + (nth xs k).far < xs.length /\ ((nth xs k).on = true -> k + 1 < xs.length) := by
 unfold placeB placeE at h
 simp only [decide_eq_false_iff_not, ne_eq, Decidable.not_not] at h
 split at h
 ·omega
 split at h
 ·omega
 split at h
 ·omega
 rename_i h1 h2 h3
 refine ⟨by simpa using h1, by omega, by omega, fun hon => ?_⟩
 have : ¬ k + 1 = xs.length := fun e => h3 ⟨hon, e⟩
 omega
def Placed (xs : List In) : Prop := ∀ k, k < xs.length -> placeB xs k = false
theorem loop_ok {xs : List In} (h : Placed xs) {l : Lp} (hl : l ∈ loopsL xs) : ∃ k : Nat, k < xs.length /\ (nth xs k).op = 20 /\ l = ⟨k - (nth xs k).d, k, (nth xs k).imm⟩ /\ 0 <= l.h /\ l.h < l.t /\ l.t < xs.length /\ 1 <= l.b /\ l.b <= 255 := by
 obtain ⟨k, hk, h20, rfl⟩ := loopsU_mem.1 hl
 obtain ⟨hr, h0, h1, _⟩ := place_ok hk (h k hk)
 have hg := goes_parts (nth xs k)
 refine ⟨k, hk, h20, ?_, ?_, ?_, ?_, ?_, ?_⟩
 ·unfold lpAt
  rcases hg with h | h | h | h
  ·rw [h.1] at hr; cases hr
  ·omega
  ·rw [h.2.2.1]; rfl
  ·omega
 all_goals
  show _
  simp only [lpAt]
  rcases hg with h | h | h | h
  ·rw [h.1] at hr; cases hr
  ·omega
  ·omega
  ·omega
theorem bnd_ok {xs : List In} (h : Placed xs) : Bnd (loopsL xs) := fun l hl => by
 obtain ⟨k, _, _, _, _, _, _, h1, h2⟩ := loop_ok h hl
 exact ⟨h1, h2⟩
abbrev row (rows : List (List Int)) (p : Nat) : List Int := rows.getD p []
theorem named_A8 (op d a b imm : Int) (w : World) (h8 : (b == 8) = true) : Calls Tryz.prog 96 #[Shape.v ⟨true, false, true, 0, 0, 0, 0⟩, instV op d a b imm] w fun e w' => e = .returned (instV op d 0 b imm) /\ Below w.heap.size w w' := by
 go_enter Tryz.func96, Tryz.ntmps96
 go_wp2
 go_returns
 exact ⟨rfl, by go_grown⟩
theorem named_Ar (op d a b imm : Int) (w : World) (h8 : (b == 8) = false) : Calls Tryz.prog 96 #[Shape.v ⟨true, false, true, 0, 0, 0, 0⟩, instV op d a b imm] w fun e w' => e = .returned (instV op d 0 b 0) /\ Below w.heap.size w w' := by
 go_enter Tryz.func96, Tryz.ntmps96
 go_wp2
 go_returns
 exact ⟨rfl, by go_grown⟩
theorem named_B8 (op d a b imm : Int) (w : World) (h8 : (b == 8) = true) : Calls Tryz.prog 96 #[Shape.v ⟨true, true, true, 0, 0, 0, 0⟩, instV op d a b imm] w fun e w' => e = .returned (instV op d a b imm) /\ Below w.heap.size w w' := by
 go_enter Tryz.func96, Tryz.ntmps96
 go_wp2
 go_returns
 exact ⟨rfl, by go_grown⟩
theorem named_Br (op d a b imm : Int) (w : World) (h8 : (b == 8) = false) : Calls Tryz.prog 96 #[Shape.v ⟨true, true, true, 0, 0, 0, 0⟩, instV op d a b imm] w fun e w' => e = .returned (instV op d a b 0) /\ Below w.heap.size w w' := by
 go_enter Tryz.func96, Tryz.ntmps96
 go_wp2
 go_returns
 exact ⟨rfl, by go_grown⟩
theorem named_C8 (op d a b imm : Int) (w : World) (h8 : (b == 8) = true) : Calls Tryz.prog 96 #[Shape.v ⟨false, true, true, 0, 0, 0, 0⟩, instV op d a b imm] w fun e w' => e = .returned (instV op 0 a b imm) /\ Below w.heap.size w w' := by
 go_enter Tryz.func96, Tryz.ntmps96
 go_wp2
 go_returns
 exact ⟨rfl, by go_grown⟩
theorem named_Cr (op d a b imm : Int) (w : World) (h8 : (b == 8) = false) : Calls Tryz.prog 96 #[Shape.v ⟨false, true, true, 0, 0, 0, 0⟩, instV op d a b imm] w fun e w' => e = .returned (instV op 0 a b 0) /\ Below w.heap.size w w' := by
 go_enter Tryz.func96, Tryz.ntmps96
 go_wp2
 go_returns
 exact ⟨rfl, by go_grown⟩
theorem named_D (op d a b imm : Int) (w : World) : Calls Tryz.prog 96 #[Shape.v ⟨true, false, false, 0, 0, 0, 1⟩, instV op d a b imm] w fun e w' => e = .returned (instV op d 0 0 imm) /\ Below w.heap.size w w' := by
 go_enter Tryz.func96, Tryz.ntmps96
 go_wp2
 go_returns
 exact ⟨rfl, by go_grown⟩
theorem named_E (op d a b imm : Int) (w : World) : Calls Tryz.prog 96 #[Shape.v ⟨true, false, false, 0, 0, 0, 3⟩, instV op d a b imm] w fun e w' => e = .returned (instV op d 0 0 imm) /\ Below w.heap.size w w' := by
 go_enter Tryz.func96, Tryz.ntmps96
 go_wp2
 go_returns
 exact ⟨rfl, by go_grown⟩
theorem named_F (op d a b imm : Int) (w : World) : Calls Tryz.prog 96 #[Shape.v ⟨false, false, false, 0, 63, 0, 0⟩, instV op d a b imm] w fun e w' => e = .returned (instV op d 0 0 0) /\ Below w.heap.size w w' := by
 go_enter Tryz.func96, Tryz.ntmps96
 go_wp2
 go_returns
 exact ⟨rfl, by go_grown⟩
theorem named_G8 (op d a b imm : Int) (w : World) (h8 : (b == 8) = true) : Calls Tryz.prog 96 #[Shape.v ⟨false, true, true, 0, 63, 0, 0⟩, instV op d a b imm] w fun e w' => e = .returned (instV op d a b imm) /\ Below w.heap.size w w' := by
 go_enter Tryz.func96, Tryz.ntmps96
 go_wp2
 go_returns
 exact ⟨rfl, by go_grown⟩
theorem named_Gr (op d a b imm : Int) (w : World) (h8 : (b == 8) = false) : Calls Tryz.prog 96 #[Shape.v ⟨false, true, true, 0, 63, 0, 0⟩, instV op d a b imm] w fun e w' => e = .returned (instV op d a b 0) /\ Below w.heap.size w w' := by
 go_enter Tryz.func96, Tryz.ntmps96
 go_wp2
 go_returns
 exact ⟨rfl, by go_grown⟩
theorem named_H (op d a b imm : Int) (w : World) : Calls Tryz.prog 96 #[Shape.v ⟨false, true, false, 1, 63, 1, 255⟩, instV op d a b imm] w fun e w' => e = .returned (instV op d a 0 imm) /\ Below w.heap.size w w' := by
 go_enter Tryz.func96, Tryz.ntmps96
 go_wp2
 go_returns
 exact ⟨rfl, by go_grown⟩
theorem named_I (op d a b imm : Int) (w : World) : Calls Tryz.prog 96 #[Shape.v ⟨false, false, false, 0, 0, 0, 6⟩, instV op d a b imm] w fun e w' => e = .returned (instV op 0 0 0 imm) /\ Below w.heap.size w w' := by
 go_enter Tryz.func96, Tryz.ntmps96
 go_wp2
 go_returns
 exact ⟨rfl, by go_grown⟩
theorem named_J (op d a b imm : Int) (w : World) : Calls Tryz.prog 96 #[Shape.v ⟨false, true, false, 0, 0, 0, 0⟩, instV op d a b imm] w fun e w' => e = .returned (instV op 0 a 0 0) /\ Below w.heap.size w w' := by
 go_enter Tryz.func96, Tryz.ntmps96
 go_wp2
 go_returns
 exact ⟨rfl, by go_grown⟩
theorem zero_op {op : Int} (h : (shapeL op).zero = false) : 0 <= op /\ op <= 22 := by
 by_cases hx : op < 0 ∨ 22 < op
 ·rw [shapeL_none hx] at h; cases h
 ·omega
theorem cases_op {op : Int} (h : 0 <= op /\ op <= 22) : (op = 0 ∨ op = 11) ∨ (1 <= op /\ op <= 10) ∨ op = 12 ∨ op = 13 ∨ op = 14 ∨ op = 15 ∨ (16 <= op /\ op <= 19) ∨ op = 20 ∨ op = 21 ∨ op = 22 := by omega
theorem zero_right {op d a b imm : Int} (h : (shapeL op).zero = true) : rightB op d a b imm = false := by
 by_cases hx : op < 0 ∨ 22 < op
 ·exact rightB_none hx
 ·exfalso
  rcases cases_op (op := op) (by omega) with hop | hop | rfl | rfl | rfl | rfl | hop | rfl | rfl | rfl
  ·rw [shape_A hop] at h; cases h
  ·rw [shape_B hop] at h; cases h
  ·cases h
  ·cases h
  ·cases h
  ·cases h
  ·rw [shape_G hop] at h; cases h
  ·cases h
  ·cases h
  ·cases h
theorem named_any (op d a b imm : Int) (w : World) (ho : 0 <= op /\ op <= 22) : Calls Tryz.prog 96 #[(shapeL op).v, instV op d a b imm] w fun e w' =>
  ∃ j : In, e = .returned j.v /\ Below w.heap.size w w' /\ rightB op d a b imm = (!neI ⟨op, d, a, b, imm⟩ j && fitsB (shapeL op).dest (shapeL op).source (shapeL op).farL (shapeL op).farM (shapeL op).immL (shapeL op).immM d a b imm) := by
 rcases cases_op ho with hop | hop | rfl | rfl | rfl | rfl | hop | rfl | rfl | rfl
 ·rw [shape_A hop]
  cases h8 : (b == 8)
  ·exact ((named_Ar op d a b imm w h8).mono fun e w1 ⟨he, hb⟩ => ⟨⟨op, d, 0, b, 0⟩, he, hb, by rw [right_A hop]; simp [neI, h8]⟩)
  ·exact ((named_A8 op d a b imm w h8).mono fun e w1 ⟨he, hb⟩ => ⟨⟨op, d, 0, b, imm⟩, he, hb, by rw [right_A hop]; simp [neI, h8]⟩)
 ·rw [shape_B hop]
  cases h8 : (b == 8)
  ·exact ((named_Br op d a b imm w h8).mono fun e w1 ⟨he, hb⟩ => ⟨⟨op, d, a, b, 0⟩, he, hb, by rw [right_B hop]; simp [neI, h8]⟩)
  ·exact ((named_B8 op d a b imm w h8).mono fun e w1 ⟨he, hb⟩ => ⟨⟨op, d, a, b, imm⟩, he, hb, by rw [right_B hop]; simp [neI, h8]⟩)
 ·skip
  cases h8 : (b == 8)
  ·exact ((named_Cr 12 d a b imm w h8).mono fun e w1 ⟨he, hb⟩ => ⟨⟨12, 0, a, b, 0⟩, he, hb, by refine (right_C).trans ?_; simp [neI, h8]; rfl⟩)
  ·exact ((named_C8 12 d a b imm w h8).mono fun e w1 ⟨he, hb⟩ => ⟨⟨12, 0, a, b, imm⟩, he, hb, by refine (right_C).trans ?_; simp [neI, h8]; rfl⟩)
 ·exact ((named_D 13 d a b imm w).mono fun e w1 ⟨he, hb⟩ => ⟨⟨13, d, 0, 0, imm⟩, he, hb, by refine (right_D).trans ?_; simp [neI]; rfl⟩)
 ·exact ((named_E 14 d a b imm w).mono fun e w1 ⟨he, hb⟩ => ⟨⟨14, d, 0, 0, imm⟩, he, hb, by refine (right_E).trans ?_; simp [neI]; rfl⟩)
 ·exact ((named_F 15 d a b imm w).mono fun e w1 ⟨he, hb⟩ => ⟨⟨15, d, 0, 0, 0⟩, he, hb, by refine (right_F).trans ?_; simp [neI]; rfl⟩)
 ·rw [shape_G hop]
  cases h8 : (b == 8)
  ·exact ((named_Gr op d a b imm w h8).mono fun e w1 ⟨he, hb⟩ => ⟨⟨op, d, a, b, 0⟩, he, hb, by rw [right_G hop]; simp [neI, h8]⟩)
  ·exact ((named_G8 op d a b imm w h8).mono fun e w1 ⟨he, hb⟩ => ⟨⟨op, d, a, b, imm⟩, he, hb, by rw [right_G hop]; simp [neI, h8]⟩)
 ·exact ((named_H 20 d a b imm w).mono fun e w1 ⟨he, hb⟩ => ⟨⟨20, d, a, 0, imm⟩, he, hb, by refine (right_H).trans ?_; simp [neI]; rfl⟩)
 ·exact ((named_I 21 d a b imm w).mono fun e w1 ⟨he, hb⟩ => ⟨⟨21, 0, 0, 0, imm⟩, he, hb, by refine (right_I).trans ?_; simp [neI]; rfl⟩)
 ·exact ((named_J 22 d a b imm w).mono fun e w1 ⟨he, hb⟩ => ⟨⟨22, 0, a, 0, 0⟩, he, hb, by refine (right_J).trans ?_; simp [neI]; rfl⟩)
def wayS (p q : Int) (c : Int -> Int) (s : Int × Int) (l : Lp) : Int × Int :=
 if inLpB l q then (s.1 * (l.b + 1), if inLpB l p then (l.b - c l.t) * s.1 + s.2 else if p <= q then s.1 * (l.b + 1) else 0) else s
def wayF (p q : Int) (c : Int -> Int) (ls : List Lp) (s : Int × Int) : Int × Int := ls.foldl (wayS p q c) s
def wayP (p q : Int) (c : Int -> Int) (ls : List Lp) : Int := (wayF p q c ls (1, if p <= q then 1 else 0)).2
def Cnt (ls : List Lp) (c : Int -> Int) : Prop := ∀ l ∈ ls, 0 <= c l.t /\ c l.t <= l.b
theorem way_fst (p q : Int) (c : Int -> Int) : ∀ (ls : List Lp) (s : Int × Int), (wayF p q c ls s).1 = timesT q ls s.1
 | [], s => rfl
 | l :: r, s => by
  show (wayF p q c r (wayS p q c s l)).1 = _
  rw [way_fst p q c r, timesT]
  unfold wayS
  split <;> rfl
theorem mul_bd {b c P : Int} (h0 : 0 <= c) (h1 : c <= b) (hP : 1 <= P) : 0 <= (b - c) * P /\ (b - c) * P + P <= P * (b + 1) := by
 have e1 : 0 <= (b - c) * P := Int.mul_nonneg (by omega) (by omega)
 have e2 : 0 <= c * P := Int.mul_nonneg h0 (by omega)
 have e3 : (b - c) * P = b * P - c * P := Int.sub_mul ..
 have e4 : P * (b + 1) = b * P + P := by rw [Int.mul_add, Int.mul_comm]; omega
 omega
theorem way_bd {p q : Int} {c : Int -> Int} : ∀ {ls : List Lp} {s : Int × Int}, Cnt ls c -> Bnd ls -> 1 <= s.1 -> 0 <= s.2 -> s.2 <= s.1 -> 1 <= (wayF p q c ls s).1 /\ 0 <= (wayF p q c ls s).2 /\ (wayF p q c ls s).2 <= (wayF p q c ls s).1
 | [], s, _, _, h1, h2, h3 => ⟨h1, h2, h3⟩
 | l :: r, s, hc, hb, h1, h2, h3 => by
  have hcr : Cnt r c := fun x hx => hc x (by simp [hx])
  have hbr : Bnd r := fun x hx => hb x (by simp [hx])
  have hl := hc l (by simp)
  have hbl := hb l (by simp)
  show 1 <= (wayF p q c r (wayS p q c s l)).1 /\ _
  have hm := mul_bd hl.1 hl.2 h1
  have hg := mul_grow h1 (show 0 <= l.b by omega)
  refine way_bd hcr hbr ?_ ?_ ?_ <;> unfold wayS <;> split <;> first | assumption | skip
  ·show 1 <= s.1 * (l.b + 1); omega
  ·show 0 <= (if inLpB l p then (l.b - c l.t) * s.1 + s.2 else if p <= q then s.1 * (l.b + 1) else 0)
   split
   ·omega
   ·split <;> omega
  ·show (if inLpB l p then (l.b - c l.t) * s.1 + s.2 else if p <= q then s.1 * (l.b + 1) else 0) <= s.1 * (l.b + 1)
   split
   ·omega
   ·split <;> omega
def Fwd (ls : List Lp) (p p' : Int) (c c' : Int -> Int) : Prop := p < p' /\ ∀ l ∈ ls, (inLpB l p = true -> inLpB l p' = true -> c' l.t = c l.t) /\ (inLpB l p = true -> inLpB l p' = false -> l.t < p') /\ (inLpB l p = false -> inLpB l p' = true -> p' = l.h)
theorem way_fwd {p p' q : Int} {c c' : Int -> Int} {d : Int} (hd : d = 0 ∨ (d = 1 /\ q = p)) : ∀ {ls : List Lp} {s s' : Int × Int}, Fwd ls p p' c c' -> Cnt ls c -> Cnt ls c' -> Bnd ls -> s'.1 = s.1 -> 1 <= s.1 -> 0 <= s.2 -> s.2 <= s.1 -> 0 <= s'.2 -> s'.2 <= s.1 -> s'.2 + d <= s.2 ->
  (wayF p' q c' ls s').2 + d <= (wayF p q c ls s).2
 | [], s, s', _, _, _, _, _, _, _, _, _, _, h => h
 | l :: r, s, s', hf, hc, hc', hb, he, h1, h2, h3, h4, h5, h6 => by
  have hfr : Fwd r p p' c c' := ⟨hf.1, fun x hx => hf.2 x (by simp [hx])⟩
  have hcr : Cnt r c := fun x hx => hc x (by simp [hx])
  have hcr' : Cnt r c' := fun x hx => hc' x (by simp [hx])
  have hbr : Bnd r := fun x hx => hb x (by simp [hx])
  have hl := hc l (by simp)
  have hl' := hc' l (by simp)
  have hbl := hb l (by simp)
  obtain ⟨f1, f2, f3⟩ := hf.2 l (by simp)
  have hlt := hf.1
  have hm := mul_bd hl.1 hl.2 h1
  have hm' := mul_bd hl'.1 hl'.2 h1
  have hg := mul_grow h1 (show 0 <= l.b by omega)
  show (wayF p' q c' r (wayS p' q c' s' l)).2 + d <= (wayF p q c r (wayS p q c s l)).2
  cases hq : inLpB l q
  ·have e1 : wayS p' q c' s' l = s' := by unfold wayS; rw [hq]; rfl
   have e2 : wayS p q c s l = s := by unfold wayS; rw [hq]; rfl
   rw [e1, e2]
   exact way_fwd hd hfr hcr hcr' hbr he h1 h2 h3 h4 h5 h6
  ·have e1 : wayS p' q c' s' l = (s.1 * (l.b + 1), if inLpB l p' then (l.b - c' l.t) * s.1 + s'.2 else if p' <= q then s.1 * (l.b + 1) else 0) := by unfold wayS; rw [hq, he]; rfl
   have e2 : wayS p q c s l = (s.1 * (l.b + 1), if inLpB l p then (l.b - c l.t) * s.1 + s.2 else if p <= q then s.1 * (l.b + 1) else 0) := by unfold wayS; rw [hq]; rfl
   rw [e1, e2]
   have hq' := within_iff.1 hq
   cases hp : inLpB l p <;> cases hp' : inLpB l p'
   ·have hd0 : d = 0 := by
     rcases hd with h | ⟨_, h⟩
     ·exact h
     ·subst h; rw [hq] at hp; cases hp
    refine way_fwd hd hfr hcr hcr' hbr rfl ?_ ?_ ?_ ?_ ?_ ?_ <;> simp <;> (try split) <;> (try split) <;> omega
   ·have hh := f3 hp hp'
    have hd0 : d = 0 := by
     rcases hd with h | ⟨_, h⟩
     ·exact h
     ·subst h; rw [hq] at hp; cases hp
    have hpq : p <= q := by omega
    refine way_fwd hd hfr hcr hcr' hbr rfl ?_ ?_ ?_ ?_ ?_ ?_ <;> simp [hpq] <;> omega
   ·have hh := f2 hp hp'
    have hpq : ¬ p' <= q := by omega
    refine way_fwd hd hfr hcr hcr' hbr rfl ?_ ?_ ?_ ?_ ?_ ?_ <;> simp [hpq] <;> omega
   ·have hcc := f1 hp hp'
    rw [hcc]
    refine way_fwd hd hfr hcr hcr' hbr rfl ?_ ?_ ?_ ?_ ?_ ?_ <;> simp <;> omega
theorem wayP_fwd {p p' q : Int} {c c' : Int -> Int} {ls : List Lp} (hf : Fwd ls p p' c c') (hc : Cnt ls c) (hc' : Cnt ls c') (hb : Bnd ls) : wayP p' q c' ls + (if q = p then 1 else 0) <= wayP p q c ls := by
 have hlt := hf.1
 unfold wayP
 by_cases hqp : q = p
 ·rw [if_pos hqp]
  refine way_fwd (.inr ⟨rfl, hqp⟩) hf hc hc' hb rfl (by simp) ?_ ?_ ?_ ?_ ?_ <;> simp <;> (try split) <;> (try split) <;> omega
 ·rw [if_neg hqp]
  refine way_fwd (.inl rfl) hf hc hc' hb rfl (by simp) ?_ ?_ ?_ ?_ ?_ <;> simp <;> (try split) <;> (try split) <;> omega
theorem way_like {p p' q : Int} {c c' : Int -> Int} (hpq : p <= q ↔ p' <= q) : ∀ {ls : List Lp} {s : Int × Int}, (∀ l ∈ ls, inLpB l q = true -> inLpB l p' = inLpB l p /\ c' l.t = c l.t) -> wayF p' q c' ls s = wayF p q c ls s
 | [], s, _ => rfl
 | l :: r, s, h => by
  have hr : ∀ l ∈ r, inLpB l q = true -> inLpB l p' = inLpB l p /\ c' l.t = c l.t := fun x hx => h x (by simp [hx])
  show wayF p' q c' r (wayS p' q c' s l) = wayF p q c r (wayS p q c s l)
  have e : wayS p' q c' s l = wayS p q c s l := by
   unfold wayS
   cases hq : inLpB l q
   ·rfl
   ·obtain ⟨h1, h2⟩ := h l (by simp) hq
    rw [h1, h2]
    by_cases hx : p <= q
    ·rw [if_pos hx, if_pos (hpq.1 hx)]
    ·rw [if_neg hx, if_neg (fun y => hx (hpq.2 y))]
  rw [e]
  exact way_like hpq hr
theorem way_both {p p' q : Int} {c c' : Int -> Int} {d : Int} : ∀ {ls : List Lp} {s s' : Int × Int}, (∀ l ∈ ls, inLpB l q = true -> inLpB l p' = true /\ inLpB l p = true /\ c' l.t = c l.t) -> s'.1 = s.1 -> s'.2 + d <= s.2 -> (wayF p' q c' ls s').2 + d <= (wayF p q c ls s).2
 | [], s, s', _, _, h => h
 | l :: r, s, s', h, he, h6 => by
  have hr : ∀ l ∈ r, inLpB l q = true -> inLpB l p' = true /\ inLpB l p = true /\ c' l.t = c l.t := fun x hx => h x (by simp [hx])
  show (wayF p' q c' r (wayS p' q c' s' l)).2 + d <= (wayF p q c r (wayS p q c s l)).2
  cases hq : inLpB l q
  ·have e1 : wayS p' q c' s' l = s' := by unfold wayS; rw [hq]; rfl
   have e2 : wayS p q c s l = s := by unfold wayS; rw [hq]; rfl
   rw [e1, e2]
   exact way_both hr he h6
  ·obtain ⟨h1, h2, h3⟩ := h l (by simp) hq
   have e1 : wayS p' q c' s' l = (s.1 * (l.b + 1), (l.b - c l.t) * s.1 + s'.2) := by unfold wayS; rw [hq, h1, h3, he]; rfl
   have e2 : wayS p q c s l = (s.1 * (l.b + 1), (l.b - c l.t) * s.1 + s.2) := by unfold wayS; rw [hq, h2]; rfl
   rw [e1, e2]
   exact way_both hr rfl (by show _ + _ + d <= _; omega)
theorem way_out {p q : Int} {c : Int -> Int} : ∀ {ls : List Lp} {s : Int × Int}, (∀ l ∈ ls, inLpB l p = false) -> s.2 = (if p <= q then s.1 else 0) -> (wayF p q c ls s).2 = (if p <= q then (wayF p q c ls s).1 else 0)
 | [], s, _, h => h
 | l :: r, s, h, hs => by
  have hr : ∀ l ∈ r, inLpB l p = false := fun x hx => h x (by simp [hx])
  show (wayF p q c r (wayS p q c s l)).2 = (if p <= q then (wayF p q c r (wayS p q c s l)).1 else 0)
  refine way_out hr ?_
  unfold wayS
  rw [h l (by simp)]
  cases hq : inLpB l q
  ·exact hs
  ·rfl
theorem wayF_app (p q : Int) (c : Int -> Int) (A B : List Lp) (s : Int × Int) : wayF p q c (A ++ B) s = wayF p q c B (wayF p q c A s) := List.foldl_append
theorem wayP_back {q : Int} {c c' : Int -> Int} {A B : List Lp} {L : Lp} (hc : Cnt (A ++ L :: B) c) (hc' : Cnt (A ++ L :: B) c') (hb : Bnd (A ++ L :: B)) (hh : L.h < L.t) (hA : ∀ l ∈ A, l.t < L.t) (hB : ∀ l ∈ B, L.t < l.t)
  (nA : ∀ l ∈ A, ¬ (l.h < L.h /\ L.h <= l.t)) (nB : ∀ l ∈ B, ¬ (L.h < l.h /\ l.h <= L.t)) (hs : ∀ t, t ≠ L.t -> c' t = c t) (hL : c' L.t = c L.t + 1) : wayP L.h q c' (A ++ L :: B) + (if q = L.t then 1 else 0) <= wayP L.t q c (A ++ L :: B) := by
 cases hq : inLpB L q
 ·have hq' := within_no.1 hq
  have hne : q ≠ L.t := by omega
  rw [if_neg hne]
  have hpq : L.t <= q ↔ L.h <= q := by omega
  unfold wayP
  have e : (if L.h <= q then (1 : Int) else 0) = if L.t <= q then 1 else 0 := by
   by_cases hx : L.t <= q
   ·rw [if_pos hx, if_pos (hpq.1 hx)]
   ·rw [if_neg hx, if_neg (fun y => hx (hpq.2 y))]
  rw [e, way_like (p := L.t) (p' := L.h) (c := c) (c' := c') hpq]
  ·omega
  intro l hl hlq
  have hlq' := within_iff.1 hlq
  have hmem : l ∈ A ∨ l = L ∨ l ∈ B := by simpa using hl
  rcases hmem with h | rfl | h
  ·have h1 := hA l h
   have h2 := nA l h
   have w1 : inLpB l L.t = false := within_no.2 (by omega)
   have w2 : inLpB l L.h = false := within_no.2 (by omega)
   exact ⟨by rw [w1, w2], hs _ (by omega)⟩
  ·rw [hq] at hlq; cases hlq
  ·have h1 := hB l h
   have h2 := nB l h
   refine ⟨?_, hs _ (by omega)⟩
   by_cases hx : l.h <= L.h
   ·rw [within_iff.2 (by omega), within_iff.2 (by omega)]
   ·rw [within_no.2 (by omega), within_no.2 (by omega)]
 ·have hq' := within_iff.1 hq
  have cA : Cnt A c' := fun l hl => hc' l (by simp [hl])
  have cA0 : Cnt A c := fun l hl => hc l (by simp [hl])
  have bA : Bnd A := fun l hl => hb l (by simp [hl])
  have cL := hc L (by simp)
  have cL' := hc' L (by simp)
  unfold wayP
  rw [wayF_app, wayF_app]
  have hb1 := way_bd (p := L.h) (q := q) (s := (1, if L.h <= q then 1 else 0)) cA bA (by simp) (by simp; split <;> omega) (by simp; split <;> omega)
  have hb0 := way_bd (p := L.t) (q := q) (s := (1, if L.t <= q then 1 else 0)) cA0 bA (by simp) (by simp; split <;> omega) (by simp; split <;> omega)
  have ho := way_out (p := L.t) (q := q) (c := c) (ls := A) (s := (1, if L.t <= q then 1 else 0)) (fun l hl => within_no.2 (by have := hA l hl; omega)) rfl
  have hP : (wayF L.h q c' A (1, if L.h <= q then 1 else 0)).1 = (wayF L.t q c A (1, if L.t <= q then 1 else 0)).1 := by rw [way_fst, way_fst]
  generalize wayF L.h q c' A (1, if L.h <= q then 1 else 0) = s' at hb1 hP ⊢
  generalize wayF L.t q c A (1, if L.t <= q then 1 else 0) = s at hb0 ho hP ⊢
  obtain ⟨P', R'⟩ := s'
  obtain ⟨P, R⟩ := s
  simp only at hb1 hb0 ho hP
  subst hP
  have e1 : wayS L.h q c' (P', R') L = (P' * (L.b + 1), (L.b - c' L.t) * P' + R') := by unfold wayS; rw [hq, within_iff.2 (show L.h <= L.h /\ L.h <= L.t by omega)]; rfl
  have e2 : wayS L.t q c (P', R) L = (P' * (L.b + 1), (L.b - c L.t) * P' + R) := by unfold wayS; rw [hq, within_iff.2 (show L.h <= L.t /\ L.t <= L.t by omega)]; rfl
  show (wayF L.h q c' B (wayS L.h q c' (P', R') L)).2 + _ <= (wayF L.t q c B (wayS L.t q c (P', R) L)).2
  rw [e1, e2]
  have e3 : (L.b - c' L.t) * P' = (L.b - c L.t) * P' - P' := by rw [hL, show L.b - (c L.t + 1) = (L.b - c L.t) - 1 by omega, Int.sub_mul, Int.one_mul]
  refine way_both (d := if q = L.t then 1 else 0) ?_ rfl ?_
  ·intro l hl hlq
   have hlq' := within_iff.1 hlq
   have h1 := hB l hl
   have h2 := nB l hl
   exact ⟨within_iff.2 (by omega), within_iff.2 (by omega), hs _ (by omega)⟩
  ·show (L.b - c' L.t) * P' + R' + _ <= (L.b - c L.t) * P' + R
   rw [e3]
   by_cases hx : q = L.t
   ·rw [if_pos hx]
    rw [if_pos (by omega)] at ho
    omega
   ·rw [if_neg hx]
    omega
def left (ls : List Lp) (p : Int) (c : Int -> Int) : Nat -> Int
 | 0 => 0
 | n + 1 => left ls p c n + wayP p n c ls
theorem left_step {ls : List Lp} {p p' : Int} {c c' : Int -> Int} (h : ∀ q : Nat, wayP p' q c' ls + (if (q : Int) = p then 1 else 0) <= wayP p q c ls) (n : Nat) : left ls p' c' n + (if 0 <= p /\ p < n then 1 else 0) <= left ls p c n := by
 induction n with
 | zero => simp [left]; omega
 | succ n ih =>
  rw [left, left]
  have h1 := h n
  by_cases h2 : (n : Int) = p
  ·rw [if_pos h2] at h1
   rw [if_pos (by omega)]
   split at ih <;> omega
  ·rw [if_neg h2] at h1
   by_cases h3 : 0 <= p /\ p < n
   ·rw [if_pos h3] at ih; rw [if_pos (by omega)]; omega
   ·rw [if_neg h3] at ih; rw [if_neg (by omega)]; omega
theorem wayP_bd {ls : List Lp} {p q : Int} {c : Int -> Int} (hc : Cnt ls c) (hb : Bnd ls) : 0 <= wayP p q c ls /\ wayP p q c ls <= timesT q ls 1 := by
 have h := way_bd (p := p) (q := q) (s := (1, if p <= q then 1 else 0)) hc hb (by simp) (by simp; split <;> omega) (by simp; split <;> omega)
 rw [way_fst] at h
 exact h.2
theorem left_cost {ls : List Lp} {p : Int} {c : Int -> Int} (hc : Cnt ls c) (hb : Bnd ls) (n : Nat) : left ls p c n <= costT ls n := by
 induction n with
 | zero => simp [left, costT]
 | succ n ih => rw [left, costT]; have := wayP_bd (p := p) (q := n) hc hb; omega
theorem way_pos {p : Int} {c : Int -> Int} : ∀ {ls : List Lp} {s : Int × Int}, Cnt ls c -> Bnd ls -> 1 <= s.1 -> 1 <= s.2 -> 1 <= (wayF p p c ls s).2
 | [], s, _, _, _, h => h
 | l :: r, s, hc, hb, h1, h2 => by
  have hl := hc l (by simp)
  have hbl := hb l (by simp)
  show 1 <= (wayF p p c r (wayS p p c s l)).2
  have hm := mul_bd hl.1 hl.2 h1
  have hg := mul_grow h1 (show 0 <= l.b by omega)
  refine way_pos (fun x hx => hc x (by simp [hx])) (fun x hx => hb x (by simp [hx])) ?_ ?_ <;> unfold wayS <;> cases hq : inLpB l p <;> simp <;> omega
theorem left_pos {ls : List Lp} {c : Int -> Int} (hc : Cnt ls c) (hb : Bnd ls) (p n : Nat) (hp : p < n) : 1 <= left ls p c n := by
 have hnn : ∀ m, 0 <= left ls p c m := by
  intro m
  induction m with
  | zero => simp [left]
  | succ m ih => rw [left]; have := wayP_bd (p := p) (q := m) hc hb; omega
 induction n with
 | zero => omega
 | succ n ih =>
  rw [left]
  by_cases h : p = n
  ·subst h
   have h1 := hnn p
   have h2 : 1 <= wayP p p c ls := way_pos hc hb (by simp) (by simp)
   omega
  ·have h1 := ih (by omega)
   have h2 := wayP_bd (p := p) (q := n) hc hb
   omega
theorem way_step {xs : List In} (T : Taken xs) {k : Nat} {k' : Int} {c c' : Int -> Int} (hk : k < xs.length) (hc : Cnt (loopsL xs) c) (hs : ∀ t : Int, t ≠ k -> c' t = c t)
  (h : (k' = k + 1 /\ ((nth xs k).op = 20 -> c' k = 0) /\ (nth xs k).on = true) ∨ (k' = k + (nth xs k).far /\ (nth xs k).leads = true /\ (nth xs k).op ≠ 20) ∨ (k' = k + (nth xs k).far /\ (nth xs k).op = 20 /\ c k < (nth xs k).imm /\ c' k = c k + 1)) :
  Cnt (loopsL xs) c' /\ 0 <= k' /\ k' < xs.length /\ left (loopsL xs) k' c' xs.length + 1 <= left (loopsL xs) k c xs.length := by
 have hpl : Placed xs := T.place
 have hb := bnd_ok hpl
 obtain ⟨hr, g0, g1, g2⟩ := place_ok hk (T.place k hk)
 have hg := goes_parts (nth xs k)
 have hloop : ∀ l ∈ loopsL xs, l.t = k -> (nth xs k).op = 20 /\ l = lpAt xs k := by
  intro l hl ht
  obtain ⟨j, hj, h20, rfl⟩ := loopsU_mem.1 hl
  simp only [lpAt] at ht
  obtain rfl : j = k := by omega
  exact ⟨h20, rfl⟩
 have hcnt : Cnt (loopsL xs) c' := by
  intro l hl
  by_cases ht : l.t = k
  ·obtain ⟨h20, rfl⟩ := hloop l hl ht
   have h1 := hc _ hl
   have h2 := hb _ hl
   simp only [lpAt] at h1 h2 ⊢
   rcases h with ⟨_, h, _⟩ | ⟨_, _, h⟩ | ⟨_, _, h3, h4⟩
   ·have := h h20; omega
   ·exact absurd h20 h
   ·omega
  ·rw [hs _ ht]; exact hc l hl
 refine ⟨hcnt, ?_⟩
 have hstep : (0 <= k' /\ k' < xs.length) /\ ∀ q : Nat, wayP k' q c' (loopsL xs) + (if (q : Int) = k then 1 else 0) <= wayP k q c (loopsL xs) := by
  by_cases hback : k' = k + (nth xs k).far /\ (nth xs k).op = 20 /\ c k < (nth xs k).imm /\ c' k = c k + 1
  ·obtain ⟨hk', h20, h3, h4⟩ := hback
   refine ⟨by omega, fun q => ?_⟩
   have hmem : lpAt xs k ∈ loopsL xs := loopsU_mem.2 ⟨k, hk, h20, rfl⟩
   obtain ⟨A, B, hAB⟩ := List.append_of_mem hmem
   have hsort := loopsU_sorted xs xs.length
   rw [show loopsU xs xs.length = loopsL xs from rfl, hAB, List.pairwise_append] at hsort
   obtain ⟨s1, s2, s3⟩ := hsort
   have hAs : ∀ l ∈ A, l.t < (lpAt xs k).t := fun l hl => s3 l hl _ (by simp)
   have hBs : ∀ l ∈ B, (lpAt xs k).t < l.t := fun l hl => (List.pairwise_cons.1 s2).1 l hl
   have hcr := T.cross
   have nA : ∀ l ∈ A, ¬ (l.h < (lpAt xs k).h /\ (lpAt xs k).h <= l.t) := fun l hl hx => by
    have h := crossF_none _ _ hcr A B [] (lpAt xs k) hAB l (by simpa using hl)
    have h' := hAs l hl
    rw [(enters_iff (l := l)).2 (by omega)] at h
    cases h
   have nB : ∀ l ∈ B, ¬ ((lpAt xs k).h < l.h /\ l.h <= (lpAt xs k).t) := fun l hl hx => by
    obtain ⟨B1, B2, rfl⟩ := List.append_of_mem hl
    have h := crossF_none _ _ hcr (A ++ lpAt xs k :: B1) B2 [] l (by rw [hAB]; simp) (lpAt xs k) (by simp)
    have h' := hBs l hl
    rw [(enters_iff (l := lpAt xs k)).2 (by omega)] at h
    cases h
   have e1 : k' = (lpAt xs k).h := hk'
   have e2 : (k : Int) = (lpAt xs k).t := rfl
   have hlt : (lpAt xs k).h < (lpAt xs k).t := by obtain ⟨_, _, _, _, _, h, _⟩ := loop_ok hpl hmem; exact h
   rw [hAB] at hc hcnt hb ⊢
   rw [e1, e2]
   exact wayP_back hc hcnt hb hlt hAs hBs nA nB hs h4
  ·have hfw : k < k' /\ k' < xs.length /\ ((k' = k + 1) ∨ ((nth xs k).leads = true /\ k' = k + (nth xs k).far /\ (nth xs k).op ≠ 20)) := by
    rcases h with ⟨h1, h2, h3⟩ | ⟨h1, h2, h3⟩ | h
    ·have := g2 h3; omega
    ·refine ⟨?_, by omega, .inr ⟨h2, h1, h3⟩⟩
     rcases hg with h | h | h | h
     ·rw [h.2.2.1] at h2; cases h2
     ·omega
     ·exact absurd h.2.1 h3
     ·rw [h.2.2.2.1] at h2; cases h2
    ·exact absurd h hback
   refine ⟨by omega, fun q => wayP_fwd ⟨hfw.1, fun l hl => ⟨fun h1 h2 => ?_, fun h1 h2 => ?_, fun h1 h2 => ?_⟩⟩ hc hcnt hb⟩
   ·rw [within_iff] at h1 h2
    refine hs _ fun ht => ?_
    omega
   ·rw [within_iff] at h1
    rw [within_no] at h2
    omega
   ·rw [within_no] at h1
    rw [within_iff] at h2
    rcases hfw.2.2 with h3 | ⟨h3, h4, _⟩
    ·omega
    ·have h5 := T.intr k hk
     unfold intrB at h5
     rw [h3, Bool.true_and, List.any_eq_false] at h5
     have h6 := h5 l hl
     rw [enters_iff, <- h4] at h6
     omega
 refine ⟨hstep.1.1, hstep.1.2, ?_⟩
 have := left_step hstep.2 xs.length
 rw [if_pos (by omega)] at this
 exact this
end Go.Proofs.YtkondcjmhlppiaaGreat
