
/-
  Whose turn it is, plain: each task's mode (0 asleep, 1 ready, 2 ended), and all picks in their order. No Go text in sight.
-/
import Derived.Test.YtnjmajcjdkceoaaGx
namespace Go.Proofs.Ytnjmajcjdkceoaa
set_option linter.unusedVariables false
set_option linter.unusedSimpArgs false

structure Kn where
  m : List Int
  p : List Int
def Kn.new (n : Nat) : Kn := ⟨List.replicate n 0, []⟩
def Kn.has (k : Kn) (x : Int) : Bool := decide (0 ≤ x) && decide (x < k.m.length)
def Kn.md (k : Kn) (x : Int) : Int := if 0 ≤ x then k.m.getD x.toNat 0 else 0
def putM (l : List Int) (v : Int) (xs : List Int) : List Int := xs.foldl (fun l x => l.set x.toNat v) l
/-- Wake (1), Sleep (0), End (2). -/
def Kn.turn (k : Kn) (v : Int) (xs : List Int) : Int × Kn :=
  if xs.all k.has = false then (2, k) else if xs.all (fun x => k.md x != 2) = false then (43, k) else (0, ⟨putM k.m v xs, k.p⟩)
def setO (a : Int) (r : Bool) : Int := if a = 2 then 2 else if r = true then 1 else 0
def setM (l : List Int) (rs : List Bool) : List Int := l.zipWith setO rs
def Kn.set (k : Kn) (rs : List Bool) : Int × Kn := if rs.length = k.m.length then (0, ⟨setM k.m rs, k.p⟩) else (2, k)
def numK (n : Nat) : List Int := (List.range n).map (fun i : Nat => (i : Int))
def inL (l : List Int) (v : Int) (n : Nat) : List Int := (numK n).filter (fun x => l.getD x.toNat 0 == v)
def Kn.inM (k : Kn) (v : Int) : List Int := inL k.m v k.m.length
/-- The turn in which a task was picked last, the picks told from the last one on. -/
def lastR : List Int → Int → Nat
  | [], _ => 0
  | y :: r, x => if y = x then r.length + 1 else lastR r x
def lastP (p : List Int) (x : Int) : Nat := lastR p.reverse x
def Kn.pick (k : Kn) (c : Int) : Int × Bool × Kn :=
  if k.inM 1 = [] then (0, false, k) else ((k.inM 1).getD (c % (k.inM 1).length).toNat 0, true, ⟨k.m, k.p ++ [(k.inM 1).getD (c % (k.inM 1).length).toNat 0]⟩)
/-- Who was picked longest ago, of several the first. -/
def bestF (f : Int → Nat) (a : Int × Nat) (x : Int) : Int × Nat := if f x < a.2 then (x, f x) else a
def best (f : Int → Nat) : List Int → Int
  | [] => 0
  | x :: l => (l.foldl (bestF f) (x, f x)).1
def Kn.fair (k : Kn) : Int × Bool × Kn :=
  if k.inM 1 = [] then (0, false, k) else (best (lastP k.p) (k.inM 1), true, ⟨k.m, k.p ++ [best (lastP k.p) (k.inM 1)]⟩)
/-- What holds of every kern. -/
structure Kn.Ok (k : Kn) : Prop where
  len : 1 ≤ k.m.length ∧ k.m.length ≤ 64
  mode : ∀ x ∈ k.m, x = 0 ∨ x = 1 ∨ x = 2
  pick : ∀ x ∈ k.p, 0 ≤ x ∧ x < k.m.length
theorem Kn.has_nat {k : Kn} {x : Int} (h : k.has x = true) : ∃ n : Nat, x = n ∧ n < k.m.length := by
  simp only [Kn.has, Bool.and_eq_true, decide_eq_true_eq] at h
  exact ⟨x.toNat, by omega, by omega⟩
theorem Kn.has_of {k : Kn} {n : Nat} (h : n < k.m.length) : k.has n = true := by simp [Kn.has]; omega
theorem Kn.has_no {k : Kn} {x : Int} (h : k.has x = false) : x < 0 ∨ (k.m.length : Int) ≤ x := by
  by_cases h0 : x < 0
  · exact .inl h0
  · refine .inr (Int.not_lt.1 fun e => ?_)
    have : k.has x = true := by simp [Kn.has]; omega
    rw [h] at this; cases this
theorem Kn.md_nat (k : Kn) (n : Nat) : k.md n = k.m.getD n 0 := by unfold Kn.md; rw [if_pos (by omega)]; rfl
theorem putM_len (v : Int) (xs : List Int) : ∀ l, (putM l v xs).length = l.length := by
  induction xs with
  | nil => intro l; rfl
  | cons x xs ih => intro l; show (putM (l.set x.toNat v) v xs).length = _; rw [ih]; simp
theorem putM_mem (v : Int) (xs : List Int) : ∀ l y, y ∈ putM l v xs → y ∈ l ∨ y = v := by
  induction xs with
  | nil => intro l y h; exact .inl h
  | cons x xs ih =>
    intro l y h
    rcases ih (l.set x.toNat v) y h with e | e
    · exact List.mem_or_eq_of_mem_set e
    · exact .inr e
theorem putM_app (l : List Int) (v : Int) (xs : List Int) (x : Int) : putM l v (xs ++ [x]) = (putM l v xs).set x.toNat v := by simp [putM]
theorem putM_far (v : Int) (n : Nat) (xs : List Int) : ∀ l, (∀ x ∈ xs, 0 ≤ x ∧ x ≠ n) → (putM l v xs).getD n 0 = l.getD n 0 := by
  induction xs with
  | nil => intro l _; rfl
  | cons x xs ih =>
    intro l h
    show (putM (l.set x.toNat v) v xs).getD n 0 = _
    rw [ih _ (fun y hy => h y (by simp [hy]))]
    have := h x (by simp)
    have hne : x.toNat ≠ n := by omega
    simp [List.getD, List.getElem?_set_ne hne]
theorem putM_near (v : Int) (n : Nat) (xs : List Int) : ∀ l, n < l.length → ((n : Int) ∈ xs ∨ l.getD n 0 = v) → (∀ x ∈ xs, 0 ≤ x) → (putM l v xs).getD n 0 = v := by
  induction xs with
  | nil =>
    intro l hn h _
    rcases h with h | h
    · cases h
    · exact h
  | cons x xs ih =>
    intro l hn h h0
    show (putM (l.set x.toNat v) v xs).getD n 0 = _
    refine ih _ (by simpa using hn) ?_ (fun y hy => h0 y (by simp [hy]))
    have hx0 := h0 x (by simp)
    by_cases e : x.toNat = n
    · right; subst e; simp [List.getD, hn]
    · have hxn : (n : Int) ≠ x := by omega
      rcases h with h | h
      · rcases List.mem_cons.1 h with h | h
        · exact absurd h hxn
        · exact .inl h
      · right
        rw [← h]
        simp [List.getD, List.getElem?_set_ne e]
theorem setM_len {l : List Int} {rs : List Bool} (h : rs.length = l.length) : (setM l rs).length = l.length := by simp [setM, h]
theorem setM_at {l : List Int} {rs : List Bool} (h : rs.length = l.length) {n : Nat} (hn : n < l.length) : (setM l rs).getD n 0 = setO (l.getD n 0) (rs.getD n false) := by
  simp [setM, List.getD, List.getElem?_zipWith, hn, show n < rs.length by omega]
theorem mode_at {l : List Int} (h : ∀ x ∈ l, x = 0 ∨ x = 1 ∨ x = 2) (n : Nat) : l.getD n 0 = 0 ∨ l.getD n 0 = 1 ∨ l.getD n 0 = 2 := by
  by_cases hn : n < l.length
  · have : l.getD n 0 ∈ l := by simp [List.getD, hn]
    exact h _ this
  · left; simp [List.getD, hn]
theorem Kn.Ok.new {n : Nat} (h1 : 1 ≤ n) (h2 : n ≤ 64) : (Kn.new n).Ok := ⟨by simp [Kn.new]; omega, by simp [Kn.new], by simp [Kn.new]⟩
theorem Kn.Ok.turn {k k' : Kn} {v E : Int} {xs : List Int} (h : k.Ok) (hv : v = 0 ∨ v = 1 ∨ v = 2) (hq : k.turn v xs = (E, k')) : k'.Ok := by
  unfold Kn.turn at hq
  split at hq
  · injection hq with _ e; rw [← e]; exact h
  · split at hq
    · injection hq with _ e; rw [← e]; exact h
    · injection hq with _ e
      rw [← e]
      refine ⟨by simpa [putM_len] using h.len, fun x hx => ?_, fun x hx => by have := h.pick x hx; simpa [putM_len] using this⟩
      rcases putM_mem v xs _ x hx with g | g
      · exact h.mode x g
      · rw [g]; exact hv
theorem Kn.turn_len {k k' : Kn} {v E : Int} {xs : List Int} (hq : k.turn v xs = (E, k')) : k'.m.length = k.m.length ∧ k'.p = k.p := by
  unfold Kn.turn at hq
  split at hq
  · injection hq with _ e; rw [← e]; exact ⟨rfl, rfl⟩
  · split at hq
    · injection hq with _ e; rw [← e]; exact ⟨rfl, rfl⟩
    · injection hq with _ e; rw [← e]; exact ⟨putM_len _ _ _, rfl⟩
theorem Kn.Ok.set {k k' : Kn} {E : Int} {rs : List Bool} (h : k.Ok) (hq : k.set rs = (E, k')) : k'.Ok := by
  unfold Kn.set at hq
  split at hq
  · rename_i hl
    injection hq with _ e
    rw [← e]
    have hlen : (setM k.m rs).length = k.m.length := setM_len hl
    refine ⟨by simpa [hlen] using h.len, fun x hx => ?_, fun x hx => by have := h.pick x hx; simpa [hlen] using this⟩
    obtain ⟨i, hi, e⟩ := List.mem_iff_getElem.1 hx
    have h2 := setM_at hl (n := i) (by simpa [hlen] using hi)
    have hi' : i < (setM k.m rs).length := hi
    have h3 : (setM k.m rs).getD i 0 = x := by simp [List.getD, hi', ← e]
    rw [← h3, h2]
    unfold setO
    split
    · simp
    · split <;> simp
  · injection hq with _ e; rw [← e]; exact h
theorem Kn.set_len {k k' : Kn} {E : Int} {rs : List Bool} (hq : k.set rs = (E, k')) : k'.m.length = k.m.length ∧ k'.p = k.p := by
  unfold Kn.set at hq
  split at hq
  · rename_i hl
    injection hq with _ e; rw [← e]; exact ⟨setM_len hl, rfl⟩
  · injection hq with _ e; rw [← e]; exact ⟨rfl, rfl⟩
theorem numK_more (n : Nat) : numK (n + 1) = numK n ++ [(n : Int)] := by simp [numK, List.range_succ]
theorem mem_numK {n : Nat} {x : Int} : x ∈ numK n ↔ 0 ≤ x ∧ x < n := by
  simp only [numK, List.mem_map, List.mem_range]
  constructor
  · rintro ⟨k, hk, rfl⟩; omega
  · intro h; exact ⟨x.toNat, by omega, by omega⟩
theorem numK_up (n : Nat) : (numK n).Pairwise (· < ·) := by
  unfold numK
  rw [List.pairwise_map]
  exact List.pairwise_lt_range.imp (fun h => by omega)
theorem inL_more (l : List Int) (v : Int) (n : Nat) : inL l v (n + 1) = if l.getD n 0 = v then inL l v n ++ [(n : Int)] else inL l v n := by
  unfold inL
  rw [numK_more, List.filter_append]
  by_cases h : l.getD n 0 = v
  · rw [if_pos h, List.filter_cons_of_pos (by simpa using h)]; rfl
  · rw [if_neg h, List.filter_cons_of_neg (by simpa using h)]; simp
theorem inL_len (l : List Int) (v : Int) (n : Nat) : (inL l v n).length ≤ n := by
  unfold inL
  have := List.length_filter_le (fun x : Int => l.getD x.toNat 0 == v) (numK n)
  simpa [numK] using this
theorem mem_inL {l : List Int} {v : Int} {n : Nat} {x : Int} : x ∈ inL l v n ↔ (0 ≤ x ∧ x < n) ∧ l.getD x.toNat 0 = v := by
  unfold inL
  rw [List.mem_filter, mem_numK]
  simp
theorem inL_up (l : List Int) (v : Int) (n : Nat) : (inL l v n).Pairwise (· < ·) := (numK_up n).filter _
theorem inL_pre (l : List Int) (v : Int) (n : Nat) : ∀ d, inL l v n <+: inL l v (n + d)
  | 0 => List.prefix_rfl
  | d + 1 => by
    have h1 := inL_pre l v n d
    rw [show n + (d + 1) = (n + d) + 1 by omega, inL_more]
    split
    · exact h1.trans (List.prefix_append _ _)
    · exact h1
theorem Kn.mem_inM {k : Kn} {v x : Int} : x ∈ k.inM v ↔ k.has x = true ∧ k.md x = v := by
  unfold Kn.inM
  rw [mem_inL]
  unfold Kn.has Kn.md
  constructor
  · rintro ⟨⟨h1, h2⟩, h3⟩
    rw [if_pos h1]
    exact ⟨by simp; omega, h3⟩
  · rintro ⟨h1, h2⟩
    simp only [Bool.and_eq_true, decide_eq_true_eq] at h1
    rw [if_pos h1.1] at h2
    exact ⟨h1, h2⟩
theorem Kn.inM_len (k : Kn) (v : Int) : (k.inM v).length ≤ k.m.length := inL_len _ _ _
theorem lastP_more (p : List Int) (y x : Int) : lastP (p ++ [y]) x = if y = x then p.length + 1 else lastP p x := by simp [lastP, lastR]
theorem lastP_nil (x : Int) : lastP [] x = 0 := rfl
theorem lastR_le (p : List Int) (x : Int) : lastR p x ≤ p.length := by
  induction p with
  | nil => simp [lastR]
  | cons y r ih => unfold lastR; split <;> simp <;> omega
theorem lastP_le (p : List Int) (x : Int) : lastP p x ≤ p.length := by have := lastR_le p.reverse x; simpa [lastP] using this
/-- What best is: one of them, and none was picked longer ago. -/
theorem foldB (f : Int → Nat) : ∀ (l : List Int) (a : Int × Nat), a.2 = f a.1 → ((l.foldl (bestF f) a).2 = f (l.foldl (bestF f) a).1) ∧ ((l.foldl (bestF f) a).1 = a.1 ∨ (l.foldl (bestF f) a).1 ∈ l) ∧ (l.foldl (bestF f) a).2 ≤ a.2 ∧ ∀ y ∈ l, (l.foldl (bestF f) a).2 ≤ f y
  | [], a, h => ⟨h, .inl rfl, Nat.le_refl _, by simp⟩
  | x :: l, a, h => by
    by_cases hx : f x < a.2
    · have e : bestF f a x = (x, f x) := by unfold bestF; rw [if_pos hx]
      obtain ⟨g1, g2, g3, g4⟩ := foldB f l (x, f x) rfl
      rw [List.foldl_cons, e]
      refine ⟨g1, ?_, ?_, fun y hy => ?_⟩
      · rcases g2 with g | g
        · right; rw [g]; simp
        · right; simp [g]
      · have : (l.foldl (bestF f) (x, f x)).2 ≤ f x := g3
        omega
      · rcases List.mem_cons.1 hy with e | e
        · rw [e]; exact g3
        · exact g4 y e
    · have e : bestF f a x = a := by unfold bestF; rw [if_neg hx]
      obtain ⟨g1, g2, g3, g4⟩ := foldB f l a h
      rw [List.foldl_cons, e]
      refine ⟨g1, ?_, g3, fun y hy => ?_⟩
      · rcases g2 with g | g
        · exact .inl g
        · right; simp [g]
      · rcases List.mem_cons.1 hy with e | e
        · rw [e]; omega
        · exact g4 y e
theorem best_mem (f : Int → Nat) {l : List Int} (h : l ≠ []) : best f l ∈ l := by
  cases l with
  | nil => exact absurd rfl h
  | cons x l =>
    obtain ⟨_, g2, _, _⟩ := foldB f l (x, f x) rfl
    show (l.foldl (bestF f) (x, f x)).1 ∈ _
    rcases g2 with g | g
    · rw [g]; simp
    · simp [g]
theorem best_le (f : Int → Nat) {l : List Int} {y : Int} (h : y ∈ l) : f (best f l) ≤ f y := by
  cases l with
  | nil => cases h
  | cons x l =>
    obtain ⟨g1, _, g3, g4⟩ := foldB f l (x, f x) rfl
    show f (l.foldl (bestF f) (x, f x)).1 ≤ _
    rw [← g1]
    rcases List.mem_cons.1 h with e | e
    · rw [e]; exact g3
    · exact g4 y e
theorem getD_memK (xs : List Int) (k : Nat) (h : k < xs.length) : xs.getD k 0 ∈ xs := by simp [List.getD, h]
theorem mod_lt {c : Int} {n : Nat} (h : 0 < n) : (c % n).toNat < n := by
  have h1 := Int.emod_nonneg c (b := (n : Int)) (by omega)
  have h2 := Int.emod_lt_of_pos c (b := (n : Int)) (by omega)
  omega
theorem Kn.Ok.more {k : Kn} (h : k.Ok) {t : Int} (ht : k.has t = true) : (⟨k.m, k.p ++ [t]⟩ : Kn).Ok := by
  refine ⟨h.len, h.mode, fun x hx => ?_⟩
  simp only [List.mem_append, List.mem_singleton] at hx
  rcases hx with g | g
  · exact h.pick x g
  · rw [g]
    obtain ⟨n, e, hn⟩ := Kn.has_nat ht
    rw [e]
    exact ⟨by omega, by show (n : Int) < k.m.length; omega⟩
theorem Kn.pick_parts {k k' : Kn} {c t : Int} {b : Bool} (hq : k.pick c = (t, b, k')) : (k.inM 1 = [] ∧ t = 0 ∧ b = false ∧ k' = k) ∨ (k.inM 1 ≠ [] ∧ b = true ∧ t ∈ k.inM 1 ∧ t = (k.inM 1).getD (c % (k.inM 1).length).toNat 0 ∧ k' = ⟨k.m, k.p ++ [t]⟩) := by
  unfold Kn.pick at hq
  by_cases h : k.inM 1 = []
  · rw [if_pos h] at hq
    injection hq with e1 hq
    injection hq with e2 e3
    exact .inl ⟨h, e1.symm, e2.symm, e3.symm⟩
  · rw [if_neg h] at hq
    injection hq with e1 hq
    injection hq with e2 e3
    refine .inr ⟨h, e2.symm, ?_, e1.symm, ?_⟩
    · rw [← e1]
      exact getD_memK _ _ (mod_lt (List.length_pos_iff.2 h))
    · rw [← e3, e1]
theorem Kn.fair_parts {k k' : Kn} {t : Int} {b : Bool} (hq : k.fair = (t, b, k')) : (k.inM 1 = [] ∧ t = 0 ∧ b = false ∧ k' = k) ∨ (k.inM 1 ≠ [] ∧ b = true ∧ t ∈ k.inM 1 ∧ t = best (lastP k.p) (k.inM 1) ∧ k' = ⟨k.m, k.p ++ [t]⟩) := by
  unfold Kn.fair at hq
  by_cases h : k.inM 1 = []
  · rw [if_pos h] at hq
    injection hq with e1 hq
    injection hq with e2 e3
    exact .inl ⟨h, e1.symm, e2.symm, e3.symm⟩
  · rw [if_neg h] at hq
    injection hq with e1 hq
    injection hq with e2 e3
    refine .inr ⟨h, e2.symm, ?_, e1.symm, ?_⟩
    · rw [← e1]; exact best_mem _ h
    · rw [← e3, e1]
theorem Kn.Ok.pick' {k k' : Kn} {c t : Int} {b : Bool} (h : k.Ok) (hq : k.pick c = (t, b, k')) : k'.Ok := by
  rcases Kn.pick_parts hq with ⟨_, _, _, e⟩ | ⟨_, _, g, _, e⟩
  · rw [e]; exact h
  · rw [e]; exact h.more (Kn.mem_inM.1 g).1
theorem Kn.Ok.fair {k k' : Kn} {t : Int} {b : Bool} (h : k.Ok) (hq : k.fair = (t, b, k')) : k'.Ok := by
  rcases Kn.fair_parts hq with ⟨_, _, _, e⟩ | ⟨_, _, g, _, e⟩
  · rw [e]; exact h
  · rw [e]; exact h.more (Kn.mem_inM.1 g).1
theorem Kn.pick_len {k k' : Kn} {c t : Int} {b : Bool} (hq : k.pick c = (t, b, k')) : k'.m = k.m ∧ k'.p.length ≤ k.p.length + 1 ∧ k.p.length ≤ k'.p.length := by
  rcases Kn.pick_parts hq with ⟨_, _, _, e⟩ | ⟨_, _, _, _, e⟩
  · rw [e]; exact ⟨rfl, by omega, Nat.le_refl _⟩
  · rw [e]; exact ⟨rfl, by simp, by simp⟩
theorem Kn.fair_len {k k' : Kn} {t : Int} {b : Bool} (hq : k.fair = (t, b, k')) : k'.m = k.m ∧ k'.p.length ≤ k.p.length + 1 ∧ k.p.length ≤ k'.p.length := by
  rcases Kn.fair_parts hq with ⟨_, _, _, e⟩ | ⟨_, _, _, _, e⟩
  · rw [e]; exact ⟨rfl, by omega, Nat.le_refl _⟩
  · rw [e]; exact ⟨rfl, by simp, by simp⟩
end Go.Proofs.Ytnjmajcjdkceoaa
