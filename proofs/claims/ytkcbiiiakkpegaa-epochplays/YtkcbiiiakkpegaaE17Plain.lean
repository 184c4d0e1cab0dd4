
/-
  A clock of epochs, plain: its number, and for each worker the epoch in which it is (0: in none). No Go text in sight.
-/
import Derived.Test.YtkcbiiiakkpegaaGx
namespace Go.Proofs.Ytkcbiiiakkpegaa
set_option linter.unusedVariables false
set_option linter.unusedSimpArgs false

structure Ck where
  now : Int
  ins : List Int
def Ck.new (n : Nat) : Ck := ⟨1, List.replicate n 0⟩
def Ck.has (c : Ck) (x : Int) : Bool := decide (0 ≤ x) && decide (x < c.ins.length)
/-- The epoch in which a worker is. -/
def Ck.at (c : Ck) (x : Int) : Int := if 0 ≤ x then c.ins.getD x.toNat 0 else 0
def Ck.enter (c : Ck) (x : Int) : Int × Int × Ck :=
  if c.has x = false then (0, 2, c) else if c.at x = 0 then (c.now, 0, ⟨c.now, c.ins.set x.toNat c.now⟩) else (0, 42, c)
def Ck.once (c : Ck) (ws : List Int) : Bool := decide (ws.Nodup) && ws.all c.has
def clr (l : List Int) (ws : List Int) : List Int := ws.foldl (fun l x => l.set x.toNat 0) l
def Ck.leave (c : Ck) (ws : List Int) : Int × Ck :=
  if c.once ws = false then (2, c) else if ws.all (fun x => decide (c.at x ≠ 0)) = false then (41, c) else (0, ⟨c.now, clr c.ins ws⟩)
def Ck.go (c : Ck) : Ck := ⟨c.now + 1, c.ins⟩
def safeB (e : Int) (x : Int) : Bool := !(x != 0 && decide (x < e))
def Ck.safe (c : Ck) (e : Int) : Bool := c.ins.all (safeB e)
def oldF (m x : Int) : Int := if x ≠ 0 ∧ x < m then x else m
def Ck.old (c : Ck) : Int := c.ins.foldl oldF c.now
/-- What holds of every clock. -/
structure Ck.Ok (c : Ck) : Prop where
  len : 1 ≤ c.ins.length ∧ c.ins.length ≤ 4
  now : 1 ≤ c.now
  mem : ∀ x ∈ c.ins, 0 ≤ x ∧ x ≤ c.now
theorem Ck.Ok.new {n : Nat} (h1 : 1 ≤ n) (h2 : n ≤ 4) : (Ck.new n).Ok := ⟨by simp [Ck.new]; omega, by simp [Ck.new], by simp [Ck.new]⟩
theorem Ck.has_true {c : Ck} {x : Int} (h : c.has x = true) : 0 ≤ x ∧ x < c.ins.length := by simpa [Ck.has] using h
theorem Ck.has_nat {c : Ck} {x : Int} (h : c.has x = true) : ∃ k : Nat, x = k ∧ k < c.ins.length := by
  have := Ck.has_true h
  exact ⟨x.toNat, by omega, by omega⟩
theorem Ck.has_of {c : Ck} {k : Nat} (h : k < c.ins.length) : c.has k = true := by simp [Ck.has]; omega
theorem Ck.at_nat (c : Ck) (k : Nat) : c.at k = c.ins.getD k 0 := by
  unfold Ck.at; rw [if_pos (by omega)]; rfl
theorem Ck.at_no {c : Ck} {x : Int} (h : c.has x = false) : c.at x = 0 := by
  unfold Ck.at
  by_cases h0 : 0 ≤ x
  · rw [if_pos h0]
    have : ¬ x < c.ins.length := by
      intro e
      have : c.has x = true := by simp [Ck.has]; omega
      rw [h] at this; cases this
    rw [List.getD_eq_getElem?_getD, List.getElem?_eq_none (by omega)]
    rfl
  · rw [if_neg h0]
theorem Ck.Ok.at_le {c : Ck} (h : c.Ok) (x : Int) : 0 ≤ c.at x ∧ c.at x ≤ c.now := by
  have := h.now
  unfold Ck.at
  split
  · rw [List.getD_eq_getElem?_getD]
    cases he : c.ins[x.toNat]? with
    | none => simp; omega
    | some y => simp; exact h.mem y (List.mem_of_getElem? he)
  · omega
theorem mem_set {l : List Int} {k : Nat} {y x : Int} (h : x ∈ l.set k y) : x ∈ l ∨ x = y := by
  rcases List.mem_or_eq_of_mem_set h with h | h
  · exact .inl h
  · exact .inr h
theorem Ck.Ok.enter {c : Ck} (h : c.Ok) (x : Int) : (c.enter x).2.2.Ok := by
  unfold Ck.enter
  split
  · exact h
  · split
    · refine ⟨by simpa using h.len, h.now, fun y hy => ?_⟩
      have := h.now
      rcases mem_set hy with e | e
      · exact h.mem y e
      · simp only at e ⊢
        omega
    · exact h
theorem clr_len (ws : List Int) : ∀ l, (clr l ws).length = l.length := by
  induction ws with
  | nil => intro l; rfl
  | cons x ws ih => intro l; show (clr (l.set x.toNat 0) ws).length = _; rw [ih]; simp
theorem clr_mem (ws : List Int) : ∀ l y, y ∈ clr l ws → y ∈ l ∨ y = 0 := by
  induction ws with
  | nil => intro l y h; exact .inl h
  | cons x ws ih =>
    intro l y h
    rcases ih (l.set x.toNat 0) y h with e | e
    · rcases mem_set e with e | e
      · exact .inl e
      · exact .inr e
    · exact .inr e
theorem clr_app (l : List Int) (ws : List Int) (x : Int) : clr l (ws ++ [x]) = (clr l ws).set x.toNat 0 := by simp [clr]
theorem Ck.Ok.clr {c : Ck} (h : c.Ok) (ws : List Int) : (⟨c.now, clr c.ins ws⟩ : Ck).Ok := by
  have h1 := h.now
  refine ⟨by simpa [clr_len] using h.len, h1, fun y hy => ?_⟩
  rcases clr_mem ws _ y hy with e | e
  · exact h.mem y e
  · subst e
    exact ⟨Int.le_refl _, by show (0 : Int) ≤ c.now; omega⟩
theorem Ck.Ok.leave {c : Ck} (h : c.Ok) (ws : List Int) : (c.leave ws).2.Ok := by
  unfold Ck.leave
  split
  · exact h
  · split
    · exact h
    · exact h.clr ws
theorem Ck.Ok.go {c : Ck} (h : c.Ok) : c.go.Ok := ⟨h.len, by show 1 ≤ c.now + 1; have := h.now; omega, fun x hx => by have := h.mem x hx; show 0 ≤ x ∧ x ≤ c.now + 1; omega⟩
/-- Unlike numbers below n are at most n. -/
theorem nodup_le : ∀ (n : Nat) (l : List Int), l.Nodup → (∀ x ∈ l, 0 ≤ x ∧ x < n) → l.length ≤ n := by
  intro n
  induction n with
  | zero =>
    intro l _ h
    cases l with
    | nil => simp
    | cons x l => have := h x (by simp); omega
  | succ n ih =>
    intro l hn h
    have h1 := ih (l.erase (n : Int)) (hn.erase _) (fun x hx => by
      have h2 := (hn.mem_erase_iff).1 hx
      have := h x h2.2
      have := h2.1
      omega)
    by_cases hm : (n : Int) ∈ l
    · have := List.length_erase_of_mem hm
      omega
    · have : l.erase (n : Int) = l := List.erase_of_not_mem hm
      rw [this] at h1
      omega
theorem Ck.once_parts {c : Ck} {ws : List Int} (h : c.once ws = true) : ws.Nodup ∧ ∀ x ∈ ws, c.has x = true := by
  simpa [Ck.once] using h
theorem Ck.Ok.once_le {c : Ck} (hk : c.Ok) {ws : List Int} (h : c.once ws = true) : ws.length ≤ 4 := by
  obtain ⟨h1, h2⟩ := Ck.once_parts h
  have := nodup_le c.ins.length ws h1 (fun x hx => Ck.has_true (h2 x hx))
  have := hk.len
  omega
theorem Ck.once_take (c : Ck) {ws : List Int} {j : Nat} (hj : j < ws.length) : c.once (ws.take (j + 1)) = (c.once (ws.take j) && c.has (ws.getD j 0) && !decide (ws.getD j 0 ∈ ws.take j)) := by
  rw [take_at ws j hj]
  rw [Bool.eq_iff_iff]
  simp only [Ck.once, Bool.and_eq_true, decide_eq_true_eq, List.all_append, List.all_cons, List.all_nil, Bool.not_eq_true', decide_eq_false_iff_not, List.nodup_append, Bool.and_true]
  constructor
  · rintro ⟨⟨h1, h2, h3⟩, h4, h5⟩
    exact ⟨⟨⟨h1, h4⟩, h5⟩, fun hm => h3 _ hm _ (by simp) rfl⟩
  · rintro ⟨⟨⟨h1, h4⟩, h5⟩, h6⟩
    refine ⟨⟨h1, by simp, fun a ha b hb e => ?_⟩, h4, h5⟩
    have hb2 : b = ws.getD j 0 := by simpa using hb
    subst hb2
    subst e
    exact h6 ha
/-- A list that is not right at its beginning is not right. -/
theorem Ck.once_no {c : Ck} {ws : List Int} {j : Nat} (h : c.once (ws.take j) = false) : c.once ws = false := by
  cases he : c.once ws with
  | false => rfl
  | true =>
    obtain ⟨h1, h2⟩ := Ck.once_parts he
    have : c.once (ws.take j) = true := by
      simp only [Ck.once, Bool.and_eq_true, decide_eq_true_eq, List.all_eq_true]
      exact ⟨h1.sublist (List.take_sublist _ _), fun x hx => h2 x (List.mem_of_mem_take hx)⟩
    rw [h] at this
    cases this
theorem all_no {p : Int → Bool} {ws : List Int} {j : Nat} (h : (ws.take j).all p = false) : ws.all p = false := by
  cases he : ws.all p with
  | false => rfl
  | true =>
    rw [List.all_eq_true] at he
    have : (ws.take j).all p = true := List.all_eq_true.2 (fun x hx => he x (List.mem_of_mem_take hx))
    rw [h] at this
    cases this
theorem all_take {p : Int → Bool} {ws : List Int} {j : Nat} (hj : j < ws.length) : (ws.take (j + 1)).all p = ((ws.take j).all p && p (ws.getD j 0)) := by
  rw [take_at ws j hj]; simp
theorem foldl_take {β : Type} {f : β → Int → β} {z : β} {ws : List Int} {j : Nat} (hj : j < ws.length) : (ws.take (j + 1)).foldl f z = f ((ws.take j).foldl f z) (ws.getD j 0) := by
  rw [take_at ws j hj]; simp
end Go.Proofs.Ytkcbiiiakkpegaa
