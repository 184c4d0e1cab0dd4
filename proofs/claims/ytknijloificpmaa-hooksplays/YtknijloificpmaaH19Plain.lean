
/-
  A table of hooks, plain: the last version, and for each hook the version and the program (version 0: none). No Go text in sight.
-/
import Derived.Test.YtknijloificpmaaGx
namespace Go.Proofs.Ytknijloificpmaa
set_option linter.unusedVariables false
set_option linter.unusedSimpArgs false

structure Sl where
  v : Int
  p : Int
def Sl.nil : Sl := ⟨0, 0⟩
structure Tb where
  last : Int
  at' : List Sl
def Tb.new (n : Nat) : Tb := ⟨0, List.replicate n Sl.nil⟩
def Tb.has (t : Tb) (x : Int) : Bool := decide (0 ≤ x) && decide (x < t.at'.length)
def Tb.slot (t : Tb) (x : Int) : Sl := if 0 ≤ x then t.at'.getD x.toNat Sl.nil else Sl.nil
def Tb.taken (t : Tb) (x : Int) : Bool := (t.slot x).v != 0
def Tb.cur (t : Tb) (x : Int) : Int × Int × Bool := ((t.slot x).v, (t.slot x).p, t.taken x)
def Tb.pub (t : Tb) (x p : Int) : Tb := ⟨t.last + 1, t.at'.set x.toNat ⟨t.last + 1, p⟩⟩
/-- Attach, or (sw) Swap. -/
def Tb.put (t : Tb) (sw : Bool) (x p : Int) : Int × Int × Tb :=
  if t.has x = false then (0, 2, t) else if t.taken x = sw then (t.last + 1, 0, t.pub x p) else (0, if sw = true then 41 else 42, t)
def Tb.once (t : Tb) (xs : List Int) : Bool := decide xs.Nodup && xs.all t.has
def clrT (l : List Sl) (xs : List Int) : List Sl := xs.foldl (fun l x => l.set x.toNat Sl.nil) l
def Tb.det (t : Tb) (xs : List Int) : Int × Tb :=
  if t.once xs = false then (2, t) else if xs.all t.taken = false then (41, t) else (0, ⟨t.last, clrT t.at' xs⟩)
def Tb.fresh (t : Tb) : Tb := ⟨t.last + 1, t.at'⟩
def Tb.hit (t : Tb) (ps : List Int) (x : Int) : Bool := t.taken x && decide ((t.slot x).p ∈ ps)
def upTo (n : Nat) : List Int := (List.range n).map (fun i : Nat => (i : Int))
def Tb.whN (t : Tb) (ps : List Int) (n : Nat) : List Int := (upTo n).filter (t.hit ps)
def Tb.wh (t : Tb) (ps : List Int) : List Int := t.whN ps t.at'.length
/-- What holds of every table. -/
structure Tb.Ok (t : Tb) : Prop where
  len : 1 ≤ t.at'.length ∧ t.at'.length ≤ 4
  last : 0 ≤ t.last
  mem : ∀ s ∈ t.at', 0 ≤ s.v ∧ s.v ≤ t.last ∧ (s.v = 0 → s.p = 0)
theorem Tb.Ok.new {n : Nat} (h1 : 1 ≤ n) (h2 : n ≤ 4) : (Tb.new n).Ok := ⟨by simp [Tb.new]; omega, by simp [Tb.new], by simp [Tb.new, Sl.nil]⟩
theorem Tb.has_true {t : Tb} {x : Int} (h : t.has x = true) : 0 ≤ x ∧ x < t.at'.length := by simpa [Tb.has] using h
theorem Tb.has_nat {t : Tb} {x : Int} (h : t.has x = true) : ∃ k : Nat, x = k ∧ k < t.at'.length := by
  have := Tb.has_true h
  exact ⟨x.toNat, by omega, by omega⟩
theorem Tb.has_of {t : Tb} {k : Nat} (h : k < t.at'.length) : t.has k = true := by simp [Tb.has]; omega
theorem Tb.has_no {t : Tb} {x : Int} (h : t.has x = false) : x < 0 ∨ (t.at'.length : Int) ≤ x := by
  by_cases h0 : x < 0
  · exact .inl h0
  · refine .inr (Int.not_lt.1 fun e => ?_)
    have : t.has x = true := by simp [Tb.has]; omega
    rw [h] at this; cases this
theorem Tb.slot_nat (t : Tb) (k : Nat) : t.slot k = t.at'.getD k Sl.nil := by
  unfold Tb.slot; rw [if_pos (by omega)]; rfl
theorem Tb.slot_no {t : Tb} {x : Int} (h : t.has x = false) : t.slot x = Sl.nil := by
  unfold Tb.slot
  rcases Tb.has_no h with h0 | h0
  · rw [if_neg (by omega)]
  · rw [if_pos (by omega), List.getD_eq_getElem?_getD, List.getElem?_eq_none (by omega)]
    rfl
theorem Tb.taken_has {t : Tb} {x : Int} (h : t.taken x = true) : t.has x = true := by
  cases hh : t.has x with
  | true => rfl
  | false => unfold Tb.taken at h; rw [Tb.slot_no hh] at h; cases h
theorem getD_memSl (xs : List Sl) (k : Nat) (h : k < xs.length) : xs.getD k Sl.nil ∈ xs := by simp [List.getD, h]
theorem Tb.Ok.slot {t : Tb} (h : t.Ok) (x : Int) : 0 ≤ (t.slot x).v ∧ (t.slot x).v ≤ t.last ∧ ((t.slot x).v = 0 → (t.slot x).p = 0) := by
  have := h.last
  cases hh : t.has x with
  | false => rw [Tb.slot_no hh]; simp [Sl.nil]; omega
  | true =>
    obtain ⟨k, rfl, hk⟩ := Tb.has_nat hh
    rw [Tb.slot_nat]
    exact h.mem _ (getD_memSl _ k hk)
theorem Tb.cur_no {t : Tb} {x : Int} (h : t.Ok) (hn : t.taken x = false) : t.cur x = (0, 0, false) := by
  have h1 : (t.slot x).v = 0 := by unfold Tb.taken at hn; simpa using hn
  unfold Tb.cur
  rw [h1, (h.slot x).2.2 h1, hn]
theorem memSl_set {l : List Sl} {k : Nat} {y s : Sl} (h : s ∈ l.set k y) : s ∈ l ∨ s = y := by
  rcases List.mem_or_eq_of_mem_set h with h | h
  · exact .inl h
  · exact .inr h
theorem Tb.Ok.pub {t : Tb} (h : t.Ok) (x p : Int) : (t.pub x p).Ok := by
  have h1 := h.last
  refine ⟨by simpa [Tb.pub] using h.len, by show 0 ≤ t.last + 1; omega, fun s hs => ?_⟩
  show 0 ≤ s.v ∧ s.v ≤ t.last + 1 ∧ (s.v = 0 → s.p = 0)
  rcases memSl_set hs with e | e
  · have := h.mem s e
    exact ⟨by omega, by omega, this.2.2⟩
  · rw [e]
    exact ⟨by show 0 ≤ t.last + 1; omega, Int.le_refl _, fun e2 => by have : t.last + 1 = 0 := e2; omega⟩
theorem Tb.Ok.put {t t' : Tb} {sw : Bool} {x p v E : Int} (h : t.Ok) (hq : t.put sw x p = (v, E, t')) : t'.Ok := by
  unfold Tb.put at hq
  split at hq
  · injection hq with _ hq; injection hq with _ e; rw [← e]; exact h
  · split at hq
    · injection hq with _ hq; injection hq with _ e; rw [← e]; exact h.pub x p
    · injection hq with _ hq; injection hq with _ e; rw [← e]; exact h
theorem clrT_len (ws : List Int) : ∀ l, (clrT l ws).length = l.length := by
  induction ws with
  | nil => intro l; rfl
  | cons x ws ih => intro l; show (clrT (l.set x.toNat Sl.nil) ws).length = _; rw [ih]; simp
theorem clrT_mem (ws : List Int) : ∀ l y, y ∈ clrT l ws → y ∈ l ∨ y = Sl.nil := by
  induction ws with
  | nil => intro l y h; exact .inl h
  | cons x ws ih =>
    intro l y h
    rcases ih (l.set x.toNat Sl.nil) y h with e | e
    · rcases memSl_set e with e | e
      · exact .inl e
      · exact .inr e
    · exact .inr e
theorem clrT_app (l : List Sl) (ws : List Int) (x : Int) : clrT l (ws ++ [x]) = (clrT l ws).set x.toNat Sl.nil := by simp [clrT]
theorem Tb.Ok.clr {t : Tb} (h : t.Ok) (ws : List Int) : (⟨t.last, clrT t.at' ws⟩ : Tb).Ok := by
  have h1 := h.last
  refine ⟨by simpa [clrT_len] using h.len, h1, fun y hy => ?_⟩
  rcases clrT_mem ws _ y hy with e | e
  · exact h.mem y e
  · subst e
    exact ⟨Int.le_refl _, h1, fun _ => rfl⟩
theorem Tb.Ok.det {t t' : Tb} {xs : List Int} {E : Int} (h : t.Ok) (hq : t.det xs = (E, t')) : t'.Ok := by
  unfold Tb.det at hq
  split at hq
  · injection hq with _ e; rw [← e]; exact h
  · split at hq
    · injection hq with _ e; rw [← e]; exact h
    · injection hq with _ e; rw [← e]; exact h.clr xs
theorem Tb.Ok.fresh {t : Tb} (h : t.Ok) : t.fresh.Ok := ⟨h.len, by show 0 ≤ t.last + 1; have := h.last; omega, fun s hs => by have := h.mem s hs; show 0 ≤ s.v ∧ s.v ≤ t.last + 1 ∧ _; exact ⟨by omega, by omega, this.2.2⟩⟩
theorem Tb.put_last {t t' : Tb} {sw : Bool} {x p v E : Int} (hq : t.put sw x p = (v, E, t')) : t'.last ≤ t.last + 1 ∧ t.last ≤ t'.last ∧ t'.at'.length = t.at'.length := by
  unfold Tb.put at hq
  split at hq
  · injection hq with _ hq; injection hq with _ e; rw [← e]; exact ⟨by omega, Int.le_refl _, rfl⟩
  · split at hq
    · injection hq with _ hq; injection hq with _ e; rw [← e]; exact ⟨Int.le_refl _, by show t.last ≤ t.last + 1; omega, by simp [Tb.pub]⟩
    · injection hq with _ hq; injection hq with _ e; rw [← e]; exact ⟨by omega, Int.le_refl _, rfl⟩
theorem Tb.det_last {t t' : Tb} {xs : List Int} {E : Int} (hq : t.det xs = (E, t')) : t'.last = t.last ∧ t'.at'.length = t.at'.length := by
  unfold Tb.det at hq
  split at hq
  · injection hq with _ e; rw [← e]; exact ⟨rfl, rfl⟩
  · split at hq
    · injection hq with _ e; rw [← e]; exact ⟨rfl, rfl⟩
    · injection hq with _ e; rw [← e]; exact ⟨rfl, clrT_len _ _⟩
/-- Unlike numbers below n are at most n. -/
theorem nodup_leT : ∀ (n : Nat) (l : List Int), l.Nodup → (∀ x ∈ l, 0 ≤ x ∧ x < n) → l.length ≤ n := by
  intro n
  induction n with
  | zero =>
    intro l _ h
    cases l with
    | nil => simp
    | cons x l => have := h x (by simp); omega
  | succ n ih =>
    intro l hn h
    have h1 := ih (l.erase (n : Int)) (hn.erase _) (fun x hx => by
      have h2 := (hn.mem_erase_iff).1 hx
      have := h x h2.2
      have := h2.1
      omega)
    by_cases hm : (n : Int) ∈ l
    · have := List.length_erase_of_mem hm
      omega
    · have : l.erase (n : Int) = l := List.erase_of_not_mem hm
      rw [this] at h1
      omega
theorem Tb.once_parts {t : Tb} {ws : List Int} (h : t.once ws = true) : ws.Nodup ∧ ∀ x ∈ ws, t.has x = true := by
  simpa [Tb.once] using h
theorem Tb.Ok.once_le {t : Tb} (hk : t.Ok) {ws : List Int} (h : t.once ws = true) : ws.length ≤ 4 := by
  obtain ⟨h1, h2⟩ := Tb.once_parts h
  have := nodup_leT t.at'.length ws h1 (fun x hx => Tb.has_true (h2 x hx))
  have := hk.len
  omega
theorem Tb.once_take (t : Tb) {ws : List Int} {j : Nat} (hj : j < ws.length) : t.once (ws.take (j + 1)) = (t.once (ws.take j) && t.has (ws.getD j 0) && !decide (ws.getD j 0 ∈ ws.take j)) := by
  rw [take_at ws j hj]
  rw [Bool.eq_iff_iff]
  simp only [Tb.once, Bool.and_eq_true, decide_eq_true_eq, List.all_append, List.all_cons, List.all_nil, Bool.not_eq_true', decide_eq_false_iff_not, List.nodup_append, Bool.and_true]
  constructor
  · rintro ⟨⟨h1, h2, h3⟩, h4, h5⟩
    exact ⟨⟨⟨h1, h4⟩, h5⟩, fun hm => h3 _ hm _ (by simp) rfl⟩
  · rintro ⟨⟨⟨h1, h4⟩, h5⟩, h6⟩
    refine ⟨⟨h1, by simp, fun a ha b hb e => ?_⟩, h4, h5⟩
    have hb2 : b = ws.getD j 0 := List.mem_singleton.1 hb
    subst hb2
    subst e
    exact h6 ha
theorem Tb.once_no {t : Tb} {ws : List Int} {j : Nat} (h : t.once (ws.take j) = false) : t.once ws = false := by
  cases hh : t.once ws with
  | false => rfl
  | true =>
    obtain ⟨h1, h2⟩ := Tb.once_parts hh
    have : t.once (ws.take j) = true := by
      simp only [Tb.once, Bool.and_eq_true, decide_eq_true_eq, List.all_eq_true]
      exact ⟨h1.sublist (List.take_sublist _ _), fun x hx => h2 x (List.mem_of_mem_take hx)⟩
    rw [h] at this
    cases this
theorem upTo_more (n : Nat) : upTo (n + 1) = upTo n ++ [(n : Int)] := by simp [upTo, List.range_succ]
theorem mem_upTo {n : Nat} {x : Int} : x ∈ upTo n ↔ 0 ≤ x ∧ x < n := by
  simp only [upTo, List.mem_map, List.mem_range]
  constructor
  · rintro ⟨k, hk, rfl⟩; omega
  · intro h; exact ⟨x.toNat, by omega, by omega⟩
theorem upTo_up (n : Nat) : (upTo n).Pairwise (· < ·) := by
  unfold upTo
  rw [List.pairwise_map]
  exact List.pairwise_lt_range.imp (fun h => by omega)
theorem Tb.whN_more (t : Tb) (ps : List Int) (n : Nat) : t.whN ps (n + 1) = if t.hit ps n = true then t.whN ps n ++ [(n : Int)] else t.whN ps n := by
  unfold Tb.whN
  rw [upTo_more, List.filter_append]
  by_cases h : t.hit ps n = true
  · rw [if_pos h, List.filter_cons_of_pos h]; rfl
  · rw [if_neg h, List.filter_cons_of_neg h]; simp
theorem Tb.whN_len (t : Tb) (ps : List Int) (n : Nat) : (t.whN ps n).length ≤ n := by
  unfold Tb.whN
  have := List.length_filter_le (t.hit ps) (upTo n)
  simpa [upTo] using this
theorem slot_set {t : Tb} {k : Nat} (hk : k < t.at'.length) (y : Sl) (x la : Int) : (⟨la, t.at'.set k y⟩ : Tb).slot x = if x = k then y else t.slot x := by
  unfold Tb.slot
  by_cases h0 : 0 ≤ x
  · rw [if_pos h0, if_pos h0]
    by_cases e : x = k
    · subst e
      simp [List.getD, hk]
    · rw [if_neg e]
      have : k ≠ x.toNat := by omega
      simp [List.getD, List.getElem?_set_ne this]
  · rw [if_neg h0, if_neg (by omega), if_neg h0]
theorem snocT {α : Type} {p : List α → Prop} (h0 : p []) (h1 : ∀ l a, p l → p (l ++ [a])) : ∀ l, p l := by
  intro l
  have : ∀ m : List α, p m.reverse := by
    intro m
    induction m with
    | nil => exact h0
    | cons a m ih => rw [List.reverse_cons]; exact h1 _ _ ih
  have h := this l.reverse
  rwa [List.reverse_reverse] at h
theorem slot_clr (t : Tb) : ∀ (ws : List Int), (∀ x ∈ ws, t.has x = true) → ∀ x la, (⟨la, clrT t.at' ws⟩ : Tb).slot x = if x ∈ ws then Sl.nil else t.slot x := by
  refine snocT ?_ ?_
  · intro _ x la; simp [clrT]; rfl
  · intro l a ih hws x la
    obtain ⟨k, rfl, hk⟩ := Tb.has_nat (hws a (by simp))
    rw [clrT_app]
    have := slot_set (t := ⟨la, clrT t.at' l⟩) (k := k) (by simpa [clrT_len] using hk) Sl.nil x la
    show (⟨la, (clrT t.at' l).set (k : Int).toNat Sl.nil⟩ : Tb).slot x = _
    rw [show ((k : Int).toNat) = k from rfl, this, ih (fun y hy => hws y (by simp [hy]))]
    by_cases e : x = k
    · rw [if_pos e, if_pos (by simp [e])]
    · rw [if_neg e]
      by_cases hm : x ∈ l
      · rw [if_pos hm, if_pos (by simp [hm])]
      · rw [if_neg hm, if_neg (by simp [hm, e])]
end Go.Proofs.Ytknijloificpmaa
