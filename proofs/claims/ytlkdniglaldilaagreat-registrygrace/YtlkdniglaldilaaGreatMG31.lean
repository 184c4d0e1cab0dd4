/-
  S10Book
  KGx
  KE17Plain
  KH19Plain
  KR18Plain
  KGObj
  KE17LA
  KGRoN
  KC15Fam
  KGOpenW
-/
import Derived.Test.YtlkdniglaldilaaGreatMG8
import Derived.Test.YtlkdniglaldilaaGreatMG7
import Derived.Maps.AppendAt
import Derived.Deep.RegionHeldLaw
import Derived.Laws.OwnMore
import Derived.Deep.RegionHeld3
import Derived.Deep.MidRow
import Derived.ProofKit
namespace Go.Proofs.YtlkdniglaldilaaGreat
open Go.RowKit
set_option linter.unusedVariables false
set_option linter.unusedSimpArgs false
set_option maxRecDepth 100000
open Go.ChangeShapes Go.WideShapes Go.ChangeAt Go.RowKit
theorem own_type10 {w : World} {B : Nat} {e e' : TypeId} {z : Nat} {v : Value} {n : Nat} {xs : List Value} (h : w.ownsRow B e z v n xs) {b : Nat} {cs : List Value} (hb : Hp w b e' cs) (hne : e ≠ e') : v.ownBlock ≠ some b := by
 rcases h with ⟨_, ⟨rfl, rfl⟩ | ⟨g, cap, cur, rfl, _, hh, _⟩⟩
 ·simp [Value.ownBlock]
 ·intro e3
  simp [Value.ownBlock] at e3
  subst e3
  unfold Hp at hb
  rw [hh] at hb
  injection hb with h1
  injection h1 with _ h2
  exact hne h2
theorem hp_type {w : World} {b b' : Nat} {e e' : TypeId} {cs cs' : List Value} (h : Hp w b e cs) (h' : Hp w b' e' cs') (hne : e ≠ e') : b ≠ b' := by
 intro e3
 subst e3
 unfold Hp at h h'
 rw [h] at h'
 injection h' with h1
 injection h1 with _ h2
 exact hne h2
structure Chg (w w' : World) (S : Nat -> Prop) : Prop where
 os : w'.os = w.os
 tape : w'.tape = w.tape
 output : w'.output = w.output
 size : w.heap.size <= w'.heap.size
 block : ∀ k, k < w.heap.size -> ¬ S k -> w'.heap[k]? = w.heap[k]?
theorem Chg.trans {w w1 w2 : World} {S T : Nat -> Prop} (h : Chg w w1 S) (g : Chg w1 w2 T) (hT : ∀ k, k < w.heap.size -> T k -> S k) : Chg w w2 S :=
 ⟨g.os.trans h.os, g.tape.trans h.tape, g.output.trans h.output, Nat.le_trans h.size g.size, fun k hk hs => (g.block k (Nat.lt_of_lt_of_le hk h.size) (fun e => hs (hT k hk e))).trans (h.block k hk hs)⟩
theorem Chg.of_grown {w w' : World} {b : Nat} {S : Nat -> Prop} (h : w.grownBy w' (some b)) (hS : S b) : Chg w w' S :=
 ⟨h.os, h.tape, h.output, h.size, fun k hk hs => h.block k hk (fun e => by injection e with e; exact hs (e ▸ hS))⟩
theorem Chg.of_grown' {w w' : World} {r : Option Nat} {S : Nat -> Prop} (h : w.grownBy w' r) (hS : ∀ b, r = some b -> S b) : Chg w w' S :=
 ⟨h.os, h.tape, h.output, h.size, fun k hk hs => h.block k hk (fun e => hs (hS k e.symm))⟩
theorem Chg.of_below {w w' : World} {S : Nat -> Prop} (h : Below w.heap.size w w') : Chg w w' S :=
 ⟨h.os, h.tape, h.output, h.size, fun k hk _ => h.block k hk⟩
theorem Chg.refl (w : World) (S : Nat -> Prop) : Chg w w S := ⟨rfl, rfl, rfl, Nat.le_refl _, fun _ _ _ => rfl⟩
theorem Chg.drewN {w w' : World} {S : Nat -> Prop} (h : Chg w w' S) (n : Nat) : Chg w (w'.drewN n) S := ⟨h.os, h.tape, h.output, h.size, h.block⟩
theorem Chg.mono {w w' : World} {S T : Nat -> Prop} (h : Chg w w' S) (hT : ∀ k, S k -> T k) : Chg w w' T := ⟨h.os, h.tape, h.output, h.size, fun k hk hs => h.block k hk (fun e => hs (hT k e))⟩
theorem Chg.below {w w' : World} {S : Nat -> Prop} {B : Nat} (h : Chg w w' S) (hS : ∀ k, S k -> B <= k) (hB : B <= w.heap.size) : Below B w w' :=
 ⟨h.os, h.tape, h.output, h.size, fun k hk => h.block k (by omega) (fun e => by have := hS k e; omega)⟩
theorem Hp.chg {w w' : World} {b : Nat} {t : TypeId} {cs : List Value} {S : Nat -> Prop} (h : Hp w b t cs) (hc : Chg w w' S) (hS : ¬ S b) : Hp w' b t cs := by
 unfold Hp; rw [hc.block b h.lt hS]; exact h
theorem own_chg {w w' : World} {B : Nat} {e : TypeId} {z : Nat} {v : Value} {n : Nat} {xs : List Value} {S : Nat -> Prop} (h : w.ownsRow B e z v n xs) (hc : Chg w w' S) (hS : ∀ k, v.ownBlock = some k -> ¬ S k) : w'.ownsRow B e z v n xs := by
 rcases h with ⟨h1, h2 | ⟨g, cap, cur, rfl, hg, hh, r⟩⟩
 ·exact ⟨h1, .inl h2⟩
 ·refine ⟨h1, .inr ⟨g, cap, cur, rfl, hg, ?_, r⟩⟩
  rw [hc.block g (Array.getElem?_eq_some_iff.1 hh).1 (hS g rfl)]
  exact hh
def RowNew (w : World) (v v' : Value) : Prop := v'.ownBlock = v.ownBlock ∨ ∃ k, v'.ownBlock = some k /\ w.heap.size <= k
theorem own_shape {w : World} {base : Nat} {e : TypeId} {z : Nat} {v : Value} {n : Nat} {xs : List Value} (h : w.ownsRow base e z v n xs) : ∃ a cap, v = .slice a n cap := by
 rcases h with ⟨h1, ⟨rfl, rfl⟩ | ⟨g, cap, cur, rfl, _⟩⟩
 ·exact ⟨_, _, rfl⟩
 ·exact ⟨_, _, rfl⟩
theorem keepG {p : Prop} (h : p) : Hid p := h
theorem below_allocG (w : World) (o : Obj) : Below w.heap.size w (w.alloc o) := (Below.refl _ _).alloc (Nat.le_refl _) _
theorem below_drG {B : Nat} {w Z : World} (h : Below B w Z) : Below B w Z.drew := ⟨h.os, h.tape, h.output, h.size, h.block⟩
theorem own_lowG {w : World} {b b' : Nat} {e : TypeId} {z : Nat} {v : Value} {n : Nat} {xs : List Value} (h : w.ownsRow b e z v n xs) (hb : b' <= b) : w.ownsRow b' e z v n xs := by
 rcases h with ⟨h1, h2 | ⟨g, cap, cur, hv, hg, r⟩⟩
 ·exact ⟨h1, .inl h2⟩
 ·exact ⟨h1, .inr ⟨g, cap, cur, hv, Nat.le_trans hb hg, r⟩⟩
theorem own_twoG {w : World} {B B' : Nat} {e e' : TypeId} {z z' : Nat} {v v' : Value} {n n' : Nat} {xs xs' : List Value} (h : w.ownsRow B e z v n xs) (h' : w.ownsRow B' e' z' v' n' xs') (hne : e ≠ e') : ∀ k, v.ownBlock = some k -> v'.ownBlock ≠ some k := by
 intro k hk hk'
 rcases h with ⟨_, ⟨rfl, _⟩ | ⟨g, cap, cur, rfl, _, hh, _⟩⟩
 ·cases hk
 rcases h' with ⟨_, ⟨rfl, _⟩ | ⟨g', cap', cur', rfl, _, hh', _⟩⟩
 ·cases hk'
 ·have e1 : g = k := Option.some.inj hk
  have e2 : g' = k := Option.some.inj hk'
  subst e1
  subst e2
  rw [hh] at hh'
  injection hh' with h1
  injection h1 with _ h2
  exact hne h2
theorem Chg.set (w : World) (b i : Nat) (v : Value) : Chg w (w.setCell ⟨b, i, none⟩ v) (fun k => k = b) := Chg.of_grown (grown_set w b i v) rfl
def flatG {α : Type} (f : α -> List Value) (xs : List α) : List Value := xs.flatMap f
section
variable {α : Type} {f : α -> List Value} {z : Nat}
theorem flatG_app (xs ys : List α) : flatG f (xs ++ ys) = flatG f xs ++ flatG f ys := by simp [flatG]
theorem flatG_one (x : α) : flatG f [x] = f x := by simp [flatG]
theorem flatG_more (xs : List α) (x : α) : flatG f (xs ++ [x]) = flatG f xs ++ f x := by rw [flatG_app, flatG_one]
theorem flatG_len (hf : ∀ x, (f x).length = z) (xs : List α) : (flatG f xs).length = xs.length * z := by
 induction xs with
 | nil => simp [flatG]
 | cons x l ih =>
  have e : flatG f (x :: l) = f x ++ flatG f l := by simp [flatG]
  rw [e, List.length_append, hf, ih, List.length_cons, Nat.add_mul, Nat.one_mul, Nat.add_comm]
theorem flatG_at (hf : ∀ x, (f x).length = z) (d : α) : ∀ (xs : List α) {k j : Nat}, k < xs.length -> j < z -> (flatG f xs)[k * z + j]? = (f (xs.getD k d))[j]? := by
 intro xs
 induction xs with
 | nil => intro k j h; simp at h
 | cons x l ih =>
  intro k j hk hj
  have e : flatG f (x :: l) = f x ++ flatG f l := by simp [flatG]
  rw [e]
  cases k with
  | zero =>
   rw [Nat.zero_mul, Nat.zero_add, List.getElem?_append_left (by rw [hf]; exact hj)]
   rfl
  | succ k =>
   rw [show (k + 1) * z + j = (f x).length + (k * z + j) by rw [hf, Nat.add_mul, Nat.one_mul]; omega, List.getElem?_append_right (by omega), show (f x).length + (k * z + j) - (f x).length = k * z + j by omega, ih (by simpa using hk) hj]
   simp
theorem flatG_set (hf : ∀ x, (f x).length = z) (d : α) : ∀ (xs : List α) {k j : Nat} {x : α} {v : Value}, k < xs.length -> j < z -> f x = (f (xs.getD k d)).set j v -> (flatG f xs).set (k * z + j) v = flatG f (xs.set k x) := by
 intro xs
 induction xs with
 | nil => intro k j x v h; simp at h
 | cons y l ih =>
  intro k j x v hk hj hx
  have e : flatG f (y :: l) = f y ++ flatG f l := by simp [flatG]
  rw [e]
  cases k with
  | zero =>
   have e2 : flatG f ((y :: l).set 0 x) = f x ++ flatG f l := by simp [flatG]
   rw [e2, Nat.zero_mul, Nat.zero_add, List.set_append_left _ _ (by rw [hf]; exact hj), hx]
   rfl
  | succ k =>
   have e2 : flatG f ((y :: l).set (k + 1) x) = f y ++ flatG f (l.set k x) := by simp [flatG]
   rw [e2, show (k + 1) * z + j = (f y).length + (k * z + j) by rw [hf, Nat.add_mul, Nat.one_mul]; omega, List.set_append_right _ _ (by omega), show (f y).length + (k * z + j) - (f y).length = k * z + j by omega, ih (by simpa using hk) hj (by rw [hx]; simp)]
def SeesG (f : α -> List Value) (z : Nat) (d : α) (w : World) (v : Value) (xs : List α) : Prop :=
 ∃ a cap, v = .slice a xs.length cap /\ xs.length <= cap /\ cap <= maxLen /\ (a = none -> cap = 0) /\ (xs ≠ [] -> ∃ b off, a = some ⟨b, off, none⟩ /\ b < w.heap.size /\ ∀ k, k < xs.length -> ∀ j, j < z -> w.cell? ⟨b, off + k * z + j, none⟩ = (f (xs.getD k d))[j]?)
theorem SeesG.nil (d : α) (w : World) : SeesG f z d w (.slice none 0 0) [] := ⟨none, 0, rfl, by simp, by simp [maxLen], fun _ => rfl, fun h => absurd rfl h⟩
theorem SeesG.shape {d : α} {w : World} {v : Value} {xs : List α} (h : SeesG f z d w v xs) : ∃ a cap, v = .slice a xs.length cap /\ xs.length <= cap /\ cap <= 9223372036854775807 := by
 obtain ⟨a, cap, rfl, h1, h2, _⟩ := h
 exact ⟨a, cap, rfl, h1, by unfold maxLen at h2; omega⟩
theorem SeesG.below {d : α} {w w' : World} {v : Value} {xs : List α} {B : Nat} (h : SeesG f z d w v xs) (hb : Below B w w') (hB : w.heap.size <= B) : SeesG f z d w' v xs := by
 obtain ⟨a, cap, rfl, h1, h2, h3, h4⟩ := h
 refine ⟨a, cap, rfl, h1, h2, h3, fun hne => ?_⟩
 obtain ⟨b, off, rfl, hlt, hc⟩ := h4 hne
 exact ⟨b, off, rfl, Nat.lt_of_lt_of_le hlt hb.size, fun k hk j hj => (hb.cell (p := ⟨b, off + k * z + j, none⟩) (Nat.lt_of_lt_of_le hlt hB)).trans (hc k hk j hj)⟩
theorem own_seesG (hf : ∀ x, (f x).length = z) (d : α) {w : World} {base : Nat} {e : TypeId} {v : Value} {xs : List α} (h : w.ownsRow base e z v xs.length (flatG f xs)) : SeesG f z d w v xs := by
 have h0 := h
 rcases h with ⟨h1, ⟨rfl, h2⟩ | ⟨g, cap, cur, rfl, hb, hh, h3, h4, h5, h6⟩⟩
 ·have : xs = [] := List.eq_nil_of_length_eq_zero h2
  subst this
  exact SeesG.nil d w
 ·refine ⟨_, cap, rfl, h3, h4, fun h => (by cases h), fun hne => ⟨g, 0, rfl, (Array.getElem?_eq_some_iff.1 hh).1, fun k hk j hj => ?_⟩⟩
  rw [Nat.zero_add, h0.cellAt (k * z + j) ?_]
  ·exact flatG_at hf d xs hk hj
  ·exact Nat.lt_of_lt_of_le (Nat.add_lt_add_left hj _) (by rw [<- Nat.succ_mul]; exact Nat.mul_le_mul_right _ hk)
theorem own_atG (hf : ∀ x, (f x).length = z) (d : α) {w : World} {base : Nat} {e : TypeId} {v : Value} {xs : List α} (h : w.ownsRow base e z v xs.length (flatG f xs)) (hn : 0 < xs.length) : ∃ g cap, v = .slice (some ⟨g, 0, none⟩) xs.length cap /\ base <= g /\ g < w.heap.size /\ xs.length <= cap /\ cap <= 9223372036854775807 /\ ∀ k, k < xs.length -> ∀ j, j < z -> w.cell? ⟨g, k * z + j, none⟩ = (f (xs.getD k d))[j]? /\ w.frozen? ⟨g, k * z + j, none⟩ = false := by
 have hs := own_seesG hf d h
 have h0 := h
 rcases h with ⟨h1, ⟨rfl, h2⟩ | ⟨g, cap, cur, rfl, hb, hh, h3, h4, h5, h6⟩⟩
 ·omega
 ·refine ⟨g, cap, rfl, hb, (Array.getElem?_eq_some_iff.1 hh).1, h3, by unfold maxLen at h4; omega, fun k hk j hj => ⟨?_, h0.frozenAt _⟩⟩
  obtain ⟨a, cap', e1, _, _, _, h7⟩ := hs
  obtain ⟨b, off, e2, _, hc⟩ := h7 (fun e => by rw [e] at hn; simp at hn)
  subst e2
  injection e1 with e3
  injection e3 with e3
  injection e3 with e3 e4
  subst e3
  subst e4
  have := hc k hk j hj
  rw [Nat.zero_add] at this
  exact this
theorem own_moreG {w : World} {base : Nat} {e : TypeId} {v : Value} {xs : List α} {x : α} (h : w.ownsRow base e z v (xs.length + 1) (flatG f xs ++ f x)) : w.ownsRow base e z v (xs ++ [x]).length (flatG f (xs ++ [x])) := by
 rw [flatG_more, List.length_append]
 exact h
theorem cells_new (w : World) (xs : List Value) (t : TypeId) (n : Nat) (hn : n = w.heap.size) : ∀ j u, xs[j]? = some u -> (w.alloc (.cells xs.toArray t)).cell? ((⟨n, 0, none⟩ : Addr).add j) = some u := by
 subst hn
 intro j u hj
 rw [add_none, Nat.zero_add, World.cell?_alloc_at _ _ _ _ rfl]
 exact (List.getElem?_toArray (xs := xs)).trans hj
end
structure Ck where
 now : Int
 ins : List Int
def Ck.new (n : Nat) : Ck := ⟨1, List.replicate n 0⟩
def Ck.has (c : Ck) (x : Int) : Bool := decide (0 <= x) && decide (x < c.ins.length)
def Ck.at (c : Ck) (x : Int) : Int := if 0 <= x then c.ins.getD x.toNat 0 else 0
def Ck.enter (c : Ck) (x : Int) : Int × Int × Ck :=
 if c.has x = false then (0, 2, c) else if c.at x = 0 then (c.now, 0, ⟨c.now, c.ins.set x.toNat c.now⟩) else (0, 42, c)
def Ck.once (c : Ck) (ws : List Int) : Bool := decide (ws.Nodup) && ws.all c.has
def clr (l : List Int) (ws : List Int) : List Int := ws.foldl (fun l x => l.set x.toNat 0) l
def Ck.leave (c : Ck) (ws : List Int) : Int × Ck :=
 if c.once ws = false then (2, c) else if ws.all (fun x => decide (c.at x ≠ 0)) = false then (41, c) else (0, ⟨c.now, clr c.ins ws⟩)
def Ck.go (c : Ck) : Ck := ⟨c.now + 1, c.ins⟩
def safeB (e : Int) (x : Int) : Bool := !(x != 0 && decide (x < e))
def Ck.safe (c : Ck) (e : Int) : Bool := c.ins.all (safeB e)
structure Ck.Ok (c : Ck) : Prop where
 len : 1 <= c.ins.length /\ c.ins.length <= 4
 now : 1 <= c.now
 mem : ∀ x ∈ c.ins, 0 <= x /\ x <= c.now
theorem Ck.Ok.new {n : Nat} (h1 : 1 <= n) (h2 : n <= 4) : (Ck.new n).Ok := ⟨by simp [Ck.new]; omega, by simp [Ck.new], by simp [Ck.new]⟩
theorem Ck.has_true {c : Ck} {x : Int} (h : c.has x = true) : 0 <= x /\ x < c.ins.length := by simpa [Ck.has] using h
theorem Ck.has_nat {c : Ck} {x : Int} (h : c.has x = true) : ∃ k : Nat, x = k /\ k < c.ins.length := by
 have := Ck.has_true h
 exact ⟨x.toNat, by omega, by omega⟩
theorem Ck.has_of {c : Ck} {k : Nat} (h : k < c.ins.length) : c.has k = true := by simp [Ck.has]; omega
theorem Ck.at_nat (c : Ck) (k : Nat) : c.at k = c.ins.getD k 0 := by
 unfold Ck.at; rw [if_pos (by omega)]; rfl
theorem Ck.at_no {c : Ck} {x : Int} (h : c.has x = false) : c.at x = 0 := by
 unfold Ck.at
 by_cases h0 : 0 <= x
 ·rw [if_pos h0]
  have : ¬ x < c.ins.length := by
   intro e
   have : c.has x = true := by simp [Ck.has]; omega
   rw [h] at this; cases this
  rw [List.getD_eq_getElem?_getD, List.getElem?_eq_none (by omega)]
  rfl
 ·rw [if_neg h0]
theorem Ck.Ok.at_le {c : Ck} (h : c.Ok) (x : Int) : 0 <= c.at x /\ c.at x <= c.now := by
 have := h.now
 unfold Ck.at
 split
 ·rw [List.getD_eq_getElem?_getD]
  cases he : c.ins[x.toNat]? with
  | none => simp; omega
  | some y => simp; exact h.mem y (List.mem_of_getElem? he)
 ·omega
theorem mem_set {l : List Int} {k : Nat} {y x : Int} (h : x ∈ l.set k y) : x ∈ l ∨ x = y := by
 rcases List.mem_or_eq_of_mem_set h with h | h
 ·exact .inl h
 ·exact .inr h
theorem Ck.Ok.enter {c : Ck} (h : c.Ok) (x : Int) : (c.enter x).2.2.Ok := by
 unfold Ck.enter
 split
 ·exact h
 ·split
  ·refine ⟨by simpa using h.len, h.now, fun y hy => ?_⟩
   have := h.now
   rcases mem_set hy with e | e
   ·exact h.mem y e
   ·simp only at e ⊢
    omega
  ·exact h
theorem clr_len (ws : List Int) : ∀ l, (clr l ws).length = l.length := by
 induction ws with
 | nil => intro l; rfl
 | cons x ws ih => intro l; show (clr (l.set x.toNat 0) ws).length = _; rw [ih]; simp
theorem clr_mem (ws : List Int) : ∀ l y, y ∈ clr l ws -> y ∈ l ∨ y = 0 := by
 induction ws with
 | nil => intro l y h; exact .inl h
 | cons x ws ih =>
  intro l y h
  rcases ih (l.set x.toNat 0) y h with e | e
  ·rcases mem_set e with e | e
   ·exact .inl e
   ·exact .inr e
  ·exact .inr e
theorem clr_app (l : List Int) (ws : List Int) (x : Int) : clr l (ws ++ [x]) = (clr l ws).set x.toNat 0 := by simp [clr]
theorem Ck.Ok.clr {c : Ck} (h : c.Ok) (ws : List Int) : (⟨c.now, clr c.ins ws⟩ : Ck).Ok := by
 have h1 := h.now
 refine ⟨by simpa [clr_len] using h.len, h1, fun y hy => ?_⟩
 rcases clr_mem ws _ y hy with e | e
 ·exact h.mem y e
 ·subst e
  exact ⟨Int.le_refl _, by show (0 : Int) <= c.now; omega⟩
theorem Ck.Ok.leave {c : Ck} (h : c.Ok) (ws : List Int) : (c.leave ws).2.Ok := by
 unfold Ck.leave
 split
 ·exact h
 ·split
  ·exact h
  ·exact h.clr ws
theorem Ck.Ok.go {c : Ck} (h : c.Ok) : c.go.Ok := ⟨h.len, by show 1 <= c.now + 1; have := h.now; omega, fun x hx => by have := h.mem x hx; show 0 <= x /\ x <= c.now + 1; omega⟩
theorem nodup_le : ∀ (n : Nat) (l : List Int), l.Nodup -> (∀ x ∈ l, 0 <= x /\ x < n) -> l.length <= n := by
 intro n
 induction n with
 | zero =>
  intro l _ h
  cases l with
  | nil => simp
  | cons x l => have := h x (by simp); omega
 | succ n ih =>
  intro l hn h
  have h1 := ih (l.erase (n : Int)) (hn.erase _) (fun x hx => by
   have h2 := (hn.mem_erase_iff).1 hx
   have := h x h2.2
   have := h2.1
   omega)
  by_cases hm : (n : Int) ∈ l
  ·have := List.length_erase_of_mem hm
   omega
  ·have : l.erase (n : Int) = l := List.erase_of_not_mem hm
   rw [this] at h1
   omega
theorem Ck.once_parts {c : Ck} {ws : List Int} (h : c.once ws = true) : ws.Nodup /\ ∀ x ∈ ws, c.has x = true := by
 simpa [Ck.once] using h
theorem Ck.once_take (c : Ck) {ws : List Int} {j : Nat} (hj : j < ws.length) : c.once (ws.take (j + 1)) = (c.once (ws.take j) && c.has (ws.getD j 0) && !decide (ws.getD j 0 ∈ ws.take j)) := by
 rw [take_at ws j hj]
 rw [Bool.eq_iff_iff]
 simp only [Ck.once, Bool.and_eq_true, decide_eq_true_eq, List.all_append, List.all_cons, List.all_nil, Bool.not_eq_true', decide_eq_false_iff_not, List.nodup_append, Bool.and_true]
 constructor
 ·rintro ⟨⟨h1, h2, h3⟩, h4, h5⟩
  exact ⟨⟨⟨h1, h4⟩, h5⟩, fun hm => h3 _ hm _ (by simp) rfl⟩
 ·rintro ⟨⟨⟨h1, h4⟩, h5⟩, h6⟩
  refine ⟨⟨h1, by simp, fun a ha b hb e => ?_⟩, h4, h5⟩
  have hb2 : b = ws.getD j 0 := by simpa using hb
  subst hb2
  subst e
  exact h6 ha
theorem Ck.once_no {c : Ck} {ws : List Int} {j : Nat} (h : c.once (ws.take j) = false) : c.once ws = false := by
 cases he : c.once ws with
 | false => rfl
 | true =>
  obtain ⟨h1, h2⟩ := Ck.once_parts he
  have : c.once (ws.take j) = true := by
   simp only [Ck.once, Bool.and_eq_true, decide_eq_true_eq, List.all_eq_true]
   exact ⟨h1.sublist (List.take_sublist _ _), fun x hx => h2 x (List.mem_of_mem_take hx)⟩
  rw [h] at this
  cases this
theorem all_no {p : Int -> Bool} {ws : List Int} {j : Nat} (h : (ws.take j).all p = false) : ws.all p = false := by
 cases he : ws.all p with
 | false => rfl
 | true =>
  rw [List.all_eq_true] at he
  have : (ws.take j).all p = true := List.all_eq_true.2 (fun x hx => he x (List.mem_of_mem_take hx))
  rw [h] at this
  cases this
theorem all_take_g {p : Int -> Bool} {ws : List Int} {j : Nat} (hj : j < ws.length) : (ws.take (j + 1)).all p = ((ws.take j).all p && p (ws.getD j 0)) := by
 rw [take_at ws j hj]; simp
structure Sl where
 v : Int
 p : Int
def Sl.nil : Sl := ⟨0, 0⟩
structure Tb where
 last : Int
 at' : List Sl
def Tb.new (n : Nat) : Tb := ⟨0, List.replicate n Sl.nil⟩
def Tb.has (t : Tb) (x : Int) : Bool := decide (0 <= x) && decide (x < t.at'.length)
def Tb.slot (t : Tb) (x : Int) : Sl := if 0 <= x then t.at'.getD x.toNat Sl.nil else Sl.nil
def Tb.taken (t : Tb) (x : Int) : Bool := (t.slot x).v != 0
def Tb.pub (t : Tb) (x p : Int) : Tb := ⟨t.last + 1, t.at'.set x.toNat ⟨t.last + 1, p⟩⟩
def Tb.put (t : Tb) (sw : Bool) (x p : Int) : Int × Int × Tb :=
 if t.has x = false then (0, 2, t) else if t.taken x = sw then (t.last + 1, 0, t.pub x p) else (0, if sw = true then 41 else 42, t)
def Tb.once (t : Tb) (xs : List Int) : Bool := decide xs.Nodup && xs.all t.has
def clrT (l : List Sl) (xs : List Int) : List Sl := xs.foldl (fun l x => l.set x.toNat Sl.nil) l
def Tb.det (t : Tb) (xs : List Int) : Int × Tb :=
 if t.once xs = false then (2, t) else if xs.all t.taken = false then (41, t) else (0, ⟨t.last, clrT t.at' xs⟩)
def Tb.fresh (t : Tb) : Tb := ⟨t.last + 1, t.at'⟩
def Tb.hit (t : Tb) (ps : List Int) (x : Int) : Bool := t.taken x && decide ((t.slot x).p ∈ ps)
def upTo (n : Nat) : List Int := (List.range n).map (fun i : Nat => (i : Int))
def Tb.whN (t : Tb) (ps : List Int) (n : Nat) : List Int := (upTo n).filter (t.hit ps)
def Tb.wh (t : Tb) (ps : List Int) : List Int := t.whN ps t.at'.length
structure Tb.Ok (t : Tb) : Prop where
 len : 1 <= t.at'.length /\ t.at'.length <= 4
 last : 0 <= t.last
 mem : ∀ s ∈ t.at', 0 <= s.v /\ s.v <= t.last /\ (s.v = 0 -> s.p = 0)
theorem Tb.Ok.new {n : Nat} (h1 : 1 <= n) (h2 : n <= 4) : (Tb.new n).Ok := ⟨by simp [Tb.new]; omega, by simp [Tb.new], by simp [Tb.new, Sl.nil]⟩
theorem Tb.has_true {t : Tb} {x : Int} (h : t.has x = true) : 0 <= x /\ x < t.at'.length := by simpa [Tb.has] using h
theorem Tb.has_nat {t : Tb} {x : Int} (h : t.has x = true) : ∃ k : Nat, x = k /\ k < t.at'.length := by
 have := Tb.has_true h
 exact ⟨x.toNat, by omega, by omega⟩
theorem Tb.has_no {t : Tb} {x : Int} (h : t.has x = false) : x < 0 ∨ (t.at'.length : Int) <= x := by
 by_cases h0 : x < 0
 ·exact .inl h0
 ·refine .inr (Int.not_lt.1 fun e => ?_)
  have : t.has x = true := by simp [Tb.has]; omega
  rw [h] at this; cases this
theorem Tb.slot_nat (t : Tb) (k : Nat) : t.slot k = t.at'.getD k Sl.nil := by
 unfold Tb.slot; rw [if_pos (by omega)]; rfl
theorem memSl_set {l : List Sl} {k : Nat} {y s : Sl} (h : s ∈ l.set k y) : s ∈ l ∨ s = y := by
 rcases List.mem_or_eq_of_mem_set h with h | h
 ·exact .inl h
 ·exact .inr h
theorem Tb.Ok.pub {t : Tb} (h : t.Ok) (x p : Int) : (t.pub x p).Ok := by
 have h1 := h.last
 refine ⟨by simpa [Tb.pub] using h.len, by show 0 <= t.last + 1; omega, fun s hs => ?_⟩
 show 0 <= s.v /\ s.v <= t.last + 1 /\ (s.v = 0 -> s.p = 0)
 rcases memSl_set hs with e | e
 ·have := h.mem s e
  exact ⟨by omega, by omega, this.2.2⟩
 ·rw [e]
  exact ⟨by show 0 <= t.last + 1; omega, Int.le_refl _, fun e2 => by have : t.last + 1 = 0 := e2; omega⟩
theorem Tb.Ok.put {t t' : Tb} {sw : Bool} {x p v E : Int} (h : t.Ok) (hq : t.put sw x p = (v, E, t')) : t'.Ok := by
 unfold Tb.put at hq
 split at hq
 ·injection hq with _ hq; injection hq with _ e; rw [<- e]; exact h
 ·split at hq
  ·injection hq with _ hq; injection hq with _ e; rw [<- e]; exact h.pub x p
  ·injection hq with _ hq; injection hq with _ e; rw [<- e]; exact h
theorem clrT_len (ws : List Int) : ∀ l, (clrT l ws).length = l.length := by
 induction ws with
 | nil => intro l; rfl
 | cons x ws ih => intro l; show (clrT (l.set x.toNat Sl.nil) ws).length = _; rw [ih]; simp
theorem clrT_mem (ws : List Int) : ∀ l y, y ∈ clrT l ws -> y ∈ l ∨ y = Sl.nil := by
 induction ws with
 | nil => intro l y h; exact .inl h
 | cons x ws ih =>
  intro l y h
  rcases ih (l.set x.toNat Sl.nil) y h with e | e
  ·rcases memSl_set e with e | e
   ·exact .inl e
   ·exact .inr e
  ·exact .inr e
theorem clrT_app (l : List Sl) (ws : List Int) (x : Int) : clrT l (ws ++ [x]) = (clrT l ws).set x.toNat Sl.nil := by simp [clrT]
theorem Tb.Ok.clr {t : Tb} (h : t.Ok) (ws : List Int) : (⟨t.last, clrT t.at' ws⟩ : Tb).Ok := by
 have h1 := h.last
 refine ⟨by simpa [clrT_len] using h.len, h1, fun y hy => ?_⟩
 rcases clrT_mem ws _ y hy with e | e
 ·exact h.mem y e
 ·subst e
  exact ⟨Int.le_refl _, h1, fun _ => rfl⟩
theorem Tb.Ok.det {t t' : Tb} {xs : List Int} {E : Int} (h : t.Ok) (hq : t.det xs = (E, t')) : t'.Ok := by
 unfold Tb.det at hq
 split at hq
 ·injection hq with _ e; rw [<- e]; exact h
 ·split at hq
  ·injection hq with _ e; rw [<- e]; exact h
  ·injection hq with _ e; rw [<- e]; exact h.clr xs
theorem Tb.put_last {t t' : Tb} {sw : Bool} {x p v E : Int} (hq : t.put sw x p = (v, E, t')) : t'.last <= t.last + 1 /\ t.last <= t'.last /\ t'.at'.length = t.at'.length := by
 unfold Tb.put at hq
 split at hq
 ·injection hq with _ hq; injection hq with _ e; rw [<- e]; exact ⟨by omega, Int.le_refl _, rfl⟩
 ·split at hq
  ·injection hq with _ hq; injection hq with _ e; rw [<- e]; exact ⟨Int.le_refl _, by show t.last <= t.last + 1; omega, by simp [Tb.pub]⟩
  ·injection hq with _ hq; injection hq with _ e; rw [<- e]; exact ⟨by omega, Int.le_refl _, rfl⟩
theorem Tb.det_last {t t' : Tb} {xs : List Int} {E : Int} (hq : t.det xs = (E, t')) : t'.last = t.last /\ t'.at'.length = t.at'.length := by
 unfold Tb.det at hq
 split at hq
 ·injection hq with _ e; rw [<- e]; exact ⟨rfl, rfl⟩
 ·split at hq
  ·injection hq with _ e; rw [<- e]; exact ⟨rfl, rfl⟩
  ·injection hq with _ e; rw [<- e]; exact ⟨rfl, clrT_len _ _⟩
theorem Tb.once_parts {t : Tb} {ws : List Int} (h : t.once ws = true) : ws.Nodup /\ ∀ x ∈ ws, t.has x = true := by
 simpa [Tb.once] using h
theorem Tb.once_take (t : Tb) {ws : List Int} {j : Nat} (hj : j < ws.length) : t.once (ws.take (j + 1)) = (t.once (ws.take j) && t.has (ws.getD j 0) && !decide (ws.getD j 0 ∈ ws.take j)) := by
 rw [take_at ws j hj]
 rw [Bool.eq_iff_iff]
 simp only [Tb.once, Bool.and_eq_true, decide_eq_true_eq, List.all_append, List.all_cons, List.all_nil, Bool.not_eq_true', decide_eq_false_iff_not, List.nodup_append, Bool.and_true]
 constructor
 ·rintro ⟨⟨h1, h2, h3⟩, h4, h5⟩
  exact ⟨⟨⟨h1, h4⟩, h5⟩, fun hm => h3 _ hm _ (by simp) rfl⟩
 ·rintro ⟨⟨⟨h1, h4⟩, h5⟩, h6⟩
  refine ⟨⟨h1, by simp, fun a ha b hb e => ?_⟩, h4, h5⟩
  have hb2 : b = ws.getD j 0 := List.mem_singleton.1 hb
  subst hb2
  subst e
  exact h6 ha
theorem Tb.once_no {t : Tb} {ws : List Int} {j : Nat} (h : t.once (ws.take j) = false) : t.once ws = false := by
 cases hh : t.once ws with
 | false => rfl
 | true =>
  obtain ⟨h1, h2⟩ := Tb.once_parts hh
  have : t.once (ws.take j) = true := by
   simp only [Tb.once, Bool.and_eq_true, decide_eq_true_eq, List.all_eq_true]
   exact ⟨h1.sublist (List.take_sublist _ _), fun x hx => h2 x (List.mem_of_mem_take hx)⟩
  rw [h] at this
  cases this
theorem upTo_more (n : Nat) : upTo (n + 1) = upTo n ++ [(n : Int)] := by simp [upTo, List.range_succ]
theorem Tb.whN_more (t : Tb) (ps : List Int) (n : Nat) : t.whN ps (n + 1) = if t.hit ps n = true then t.whN ps n ++ [(n : Int)] else t.whN ps n := by
 unfold Tb.whN
 rw [upTo_more, List.filter_append]
 by_cases h : t.hit ps n = true
 ·rw [if_pos h, List.filter_cons_of_pos h]; rfl
 ·rw [if_neg h, List.filter_cons_of_neg h]; simp
theorem Tb.whN_len (t : Tb) (ps : List Int) (n : Nat) : (t.whN ps n).length <= n := by
 unfold Tb.whN
 have := List.length_filter_le (t.hit ps) (upTo n)
 simpa [upTo] using this
structure Hm where
 p : Int
 ms : List Int
abbrev Rs_g := List Hm
def Rs_g.has (P : Rs_g) (p : Int) : Bool := P.any (fun h => h.p == p)
def inM (n : Nat) (x : Int) : Bool := decide (0 <= x) && decide (x < n)
def okM_g (n : Nat) (ms : List Int) : Bool := decide ms.Nodup && ms.all (inM n)
def insH (h : Hm) : List Hm -> List Hm
 | [] => [h]
 | x :: l => if h.p <= x.p then h :: x :: l else x :: insH h l
def Rs_g.hold (n : Nat) (P : Rs_g) (p : Int) (ms : List Int) : Int × Rs_g := if okM_g n ms = false then (2, P) else if P.has p = true then (42, P) else (0, insH ⟨p, ms⟩ P)
def outP (ps : List Int) (h : Hm) : Bool := !decide (h.p ∈ ps)
def Rs_g.drop (P : Rs_g) (ps : List Int) : Int × Rs_g := if decide ps.Nodup = false then (2, P) else if ps.all (Rs_g.has P) = false then (41, P) else (0, P.filter (outP ps))
def Rs_g.holders (P : Rs_g) (m : Int) : List Int := (P.filter (fun h => decide (m ∈ h.ms))).map (·.p)
structure Rs_g.Ok (n : Nat) (P : Rs_g) : Prop where
 up : P.Pairwise (fun a b => a.p < b.p)
 ms : ∀ h ∈ P, okM_g n h.ms = true
theorem Rs_g.Ok.nil (n : Nat) : Rs_g.Ok n [] := ⟨List.Pairwise.nil, fun h hh => by cases hh⟩
theorem Rs_g.has_iff {P : Rs_g} {p : Int} : P.has p = true ↔ ∃ h ∈ P, h.p = p := by simp [Rs_g.has]
theorem insH_perm (h : Hm) (P : Rs_g) : (insH h P).Perm (h :: P) := by
 induction P with
 | nil => exact List.Perm.refl _
 | cons x l ih =>
  unfold insH
  split
  ·exact List.Perm.refl _
  ·exact (ih.cons x).trans (List.Perm.swap _ _ _)
theorem insH_mem {h x : Hm} {P : Rs_g} : x ∈ insH h P ↔ x = h ∨ x ∈ P := by
 rw [(insH_perm h P).mem_iff]; simp
theorem insH_up {h : Hm} {P : Rs_g} (hu : P.Pairwise (fun a b => a.p < b.p)) (hn : ∀ x ∈ P, x.p ≠ h.p) : (insH h P).Pairwise (fun a b => a.p < b.p) := by
 induction P with
 | nil => exact List.pairwise_singleton _ _
 | cons x l ih =>
  unfold insH
  rw [List.pairwise_cons] at hu
  have hx := hn x (by simp)
  split
  ·rename_i hle
   refine List.pairwise_cons.2 ⟨fun y hy => ?_, List.pairwise_cons.2 hu⟩
   rcases List.mem_cons.1 hy with e | e
   ·rw [e]; omega
   ·have := hu.1 y e; omega
  ·rename_i hle
   refine List.pairwise_cons.2 ⟨fun y hy => ?_, ih hu.2 (fun y hy => hn y (by simp [hy]))⟩
   rcases insH_mem.1 hy with e | e
   ·rw [e]; omega
   ·exact hu.1 y e
theorem Rs_g.Ok.hold {n : Nat} {P P' : Rs_g} {p E : Int} {ms : List Int} (h : Rs_g.Ok n P) (hq : Rs_g.hold n P p ms = (E, P')) : Rs_g.Ok n P' := by
 unfold Rs_g.hold at hq
 split at hq
 ·injection hq with _ e; rw [<- e]; exact h
 ·rename_i hm
  split at hq
  ·injection hq with _ e; rw [<- e]; exact h
  ·rename_i hh
   injection hq with _ e
   rw [<- e]
   refine ⟨insH_up h.up (fun x hx e => hh (Rs_g.has_iff.2 ⟨x, hx, e⟩)), fun x hx => ?_⟩
   rcases insH_mem.1 hx with e | e
   ·rw [e]; simpa using hm
   ·exact h.ms x e
theorem Rs_g.Ok.filter {n : Nat} {P : Rs_g} (h : Rs_g.Ok n P) (f : Hm -> Bool) : Rs_g.Ok n (P.filter f) := ⟨h.up.filter f, fun x hx => h.ms x (List.mem_filter.1 hx).1⟩
theorem Rs_g.Ok.one {n : Nat} {P : Rs_g} (h : Rs_g.Ok n P) {x y : Hm} (hx : x ∈ P) (hy : y ∈ P) (he : x.p = y.p) : x = y := by
 have key : ∀ (P : Rs_g), P.Pairwise (fun a b => a.p < b.p) -> x ∈ P -> y ∈ P -> x = y := by
  intro P
  induction P with
  | nil => intro _ hx; cases hx
  | cons z l ih =>
   intro hu hx hy
   rw [List.pairwise_cons] at hu
   rcases List.mem_cons.1 hx with e1 | e1 <;> rcases List.mem_cons.1 hy with e2 | e2
   ·rw [e1, e2]
   ·have := hu.1 y e2; rw [e1] at he; omega
   ·have := hu.1 x e1; rw [e2] at he; omega
   ·exact ih hu.2 e1 e2
 exact key P h.up hx hy
theorem up_perm : ∀ (a b : List Int), a.Pairwise (· < ·) -> b.Pairwise (· < ·) -> a.Perm b -> a = b := by
 intro a
 induction a with
 | nil => intro b _ _ h; exact h.symm.eq_nil.symm
 | cons x a ih =>
  intro b ha hb h
  cases b with
  | nil => exact absurd h.eq_nil (by simp)
  | cons y b =>
   rw [List.pairwise_cons] at ha hb
   have hxy : x = y := by
    have h1 : x ∈ y :: b := h.mem_iff.1 (by simp)
    have h2 : y ∈ x :: a := h.mem_iff.2 (by simp)
    rcases List.mem_cons.1 h1 with e | e
    ·exact e
    ·rcases List.mem_cons.1 h2 with e2 | e2
     ·exact e2.symm
     ·have := hb.1 x e; have := ha.1 y e2; omega
   subst hxy
   rw [ih b ha.2 hb.2 (List.Perm.cons_inv h)]
theorem Rs_g.Ok.holders_up {n : Nat} {P : Rs_g} (h : Rs_g.Ok n P) (m : Int) : (P.holders m).Pairwise (· < ·) := by
 unfold Rs_g.holders
 rw [List.pairwise_map]
 exact h.up.filter _
theorem filter_out (P : Rs_g) (ps : List Int) (p : Int) : (P.filter (outP ps)).filter (fun h => !decide (h.p = p)) = P.filter (outP (ps ++ [p])) := by
 rw [List.filter_filter]
 congr 1
 funext h
 unfold outP
 rw [Bool.eq_iff_iff]
 simp
 constructor
 ·rintro ⟨h1, h2⟩; exact ⟨h2, h1⟩
 ·rintro ⟨h1, h2⟩; exact ⟨h2, h1⟩
def cntH (n : Nat) (P : Rs_g) (x : Int) : Int × Int := if inM n x = true then ((P.holders x).length, 0) else (0, 2)
abbrev Ft := Nat -> Prop
structure Nx (w w' : World) (F F' : Ft) : Prop where
 chg : Chg w w' F
 new : ∀ k, F' k -> F k ∨ w.heap.size <= k
def Apt (F G : Ft) : Prop := ∀ k, F k -> ¬ G k
def Lies (w : World) (F : Ft) : Prop := ∀ k, F k -> k < w.heap.size
def Since (w0 : World) (F : Ft) : Prop := ∀ k, F k -> w0.heap.size <= k
section
variable {w0 w w' w'' : World} {F F' F'' G G' : Ft}
theorem Nx.trans (h : Nx w w' F F') (g : Nx w' w'' F' F'') : Nx w w'' F F'' :=
 ⟨h.chg.trans g.chg (fun k hk e => (h.new k e).elim id (fun q => by omega)), fun k hk => (g.new k hk).elim (fun q => h.new k q) (fun q => .inr (Nat.le_trans h.chg.size q))⟩
theorem Nx.below (hb : Below w.heap.size w w') : Nx w w' F F := ⟨Chg.of_below hb, fun k hk => .inl hk⟩
theorem Nx.refl (w : World) (F : Ft) : Nx w w F F := Nx.below (Below.refl _ _)
theorem Apt.symm (h : Apt F G) : Apt G F := fun k hg hf => h k hf hg
theorem Apt.next (h : Apt F G) (hG : Lies w G) (hn : Nx w w' F F') : Apt F' G := fun k hf hg => (hn.new k hf).elim (fun q => h k q hg) (fun q => by have := hG k hg; omega)
theorem Lies.chg {S : Ft} (h : Lies w F) (hc : Chg w w' S) : Lies w' F := fun k hk => Nat.lt_of_lt_of_le (h k hk) hc.size
theorem Since.next (h : Since w0 F) (hw : w0.heap.size <= w.heap.size) (hn : Nx w w' F F') : Since w0 F' := fun k hk => (hn.new k hk).elim (fun q => h k q) (fun q => by omega)
theorem Since.be (h : Since w0 F) (hb : Below w0.heap.size w0 w) (hn : Nx w w' F F') : Below w0.heap.size w0 w' := hb.trans (hn.chg.below (fun k e => h k e) hb.size)
def ftV (u : Value) : Ft := fun k => u.ownBlock = some k
theorem own_keeps {B : Nat} {e : TypeId} {z : Nat} {u : Value} {n : Nat} {xs : List Value} (h : w.ownsRow B e z u n xs) (hn : Chg w w' F) (ha : Apt F (ftV u)) : w'.ownsRow B e z u n xs := own_chg h hn (fun k hk e => ha k e hk)
theorem own_lies {B : Nat} {e : TypeId} {z : Nat} {u : Value} {n : Nat} {xs : List Value} (h : w.ownsRow B e z u n xs) : Lies w (ftV u) := fun k hk => (h.lt k hk).2
theorem own_since {B : Nat} {e : TypeId} {z : Nat} {u : Value} {n : Nat} {xs : List Value} (h : w.ownsRow B e z u n xs) (hB : w0.heap.size <= B) : Since w0 (ftV u) := fun k hk => Nat.le_trans hB (h.lt k hk).1
end
abbrev iC (xs : List Int) : List Value := xs.map (Value.int .i64)
structure Ec (w : World) (b g : Nat) (c : Ck) : Prop where
 hp : Hp w b 80 [.int .i64 c.now, .slice (some ⟨g, 0, none⟩) c.ins.length c.ins.length]
 row : Hp w g 3 (iC c.ins)
def ftE (b g : Nat) : Ft := fun k => k = b ∨ k = g
section
variable {w w' : World} {b g : Nat} {c : Ck}
theorem Ec.below (h : Ec w b g c) (hb : Below w.heap.size w w') : Ec w' b g c := ⟨h.hp.below hb h.hp.lt, h.row.below hb h.row.lt⟩
theorem Ec.chg {S : Nat -> Prop} (h : Ec w b g c) (hc : Chg w w' S) (ha : Apt S (ftE b g)) : Ec w' b g c := ⟨h.hp.chg hc (fun e => ha b e (.inl rfl)), h.row.chg hc (fun e => ha g e (.inr rfl))⟩
theorem Ec.apart (h : Ec w b g c) : b ≠ g := hp_type h.hp h.row (by decide)
theorem Ec.lies (h : Ec w b g c) : Lies w (ftE b g) := fun k hk => by rcases hk with e | e <;> rw [e]; exact h.hp.lt; exact h.row.lt
theorem Ec.low (h : Ec w b g c) : w.cell? ⟨b, 0, none⟩ = some (.int .i64 c.now) /\ w.cell? ⟨b, 1, none⟩ = some (.slice (some ⟨g, 0, none⟩) c.ins.length c.ins.length) := ⟨h.hp.cell rfl, h.hp.cell rfl⟩
theorem Ec.at (h : Ec w b g c) {k : Nat} (hk : k < c.ins.length) : w.cell? ⟨g, k, none⟩ = some (.int .i64 (c.ins.getD k 0)) := h.row.cell (by simp [iC, List.getD, hk])
theorem Ec.put (h : Ec w b g c) (k : Nat) (y : Int) : Ec (w.setCell ⟨g, k, none⟩ (.int .i64 y)) b g ⟨c.now, c.ins.set k y⟩ := by
 refine ⟨?_, ?_⟩
 ·have := h.hp.far (i := k) (v := .int .i64 y) h.apart
  simp only [List.length_set]
  exact this
 ·have := h.row.set k (.int .i64 y)
  rw [<- List.map_set] at this
  exact this
theorem madeE (n : Nat) (hn : n <= 4) : madeCells (Value.int .i64 0).cells (Int.toNat n * 1) = (iC (List.replicate n 0)).toArray := by
 have e0 : madeCells (Value.int .i64 0).cells (Int.toNat 0 * 1) = (iC (List.replicate 0 0)).toArray := by kernel_rfl
 have e1 : madeCells (Value.int .i64 0).cells (Int.toNat 1 * 1) = (iC (List.replicate 1 0)).toArray := by kernel_rfl
 have e2 : madeCells (Value.int .i64 0).cells (Int.toNat 2 * 1) = (iC (List.replicate 2 0)).toArray := by kernel_rfl
 have e3 : madeCells (Value.int .i64 0).cells (Int.toNat 3 * 1) = (iC (List.replicate 3 0)).toArray := by kernel_rfl
 have e4 : madeCells (Value.int .i64 0).cells (Int.toNat 4 * 1) = (iC (List.replicate 4 0)).toArray := by kernel_rfl
 have h5 : n = 0 ∨ n = 1 ∨ n = 2 ∨ n = 3 ∨ n = 4 := by omega
 rcases h5 with rfl | rfl | rfl | rfl | rfl
 ·exact e0
 ·exact e1
 ·exact e2
 ·exact e3
 ·exact e4
theorem run_makeE (n : Nat) (hn : n <= 4) (w : World) : (Instr.makeSlice 32 (.int .i64 n) (.int .i64 n)).run Tryz.prog w = .ok (.slice (some ⟨w.heap.size, 0, none⟩) n n) (w.alloc (.cells (iC (List.replicate n 0)).toArray 3)) := by
 have hi : ∃ i, Tryz.prog.info? 3 = some i /\ i.size = 1 /\ i.zero = some (.int .i64 0) /\ i.bytes = 8 := ⟨_, rfl, rfl, rfl, rfl⟩
 obtain ⟨i, h1, h2, h3, h4⟩ := hi
 have := run_make (P := Tryz.prog) w 32 3 i _ Tryz.underlying32 h1 h3 .i64 .i64 n n (by omega) (Int.le_refl _) (by rw [h4]; omega) (by omega)
 rw [h2] at this
 have e := madeE n hn
 rw [e] at this
 exact this
theorem lnew_ok (n : Nat) (h1 : 1 <= n) (h2 : n <= 4) (w : World) : Calls Tryz.prog 21 #[.int .i64 n] w fun e w' => e = .returned (.tuple #[.pointer (some ⟨w.heap.size + 1, 0, none⟩), .int .i64 0]) /\ Ec w' (w.heap.size + 1) w.heap.size (Ck.new n) /\ Since w (ftE (w.heap.size + 1) w.heap.size) /\ Below w.heap.size w w' := by
 have h1I : ¬ (n : Int) < 1 := by omega
 have h2I : ¬ (4 : Int) < n := by omega
 have hmk := run_makeE n h2 w
 obtain ⟨W1, HW1, HP1, HB1, HZ1⟩ : ∃ W1, Hid (w.alloc (.cells (iC (List.replicate n 0)).toArray 3) = W1) /\ Hid (Hp W1 w.heap.size 3 (iC (List.replicate n 0))) /\ Below w.heap.size w W1 /\ Hid (W1.heap.size = w.heap.size + 1) := ⟨_, rfl, Hp.new w _ _, below_allocG _ _, by show _ = _; simp⟩
 rw [HW1.out] at hmk
 go_enter Tryz.func21, Tryz.ntmps21
 go_wp2
 go_ret2
 refine ⟨by simp only [HZ1.out]; rfl, ⟨by have := Hp.new W1 [.int .i64 1, .slice (some ⟨w.heap.size, 0, none⟩) n n] 80; rw [HZ1.out] at this; simp only [Ck.new, List.length_replicate]; exact this, HP1.out.alloc _⟩, fun k hk => ?_, HB1.alloc HB1.size _⟩
 rcases hk with e | e <;> omega
theorem lhas (h : Ec w b g c) (x : Int) {r : Bool} (HR : Hid (c.has x = r)) : Calls Tryz.prog 38 #[.pointer (some ⟨b, 0, none⟩), .int .i64 x] w fun e w' => e = .returned (.bool r) /\ w = w' := by
 obtain ⟨c0, c1⟩ := h.low
 have hr := HR.out
 clear h
 by_cases h0 : 0 <= x
 ·have h0d : decide (0 <= x) = true := by simpa using h0
  have : r = decide (x < c.ins.length) := by rw [<- hr]; simp [Ck.has, h0]
  subst this
  clear HR hr
  go_enter Tryz.func38, Tryz.ntmps38
  go_wp2
  go_ret
  exact ⟨rfl, rfl⟩
 ·have h0d : decide (0 <= x) = false := by simpa using h0
  have : r = false := by rw [<- hr]; simp [Ck.has, h0]
  subst this
  clear HR hr
  go_enter Tryz.func38, Tryz.ntmps38
  go_wp2
  go_ret
  exact ⟨rfl, rfl⟩
theorem ladvance (h : Ec w b g c) (h0 : 0 <= c.now) (hl : c.now <= 1000000000000000000) : Calls Tryz.prog 27 #[.pointer (some ⟨b, 0, none⟩)] w fun e w' => e = .returned (.int .i64 (c.now + 1)) /\ Ec w' b g c.go /\ Chg w w' (ftE b g) := by
 obtain ⟨c0, c1⟩ := h.low
 have f0 := h.hp.frozen 0
 have hw1 : IntKind.i64.wrap (c.now + 1) = c.now + 1 := by rw [IntKind.wrap_i64]; omega
 have HE := keepG h
 clear h
 obtain ⟨nw, ins⟩ := c
 simp only at *
 go_enter Tryz.func27, Tryz.ntmps27
 go_wp2
 go_ret
 exact ⟨rfl, ⟨HE.out.hp.set 0 _, HE.out.row.far (fun e => HE.out.apart e.symm)⟩, (Chg.set w b 0 _).mono (fun k e => .inl e)⟩
theorem lin (h : Ec w b g c) (x : Int) {y : Int} {r : Bool} (HY : Hid (c.at x = y)) (HR : Hid ((y != 0) = r)) : Calls Tryz.prog 15 #[.pointer (some ⟨b, 0, none⟩), .int .i64 x] w fun e w' => e = .returned (.tuple #[.int .i64 y, .bool r]) /\ w = w' := by
 obtain ⟨c0, c1⟩ := h.low
 have HE := keepG h
 cases hh : c.has x with
 | false =>
  have hy := Ck.at_no hh
  rw [HY.out] at hy
  subst hy
  have hr : r = false := by rw [<- HR.out]; rfl
  subst hr
  have HH := keepG hh
  clear h hh HY HR
  go_enter Tryz.func15, Tryz.ntmps15
  go_wp2_with (go_at_call 38; go_must (refine (lhas HE.out x HH).mono ?_); rintro e w1 ⟨rfl, rfl⟩)
  go_ret2
  exact ⟨rfl, rfl⟩
 | true =>
  obtain ⟨k, rfl, hk⟩ := Ck.has_nat hh
  have ck := h.at hk
  rw [<- Ck.at_nat, HY.out] at ck
  have HH := keepG hh
  have hkI : (k : Int) < c.ins.length := by omega
  clear h hh HY
  by_cases hy : y = 0
  ·subst hy
   have hr : r = false := by rw [<- HR.out]; rfl
   subst hr
   clear HR
   go_enter Tryz.func15, Tryz.ntmps15
   go_wp2_with (go_at_call 38; go_must (refine (lhas HE.out _ HH).mono ?_); rintro e w1 ⟨rfl, rfl⟩)
   go_ret2
   exact ⟨rfl, rfl⟩
  ·have hr : r = true := by rw [<- HR.out]; simpa using hy
   subst hr
   have hyb : (y == 0) = false := by simpa using hy
   clear HR
   go_enter Tryz.func15, Tryz.ntmps15
   go_wp2_with (go_at_call 38; go_must (refine (lhas HE.out _ HH).mono ?_); rintro e w1 ⟨rfl, rfl⟩)
   go_ret2
   exact ⟨rfl, rfl⟩
end
theorem infoIntN : (Tryz.prog.info? 3).map (fun i => (i.zero, i.size, i.bytes)) = some (some (.int .i64 0), 1, 8) := by kernel_rfl
def RoN (w : World) (B : Nat) (u : Value) (Y : List Int) : Prop := w.ownsRow B 3 1 u Y.length (Y.map (Value.int .i64))
section
variable {w w' : World} {B : Nat} {u : Value} {Y : List Int}
theorem RoN.cells (h : RoN w B u Y) (hn : 0 < Y.length) : ∃ p cap, u = .slice (some ⟨p, 0, none⟩) Y.length cap /\ B <= p /\ p < w.heap.size /\ Y.length <= cap /\ cap <= 9223372036854775807 /\ (∀ k, k < Y.length -> w.cell? ⟨p, k, none⟩ = some (.int .i64 (Y.getD k 0)) /\ w.frozen? ⟨p, k, none⟩ = false) /\ ∀ (k : Nat) (y : Int), RoN (w.setCell ⟨p, k, none⟩ (.int .i64 y)) B (.slice (some ⟨p, 0, none⟩) Y.length cap) (Y.set k y) := by
 have h0 := h
 unfold RoN at h0
 obtain ⟨p, cap, e, h1, h2, h3, h4, h5⟩ := own_open h hn
 subst e
 unfold maxLen at h4
 refine ⟨p, cap, rfl, h1, h2, h3, by omega, fun k hk => ⟨h5 k _ (by simp [List.getD, hk]), h0.frozenAt _⟩, fun k y => ?_⟩
 have := (h0.stored k (.int .i64 y)).1
 unfold RoN
 rw [List.length_set, List.map_set]
 exact this
theorem RoN.below (h : RoN w B u Y) (hb : Below w.heap.size w w') : RoN w' B u Y := own_below h hb (Nat.le_refl _)
theorem RoN.nil (w : World) (B : Nat) : RoN w B (.slice none 0 0) [] := World.ownsRow_nil _ _ _ _
theorem RoN.more {w0 w1 : World} {v' : Value} {o : Obj} {x : Int} (h : RoN w B u Y) (hb : Below B w0 w) (hB : B <= w0.heap.size) (hown' : w1.ownsRow B 3 1 v' (Y.length + 1) (Y.map (Value.int .i64) ++ [Value.int .i64 x])) (hgrow : (w.alloc o).grownBy w1 u.ownBlock) : RoN w1 B v' (Y ++ [x]) /\ Below B w0 w1 := by
 have hs := hb.size
 refine ⟨by unfold RoN; simpa using hown', (hb.alloc (by omega) o).grown hgrow (by simp; omega) (fun k hk => (h.lt k hk).1)⟩
end
def upd {α : Type} (F : Nat -> α) (i : Nat) (G : α) : Nat -> α := fun j => if j = i then G else F j
theorem upd_same {α : Type} (F : Nat -> α) (i : Nat) (G : α) : upd F i G i = G := by unfold upd; rw [if_pos rfl]
theorem upd_other {α : Type} (F : Nat -> α) {i j : Nat} (G : α) (h : j ≠ i) : upd F i G j = F j := by unfold upd; rw [if_neg h]
def unF (n : Nat) (F : Nat -> Ft) : Ft := fun k => ∃ i, i < n /\ F i k
structure Fam (P : World -> Nat -> Ft -> Prop) (w : World) (n : Nat) (F : Nat -> Ft) : Prop where
 ob : ∀ i, i < n -> P w i (F i)
 li : ∀ i, i < n -> Lies w (F i)
 ap : ∀ i j, i < n -> j < n -> i ≠ j -> Apt (F i) (F j)
section
variable {P P' : World -> Nat -> Ft -> Prop} {w w' : World} {n i : Nat} {F : Nat -> Ft} {G : Ft}
theorem Fam.step (h : Fam P w n F) (hi : i < n) (hn : Nx w w' (F i) G) (hG : Lies w' G) (hP : P' w' i G) (hk : ∀ j, j < n -> j ≠ i -> P w j (F j) -> Apt (F i) (F j) -> P' w' j (F j)) : Fam P' w' n (upd F i G) := by
 refine ⟨fun j hj => ?_, fun j hj => ?_, fun j k hj hk' hne => ?_⟩
 ·by_cases e : j = i
  ·subst e; rw [upd_same]; exact hP
  ·rw [upd_other F G e]; exact hk j hj e (h.ob j hj) (h.ap i j hi hj (fun e' => e e'.symm))
 ·by_cases e : j = i
  ·subst e; rw [upd_same]; exact hG
  ·rw [upd_other F G e]; exact (h.li j hj).chg hn.chg
 ·by_cases e : j = i
  ·subst e
   rw [upd_same, upd_other F G (fun e => hne e.symm)]
   exact (h.ap j k hj hk' hne).next (h.li k hk') hn
  ·rw [upd_other F G e]
   by_cases e2 : k = i
   ·subst e2
    rw [upd_same]
    exact ((h.ap k j hk' hj (fun e => hne e.symm)).next (h.li j hj) hn).symm
   ·rw [upd_other F G e2]; exact h.ap j k hj hk' hne
theorem Fam.keeps (h : Fam P w n F) {S : Ft} (hc : Chg w w' S) (hk : ∀ j, j < n -> P w j (F j) -> P' w' j (F j)) : Fam P' w' n F := ⟨fun j hj => hk j hj (h.ob j hj), fun j hj => (h.li j hj).chg hc, h.ap⟩
theorem Nx.fam (hi : i < n) (hn : Nx w w' (F i) G) : Nx w w' (unF n F) (unF n (upd F i G)) := by
 refine ⟨hn.chg.mono (fun k hk => ⟨i, hi, hk⟩), fun k hk => ?_⟩
 obtain ⟨j, hj, hk⟩ := hk
 by_cases e : j = i
 ·subst e
  rw [upd_same] at hk
  rcases hn.new k hk with g | g
  ·exact .inl ⟨j, hj, g⟩
  ·exact .inr g
 ·rw [upd_other F G e] at hk
  exact .inl ⟨j, hj, hk⟩
end
theorem weights_eachW {H : Type} {P : Program} {e : TypeId} {f : Nat -> Bool} : ∀ (l : List (DataW H)) {i : Nat} {y : DataW H}, l[i]? = some y -> (DataW.weightsAll P e l).all f = true -> (DataW.weights P e y).all f = true
 | [], i, y, h, _ => by simp at h
 | d :: r, 0, y, h, ha => by
  simp only [List.getElem?_cons_zero, Option.some.injEq] at h
  subst h
  rw [DataW.weightsAll, List.all_append, Bool.and_eq_true] at ha
  exact ha.1
 | d :: r, i + 1, y, h, ha => by
  rw [DataW.weightsAll, List.all_append, Bool.and_eq_true] at ha
  exact weights_eachW r (by simpa using h) ha.2
theorem opensGS {α : Type} {f : α -> List Value} {z : Nat} (nil : α) {R Q : α -> Prop} {t te : TypeId} {bytes : Nat} (hu : Tryz.prog.underlying t = some (.slice te)) (hz : Tryz.prog.cellsOf te = z) (hz0 : 0 < z) (hfl : ∀ x, (f x).length = z) (hby : Tryz.prog.bytesOf te = bytes)
  {H : Type} {enc : TypeId × Value -> H} {W : World} {v : Value} {d : DataW H} {p : List MemPlace}
  (hone : ∀ {fuel : Nat} {cs : List Value} {x : DataW H × List MemPlace}, DataW.trod enc Tryz.prog W 0 (fun _ => true) true fuel te cs = some x -> ∃ a : α, cs = f a /\ R a /\ ((x.1.weights Tryz.prog te).all (· <= reachBytes) = true -> Q a))
  (hsh : ∃ a len cap, v = .slice a len cap) (h : DataW.Trod enc Tryz.prog W 0 (fun _ => true) true t v d p) :
  ∃ xs, SeesG f z nil W v xs /\ (∀ x ∈ xs, R x) /\ ((d.weights Tryz.prog t).all (· <= reachBytes) = true -> xs.length * bytes <= 140737488351232 /\ ∀ x ∈ xs, Q x) := by
 obtain ⟨a, len, cap, rfl⟩ := hsh
 obtain ⟨fuel, hf⟩ := h
 rcases DataW.trod_slice hu hf with ⟨hcs, hx⟩ | ⟨x, l, c, elems, rest, n, rfl, hcs, hx, _, hl, hm, hlen, hel, hsp, _⟩
 ·simp [Value.cells] at hcs hx
  obtain ⟨rfl, rfl, rfl⟩ := hcs
  obtain ⟨rfl, rfl⟩ := hx
  exact ⟨[], SeesG.nil nil W, by simp, fun _ => ⟨by simp, by simp⟩⟩
 ·simp [Value.cells] at hcs hx
  obtain ⟨rfl, rfl, rfl⟩ := hcs
  obtain ⟨rfl, rfl⟩ := hx
  have hex : ∀ i : Nat, ∃ I : α, i < len -> (R I /\ ∃ y, elems[i]? = some y /\ ((y.1.weights Tryz.prog te).all (· <= reachBytes) = true -> Q I)) /\ (∀ j, j < z -> W.cell? ((x.add (i * z)).add j) = (f I)[j]?) := by
   intro i
   by_cases hi : i < len
   ·have h1 := hel i hi
    have hie : i < elems.length := by omega
    rw [hz, List.getElem?_eq_getElem hie, Option.bind_eq_some_iff] at h1
    obtain ⟨cs, hc1, hc2⟩ := h1
    obtain ⟨I, rfl, hw, hb⟩ := hone hc2
    exact ⟨I, fun _ => ⟨⟨hw, _, List.getElem?_eq_getElem hie, hb⟩, (World.cells?_some hc1).2.2⟩⟩
   ·exact ⟨nil, fun h => absurd h hi⟩
  obtain ⟨g, hg⟩ := Classical.axiomOfChoice hex
  have hxl : ((List.range len).map g).length = len := by simp
  have hgd : ∀ k, k < len -> ((List.range len).map g).getD k nil = g k := fun k hk => by simp [List.getD, hk]
  refine ⟨(List.range len).map g, ⟨some x, cap, by rw [hxl], by omega, hm, fun h => by simp at h, fun hne => ?_⟩, ?_, ?_⟩
  ·have hpos : 0 < len := by
    rcases Nat.eq_zero_or_pos len with h0 | h0
    ·subst h0; exact absurd rfl hne
    ·exact h0
   obtain ⟨b, off, spot⟩ := x
   have h00 := (hg 0 hpos).2 0 hz0
   obtain ⟨u, hu0⟩ : ∃ u, (f (g 0))[0]? = some u := ⟨_, List.getElem?_eq_getElem (by rw [hfl]; exact hz0)⟩
   rw [hu0] at h00
   have hspot : spot = none := by
    have := World.cell?_spot h00
    simpa [Addr.add] using this
   subst hspot
   refine ⟨b, off, rfl, ?_, fun k hk j hj => ?_⟩
   ·have := World.block_lt_of_cell? W _ h00
    simpa [Addr.add] using this
   ·rw [hxl] at hk
    rw [hgd k hk]
    have h5 := (hg k hk).2
    simp only [Addr.add_mid] at h5
    exact h5 j hj
  ·intro i hi
   simp only [List.mem_map, List.mem_range] at hi
   obtain ⟨k, hk, rfl⟩ := hi
   exact (hg k hk).1.1
  ·intro hall
   refine ⟨?_, ?_⟩
   rotate_left
   ·intro i hi
    simp only [List.mem_map, List.mem_range] at hi
    obtain ⟨k, hk, rfl⟩ := hi
    obtain ⟨⟨_, y, hy, hb⟩, _⟩ := hg k hk
    refine hb ?_
    rw [DataW.weights, hu] at hall
    simp only [List.all_cons, List.all_append, Bool.and_eq_true] at hall
    exact weights_eachW (elems.map (·.1)) (i := k) (by rw [List.getElem?_map, hy]; rfl) hall.2.1
   rw [DataW.weights, hu] at hall
   simp only [List.all_cons, Bool.and_eq_true, decide_eq_true_eq, List.length_map, hby] at hall
   have h1 := hall.1
   unfold reachBytes at h1
   rw [hxl, show len = elems.length by omega]
   exact Nat.le_trans (Nat.mul_le_mul_right _ (Nat.le_add_right _ _)) h1
theorem opensGW {α : Type} {f : α -> List Value} {z : Nat} (nil : α) {R Q : α -> Prop} {t te : TypeId} {bytes : Nat} (hu : Tryz.prog.underlying t = some (.slice te)) (hz : Tryz.prog.cellsOf te = z) (hz0 : 0 < z) (hfl : ∀ x, (f x).length = z) (hby : Tryz.prog.bytesOf te = bytes)
  {H : Type} {enc : TypeId × Value -> H} {W : World} {base : Nat} {v : Value} {d : DataW H} {p : List MemPlace}
  (hone : ∀ {fuel : Nat} {cs : List Value} {x : DataW H × List MemPlace}, DataW.trod enc Tryz.prog W 0 (fun _ => true) true fuel te cs = some x -> ∃ a : α, cs = f a /\ R a /\ ((x.1.weights Tryz.prog te).all (· <= reachBytes) = true -> Q a))
  (hok : Value.okWide Tryz.prog W .any base t v) (h : DataW.Trod enc Tryz.prog W 0 (fun _ => true) true t v d p) :
  ∃ xs, SeesG f z nil W v xs /\ (∀ x ∈ xs, R x) /\ ((d.weights Tryz.prog t).all (· <= reachBytes) = true -> xs.length * bytes <= 140737488351232 /\ ∀ x ∈ xs, Q x) :=
 opensGS nil hu hz hz0 hfl hby hone (okWide_slice hu hok) h
end Go.Proofs.YtlkdniglaldilaaGreat
