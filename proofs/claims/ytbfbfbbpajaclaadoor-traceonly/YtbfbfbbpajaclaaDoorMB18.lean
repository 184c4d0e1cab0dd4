/-
  S10Book
  KGx
  KGOpenW
-/
import Derived.Test.YtbfbfbbpajaclaaDoorMB17
import Derived.Test.YtbfbfbbpajaclaaDoorMB16
import Derived.Maps.AppendAt
import Derived.Deep.RegionHeldLaw
import Derived.Laws.OwnMore
import Derived.Deep.MidRow
import Derived.ProofKit
/-
  The document's book of what was asked: its methods. Condition: the book lies where the pointer says, its row is the call's own.
-/
namespace Go.Proofs.YtbfbfbbpajaclaaDoor
open Go.RowKit
set_option linter.unusedVariables false
set_option linter.unusedSimpArgs false
set_option maxRecDepth 100000

def akC (a : Ak) : List Value := [.int .i64 a.k, .int .i64 a.a, .int .u64 a.n]
def flatA (ks : List Ak) : List Value := ks.flatMap akC
theorem flatA_app (ks : List Ak) (a : Ak) : flatA (ks ++ [a]) = flatA ks ++ akC a := by simp [flatA]
theorem flatA_at : ∀ (ks : List Ak) {k j : Nat}, k < ks.length → j < 3 → (flatA ks)[k * 3 + j]? = (akC (ks.getD k Ak.nil))[j]? := by
  intro ks
  induction ks with
  | nil => intro k j h; simp at h
  | cons x l ih =>
    intro k j hk hj
    have hx : (akC x).length = 3 := rfl
    unfold flatA at ih ⊢
    cases k with
    | zero =>
      simp only [List.flatMap_cons, Nat.zero_mul, Nat.zero_add]
      rw [List.getElem?_append_left (by omega)]
      rfl
    | succ k =>
      simp only [List.flatMap_cons]
      rw [show (k + 1) * 3 + j = (akC x).length + (k * 3 + j) by rw [hx, Nat.succ_mul]; omega, List.getElem?_append_right (by omega), show (akC x).length + (k * 3 + j) - (akC x).length = k * 3 + j by omega]
      rw [ih (by simpa using hk) hj]
      simp
theorem own_type10 {w : World} {B : Nat} {e e' : TypeId} {z : Nat} {v : Value} {n : Nat} {xs : List Value} (h : w.ownsRow B e z v n xs) {b : Nat} {cs : List Value} (hb : Hp w b e' cs) (hne : e ≠ e') : v.ownBlock ≠ some b := by
  rcases h with ⟨_, ⟨rfl, rfl⟩ | ⟨g, cap, cur, rfl, _, hh, _⟩⟩
  · simp [Value.ownBlock]
  · intro e3
    simp [Value.ownBlock] at e3
    subst e3
    unfold Hp at hb
    rw [hh] at hb
    injection hb with h1
    injection h1 with _ h2
    exact hne h2
theorem hp_type {w : World} {b b' : Nat} {e e' : TypeId} {cs cs' : List Value} (h : Hp w b e cs) (h' : Hp w b' e' cs') (hne : e ≠ e') : b ≠ b' := by
  intro e3
  subst e3
  unfold Hp at h h'
  rw [h] at h'
  injection h' with h1
  injection h1 with _ h2
  exact hne h2
/-- What may have changed. -/
structure Chg (w w' : World) (S : Nat → Prop) : Prop where
  os : w'.os = w.os
  tape : w'.tape = w.tape
  output : w'.output = w.output
  size : w.heap.size ≤ w'.heap.size
  block : ∀ k, k < w.heap.size → ¬ S k → w'.heap[k]? = w.heap[k]?
theorem Chg.trans {w w1 w2 : World} {S T : Nat → Prop} (h : Chg w w1 S) (g : Chg w1 w2 T) (hT : ∀ k, k < w.heap.size → T k → S k) : Chg w w2 S :=
  ⟨g.os.trans h.os, g.tape.trans h.tape, g.output.trans h.output, Nat.le_trans h.size g.size, fun k hk hs => (g.block k (Nat.lt_of_lt_of_le hk h.size) (fun e => hs (hT k hk e))).trans (h.block k hk hs)⟩
theorem Chg.of_grown {w w' : World} {b : Nat} {S : Nat → Prop} (h : w.grownBy w' (some b)) (hS : S b) : Chg w w' S :=
  ⟨h.os, h.tape, h.output, h.size, fun k hk hs => h.block k hk (fun e => by injection e with e; exact hs (e ▸ hS))⟩
theorem Chg.of_grown' {w w' : World} {r : Option Nat} {S : Nat → Prop} (h : w.grownBy w' r) (hS : ∀ b, r = some b → S b) : Chg w w' S :=
  ⟨h.os, h.tape, h.output, h.size, fun k hk hs => h.block k hk (fun e => hs (hS k e.symm))⟩
theorem Chg.of_below {w w' : World} {S : Nat → Prop} (h : Below w.heap.size w w') : Chg w w' S :=
  ⟨h.os, h.tape, h.output, h.size, fun k hk _ => h.block k hk⟩
theorem Chg.refl (w : World) (S : Nat → Prop) : Chg w w S := ⟨rfl, rfl, rfl, Nat.le_refl _, fun _ _ _ => rfl⟩
theorem Chg.drewN {w w' : World} {S : Nat → Prop} (h : Chg w w' S) (n : Nat) : Chg w (w'.drewN n) S := ⟨h.os, h.tape, h.output, h.size, h.block⟩
theorem Chg.mono {w w' : World} {S T : Nat → Prop} (h : Chg w w' S) (hT : ∀ k, S k → T k) : Chg w w' T := ⟨h.os, h.tape, h.output, h.size, fun k hk hs => h.block k hk (fun e => hs (hT k e))⟩
theorem Chg.below {w w' : World} {S : Nat → Prop} {B : Nat} (h : Chg w w' S) (hS : ∀ k, S k → B ≤ k) (hB : B ≤ w.heap.size) : Below B w w' :=
  ⟨h.os, h.tape, h.output, h.size, fun k hk => h.block k (by omega) (fun e => by have := hS k e; omega)⟩
theorem Hp.chg {w w' : World} {b : Nat} {t : TypeId} {cs : List Value} {S : Nat → Prop} (h : Hp w b t cs) (hc : Chg w w' S) (hS : ¬ S b) : Hp w' b t cs := by
  unfold Hp; rw [hc.block b h.lt hS]; exact h
theorem own_chg {w w' : World} {B : Nat} {e : TypeId} {z : Nat} {v : Value} {n : Nat} {xs : List Value} {S : Nat → Prop} (h : w.ownsRow B e z v n xs) (hc : Chg w w' S) (hS : ∀ k, v.ownBlock = some k → ¬ S k) : w'.ownsRow B e z v n xs := by
  rcases h with ⟨h1, h2 | ⟨g, cap, cur, rfl, hg, hh, r⟩⟩
  · exact ⟨h1, .inl h2⟩
  · refine ⟨h1, .inr ⟨g, cap, cur, rfl, hg, ?_, r⟩⟩
    rw [hc.block g (Array.getElem?_eq_some_iff.1 hh).1 (hS g rfl)]
    exact hh
def bkS (c : Nat) (v : Value) (k : Nat) : Prop := k = c ∨ v.ownBlock = some k
/-- Where the row lies behind an append: where it lay, or in new memory. -/
def RowNew (w : World) (v v' : Value) : Prop := v'.ownBlock = v.ownBlock ∨ ∃ k, v'.ownBlock = some k ∧ w.heap.size ≤ k
theorem RowNew.trans {w w1 : World} {v v1 v2 : Value} (h : RowNew w v v1) (g : RowNew w1 v1 v2) (hs : w.heap.size ≤ w1.heap.size) : RowNew w v v2 := by
  rcases g with g | ⟨k, g1, g2⟩
  · rcases h with h | ⟨k, h1, h2⟩
    · exact .inl (g.trans h)
    · exact .inr ⟨k, g.trans h1, h2⟩
  · exact .inr ⟨k, g1, by omega⟩
theorem RowNew.old {w : World} {v v' : Value} (h : RowNew w v v') {c k : Nat} (hk : k < w.heap.size) (hb : bkS c v' k) : bkS c v k := by
  rcases hb with hb | hb
  · exact .inl hb
  · rcases h with h | ⟨j, h1, h2⟩
    · exact .inr (by rw [← h]; exact hb)
    · rw [h1] at hb; injection hb with hb; omega
theorem three_lit (w : World) (a : Ak) (t : TypeId) : ∀ j u, (akC a)[j]? = some u → (w.alloc (.cells #[.int .i64 a.k, .int .i64 a.a, .int .u64 a.n] t)).cell? ((⟨w.heap.size, 0, none⟩ : Addr).add j) = some u := by
  intro j u hj
  rw [add_none, Nat.zero_add, World.cell?_alloc_at _ _ _ _ rfl]
  exact (List.getElem?_toArray (xs := akC a)).trans hj
theorem three_cell (a : Ak) : ∀ u ∈ akC a, u.oneCell' = true := by
  intro u hu
  simp [akC] at hu
  rcases hu with rfl | rfl | rfl <;> rfl
theorem own_shape {w : World} {base : Nat} {e : TypeId} {z : Nat} {v : Value} {n : Nat} {xs : List Value} (h : w.ownsRow base e z v n xs) : ∃ a cap, v = .slice a n cap := by
  rcases h with ⟨h1, ⟨rfl, rfl⟩ | ⟨g, cap, cur, rfl, _⟩⟩
  · exact ⟨_, _, rfl⟩
  · exact ⟨_, _, rfl⟩
end Go.Proofs.YtbfbfbbpajaclaaDoor
/-
  What may have changed; rows of whatever records; a record written into a row. No Go text in sight.
-/
namespace Go.Proofs.YtbfbfbbpajaclaaDoor
open Go.RowKit
set_option linter.unusedVariables false
set_option linter.unusedSimpArgs false
set_option maxRecDepth 100000

theorem keepG {p : Prop} (h : p) : Hid p := h
theorem below_allocG (w : World) (o : Obj) : Below w.heap.size w (w.alloc o) := (Below.refl _ _).alloc (Nat.le_refl _) _
theorem below_drG {B : Nat} {w Z : World} (h : Below B w Z) : Below B w Z.drew := ⟨h.os, h.tape, h.output, h.size, h.block⟩
theorem below_undrG {B : Nat} {w Z : World} (h : Below B w.drew Z) : Below B w Z := ⟨h.os, h.tape, h.output, h.size, h.block⟩
theorem own_lowG {w : World} {b b' : Nat} {e : TypeId} {z : Nat} {v : Value} {n : Nat} {xs : List Value} (h : w.ownsRow b e z v n xs) (hb : b' ≤ b) : w.ownsRow b' e z v n xs := by
  rcases h with ⟨h1, h2 | ⟨g, cap, cur, hv, hg, r⟩⟩
  · exact ⟨h1, .inl h2⟩
  · exact ⟨h1, .inr ⟨g, cap, cur, hv, Nat.le_trans hb hg, r⟩⟩
theorem own_twoG {w : World} {B B' : Nat} {e e' : TypeId} {z z' : Nat} {v v' : Value} {n n' : Nat} {xs xs' : List Value} (h : w.ownsRow B e z v n xs) (h' : w.ownsRow B' e' z' v' n' xs') (hne : e ≠ e') : ∀ k, v.ownBlock = some k → v'.ownBlock ≠ some k := by
  intro k hk hk'
  rcases h with ⟨_, ⟨rfl, _⟩ | ⟨g, cap, cur, rfl, _, hh, _⟩⟩
  · cases hk
  rcases h' with ⟨_, ⟨rfl, _⟩ | ⟨g', cap', cur', rfl, _, hh', _⟩⟩
  · cases hk'
  · have e1 : g = k := Option.some.inj hk
    have e2 : g' = k := Option.some.inj hk'
    subst e1
    subst e2
    rw [hh] at hh'
    injection hh' with h1
    injection h1 with _ h2
    exact hne h2
/-- Behind an append in new memory: what may have changed. -/
theorem chg_append {w w' : World} {o : Obj} {v : Value} (hg : (w.alloc o).grownBy w' v.ownBlock) : Chg w w' (fun k => v.ownBlock = some k) :=
  (Chg.of_below (S := fun k => v.ownBlock = some k) (below_allocG w o)).trans (Chg.of_grown' hg (S := fun k => v.ownBlock = some k) (fun b hb => hb)) (fun _ _ e => e)
theorem Chg.set (w : World) (b i : Nat) (v : Value) : Chg w (w.setCell ⟨b, i, none⟩ v) (fun k => k = b) := Chg.of_grown (grown_set w b i v) rfl
theorem Chg.sets (w : World) (b i : Nat) (vs : List Value) : Chg w (w.setCells b i vs) (fun k => k = b) := Chg.of_grown (grown_sets b vs w i) rfl
/-- Records laid out. -/
def flatG {α : Type} (f : α → List Value) (xs : List α) : List Value := xs.flatMap f
section
variable {α : Type} {f : α → List Value} {z : Nat}
theorem flatG_app (xs ys : List α) : flatG f (xs ++ ys) = flatG f xs ++ flatG f ys := by simp [flatG]
theorem flatG_one (x : α) : flatG f [x] = f x := by simp [flatG]
theorem flatG_more (xs : List α) (x : α) : flatG f (xs ++ [x]) = flatG f xs ++ f x := by rw [flatG_app, flatG_one]
theorem flatG_len (hf : ∀ x, (f x).length = z) (xs : List α) : (flatG f xs).length = xs.length * z := by
  induction xs with
  | nil => simp [flatG]
  | cons x l ih =>
    have e : flatG f (x :: l) = f x ++ flatG f l := by simp [flatG]
    rw [e, List.length_append, hf, ih, List.length_cons, Nat.add_mul, Nat.one_mul, Nat.add_comm]
theorem flatG_at (hf : ∀ x, (f x).length = z) (d : α) : ∀ (xs : List α) {k j : Nat}, k < xs.length → j < z → (flatG f xs)[k * z + j]? = (f (xs.getD k d))[j]? := by
  intro xs
  induction xs with
  | nil => intro k j h; simp at h
  | cons x l ih =>
    intro k j hk hj
    have e : flatG f (x :: l) = f x ++ flatG f l := by simp [flatG]
    rw [e]
    cases k with
    | zero =>
      rw [Nat.zero_mul, Nat.zero_add, List.getElem?_append_left (by rw [hf]; exact hj)]
      rfl
    | succ k =>
      rw [show (k + 1) * z + j = (f x).length + (k * z + j) by rw [hf, Nat.add_mul, Nat.one_mul]; omega, List.getElem?_append_right (by omega), show (f x).length + (k * z + j) - (f x).length = k * z + j by omega, ih (by simpa using hk) hj]
      simp
/-- One cell of a record written. -/
theorem flatG_set (hf : ∀ x, (f x).length = z) (d : α) : ∀ (xs : List α) {k j : Nat} {x : α} {v : Value}, k < xs.length → j < z → f x = (f (xs.getD k d)).set j v → (flatG f xs).set (k * z + j) v = flatG f (xs.set k x) := by
  intro xs
  induction xs with
  | nil => intro k j x v h; simp at h
  | cons y l ih =>
    intro k j x v hk hj hx
    have e : flatG f (y :: l) = f y ++ flatG f l := by simp [flatG]
    rw [e]
    cases k with
    | zero =>
      have e2 : flatG f ((y :: l).set 0 x) = f x ++ flatG f l := by simp [flatG]
      rw [e2, Nat.zero_mul, Nat.zero_add, List.set_append_left _ _ (by rw [hf]; exact hj), hx]
      rfl
    | succ k =>
      have e2 : flatG f ((y :: l).set (k + 1) x) = f y ++ flatG f (l.set k x) := by simp [flatG]
      rw [e2, show (k + 1) * z + j = (f y).length + (k * z + j) by rw [hf, Nat.add_mul, Nat.one_mul]; omega, List.set_append_right _ _ (by omega), show (f y).length + (k * z + j) - (f y).length = k * z + j by omega, ih (by simpa using hk) hj (by rw [hx]; simp)]
/-- A slice that reads, in a world, as these records. -/
def SeesG (f : α → List Value) (z : Nat) (d : α) (w : World) (v : Value) (xs : List α) : Prop :=
  ∃ a cap, v = .slice a xs.length cap ∧ xs.length ≤ cap ∧ cap ≤ maxLen ∧ (a = none → cap = 0) ∧ (xs ≠ [] → ∃ b off, a = some ⟨b, off, none⟩ ∧ b < w.heap.size ∧ ∀ k, k < xs.length → ∀ j, j < z → w.cell? ⟨b, off + k * z + j, none⟩ = (f (xs.getD k d))[j]?)
theorem SeesG.nil (d : α) (w : World) : SeesG f z d w (.slice none 0 0) [] := ⟨none, 0, rfl, by simp, by simp [maxLen], fun _ => rfl, fun h => absurd rfl h⟩
theorem SeesG.shape {d : α} {w : World} {v : Value} {xs : List α} (h : SeesG f z d w v xs) : ∃ a cap, v = .slice a xs.length cap ∧ xs.length ≤ cap ∧ cap ≤ 9223372036854775807 := by
  obtain ⟨a, cap, rfl, h1, h2, _⟩ := h
  exact ⟨a, cap, rfl, h1, by unfold maxLen at h2; omega⟩
theorem SeesG.below {d : α} {w w' : World} {v : Value} {xs : List α} {B : Nat} (h : SeesG f z d w v xs) (hb : Below B w w') (hB : w.heap.size ≤ B) : SeesG f z d w' v xs := by
  obtain ⟨a, cap, rfl, h1, h2, h3, h4⟩ := h
  refine ⟨a, cap, rfl, h1, h2, h3, fun hne => ?_⟩
  obtain ⟨b, off, rfl, hlt, hc⟩ := h4 hne
  exact ⟨b, off, rfl, Nat.lt_of_lt_of_le hlt hb.size, fun k hk j hj => (hb.cell (p := ⟨b, off + k * z + j, none⟩) (Nat.lt_of_lt_of_le hlt hB)).trans (hc k hk j hj)⟩
theorem SeesG.alloc {d : α} {w : World} {v : Value} {xs : List α} (h : SeesG f z d w v xs) (o : Obj) : SeesG f z d (w.alloc o) v xs := h.below (below_allocG w o) (Nat.le_refl _)
theorem SeesG.drew {d : α} {w : World} {v : Value} {xs : List α} (h : SeesG f z d w v xs) : SeesG f z d w.drew v xs := h
theorem SeesG.drewN {d : α} {w : World} {v : Value} {xs : List α} (h : SeesG f z d w v xs) (n : Nat) : SeesG f z d (w.drewN n) v xs := h
theorem SeesG.chg {d : α} {w w' : World} {v : Value} {xs : List α} {S : Nat → Prop} (h : SeesG f z d w v xs) (hc : Chg w w' S) (hS : ∀ k, v.ownBlock = some k → ¬ S k) : SeesG f z d w' v xs := by
  obtain ⟨a, cap, rfl, h1, h2, h3, h4⟩ := h
  refine ⟨a, cap, rfl, h1, h2, h3, fun hne => ?_⟩
  obtain ⟨b, off, rfl, hlt, hat⟩ := h4 hne
  refine ⟨b, off, rfl, Nat.lt_of_lt_of_le hlt hc.size, fun k hk j hj => ?_⟩
  rw [← hat k hk j hj]
  exact World.cell?_of_block (hc.block b hlt (hS b rfl))
/-- What is owned reads as its records. -/
theorem own_seesG (hf : ∀ x, (f x).length = z) (d : α) {w : World} {base : Nat} {e : TypeId} {v : Value} {xs : List α} (h : w.ownsRow base e z v xs.length (flatG f xs)) : SeesG f z d w v xs := by
  have h0 := h
  rcases h with ⟨h1, ⟨rfl, h2⟩ | ⟨g, cap, cur, rfl, hb, hh, h3, h4, h5, h6⟩⟩
  · have : xs = [] := List.eq_nil_of_length_eq_zero h2
    subst this
    exact SeesG.nil d w
  · refine ⟨_, cap, rfl, h3, h4, fun h => (by cases h), fun hne => ⟨g, 0, rfl, (Array.getElem?_eq_some_iff.1 hh).1, fun k hk j hj => ?_⟩⟩
    rw [Nat.zero_add, h0.cellAt (k * z + j) ?_]
    · exact flatG_at hf d xs hk hj
    · exact Nat.lt_of_lt_of_le (Nat.add_lt_add_left hj _) (by rw [← Nat.succ_mul]; exact Nat.mul_le_mul_right _ hk)
/-- The place of a record of an own row. -/
theorem own_atG (hf : ∀ x, (f x).length = z) (d : α) {w : World} {base : Nat} {e : TypeId} {v : Value} {xs : List α} (h : w.ownsRow base e z v xs.length (flatG f xs)) (hn : 0 < xs.length) : ∃ g cap, v = .slice (some ⟨g, 0, none⟩) xs.length cap ∧ base ≤ g ∧ g < w.heap.size ∧ xs.length ≤ cap ∧ cap ≤ 9223372036854775807 ∧ ∀ k, k < xs.length → ∀ j, j < z → w.cell? ⟨g, k * z + j, none⟩ = (f (xs.getD k d))[j]? ∧ w.frozen? ⟨g, k * z + j, none⟩ = false := by
  have hs := own_seesG hf d h
  have h0 := h
  rcases h with ⟨h1, ⟨rfl, h2⟩ | ⟨g, cap, cur, rfl, hb, hh, h3, h4, h5, h6⟩⟩
  · omega
  · refine ⟨g, cap, rfl, hb, (Array.getElem?_eq_some_iff.1 hh).1, h3, by unfold maxLen at h4; omega, fun k hk j hj => ⟨?_, h0.frozenAt _⟩⟩
    obtain ⟨a, cap', e1, _, _, _, h7⟩ := hs
    obtain ⟨b, off, e2, _, hc⟩ := h7 (fun e => by rw [e] at hn; simp at hn)
    subst e2
    injection e1 with e3
    injection e3 with e3
    injection e3 with e3 e4
    subst e3
    subst e4
    have := hc k hk j hj
    rw [Nat.zero_add] at this
    exact this
/-- A record appended to an own row. -/
theorem own_moreG {w : World} {base : Nat} {e : TypeId} {v : Value} {xs : List α} {x : α} (h : w.ownsRow base e z v (xs.length + 1) (flatG f xs ++ f x)) : w.ownsRow base e z v (xs ++ [x]).length (flatG f (xs ++ [x])) := by
  rw [flatG_more, List.length_append]
  exact h
/-- One cell of a record of an own row written. -/
theorem own_setG (hf : ∀ x, (f x).length = z) (d : α) {w : World} {base g cap : Nat} {e : TypeId} {xs : List α} (h : w.ownsRow base e z (.slice (some ⟨g, 0, none⟩) xs.length cap) xs.length (flatG f xs)) {k j : Nat} {x : α} {u : Value} (hk : k < xs.length) (hj : j < z) (hx : f x = (f (xs.getD k d)).set j u) :
    (w.setCell ⟨g, k * z + j, none⟩ u).ownsRow base e z (.slice (some ⟨g, 0, none⟩) (xs.set k x).length cap) (xs.set k x).length (flatG f (xs.set k x)) := by
  have := (h.stored (k * z + j) u).1
  rw [flatG_set hf d xs hk hj hx] at this
  rw [List.length_set]
  exact this
/-- Cells that were laid in new memory. -/
theorem cells_new (w : World) (xs : List Value) (t : TypeId) (n : Nat) (hn : n = w.heap.size) : ∀ j u, xs[j]? = some u → (w.alloc (.cells xs.toArray t)).cell? ((⟨n, 0, none⟩ : Addr).add j) = some u := by
  subst hn
  intro j u hj
  rw [add_none, Nat.zero_add, World.cell?_alloc_at _ _ _ _ rfl]
  exact (List.getElem?_toArray (xs := xs)).trans hj
/-- A slice that was written out reads as its records. -/
theorem SeesG.lit (hf : ∀ x, (f x).length = z) (d : α) (w : World) (t : TypeId) (xs : List α) (cs : Array Value) (n : Nat) (hcs : cs = (flatG f xs).toArray) (hn : n = xs.length) (hm : xs.length ≤ 4194304) : SeesG f z d (w.alloc (.cells cs t)) (.slice (some ⟨w.heap.size, 0, none⟩) n n) xs := by
  subst hn hcs
  refine ⟨_, _, rfl, Nat.le_refl _, by unfold maxLen; omega, fun h => (by cases h), fun _ => ⟨w.heap.size, 0, rfl, by simp, fun k hk j hj => ?_⟩⟩
  rw [Nat.zero_add, World.cell?_alloc_at _ _ _ _ rfl, ← flatG_at hf d xs hk hj]
  exact List.getElem?_toArray
end
end Go.Proofs.YtbfbfbbpajaclaaDoor
/-
  An argument that is a slice of records, opened, whatever the record, with what the sizes say of each. No condition.
-/
namespace Go.Proofs.YtbfbfbbpajaclaaDoor
open Go.ChangeShapes Go.WideShapes Go.ChangeAt Go.RowKit
set_option linter.unusedVariables false
set_option maxRecDepth 100000

theorem weights_eachW {H : Type} {P : Program} {e : TypeId} {f : Nat → Bool} : ∀ (l : List (DataW H)) {i : Nat} {y : DataW H}, l[i]? = some y → (DataW.weightsAll P e l).all f = true → (DataW.weights P e y).all f = true
  | [], i, y, h, _ => by simp at h
  | d :: r, 0, y, h, ha => by
    simp only [List.getElem?_cons_zero, Option.some.injEq] at h
    subst h
    rw [DataW.weightsAll, List.all_append, Bool.and_eq_true] at ha
    exact ha.1
  | d :: r, i + 1, y, h, ha => by
    rw [DataW.weightsAll, List.all_append, Bool.and_eq_true] at ha
    exact weights_eachW r (by simpa using h) ha.2
theorem opensGS {α : Type} {f : α → List Value} {z : Nat} (nil : α) {R Q : α → Prop} {t te : TypeId} {bytes : Nat} (hu : Tryd.prog.underlying t = some (.slice te)) (hz : Tryd.prog.cellsOf te = z) (hz0 : 0 < z) (hfl : ∀ x, (f x).length = z) (hby : Tryd.prog.bytesOf te = bytes)
    {H : Type} {enc : TypeId × Value → H} {W : World} {v : Value} {d : DataW H} {p : List MemPlace}
    (hone : ∀ {fuel : Nat} {cs : List Value} {x : DataW H × List MemPlace}, DataW.trod enc Tryd.prog W 0 (fun _ => true) true fuel te cs = some x → ∃ a : α, cs = f a ∧ R a ∧ ((x.1.weights Tryd.prog te).all (· ≤ reachBytes) = true → Q a))
    (hsh : ∃ a len cap, v = .slice a len cap) (h : DataW.Trod enc Tryd.prog W 0 (fun _ => true) true t v d p) :
    ∃ xs, SeesG f z nil W v xs ∧ (∀ x ∈ xs, R x) ∧ ((d.weights Tryd.prog t).all (· ≤ reachBytes) = true → xs.length * bytes ≤ 140737488351232 ∧ ∀ x ∈ xs, Q x) := by
  obtain ⟨a, len, cap, rfl⟩ := hsh
  obtain ⟨fuel, hf⟩ := h
  rcases DataW.trod_slice hu hf with ⟨hcs, hx⟩ | ⟨x, l, c, elems, rest, n, rfl, hcs, hx, _, hl, hm, hlen, hel, hsp, _⟩
  · simp [Value.cells] at hcs hx
    obtain ⟨rfl, rfl, rfl⟩ := hcs
    obtain ⟨rfl, rfl⟩ := hx
    exact ⟨[], SeesG.nil nil W, by simp, fun _ => ⟨by simp, by simp⟩⟩
  · simp [Value.cells] at hcs hx
    obtain ⟨rfl, rfl, rfl⟩ := hcs
    obtain ⟨rfl, rfl⟩ := hx
    have hex : ∀ i : Nat, ∃ I : α, i < len → (R I ∧ ∃ y, elems[i]? = some y ∧ ((y.1.weights Tryd.prog te).all (· ≤ reachBytes) = true → Q I)) ∧ (∀ j, j < z → W.cell? ((x.add (i * z)).add j) = (f I)[j]?) := by
      intro i
      by_cases hi : i < len
      · have h1 := hel i hi
        have hie : i < elems.length := by omega
        rw [hz, List.getElem?_eq_getElem hie, Option.bind_eq_some_iff] at h1
        obtain ⟨cs, hc1, hc2⟩ := h1
        obtain ⟨I, rfl, hw, hb⟩ := hone hc2
        exact ⟨I, fun _ => ⟨⟨hw, _, List.getElem?_eq_getElem hie, hb⟩, (World.cells?_some hc1).2.2⟩⟩
      · exact ⟨nil, fun h => absurd h hi⟩
    obtain ⟨g, hg⟩ := Classical.axiomOfChoice hex
    have hxl : ((List.range len).map g).length = len := by simp
    have hgd : ∀ k, k < len → ((List.range len).map g).getD k nil = g k := fun k hk => by simp [List.getD, hk]
    refine ⟨(List.range len).map g, ⟨some x, cap, by rw [hxl], by omega, hm, fun h => by simp at h, fun hne => ?_⟩, ?_, ?_⟩
    · have hpos : 0 < len := by
        rcases Nat.eq_zero_or_pos len with h0 | h0
        · subst h0; exact absurd rfl hne
        · exact h0
      obtain ⟨b, off, spot⟩ := x
      have h00 := (hg 0 hpos).2 0 hz0
      obtain ⟨u, hu0⟩ : ∃ u, (f (g 0))[0]? = some u := ⟨_, List.getElem?_eq_getElem (by rw [hfl]; exact hz0)⟩
      rw [hu0] at h00
      have hspot : spot = none := by
        have := World.cell?_spot h00
        simpa [Addr.add] using this
      subst hspot
      refine ⟨b, off, rfl, ?_, fun k hk j hj => ?_⟩
      · have := World.block_lt_of_cell? W _ h00
        simpa [Addr.add] using this
      · rw [hxl] at hk
        rw [hgd k hk]
        have h5 := (hg k hk).2
        simp only [Addr.add_mid] at h5
        exact h5 j hj
    · intro i hi
      simp only [List.mem_map, List.mem_range] at hi
      obtain ⟨k, hk, rfl⟩ := hi
      exact (hg k hk).1.1
    · intro hall
      refine ⟨?_, ?_⟩
      rotate_left
      · intro i hi
        simp only [List.mem_map, List.mem_range] at hi
        obtain ⟨k, hk, rfl⟩ := hi
        obtain ⟨⟨_, y, hy, hb⟩, _⟩ := hg k hk
        refine hb ?_
        rw [DataW.weights, hu] at hall
        simp only [List.all_cons, List.all_append, Bool.and_eq_true] at hall
        exact weights_eachW (elems.map (·.1)) (i := k) (by rw [List.getElem?_map, hy]; rfl) hall.2.1
      rw [DataW.weights, hu] at hall
      simp only [List.all_cons, Bool.and_eq_true, decide_eq_true_eq, List.length_map, hby] at hall
      have h1 := hall.1
      unfold reachBytes at h1
      rw [hxl, show len = elems.length by omega]
      exact Nat.le_trans (Nat.mul_le_mul_right _ (Nat.le_add_right _ _)) h1
theorem opensGW {α : Type} {f : α → List Value} {z : Nat} (nil : α) {R Q : α → Prop} {t te : TypeId} {bytes : Nat} (hu : Tryd.prog.underlying t = some (.slice te)) (hz : Tryd.prog.cellsOf te = z) (hz0 : 0 < z) (hfl : ∀ x, (f x).length = z) (hby : Tryd.prog.bytesOf te = bytes)
    {H : Type} {enc : TypeId × Value → H} {W : World} {base : Nat} {v : Value} {d : DataW H} {p : List MemPlace}
    (hone : ∀ {fuel : Nat} {cs : List Value} {x : DataW H × List MemPlace}, DataW.trod enc Tryd.prog W 0 (fun _ => true) true fuel te cs = some x → ∃ a : α, cs = f a ∧ R a ∧ ((x.1.weights Tryd.prog te).all (· ≤ reachBytes) = true → Q a))
    (hok : Value.okWide Tryd.prog W .any base t v) (h : DataW.Trod enc Tryd.prog W 0 (fun _ => true) true t v d p) :
    ∃ xs, SeesG f z nil W v xs ∧ (∀ x ∈ xs, R x) ∧ ((d.weights Tryd.prog t).all (· ≤ reachBytes) = true → xs.length * bytes ≤ 140737488351232 ∧ ∀ x ∈ xs, Q x) :=
  opensGS nil hu hz hz0 hfl hby hone (okWide_slice hu hok) h
end Go.Proofs.YtbfbfbbpajaclaaDoor
