
/-
  What may have changed; rows of whatever records; a record written into a row. No Go text in sight.
-/
import Derived.Test.YtbfbfbbpajaclaaDoorS10Book
import Derived.Test.YtbfbfbbpajaclaaDoorHp10
import Derived.Maps.AppendAt
import Derived.Laws.OwnMore
namespace Go.Proofs.YtbfbfbbpajaclaaDoor
open Go.RowKit
set_option linter.unusedVariables false
set_option linter.unusedSimpArgs false
set_option maxRecDepth 100000

theorem keepG {p : Prop} (h : p) : Hid p := h
theorem below_allocG (w : World) (o : Obj) : Below w.heap.size w (w.alloc o) := (Below.refl _ _).alloc (Nat.le_refl _) _
theorem below_drG {B : Nat} {w Z : World} (h : Below B w Z) : Below B w Z.drew := ⟨h.os, h.tape, h.output, h.size, h.block⟩
theorem below_undrG {B : Nat} {w Z : World} (h : Below B w.drew Z) : Below B w Z := ⟨h.os, h.tape, h.output, h.size, h.block⟩
theorem own_lowG {w : World} {b b' : Nat} {e : TypeId} {z : Nat} {v : Value} {n : Nat} {xs : List Value} (h : w.ownsRow b e z v n xs) (hb : b' ≤ b) : w.ownsRow b' e z v n xs := by
  rcases h with ⟨h1, h2 | ⟨g, cap, cur, hv, hg, r⟩⟩
  · exact ⟨h1, .inl h2⟩
  · exact ⟨h1, .inr ⟨g, cap, cur, hv, Nat.le_trans hb hg, r⟩⟩
theorem own_twoG {w : World} {B B' : Nat} {e e' : TypeId} {z z' : Nat} {v v' : Value} {n n' : Nat} {xs xs' : List Value} (h : w.ownsRow B e z v n xs) (h' : w.ownsRow B' e' z' v' n' xs') (hne : e ≠ e') : ∀ k, v.ownBlock = some k → v'.ownBlock ≠ some k := by
  intro k hk hk'
  rcases h with ⟨_, ⟨rfl, _⟩ | ⟨g, cap, cur, rfl, _, hh, _⟩⟩
  · cases hk
  rcases h' with ⟨_, ⟨rfl, _⟩ | ⟨g', cap', cur', rfl, _, hh', _⟩⟩
  · cases hk'
  · have e1 : g = k := Option.some.inj hk
    have e2 : g' = k := Option.some.inj hk'
    subst e1
    subst e2
    rw [hh] at hh'
    injection hh' with h1
    injection h1 with _ h2
    exact hne h2
/-- Behind an append in new memory: what may have changed. -/
theorem chg_append {w w' : World} {o : Obj} {v : Value} (hg : (w.alloc o).grownBy w' v.ownBlock) : Chg w w' (fun k => v.ownBlock = some k) :=
  (Chg.of_below (S := fun k => v.ownBlock = some k) (below_allocG w o)).trans (Chg.of_grown' hg (S := fun k => v.ownBlock = some k) (fun b hb => hb)) (fun _ _ e => e)
theorem Chg.set (w : World) (b i : Nat) (v : Value) : Chg w (w.setCell ⟨b, i, none⟩ v) (fun k => k = b) := Chg.of_grown (grown_set w b i v) rfl
theorem Chg.sets (w : World) (b i : Nat) (vs : List Value) : Chg w (w.setCells b i vs) (fun k => k = b) := Chg.of_grown (grown_sets b vs w i) rfl
/-- Records laid out. -/
def flatG {α : Type} (f : α → List Value) (xs : List α) : List Value := xs.flatMap f
section
variable {α : Type} {f : α → List Value} {z : Nat}
theorem flatG_app (xs ys : List α) : flatG f (xs ++ ys) = flatG f xs ++ flatG f ys := by simp [flatG]
theorem flatG_one (x : α) : flatG f [x] = f x := by simp [flatG]
theorem flatG_more (xs : List α) (x : α) : flatG f (xs ++ [x]) = flatG f xs ++ f x := by rw [flatG_app, flatG_one]
theorem flatG_len (hf : ∀ x, (f x).length = z) (xs : List α) : (flatG f xs).length = xs.length * z := by
  induction xs with
  | nil => simp [flatG]
  | cons x l ih =>
    have e : flatG f (x :: l) = f x ++ flatG f l := by simp [flatG]
    rw [e, List.length_append, hf, ih, List.length_cons, Nat.add_mul, Nat.one_mul, Nat.add_comm]
theorem flatG_at (hf : ∀ x, (f x).length = z) (d : α) : ∀ (xs : List α) {k j : Nat}, k < xs.length → j < z → (flatG f xs)[k * z + j]? = (f (xs.getD k d))[j]? := by
  intro xs
  induction xs with
  | nil => intro k j h; simp at h
  | cons x l ih =>
    intro k j hk hj
    have e : flatG f (x :: l) = f x ++ flatG f l := by simp [flatG]
    rw [e]
    cases k with
    | zero =>
      rw [Nat.zero_mul, Nat.zero_add, List.getElem?_append_left (by rw [hf]; exact hj)]
      rfl
    | succ k =>
      rw [show (k + 1) * z + j = (f x).length + (k * z + j) by rw [hf, Nat.add_mul, Nat.one_mul]; omega, List.getElem?_append_right (by omega), show (f x).length + (k * z + j) - (f x).length = k * z + j by omega, ih (by simpa using hk) hj]
      simp
/-- One cell of a record written. -/
theorem flatG_set (hf : ∀ x, (f x).length = z) (d : α) : ∀ (xs : List α) {k j : Nat} {x : α} {v : Value}, k < xs.length → j < z → f x = (f (xs.getD k d)).set j v → (flatG f xs).set (k * z + j) v = flatG f (xs.set k x) := by
  intro xs
  induction xs with
  | nil => intro k j x v h; simp at h
  | cons y l ih =>
    intro k j x v hk hj hx
    have e : flatG f (y :: l) = f y ++ flatG f l := by simp [flatG]
    rw [e]
    cases k with
    | zero =>
      have e2 : flatG f ((y :: l).set 0 x) = f x ++ flatG f l := by simp [flatG]
      rw [e2, Nat.zero_mul, Nat.zero_add, List.set_append_left _ _ (by rw [hf]; exact hj), hx]
      rfl
    | succ k =>
      have e2 : flatG f ((y :: l).set (k + 1) x) = f y ++ flatG f (l.set k x) := by simp [flatG]
      rw [e2, show (k + 1) * z + j = (f y).length + (k * z + j) by rw [hf, Nat.add_mul, Nat.one_mul]; omega, List.set_append_right _ _ (by omega), show (f y).length + (k * z + j) - (f y).length = k * z + j by omega, ih (by simpa using hk) hj (by rw [hx]; simp)]
/-- A slice that reads, in a world, as these records. -/
def SeesG (f : α → List Value) (z : Nat) (d : α) (w : World) (v : Value) (xs : List α) : Prop :=
  ∃ a cap, v = .slice a xs.length cap ∧ xs.length ≤ cap ∧ cap ≤ maxLen ∧ (a = none → cap = 0) ∧ (xs ≠ [] → ∃ b off, a = some ⟨b, off, none⟩ ∧ b < w.heap.size ∧ ∀ k, k < xs.length → ∀ j, j < z → w.cell? ⟨b, off + k * z + j, none⟩ = (f (xs.getD k d))[j]?)
theorem SeesG.nil (d : α) (w : World) : SeesG f z d w (.slice none 0 0) [] := ⟨none, 0, rfl, by simp, by simp [maxLen], fun _ => rfl, fun h => absurd rfl h⟩
theorem SeesG.shape {d : α} {w : World} {v : Value} {xs : List α} (h : SeesG f z d w v xs) : ∃ a cap, v = .slice a xs.length cap ∧ xs.length ≤ cap ∧ cap ≤ 9223372036854775807 := by
  obtain ⟨a, cap, rfl, h1, h2, _⟩ := h
  exact ⟨a, cap, rfl, h1, by unfold maxLen at h2; omega⟩
theorem SeesG.below {d : α} {w w' : World} {v : Value} {xs : List α} {B : Nat} (h : SeesG f z d w v xs) (hb : Below B w w') (hB : w.heap.size ≤ B) : SeesG f z d w' v xs := by
  obtain ⟨a, cap, rfl, h1, h2, h3, h4⟩ := h
  refine ⟨a, cap, rfl, h1, h2, h3, fun hne => ?_⟩
  obtain ⟨b, off, rfl, hlt, hc⟩ := h4 hne
  exact ⟨b, off, rfl, Nat.lt_of_lt_of_le hlt hb.size, fun k hk j hj => (hb.cell (p := ⟨b, off + k * z + j, none⟩) (Nat.lt_of_lt_of_le hlt hB)).trans (hc k hk j hj)⟩
theorem SeesG.alloc {d : α} {w : World} {v : Value} {xs : List α} (h : SeesG f z d w v xs) (o : Obj) : SeesG f z d (w.alloc o) v xs := h.below (below_allocG w o) (Nat.le_refl _)
theorem SeesG.drew {d : α} {w : World} {v : Value} {xs : List α} (h : SeesG f z d w v xs) : SeesG f z d w.drew v xs := h
theorem SeesG.drewN {d : α} {w : World} {v : Value} {xs : List α} (h : SeesG f z d w v xs) (n : Nat) : SeesG f z d (w.drewN n) v xs := h
theorem SeesG.chg {d : α} {w w' : World} {v : Value} {xs : List α} {S : Nat → Prop} (h : SeesG f z d w v xs) (hc : Chg w w' S) (hS : ∀ k, v.ownBlock = some k → ¬ S k) : SeesG f z d w' v xs := by
  obtain ⟨a, cap, rfl, h1, h2, h3, h4⟩ := h
  refine ⟨a, cap, rfl, h1, h2, h3, fun hne => ?_⟩
  obtain ⟨b, off, rfl, hlt, hat⟩ := h4 hne
  refine ⟨b, off, rfl, Nat.lt_of_lt_of_le hlt hc.size, fun k hk j hj => ?_⟩
  rw [← hat k hk j hj]
  exact World.cell?_of_block (hc.block b hlt (hS b rfl))
/-- What is owned reads as its records. -/
theorem own_seesG (hf : ∀ x, (f x).length = z) (d : α) {w : World} {base : Nat} {e : TypeId} {v : Value} {xs : List α} (h : w.ownsRow base e z v xs.length (flatG f xs)) : SeesG f z d w v xs := by
  have h0 := h
  rcases h with ⟨h1, ⟨rfl, h2⟩ | ⟨g, cap, cur, rfl, hb, hh, h3, h4, h5, h6⟩⟩
  · have : xs = [] := List.eq_nil_of_length_eq_zero h2
    subst this
    exact SeesG.nil d w
  · refine ⟨_, cap, rfl, h3, h4, fun h => (by cases h), fun hne => ⟨g, 0, rfl, (Array.getElem?_eq_some_iff.1 hh).1, fun k hk j hj => ?_⟩⟩
    rw [Nat.zero_add, h0.cellAt (k * z + j) ?_]
    · exact flatG_at hf d xs hk hj
    · exact Nat.lt_of_lt_of_le (Nat.add_lt_add_left hj _) (by rw [← Nat.succ_mul]; exact Nat.mul_le_mul_right _ hk)
/-- The place of a record of an own row. -/
theorem own_atG (hf : ∀ x, (f x).length = z) (d : α) {w : World} {base : Nat} {e : TypeId} {v : Value} {xs : List α} (h : w.ownsRow base e z v xs.length (flatG f xs)) (hn : 0 < xs.length) : ∃ g cap, v = .slice (some ⟨g, 0, none⟩) xs.length cap ∧ base ≤ g ∧ g < w.heap.size ∧ xs.length ≤ cap ∧ cap ≤ 9223372036854775807 ∧ ∀ k, k < xs.length → ∀ j, j < z → w.cell? ⟨g, k * z + j, none⟩ = (f (xs.getD k d))[j]? ∧ w.frozen? ⟨g, k * z + j, none⟩ = false := by
  have hs := own_seesG hf d h
  have h0 := h
  rcases h with ⟨h1, ⟨rfl, h2⟩ | ⟨g, cap, cur, rfl, hb, hh, h3, h4, h5, h6⟩⟩
  · omega
  · refine ⟨g, cap, rfl, hb, (Array.getElem?_eq_some_iff.1 hh).1, h3, by unfold maxLen at h4; omega, fun k hk j hj => ⟨?_, h0.frozenAt _⟩⟩
    obtain ⟨a, cap', e1, _, _, _, h7⟩ := hs
    obtain ⟨b, off, e2, _, hc⟩ := h7 (fun e => by rw [e] at hn; simp at hn)
    subst e2
    injection e1 with e3
    injection e3 with e3
    injection e3 with e3 e4
    subst e3
    subst e4
    have := hc k hk j hj
    rw [Nat.zero_add] at this
    exact this
/-- A record appended to an own row. -/
theorem own_moreG {w : World} {base : Nat} {e : TypeId} {v : Value} {xs : List α} {x : α} (h : w.ownsRow base e z v (xs.length + 1) (flatG f xs ++ f x)) : w.ownsRow base e z v (xs ++ [x]).length (flatG f (xs ++ [x])) := by
  rw [flatG_more, List.length_append]
  exact h
/-- One cell of a record of an own row written. -/
theorem own_setG (hf : ∀ x, (f x).length = z) (d : α) {w : World} {base g cap : Nat} {e : TypeId} {xs : List α} (h : w.ownsRow base e z (.slice (some ⟨g, 0, none⟩) xs.length cap) xs.length (flatG f xs)) {k j : Nat} {x : α} {u : Value} (hk : k < xs.length) (hj : j < z) (hx : f x = (f (xs.getD k d)).set j u) :
    (w.setCell ⟨g, k * z + j, none⟩ u).ownsRow base e z (.slice (some ⟨g, 0, none⟩) (xs.set k x).length cap) (xs.set k x).length (flatG f (xs.set k x)) := by
  have := (h.stored (k * z + j) u).1
  rw [flatG_set hf d xs hk hj hx] at this
  rw [List.length_set]
  exact this
/-- Cells that were laid in new memory. -/
theorem cells_new (w : World) (xs : List Value) (t : TypeId) (n : Nat) (hn : n = w.heap.size) : ∀ j u, xs[j]? = some u → (w.alloc (.cells xs.toArray t)).cell? ((⟨n, 0, none⟩ : Addr).add j) = some u := by
  subst hn
  intro j u hj
  rw [add_none, Nat.zero_add, World.cell?_alloc_at _ _ _ _ rfl]
  exact (List.getElem?_toArray (xs := xs)).trans hj
/-- A slice that was written out reads as its records. -/
theorem SeesG.lit (hf : ∀ x, (f x).length = z) (d : α) (w : World) (t : TypeId) (xs : List α) (cs : Array Value) (n : Nat) (hcs : cs = (flatG f xs).toArray) (hn : n = xs.length) (hm : xs.length ≤ 4194304) : SeesG f z d (w.alloc (.cells cs t)) (.slice (some ⟨w.heap.size, 0, none⟩) n n) xs := by
  subst hn hcs
  refine ⟨_, _, rfl, Nat.le_refl _, by unfold maxLen; omega, fun h => (by cases h), fun _ => ⟨w.heap.size, 0, rfl, by simp, fun k hk j hj => ?_⟩⟩
  rw [Nat.zero_add, World.cell?_alloc_at _ _ _ _ rfl, ← flatG_at hf d xs hk hj]
  exact List.getElem?_toArray
end
end Go.Proofs.YtbfbfbbpajaclaaDoor
