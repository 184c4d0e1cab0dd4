
/-
  A block that is known whole: read, written, kept. No condition.
-/
import Derived.Test.YtbfbfbbpajaclaaDoorMB15
import Derived.Deep.MidRow
namespace Go.Proofs.YtbfbfbbpajaclaaDoor
open Go.RowKit
set_option linter.unusedVariables false
set_option maxRecDepth 100000

/-- Cells written over others from a place on. -/
def splice {α : Type} : List α → Nat → List α → List α
  | cs, _, [] => cs
  | cs, o, v :: r => splice (cs.set o v) (o + 1) r
theorem splice_len {α : Type} (vs : List α) : ∀ (cs : List α) (o : Nat), (splice cs o vs).length = cs.length := by
  induction vs with
  | nil => intro cs o; rfl
  | cons v r ih => intro cs o; simp [splice, ih]
theorem splice_behind {α : Type} (vs : List α) : ∀ (a b : List α) (o : Nat), splice (a ++ b) (a.length + o) vs = a ++ splice b o vs := by
  induction vs with
  | nil => intro a b o; rfl
  | cons v r ih =>
    intro a b o
    simp only [splice]
    rw [List.set_append_right _ _ (by omega), show a.length + o - a.length = o by omega, show a.length + o + 1 = a.length + (o + 1) by omega, ih]
theorem splice_ahead {α : Type} (vs : List α) : ∀ (a b : List α) (o : Nat), o + vs.length ≤ a.length → splice (a ++ b) o vs = splice a o vs ++ b := by
  induction vs with
  | nil => intro a b o _; rfl
  | cons v r ih =>
    intro a b o h
    simp only [List.length_cons] at h
    simp only [splice]
    rw [List.set_append_left _ _ (by omega), ih _ _ _ (by simp; omega)]
theorem splice_all {α : Type} : ∀ (vs a : List α), vs.length = a.length → splice a 0 vs = vs := by
  have key : ∀ (vs p a : List α), vs.length = a.length → splice (p ++ a) p.length vs = p ++ vs := by
    intro vs
    induction vs with
    | nil => intro p a h; have : a = [] := by simpa using h.symm
             subst this; rfl
    | cons v r ih =>
      intro p a h
      cases a with
      | nil => simp at h
      | cons x a =>
        simp only [splice]
        have := ih (p ++ [v]) a (by simpa using h)
        rw [List.set_append_right _ _ (by omega)]
        simp only [Nat.sub_self, List.set_cons_zero]
        simpa using this
  intro vs a h
  exact key vs [] a h
/-- The block is known whole. -/
def Hp (w : World) (b : Nat) (t : TypeId) (cs : List Value) : Prop := w.heap[b]? = some (.cells cs.toArray t (0, 0))
theorem Hp.lt {w : World} {b : Nat} {t : TypeId} {cs : List Value} (h : Hp w b t cs) : b < w.heap.size := (Array.getElem?_eq_some_iff.1 h).1
theorem Hp.cell {w : World} {b j : Nat} {t : TypeId} {cs : List Value} (h : Hp w b t cs) {v : Value} (hj : cs[j]? = some v) : w.cell? ⟨b, j, none⟩ = some v := by
  rw [cell_of_row w b j _ _ _ h]; simpa using hj
theorem Hp.frozen {w : World} {b : Nat} {t : TypeId} {cs : List Value} (h : Hp w b t cs) (j : Nat) : w.frozen? ⟨b, j, none⟩ = false := by
  unfold Hp at h
  simp [World.frozen?, h]
theorem Hp.range {w : World} {b : Nat} {t : TypeId} {cs : List Value} (h : Hp w b t cs) {o : Nat} {l : List Value} (hl : ∀ j, j < l.length → cs[o + j]? = l[j]?) : w.rangeAt b o l := fun j v hv => by
  have hj : j < l.length := (List.getElem?_eq_some_iff.1 hv).1
  exact h.cell ((hl j hj).trans hv)
theorem Hp.there {w : World} {b : Nat} {t : TypeId} {cs : List Value} (h : Hp w b t cs) {o n : Nat} (hn : o + n ≤ cs.length) : w.there b o n := fun j hj =>
  ⟨by rw [h.cell (List.getElem?_eq_getElem (show o + j < cs.length by omega))]; rfl, h.frozen _⟩
theorem Hp.below {w w' : World} {b B : Nat} {t : TypeId} {cs : List Value} (h : Hp w b t cs) (hb : Below B w w') (hB : b < B) : Hp w' b t cs := by
  unfold Hp; rw [hb.block b hB]; exact h
theorem Hp.grown {w w' : World} {b : Nat} {t : TypeId} {cs : List Value} {row : Option Nat} (h : Hp w b t cs) (hg : w.grownBy w' row) (hne : some b ≠ row) : Hp w' b t cs := by
  unfold Hp; rw [hg.block b h.lt hne]; exact h
theorem Hp.drew {w : World} {b : Nat} {t : TypeId} {cs : List Value} (h : Hp w b t cs) : Hp w.drew b t cs := h
theorem Hp.alloc {w : World} {b : Nat} {t : TypeId} {cs : List Value} (h : Hp w b t cs) (o : Obj) : Hp (w.alloc o) b t cs := by
  unfold Hp; rw [Below.heap_alloc _ _ _ h.lt]; exact h
theorem Hp.new (w : World) (cs : List Value) (t : TypeId) : Hp (w.alloc (.cells cs.toArray t)) w.heap.size t cs := heap_alloc_new w _
theorem Hp.set {w : World} {b : Nat} {t : TypeId} {cs : List Value} (h : Hp w b t cs) (i : Nat) (v : Value) : Hp (w.setCell ⟨b, i, none⟩ v) b t (cs.set i v) := by
  have := heap_setCell_same w b i cs.toArray t v h
  unfold Hp
  rw [this]
  simp
theorem Hp.far {w : World} {b : Nat} {t : TypeId} {cs : List Value} (h : Hp w b t cs) {b' i : Nat} {v : Value} (hn : b ≠ b') : Hp (w.setCell ⟨b', i, none⟩ v) b t cs := by
  unfold Hp; rw [Below.heap_setCell _ _ _ _ hn]; exact h
theorem Hp.sets {b : Nat} {t : TypeId} : ∀ (vs : List Value) {w : World} {cs : List Value} (o : Nat), Hp w b t cs → Hp (w.setCells b o vs) b t (splice cs o vs) := by
  intro vs
  induction vs with
  | nil => intro w cs o h; exact h
  | cons v r ih => intro w cs o h; exact ih (o + 1) (h.set o v)
theorem Hp.fars {b b' : Nat} {t : TypeId} {cs : List Value} (hn : b ≠ b') : ∀ (vs : List Value) {w : World} (o : Nat), Hp w b t cs → Hp (w.setCells b' o vs) b t cs := by
  intro vs
  induction vs with
  | nil => intro w o h; exact h
  | cons v r ih => intro w o h; exact ih (o + 1) (h.far hn)
theorem grownJ_refl (w : World) (row : Option Nat) : w.grownBy w row := ⟨rfl, rfl, rfl, Nat.le_refl _, fun _ _ _ => rfl⟩
theorem grownJ_trans {w w1 w2 : World} {row : Option Nat} (h : w.grownBy w1 row) (g : w1.grownBy w2 row) : w.grownBy w2 row :=
  ⟨g.os.trans h.os, g.tape.trans h.tape, g.output.trans h.output, Nat.le_trans h.size g.size, fun k hk hne => (g.block k (Nat.lt_of_lt_of_le hk h.size) hne).trans (h.block k hk hne)⟩
theorem grown_set (w : World) (b i : Nat) (v : Value) : w.grownBy (w.setCell ⟨b, i, none⟩ v) (some b) :=
  ⟨rfl, rfl, rfl, by simp [World.setCell], fun k _ hne => Below.heap_setCell _ _ _ _ (fun e => hne (by rw [e]))⟩
theorem grown_sets (b : Nat) : ∀ (vs : List Value) (w : World) (o : Nat), w.grownBy (w.setCells b o vs) (some b) := by
  intro vs
  induction vs with
  | nil => intro w o; exact grownJ_refl _ _
  | cons v r ih => intro w o; exact grownJ_trans (grown_set w b o v) (ih _ _)
theorem grown_drew {w w' : World} {row : Option Nat} (h : w.grownBy w' row) : w.grownBy w'.drew row := ⟨h.os, h.tape, h.output, h.size, h.block⟩
theorem grown_undrew {w w' : World} {row : Option Nat} (h : w.drew.grownBy w' row) : w.grownBy w' row := ⟨h.os, h.tape, h.output, h.size, h.block⟩
theorem grown_of_below {w w' : World} (h : Below w.heap.size w w') (row : Option Nat) : w.grownBy w' row := ⟨h.os, h.tape, h.output, h.size, fun k hk _ => h.block k hk⟩
theorem grown_to_below {w w' : World} {kb B : Nat} (h : w.grownBy w' (some kb)) (hB : B ≤ kb) (hw : B ≤ w.heap.size) : Below B w w' :=
  ⟨h.os, h.tape, h.output, h.size, fun k hk => h.block k (by omega) (fun e => by injection e with e; omega)⟩

end Go.Proofs.YtbfbfbbpajaclaaDoor
