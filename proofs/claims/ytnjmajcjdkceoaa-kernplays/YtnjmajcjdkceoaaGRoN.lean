
/-
  A row of numbers of the call's own: its cells, stores into it, what keeps it. No condition.
-/
import Derived.Test.YtnjmajcjdkceoaaGObj
namespace Go.Proofs.Ytnjmajcjdkceoaa
open Go.RowKit
set_option linter.unusedVariables false
set_option linter.unusedSimpArgs false
theorem infoIntN : (Try.prog.info? 3).map (fun i => (i.zero, i.size, i.bytes)) = some (some (.int .i64 0), 1, 8) := by kernel_rfl
/-- A row of numbers of the call's own. -/
def RoN (w : World) (B : Nat) (u : Value) (Y : List Int) : Prop := w.ownsRow B 3 1 u Y.length (Y.map (Value.int .i64))
section
variable {w w' : World} {B : Nat} {u : Value} {Y : List Int}
theorem RoN.cells (h : RoN w B u Y) (hn : 0 < Y.length) : ∃ p cap, u = .slice (some ⟨p, 0, none⟩) Y.length cap ∧ B ≤ p ∧ p < w.heap.size ∧ Y.length ≤ cap ∧ cap ≤ 9223372036854775807 ∧ (∀ k, k < Y.length → w.cell? ⟨p, k, none⟩ = some (.int .i64 (Y.getD k 0)) ∧ w.frozen? ⟨p, k, none⟩ = false) ∧ ∀ (k : Nat) (y : Int), RoN (w.setCell ⟨p, k, none⟩ (.int .i64 y)) B (.slice (some ⟨p, 0, none⟩) Y.length cap) (Y.set k y) := by
  have h0 := h
  unfold RoN at h0
  obtain ⟨p, cap, e, h1, h2, h3, h4, h5⟩ := own_open h hn
  subst e
  unfold maxLen at h4
  refine ⟨p, cap, rfl, h1, h2, h3, by omega, fun k hk => ⟨h5 k _ (by simp [List.getD, hk]), h0.frozenAt _⟩, fun k y => ?_⟩
  have := (h0.stored k (.int .i64 y)).1
  unfold RoN
  rw [List.length_set, List.map_set]
  exact this
theorem RoN.below (h : RoN w B u Y) (hb : Below w.heap.size w w') : RoN w' B u Y := own_below h hb (Nat.le_refl _)
theorem RoN.nil (w : World) (B : Nat) : RoN w B (.slice none 0 0) [] := World.ownsRow_nil _ _ _ _
theorem RoN.low {B' : Nat} (h : RoN w B u Y) (hB : B' ≤ B) : RoN w B' u Y := own_lowG h hB
/-- One number more, appended by the walk: the row and what lies below. -/
theorem RoN.more {w0 w1 : World} {v' : Value} {o : Obj} {x : Int} (h : RoN w B u Y) (hb : Below B w0 w) (hB : B ≤ w0.heap.size) (hown' : w1.ownsRow B 3 1 v' (Y.length + 1) (Y.map (Value.int .i64) ++ [Value.int .i64 x])) (hgrow : (w.alloc o).grownBy w1 u.ownBlock) : RoN w1 B v' (Y ++ [x]) ∧ Below B w0 w1 := by
  have hs := hb.size
  refine ⟨by unfold RoN; simpa using hown', (hb.alloc (by omega) o).grown hgrow (by simp; omega) (fun k hk => (h.lt k hk).1)⟩
end
end Go.Proofs.Ytnjmajcjdkceoaa
