
/-
 What the law's copied does: a module in new memory that reads the same (layer 4's text over this law's function). Condition: the module's slices read as numbers and as instructions, and take up no more bytes than an argument may.
-/
import Derived.Test.YtlkdniglaldilaaGreatMG21
import Derived.Test.YtlkdniglaldilaaGreatMG28
import Derived.Test.YtlkdniglaldilaaGreatMG6
import Derived.Test.YtlkdniglaldilaaGreatMG18
import Derived.Test.YtlkdniglaldilaaGreatMG27
import Derived.Deep.RegionHeldLaw
import Derived.Deep.DrawnRows
import Derived.Deep.Upon
import Derived.ArgAppend
import Derived.Maps.RangeWalk
import Derived.Maps.AppendAt
namespace Go.Proofs.YtlkdniglaldilaaGreat
open Go.RowKit
set_option linter.unusedVariables false
set_option maxRecDepth 100000
attribute [local go_sem ↓] Go.wp_at_zero Go.wp_at_succ

theorem Sees.kept {k : IntKind} {w w' : World} {v : Value} {xs : List Int} {r : Option Nat} (h : Sees k w v xs) (hg : w.grownBy w' r) (hr : xs = [] ∨ v.ownBlock ≠ r) : Sees k w' v xs := by
 obtain ⟨a, cap, rfl, hl, hm, hn0, hw, hs⟩ := h
 refine ⟨a, cap, rfl, hl, hm, hn0, hw, fun hne => ?_⟩
 obtain ⟨b, off, rfl, hlt, hc⟩ := hs hne
 refine ⟨b, off, rfl, Nat.lt_of_lt_of_le hlt hg.size, fun i hi => ?_⟩
 have hb : some b ≠ r := by
  rcases hr with hr | hr
  ·exact absurd hr hne
  ·exact hr
 have := hc i hi
 unfold World.cell? at this ⊢
 rw [hg.block b hlt hb]; exact this
def MdC (w : World) (n : Nat) (vm vc : Value) : Prop := w.heap[n]? = some (.cells #[vm, vc] 39 (0, 0))
theorem MdC.cells {w : World} {n : Nat} {vm vc : Value} (h : MdC w n vm vc) : w.cell? ⟨n, 0, none⟩ = some vm /\ w.cell? ⟨n, 1, none⟩ = some vc := ⟨cell_of_row w n 0 _ _ _ h, cell_of_row w n 1 _ _ _ h⟩
theorem MdC.frozen {w : World} {n : Nat} {vm vc : Value} (h : MdC w n vm vc) (j : Nat) : w.frozen? ⟨n, j, none⟩ = false := frozen_of_row w n j _ _ h
theorem MdC.lt {w : World} {n : Nat} {vm vc : Value} (h : MdC w n vm vc) : n < w.heap.size := (Array.getElem?_eq_some_iff.1 h).1
theorem MdC.kept {w w' : World} {n : Nat} {vm vc : Value} {row : Option Nat} (h : MdC w n vm vc) (hg : w.grownBy w' row) (hr : row ≠ some n) : MdC w' n vm vc := by
 unfold MdC
 rw [hg.block n h.lt (fun e => hr e.symm)]; exact h
theorem MdC.new (w : World) (vm vc : Value) : MdC (w.alloc (.cells #[vm, vc] 39)) w.heap.size vm vc := heap_alloc_new w _
theorem MdC.set {w : World} {n : Nat} {vm vc : Value} (h : MdC w n vm vc) (um uc : Value) : MdC ((w.setCell ⟨n, 0, none⟩ um).setCell ⟨n, 1, none⟩ uc) n um uc := heap_setCell_same _ n 1 _ _ _ (heap_setCell_same w n 0 _ _ _ h)
abbrev modV (vm vc : Value) : Value := .agg #[vm, vc]

end Go.Proofs.YtlkdniglaldilaaGreat
