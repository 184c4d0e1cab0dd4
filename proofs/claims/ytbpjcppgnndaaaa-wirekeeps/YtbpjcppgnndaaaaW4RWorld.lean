/-
  The document's Decode: its three blocks and two rows, and what leaves them alone. No Go text in sight.
-/
import Derived.Test.YtbpjcppgnndaaaaW4RBound
import Derived.Test.YtbpjcppgnndaaaaW4Decode
namespace Go.Proofs.Ytbpjcppgnndaaaa
open Go.RowKit
set_option linter.unusedVariables false
set_option maxRecDepth 100000

abbrev nilV : Value := .slice none 0 0
theorem below_alloc' (w : World) (o : Obj) : Below w.heap.size w (w.alloc o) := (Below.refl _ _).alloc (Nat.le_refl _) o
/-- The result's block, the module's, the instruction's; the rows of maps and code. -/
structure Dr (w wr : World) (vm vc : Value) (ms : List Int) (is : List In) (op d a b imm : Int) : Prop where
  g : Below w.heap.size w wr
  m2 : MdC wr w.heap.size nilV nilV
  m5 : MdC wr (w.heap.size + 1) vm vc
  i6 : InC wr (w.heap.size + 2) op d a b imm
  om : wr.ownsRow (w.heap.size + 3) 3 1 vm ms.length (ms.map (Value.int .i64))
  oc : wr.ownsRow (w.heap.size + 3) 45 5 vc is.length (flat is)
theorem Dr.below {w wr wk : World} {vm vc : Value} {ms : List Int} {is : List In} {op d a b imm : Int} (h : Dr w wr vm vc ms is op d a b imm) (hb : Below wr.heap.size wr wk) : Dr w wk vm vc ms is op d a b imm :=
  ⟨h.g.trans (hb.mono h.g.size), h.m2.below hb h.m2.lt, h.m5.below hb h.m5.lt, by unfold InC; rw [hb.block _ h.i6.lt]; exact h.i6, own_below h.om hb (Nat.le_refl _), own_below h.oc hb (Nat.le_refl _)⟩
theorem Dr.big {w wr : World} {vm vc : Value} {ms : List Int} {is : List In} {op d a b imm : Int} (h : Dr w wr vm vc ms is op d a b imm) : w.heap.size + 3 ≤ wr.heap.size := h.i6.lt
/-- Two rows of unlike elements lie apart. -/
theorem own_unlike {w : World} {B B' : Nat} {e e' : TypeId} {z z' : Nat} {v v' : Value} {n n' : Nat} {xs xs' : List Value} (h : w.ownsRow B e z v n xs) (h' : w.ownsRow B' e' z' v' n' xs') (he : e ≠ e') : v'.ownBlock = none ∨ v'.ownBlock ≠ v.ownBlock := by
  rcases h with ⟨_, ⟨rfl, _⟩ | ⟨g, cap, cur, rfl, _, hh, _⟩⟩
  · cases hv : v'.ownBlock with
    | none => exact .inl rfl
    | some k => exact .inr (by simp [Value.ownBlock])
  · rcases h' with ⟨_, ⟨rfl, _⟩ | ⟨g', cap', cur', rfl, _, hh', _⟩⟩
    · exact .inl rfl
    · refine .inr fun e2 => ?_
      simp only [Value.ownBlock, Option.some.injEq] at e2
      subst e2
      rw [hh] at hh'
      injection hh' with hh'
      injection hh' with _ h2
      exact he h2
theorem Dr.far {w wr : World} {e : TypeId} {z : Nat} {v : Value} {n : Nat} {xs : List Value} (h : wr.ownsRow (w.heap.size + 3) e z v n xs) (j : Nat) (hj : j < 3) : v.ownBlock ≠ some (w.heap.size + j) := fun e => by
  have := (h.lt _ e).1
  omega
/-- One more map. -/
theorem Dr.map {w wr w1 : World} {vm vc v1 : Value} {ms : List Int} {is : List In} {op d a b imm n : Int} {o : Obj} (h : Dr w wr vm vc ms is op d a b imm) (ho : w1.ownsRow (w.heap.size + 3) 3 1 v1 (ms.length + 1) (ms.map (Value.int .i64) ++ [.int .i64 n])) (hg : (wr.alloc o).grownBy w1 vm.ownBlock) : Dr w (w1.setCell ⟨w.heap.size + 1, 0, none⟩ v1) v1 vc (ms ++ [n]) is op d a b imm := by
  have hA := h.below (below_alloc' wr o)
  have hs := grown_set w1 ⟨w.heap.size + 1, 0, none⟩ v1
  have f0 := Dr.far h.om 0 (by omega)
  have f1 := Dr.far h.om 1 (by omega)
  have f2 := Dr.far h.om 2 (by omega)
  have hm5 : MdC w1 (w.heap.size + 1) vm vc := hA.m5.kept hg f1
  refine ⟨(hA.g.grown hg hA.g.size (fun k hk => by have := (h.om.lt k hk).1; omega)).setCell (p := ⟨w.heap.size + 1, 0, none⟩) (by simp) _, (hA.m2.kept hg f0).kept hs (by simp), heap_setCell_same w1 (w.heap.size + 1) 0 _ _ _ hm5, (hA.i6.kept hg f2).kept hs (by simp), ?_, ?_⟩
  · have h1 : w1.ownsRow (w.heap.size + 3) 3 1 v1 (ms ++ [n]).length ((ms ++ [n]).map (Value.int .i64)) := by simpa using ho
    exact h1.kept hs (.inr (Dr.far h1 1 (by omega)))
  · have h1 := hA.oc.kept hg (own_unlike h.om h.oc (by decide))
    exact h1.kept hs (.inr (Dr.far h1 1 (by omega)))
/-- One more instruction. -/
theorem Dr.inst {w wr w1 : World} {vm vc v1 : Value} {ms : List Int} {is : List In} {op d a b imm : Int} {i : In} {o : Obj} (h : Dr w wr vm vc ms is op d a b imm) (ho : w1.ownsRow (w.heap.size + 3) 45 5 v1 (is.length + 1) (flat is ++ flat [i])) (hg : (wr.alloc o).grownBy w1 vc.ownBlock) : Dr w (w1.setCell ⟨w.heap.size + 1, 1, none⟩ v1) vm v1 ms (is ++ [i]) op d a b imm := by
  have hA := h.below (below_alloc' wr o)
  have hs := grown_set w1 ⟨w.heap.size + 1, 1, none⟩ v1
  have f0 := Dr.far h.oc 0 (by omega)
  have f1 := Dr.far h.oc 1 (by omega)
  have f2 := Dr.far h.oc 2 (by omega)
  have hm5 : MdC w1 (w.heap.size + 1) vm vc := hA.m5.kept hg f1
  refine ⟨(hA.g.grown hg hA.g.size (fun k hk => by have := (h.oc.lt k hk).1; omega)).setCell (p := ⟨w.heap.size + 1, 1, none⟩) (by simp) _, (hA.m2.kept hg f0).kept hs (by simp), heap_setCell_same w1 (w.heap.size + 1) 1 _ _ _ hm5, (hA.i6.kept hg f2).kept hs (by simp), ?_, ?_⟩
  · have h1 := hA.om.kept hg (own_unlike h.oc h.om (by decide))
    exact h1.kept hs (.inr (Dr.far h1 1 (by omega)))
  · have h1 : w1.ownsRow (w.heap.size + 3) 45 5 v1 (is ++ [i]).length (flat (is ++ [i])) := by rw [← flat_app]; simpa using ho
    exact h1.kept hs (.inr (Dr.far h1 1 (by omega)))
/-- A field of the instruction. -/
theorem Dr.store {w wr : World} {vm vc u : Value} {ms : List Int} {is : List In} {op d a b imm op' d' a' b' imm' : Int} {j : Nat} (h : Dr w wr vm vc ms is op d a b imm) (hi : InC (wr.setCell ⟨w.heap.size + 2, j, none⟩ u) (w.heap.size + 2) op' d' a' b' imm') : Dr w (wr.setCell ⟨w.heap.size + 2, j, none⟩ u) vm vc ms is op' d' a' b' imm' := by
  have hs := grown_set wr ⟨w.heap.size + 2, j, none⟩ u
  exact ⟨h.g.setCell (p := ⟨w.heap.size + 2, j, none⟩) (by simp) _, h.m2.kept hs (by simp), h.m5.kept hs (by simp), hi, h.om.kept hs (.inr (Dr.far h.om 2 (by omega))), h.oc.kept hs (.inr (Dr.far h.oc 2 (by omega)))⟩
theorem Dr.fresh {w wr : World} {vm vc : Value} {ms : List Int} {is : List In} {op d a b imm : Int} (h : Dr w wr vm vc ms is op d a b imm) (op' d' a' b' imm' : Int) : Dr w (stored wr (w.heap.size + 2) op' d' a' b' imm') vm vc ms is op' d' a' b' imm' := by
  have hs := stored_grown wr (w.heap.size + 2) op' d' a' b' imm'
  exact ⟨h.g.grown hs h.g.size (fun k hk => by injection hk with hk; omega), h.m2.kept hs (by simp), h.m5.kept hs (by simp), h.i6.stored op' d' a' b' imm', h.om.kept hs (.inr (Dr.far h.om 2 (by omega))), h.oc.kept hs (.inr (Dr.far h.oc 2 (by omega)))⟩
theorem Dr.drewN {w wr : World} {vm vc : Value} {ms : List Int} {is : List In} {op d a b imm : Int} (h : Dr w wr vm vc ms is op d a b imm) (n : Nat) : Dr w (wr.drewN n) vm vc ms is op d a b imm := h.below ⟨rfl, rfl, rfl, Nat.le_refl _, fun _ _ => rfl⟩
theorem Dr.drew {w wr : World} {vm vc : Value} {ms : List Int} {is : List In} {op d a b imm : Int} (h : Dr w wr vm vc ms is op d a b imm) : Dr w wr.drew vm vc ms is op d a b imm := h.below ⟨rfl, rfl, rfl, Nat.le_refl _, fun _ _ => rfl⟩
theorem Dr.alloc {w wr : World} {vm vc : Value} {ms : List Int} {is : List In} {op d a b imm : Int} (h : Dr w wr vm vc ms is op d a b imm) (o : Obj) : Dr w (wr.alloc o) vm vc ms is op d a b imm := h.below (below_alloc' wr o)
/-- As Decode begins. -/
theorem Dr.start (w : World) : Dr w (((w.alloc (.cells #[nilV, nilV] 25)).alloc (.cells #[nilV, nilV] 25)).alloc (.cells #[.int .i64 0, .int .i64 0, .int .i64 0, .int .i64 0, .int .i64 0] 45)) nilV nilV [] [] 0 0 0 0 0 := by
  refine ⟨(((Below.refl _ _).alloc (Nat.le_refl _) _).alloc (by simp) _).alloc (by simp; omega) _, ((MdC.new w _ _).kept (grown_alloc _ _ none) (by simp)).kept (grown_alloc _ _ none) (by simp), ?_, ?_, World.ownsRow_nil _ _ _ _, World.ownsRow_nil _ _ _ _⟩
  · have := MdC.new (w.alloc (.cells #[nilV, nilV] 25)) nilV nilV
    rw [World.size_alloc] at this
    exact this.kept (grown_alloc _ _ none) (by simp)
  · have := InC.new ((w.alloc (.cells #[nilV, nilV] 25)).alloc (.cells #[nilV, nilV] 25)) 0 0 0 0 0
    rw [World.size_alloc, World.size_alloc] at this
    exact this
end Go.Proofs.Ytbpjcppgnndaaaa
