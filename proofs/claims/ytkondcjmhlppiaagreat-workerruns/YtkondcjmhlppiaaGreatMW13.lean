/-
  S6RDoC
  S6RShl
  S6RShls
  S6RJoin
  S6Awake
-/
import Derived.Test.YtkondcjmhlppiaaGreatMW12
import Derived.Deep.RegionHeldLaw
namespace Go.Proofs.YtkondcjmhlppiaaGreat
open Go.RowKit
set_option linter.unusedVariables false
set_option maxRecDepth 20000
theorem keep4 {w : World} {n m k j : Nat} {v : Value} {x0 x1 y0 y1 : Value} (h : w.cell? ⟨n, 0, none⟩ = some x0 /\ w.cell? ⟨n, 1, none⟩ = some x1 /\ w.cell? ⟨m, 0, none⟩ = some y0 /\ w.cell? ⟨m, 1, none⟩ = some y1) (h1 : k ≠ n) (h2 : k ≠ m) :
  (w.setCell ⟨k, j, none⟩ v).cell? ⟨n, 0, none⟩ = some x0 /\ (w.setCell ⟨k, j, none⟩ v).cell? ⟨n, 1, none⟩ = some x1 /\ (w.setCell ⟨k, j, none⟩ v).cell? ⟨m, 0, none⟩ = some y0 /\ (w.setCell ⟨k, j, none⟩ v).cell? ⟨m, 1, none⟩ = some y1 := by
 have far : ∀ p i, k ≠ p -> (w.setCell ⟨k, j, none⟩ v).cell? ⟨p, i, none⟩ = w.cell? ⟨p, i, none⟩ := fun p i hp => World.cell?_setCell_other _ _ _ _ (fun e => hp (by injection e with e1))
 rw [far n 0 h1, far n 1 h1, far m 0 h2, far m 1 h2]
 exact h
theorem below_set {B : Nat} {w Z : World} {n j : Nat} {v : Value} (h : Below B w Z) (hn : B <= n) : Below B w (Z.setCell ⟨n, j, none⟩ v) :=
 ⟨h.os, h.tape, h.output, by simpa [World.setCell] using h.size, fun k hk => (Below.heap_setCell Z _ _ k (fun e => by simp at e; omega)).trans (h.block k hk)⟩
theorem below_dr {B : Nat} {w Z : World} (h : Below B w Z) : Below B w Z.drew := ⟨h.os, h.tape, h.output, h.size, h.block⟩
theorem run_boxS_drew {w : World} {n : Nat} {a A : Int} (h0 : w.cell? ⟨n, 0, none⟩ = some (.int .u64 a)) (h1 : w.cell? ⟨n, 1, none⟩ = some (.int .u64 A)) : (loadVar 110 ⟨n, 0, none⟩).run Tryz.prog w.drew = .ok (.agg #[.int .u64 a, .int .u64 A]) w.drew := run_boxS (w := w.drew) h0 h1
theorem set_two {Z : World} {n : Nat} {u0 u1 x y : Value} (r0 : Z.cell? ⟨n, 0, none⟩ = some u0) (r1 : Z.cell? ⟨n, 1, none⟩ = some u1) :
  ((Z.setCell ⟨n, 0, none⟩ x).setCell ⟨n, 1, none⟩ y).cell? ⟨n, 0, none⟩ = some x /\ ((Z.setCell ⟨n, 0, none⟩ x).setCell ⟨n, 1, none⟩ y).cell? ⟨n, 1, none⟩ = some y := by
 have e : ((Z.setCell ⟨n, 0, none⟩ x).cell? ⟨n, 1, none⟩) = some u1 := by rw [World.cell?_setCell_other _ _ _ _ (fun e => by injection e with e1 e2; simp at e2)]; exact r1
 constructor
 ·rw [World.cell?_setCell_other _ _ _ _ (fun e => by injection e with e1 e2; simp at e2)]
  simp [World.cell?_setCell_same', r0]
 ·simp [World.cell?_setCell_same', e]

def Bx (w : World) (n : Nat) (x y : Int) : Prop := (w.cell? ⟨n, 0, none⟩ = some (.int .u64 x) /\ w.cell? ⟨n, 1, none⟩ = some (.int .u64 y)) /\ w.frozen? ⟨n, 0, none⟩ = false /\ w.frozen? ⟨n, 1, none⟩ = false
theorem Bx.set {w : World} {n : Nat} {x y : Int} (h : Bx w n x y) (x' y' : Int) : Bx ((w.setCell ⟨n, 0, none⟩ (.int .u64 x')).setCell ⟨n, 1, none⟩ (.int .u64 y')) n x' y' :=
 ⟨set_two h.1.1 h.1.2, by simpa using h.2.1, by simpa using h.2.2⟩
theorem Bx.far {w : World} {n m i : Nat} {x y : Int} {v : Value} (h : Bx w n x y) (hne : m ≠ n) : Bx (w.setCell ⟨m, i, none⟩ v) n x y := by
 have far : ∀ j, (w.setCell ⟨m, i, none⟩ v).cell? ⟨n, j, none⟩ = w.cell? ⟨n, j, none⟩ := fun j => World.cell?_setCell_other _ _ _ _ (fun e => hne (by injection e with e1))
 exact ⟨⟨(far 0).trans h.1.1, (far 1).trans h.1.2⟩, by simpa using h.2.1, by simpa using h.2.2⟩
theorem Bx.below {w w' : World} {n B : Nat} {x y : Int} (h : Bx w n x y) (hb : Below B w w') (hB : n < B) : Bx w' n x y := by
 unfold Bx
 rw [hb.cell (p := ⟨n, 0, none⟩) hB, hb.cell (p := ⟨n, 1, none⟩) hB, hb.frozen (p := ⟨n, 0, none⟩) hB, hb.frozen (p := ⟨n, 1, none⟩) hB]
 exact h

theorem loF_step {ss : List (Int × Int)} {k : Nat} (hk : k < ss.length) (h0 : k ≠ 0) : loF (ss.take (k + 1)) = min (loF (ss.take k)) (ss.getD k (0, 0)).1 /\ hiF (ss.take (k + 1)) = max (hiF (ss.take k)) (ss.getD k (0, 0)).2 /\ loM (ss.take (k + 1)) = max (loM (ss.take k)) (ss.getD k (0, 0)).1 /\ hiM (ss.take (k + 1)) = min (hiM (ss.take k)) (ss.getD k (0, 0)).2 := by
 have e : ss.getD k (0, 0) = ss[k] := by simp [hk]
 have hne : ∀ f : Int × Int -> Int, (ss.take k).map f ≠ [] := fun f h => by
  have hl : (ss.take k).length = 0 := by rw [List.map_eq_nil_iff.1 h]; rfl
  rw [List.length_take] at hl
  omega
 unfold loF hiF loM hiM
 rw [e, List.take_succ_eq_append_getElem hk]
 simp only [List.map_append, List.map_cons, List.map_nil]
 exact ⟨minF_snoc (hne _) _, maxF_snoc (hne _) _, maxF_snoc (hne _) _, minF_snoc (hne _) _⟩
theorem ends_one {ss : List (Int × Int)} (h : 0 < ss.length) : loF (ss.take 1) = (ss.getD 0 (0, 0)).1 /\ hiF (ss.take 1) = (ss.getD 0 (0, 0)).2 /\ loM (ss.take 1) = (ss.getD 0 (0, 0)).1 /\ hiM (ss.take 1) = (ss.getD 0 (0, 0)).2 := by
 cases ss with
 | nil => simp at h
 | cons s r => exact ⟨rfl, rfl, rfl, rfl⟩
theorem Bx.al {w : World} {n : Nat} {x y : Int} {o : Obj} (h : Bx w n x y) (hn : n < w.heap.size) : Bx (w.alloc o) n x y := h.below ((Below.refl w.heap.size w).alloc (Nat.le_refl _) o) hn
theorem size_set {w : World} {a : Addr} {v : Value} : (w.setCell a v).heap.size = w.heap.size := by simp [World.setCell]

def KDo : Prop := ∀ (op a A b B : Int) (w : World), W64 a -> W64 A -> W64 b -> W64 B -> Calls Tryz.prog 105 #[.int .i64 op, .agg #[.int .u64 a, .int .u64 A], .agg #[.int .u64 b, .int .u64 B]] w fun e w' => e = .returned (optV (doR op a A b B)) /\ Below w.heap.size w w'
def KRefine : Prop := ∀ (op a A b B : Int) (h : Bool) (w : World), W64 a -> W64 A -> W64 b -> W64 B -> Calls Tryz.prog 90 #[.int .i64 op, .agg #[.int .u64 a, .int .u64 A], .agg #[.int .u64 b, .int .u64 B], .bool h] w fun e w' => e = .returned (optV (refineR op a A b B h)) /\ Below w.heap.size w w'
theorem sees_two (w : World) (t : TypeId) (x X y Y : Int) (k : Nat) (hk : k = w.heap.size) : SeesS (w.alloc (.cells #[.int .u64 x, .int .u64 X, .int .u64 y, .int .u64 Y] t)) (.slice (some ⟨k, 0, none⟩) 2 2) [(x, X), (y, Y)] := by
 subst hk
 exact SeesS.lit w t [(x, X), (y, Y)] _ 2 rfl rfl (by simp)
end Go.Proofs.YtkondcjmhlppiaaGreat
