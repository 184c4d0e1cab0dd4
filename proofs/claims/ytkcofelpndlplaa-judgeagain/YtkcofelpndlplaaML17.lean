/-
  S6RDoC
  S6RShl
  S6RShls
  S6RJoin
  S6Awake
-/
import Derived.Test.YtkcofelpndlplaaML15
import Derived.Deep.RegionHeldLaw
/-
  What the document's Do of two spans answers: shifts to the right. Condition: right spans of numbers of 64 bits.
-/
namespace Go.Proofs.Ytkcofelpndlplaa
open Go.RowKit
set_option linter.unusedVariables false
set_option maxRecDepth 20000

theorem keep4 {w : World} {n m k j : Nat} {v : Value} {x0 x1 y0 y1 : Value} (h : w.cell? ⟨n, 0, none⟩ = some x0 ∧ w.cell? ⟨n, 1, none⟩ = some x1 ∧ w.cell? ⟨m, 0, none⟩ = some y0 ∧ w.cell? ⟨m, 1, none⟩ = some y1) (h1 : k ≠ n) (h2 : k ≠ m) :
    (w.setCell ⟨k, j, none⟩ v).cell? ⟨n, 0, none⟩ = some x0 ∧ (w.setCell ⟨k, j, none⟩ v).cell? ⟨n, 1, none⟩ = some x1 ∧ (w.setCell ⟨k, j, none⟩ v).cell? ⟨m, 0, none⟩ = some y0 ∧ (w.setCell ⟨k, j, none⟩ v).cell? ⟨m, 1, none⟩ = some y1 := by
  have far : ∀ p i, k ≠ p → (w.setCell ⟨k, j, none⟩ v).cell? ⟨p, i, none⟩ = w.cell? ⟨p, i, none⟩ := fun p i hp => World.cell?_setCell_other _ _ _ _ (fun e => hp (by injection e with e1))
  rw [far n 0 h1, far n 1 h1, far m 0 h2, far m 1 h2]
  exact h
theorem below_set {B : Nat} {w Z : World} {n j : Nat} {v : Value} (h : Below B w Z) (hn : B ≤ n) : Below B w (Z.setCell ⟨n, j, none⟩ v) :=
  ⟨h.os, h.tape, h.output, by simpa [World.setCell] using h.size, fun k hk => (Below.heap_setCell Z _ _ k (fun e => by simp at e; omega)).trans (h.block k hk)⟩
theorem below_dr {B : Nat} {w Z : World} (h : Below B w Z) : Below B w Z.drew := ⟨h.os, h.tape, h.output, h.size, h.block⟩
theorem run_boxS_drew {w : World} {n : Nat} {a A : Int} (h0 : w.cell? ⟨n, 0, none⟩ = some (.int .u64 a)) (h1 : w.cell? ⟨n, 1, none⟩ = some (.int .u64 A)) : (loadVar 36 ⟨n, 0, none⟩).run Try.prog w.drew = .ok (.agg #[.int .u64 a, .int .u64 A]) w.drew := run_boxS (w := w.drew) h0 h1
/-- Both cells of a box, stored. -/
theorem set_two {Z : World} {n : Nat} {u0 u1 x y : Value} (r0 : Z.cell? ⟨n, 0, none⟩ = some u0) (r1 : Z.cell? ⟨n, 1, none⟩ = some u1) :
    ((Z.setCell ⟨n, 0, none⟩ x).setCell ⟨n, 1, none⟩ y).cell? ⟨n, 0, none⟩ = some x ∧ ((Z.setCell ⟨n, 0, none⟩ x).setCell ⟨n, 1, none⟩ y).cell? ⟨n, 1, none⟩ = some y := by
  have e : ((Z.setCell ⟨n, 0, none⟩ x).cell? ⟨n, 1, none⟩) = some u1 := by rw [World.cell?_setCell_other _ _ _ _ (fun e => by injection e with e1 e2; simp at e2)]; exact r1
  constructor
  · rw [World.cell?_setCell_other _ _ _ _ (fun e => by injection e with e1 e2; simp at e2)]
    simp [World.cell?_setCell_same', r0]
  · simp [World.cell?_setCell_same', e]

end Go.Proofs.Ytkcofelpndlplaa
/-
  What the document's shifted answers: both ends by a power of two, or no where the upper one is too great. Condition: a right span of numbers of 64 bits.
-/
namespace Go.Proofs.Ytkcofelpndlplaa
open Go.RowKit
set_option linter.unusedVariables false
set_option maxRecDepth 20000

/-- A box of two numbers that may be written. -/
def Bx (w : World) (n : Nat) (x y : Int) : Prop := (w.cell? ⟨n, 0, none⟩ = some (.int .u64 x) ∧ w.cell? ⟨n, 1, none⟩ = some (.int .u64 y)) ∧ w.frozen? ⟨n, 0, none⟩ = false ∧ w.frozen? ⟨n, 1, none⟩ = false
theorem Bx.set {w : World} {n : Nat} {x y : Int} (h : Bx w n x y) (x' y' : Int) : Bx ((w.setCell ⟨n, 0, none⟩ (.int .u64 x')).setCell ⟨n, 1, none⟩ (.int .u64 y')) n x' y' :=
  ⟨set_two h.1.1 h.1.2, by simpa using h.2.1, by simpa using h.2.2⟩
theorem Bx.far {w : World} {n m i : Nat} {x y : Int} {v : Value} (h : Bx w n x y) (hne : m ≠ n) : Bx (w.setCell ⟨m, i, none⟩ v) n x y := by
  have far : ∀ j, (w.setCell ⟨m, i, none⟩ v).cell? ⟨n, j, none⟩ = w.cell? ⟨n, j, none⟩ := fun j => World.cell?_setCell_other _ _ _ _ (fun e => hne (by injection e with e1))
  exact ⟨⟨(far 0).trans h.1.1, (far 1).trans h.1.2⟩, by simpa using h.2.1, by simpa using h.2.2⟩
def shiftR (a A : Int) (k : Nat) : Option (Int × Int) := if A * 2 ^ min k 64 ≤ 18446744073709551615 then some (a * 2 ^ min k 64, A * 2 ^ min k 64) else none
theorem shift_grows {A : Int} {j k : Nat} (hA : 0 < A) (h : 18446744073709551615 < A * 2 ^ j) (hj : j ≤ k) : 18446744073709551615 < A * 2 ^ min k 64 := by
  by_cases hk : k ≤ 64
  · rw [Nat.min_eq_left hk]
    have h1 : (2 : Int) ^ j ≤ 2 ^ k := by rw [two_pow_int, two_pow_int]; exact_mod_cast Nat.pow_le_pow_right (by decide) hj
    have h2 : A * 2 ^ j ≤ A * 2 ^ k := Int.mul_le_mul_of_nonneg_left h1 (by omega)
    omega
  · rw [Nat.min_eq_right (by omega)]
    have e : (2 : Int) ^ 64 = 18446744073709551616 := by decide
    rw [e]
    omega
theorem shift_small {A : Int} {k : Nat} (hA : 0 < A) (h : A * 2 ^ k ≤ 18446744073709551615) : k < 64 := by
  rcases Nat.lt_or_ge k 64 with hk | hk
  · exact hk
  · have h1 : (2 : Int) ^ 64 ≤ 2 ^ k := by rw [two_pow_int, two_pow_int]; exact_mod_cast Nat.pow_le_pow_right (by decide) hk
    have e : (2 : Int) ^ 64 = 18446744073709551616 := by decide
    have h2 : 1 * 2 ^ k ≤ A * 2 ^ k := Int.mul_le_mul_of_nonneg_right (by omega) (by omega)
    omega

end Go.Proofs.Ytkcofelpndlplaa
/-
  What the document's Do of two spans answers: shifts to the left by one number. Condition: a right span of numbers of 64 bits that isn't single.
-/
namespace Go.Proofs.Ytkcofelpndlplaa
open Go.RowKit
set_option linter.unusedVariables false
set_option maxRecDepth 20000

/-- What a box made below stays in a later world. -/
theorem Bx.below {w w' : World} {n B : Nat} {x y : Int} (h : Bx w n x y) (hb : Below B w w') (hB : n < B) : Bx w' n x y := by
  unfold Bx
  rw [hb.cell (p := ⟨n, 0, none⟩) hB, hb.cell (p := ⟨n, 1, none⟩) hB, hb.frozen (p := ⟨n, 0, none⟩) hB, hb.frozen (p := ⟨n, 1, none⟩) hB]
  exact h

end Go.Proofs.Ytkcofelpndlplaa
/-
  What the document's Join answers. Condition: the slice reads as spans of numbers of 64 bits.
-/
namespace Go.Proofs.Ytkcofelpndlplaa
open Go.RowKit
set_option linter.unusedVariables false
set_option maxRecDepth 20000

theorem loF_step {ss : List (Int × Int)} {k : Nat} (hk : k < ss.length) (h0 : k ≠ 0) : loF (ss.take (k + 1)) = min (loF (ss.take k)) (ss.getD k (0, 0)).1 ∧ hiF (ss.take (k + 1)) = max (hiF (ss.take k)) (ss.getD k (0, 0)).2 ∧ loM (ss.take (k + 1)) = max (loM (ss.take k)) (ss.getD k (0, 0)).1 ∧ hiM (ss.take (k + 1)) = min (hiM (ss.take k)) (ss.getD k (0, 0)).2 := by
  have e : ss.getD k (0, 0) = ss[k] := by simp [hk]
  have hne : ∀ f : Int × Int → Int, (ss.take k).map f ≠ [] := fun f h => by
    have hl : (ss.take k).length = 0 := by rw [List.map_eq_nil_iff.1 h]; rfl
    rw [List.length_take] at hl
    omega
  unfold loF hiF loM hiM
  rw [e, List.take_succ_eq_append_getElem hk]
  simp only [List.map_append, List.map_cons, List.map_nil]
  exact ⟨minF_snoc (hne _) _, maxF_snoc (hne _) _, maxF_snoc (hne _) _, minF_snoc (hne _) _⟩
theorem ends_one {ss : List (Int × Int)} (h : 0 < ss.length) : loF (ss.take 1) = (ss.getD 0 (0, 0)).1 ∧ hiF (ss.take 1) = (ss.getD 0 (0, 0)).2 ∧ loM (ss.take 1) = (ss.getD 0 (0, 0)).1 ∧ hiM (ss.take 1) = (ss.getD 0 (0, 0)).2 := by
  cases ss with
  | nil => simp at h
  | cons s r => exact ⟨rfl, rfl, rfl, rfl⟩
theorem okS_all_take {ss : List (Int × Int)} {k : Nat} (hk : k < ss.length) : (ss.take (k + 1)).all okS = ((ss.take k).all okS && okS (ss.getD k (0, 0))) := by
  have e : ss.getD k (0, 0) = ss[k] := by simp [hk]
  rw [e, List.take_succ_eq_append_getElem hk, List.all_append]
  simp
theorem okS_false {ss : List (Int × Int)} {k : Nat} (hk : k < ss.length) (h : okS (ss.getD k (0, 0)) = false) : joinB ss = false := by
  have e : ss.getD k (0, 0) = ss[k] := by simp [hk]
  rw [e] at h
  unfold joinB
  rw [Bool.and_eq_false_iff]
  right
  rw [Bool.eq_false_iff]
  intro hall
  rw [List.all_eq_true.1 hall _ (List.getElem_mem hk)] at h
  cases h

theorem Bx.set0 {w : World} {n : Nat} {x y : Int} (h : Bx w n x y) (x' : Int) : Bx (w.setCell ⟨n, 0, none⟩ (.int .u64 x')) n x' y :=
  ⟨⟨by simp [World.cell?_setCell_same', h.1.1], by rw [World.cell?_setCell_other _ _ _ _ (fun e => by injection e with e1 e2; simp at e2)]; exact h.1.2⟩, by simpa using h.2.1, by simpa using h.2.2⟩
theorem Bx.set1 {w : World} {n : Nat} {x y : Int} (h : Bx w n x y) (y' : Int) : Bx (w.setCell ⟨n, 1, none⟩ (.int .u64 y')) n x y' :=
  ⟨⟨by rw [World.cell?_setCell_other _ _ _ _ (fun e => by injection e with e1 e2; simp at e2)]; exact h.1.1, by simp [World.cell?_setCell_same', h.1.2]⟩, by simpa using h.2.1, by simpa using h.2.2⟩
theorem Bx.drew2 {w : World} {n : Nat} {x y : Int} {o : Obj} (h : Bx w n x y) (hn : n < w.heap.size) : Bx (w.alloc o).drew.drew n x y :=
  have h' : Bx (w.alloc o) n x y := h.below ((Below.refl w.heap.size w).alloc (Nat.le_refl _) o) hn
  h'
theorem Bx.al {w : World} {n : Nat} {x y : Int} {o : Obj} (h : Bx w n x y) (hn : n < w.heap.size) : Bx (w.alloc o) n x y := h.below ((Below.refl w.heap.size w).alloc (Nat.le_refl _) o) hn
theorem below_dr2 {B : Nat} {w Z : World} {o : Obj} (h : Below B w Z) (hB : B ≤ Z.heap.size) : Below B w (Z.alloc o).drew.drew := below_dr (below_dr (h.alloc hB o))
theorem size_set {w : World} {a : Addr} {v : Value} : (w.setCell a v).heap.size = w.heap.size := by simp [World.setCell]

end Go.Proofs.Ytkcofelpndlplaa
/-
  The examples that each law of layer 6 asks first come out as the document has them. Premises: the landed functions answer as the plain ones do (to be met by their own contracts).
-/
namespace Go.Proofs.Ytkcofelpndlplaa
open Go.RowKit
set_option linter.unusedVariables false
set_option maxRecDepth 20000

/-! What the landed span is to answer. -/
def KDo : Prop := ∀ (op a A b B : Int) (w : World), W64 a → W64 A → W64 b → W64 B → Calls Try.prog 66 #[.int .i64 op, .agg #[.int .u64 a, .int .u64 A], .agg #[.int .u64 b, .int .u64 B]] w fun e w' => e = .returned (optV (doR op a A b B)) ∧ Below w.heap.size w w'
def KRefine : Prop := ∀ (op a A b B : Int) (h : Bool) (w : World), W64 a → W64 A → W64 b → W64 B → Calls Try.prog 56 #[.int .i64 op, .agg #[.int .u64 a, .int .u64 A], .agg #[.int .u64 b, .int .u64 B], .bool h] w fun e w' => e = .returned (optV (refineR op a A b B h)) ∧ Below w.heap.size w w'
def KJoin : Prop := ∀ (v : Value) (ss : List (Int × Int)) (w : World), SeesS w v ss → (∀ s ∈ ss, wfS s) → Calls Try.prog 46 #[v] w fun e w' => e = .returned (optV (if joinB ss = true then some (joinL ss) else none)) ∧ Below w.heap.size w w'
def KMeet : Prop := ∀ (v : Value) (ss : List (Int × Int)) (w : World), SeesS w v ss → (∀ s ∈ ss, wfS s) → Calls Try.prog 69 #[v] w fun e w' => e = .returned (optV (if meetB ss = true then some (meetL ss) else none)) ∧ Below w.heap.size w w'
def KFull : Prop := ∀ w : World, Calls Try.prog 49 #[] w fun e w' => e = .returned (.agg #[.int .u64 0, .int .u64 18446744073709551615]) ∧ Below w.heap.size w w'
def KSingle : Prop := ∀ (n : Int) (w : World), W64 n → Calls Try.prog 50 #[.int .u64 n] w fun e w' => e = .returned (.agg #[.int .u64 n, .int .u64 n]) ∧ Below w.heap.size w w'

theorem do_ex : doR 5 0 99 16 16 = some (0, 15) := by decide
theorem join_ex : (if joinB [(1, 2), (7, 9)] = true then some (joinL [(1, 2), (7, 9)]) else none) = some (1, 9) := by decide
theorem refine_ex : refineR 18 0 18446744073709551615 16 16 true = some (0, 15) := by decide
theorem w64 {n : Int} (h : 0 ≤ n ∧ n ≤ 18446744073709551615) : W64 n := h
theorem bx_new (w : World) (x y : Int) : Bx (w.alloc (spO x y)) w.heap.size x y := ⟨⟨by go_cell, by go_cell⟩, by go_simp, by go_simp⟩
theorem sees_two (w : World) (t : TypeId) (x X y Y : Int) (k : Nat) (hk : k = w.heap.size) : SeesS (w.alloc (.cells #[.int .u64 x, .int .u64 X, .int .u64 y, .int .u64 Y] t)) (.slice (some ⟨k, 0, none⟩) 2 2) [(x, X), (y, Y)] := by
  subst hk
  exact SeesS.lit w t [(x, X), (y, Y)] _ 2 rfl rfl (by simp)
theorem wf_ex : ∀ s ∈ [((1 : Int), (2 : Int)), (7, 9)], wfS s := by
  intro s hs
  simp at hs
  rcases hs with rfl | rfl <;> exact ⟨⟨by decide, by decide⟩, ⟨by decide, by decide⟩⟩

end Go.Proofs.Ytkcofelpndlplaa
