/-
  What the document's Do of two spans answers: shifts to the right. Condition: right spans of numbers of 64 bits.
-/
import Derived.Test.YtammakfpmimljaaS6Ref
import Derived.Deep.RegionHeldLaw
namespace Go.Proofs.Ytammakfpmimljaa
open Go.RowKit
set_option linter.unusedVariables false
set_option maxRecDepth 20000

theorem keep4 {w : World} {n m k j : Nat} {v : Value} {x0 x1 y0 y1 : Value} (h : w.cell? ⟨n, 0, none⟩ = some x0 ∧ w.cell? ⟨n, 1, none⟩ = some x1 ∧ w.cell? ⟨m, 0, none⟩ = some y0 ∧ w.cell? ⟨m, 1, none⟩ = some y1) (h1 : k ≠ n) (h2 : k ≠ m) :
    (w.setCell ⟨k, j, none⟩ v).cell? ⟨n, 0, none⟩ = some x0 ∧ (w.setCell ⟨k, j, none⟩ v).cell? ⟨n, 1, none⟩ = some x1 ∧ (w.setCell ⟨k, j, none⟩ v).cell? ⟨m, 0, none⟩ = some y0 ∧ (w.setCell ⟨k, j, none⟩ v).cell? ⟨m, 1, none⟩ = some y1 := by
  have far : ∀ p i, k ≠ p → (w.setCell ⟨k, j, none⟩ v).cell? ⟨p, i, none⟩ = w.cell? ⟨p, i, none⟩ := fun p i hp => World.cell?_setCell_other _ _ _ _ (fun e => hp (by injection e with e1))
  rw [far n 0 h1, far n 1 h1, far m 0 h2, far m 1 h2]
  exact h
theorem below_set {B : Nat} {w Z : World} {n j : Nat} {v : Value} (h : Below B w Z) (hn : B ≤ n) : Below B w (Z.setCell ⟨n, j, none⟩ v) :=
  ⟨h.os, h.tape, h.output, by simpa [World.setCell] using h.size, fun k hk => (Below.heap_setCell Z _ _ k (fun e => by simp at e; omega)).trans (h.block k hk)⟩
theorem below_dr {B : Nat} {w Z : World} (h : Below B w Z) : Below B w Z.drew := ⟨h.os, h.tape, h.output, h.size, h.block⟩
theorem form_as {n m : Int} (h : Hid (m = formL n)) (w : World) (hn : 0 ≤ n ∧ n ≤ 18446744073709551615) : Calls Try.prog 40 #[.int .u64 n] w fun e w' => e = .returned (.int .u64 m) ∧ w = w' := by
  rw [h.out]; exact form_any n w hn
theorem run_boxS_drew {w : World} {n : Nat} {a A : Int} (h0 : w.cell? ⟨n, 0, none⟩ = some (.int .u64 a)) (h1 : w.cell? ⟨n, 1, none⟩ = some (.int .u64 A)) : (loadVar 24 ⟨n, 0, none⟩).run Try.prog w.drew = .ok (.agg #[.int .u64 a, .int .u64 A]) w.drew := run_boxS (w := w.drew) h0 h1
/-- Both cells of a box, stored. -/
theorem set_two {Z : World} {n : Nat} {u0 u1 x y : Value} (r0 : Z.cell? ⟨n, 0, none⟩ = some u0) (r1 : Z.cell? ⟨n, 1, none⟩ = some u1) :
    ((Z.setCell ⟨n, 0, none⟩ x).setCell ⟨n, 1, none⟩ y).cell? ⟨n, 0, none⟩ = some x ∧ ((Z.setCell ⟨n, 0, none⟩ x).setCell ⟨n, 1, none⟩ y).cell? ⟨n, 1, none⟩ = some y := by
  have e : ((Z.setCell ⟨n, 0, none⟩ x).cell? ⟨n, 1, none⟩) = some u1 := by rw [World.cell?_setCell_other _ _ _ _ (fun e => by injection e with e1 e2; simp at e2)]; exact r1
  constructor
  · rw [World.cell?_setCell_other _ _ _ _ (fun e => by injection e with e1 e2; simp at e2)]
    simp [World.cell?_setCell_same', r0]
  · simp [World.cell?_setCell_same', e]

set_option maxHeartbeats 400000 in
theorem sdo_shr (a A b B : Int) (w : World) (ha : 0 ≤ a ∧ a ≤ A ∧ A ≤ 18446744073709551615) (hb : 0 ≤ b ∧ b ≤ B ∧ B ≤ 18446744073709551615) (hs : (a == A) = false)  :
    Calls Try.prog 23 #[.int .i64 10, .agg #[.int .u64 a, .int .u64 A], .agg #[.int .u64 b, .int .u64 B]] w fun e w' => e = .returned (.tuple #[.agg #[.int .u64 (a / 2 ^ min B.toNat 64), .int .u64 (A / 2 ^ min b.toNat 64)], .bool true]) ∧ Below w.heap.size w w' := by
  have h1 : decide (a ≤ A) = true := decide_eq_true ha.2.1
  have h2 : decide (b ≤ B) = true := decide_eq_true hb.2.1
  obtain ⟨X, HX⟩ : ∃ X, Hid (X = a / 2 ^ min B.toNat 64) := ⟨_, rfl⟩
  obtain ⟨Y, HY⟩ : ∃ Y, Hid (Y = A / 2 ^ min b.toNat 64) := ⟨_, rfl⟩
  obtain ⟨Z, HZ, hcells, r0, r1, f0, f1, hBZ⟩ : ∃ Z, Hid (Z = ((((((w.alloc (spO a A)).alloc (spO b B)).alloc (spO 0 0)).alloc (spO a A)).alloc (spO b B)).alloc (spO 0 18446744073709551615))) ∧ (Z.cell? ⟨w.heap.size, 0, none⟩ = some (.int .u64 a) ∧ Z.cell? ⟨w.heap.size, 1, none⟩ = some (.int .u64 A) ∧ Z.cell? ⟨w.heap.size + 1, 0, none⟩ = some (.int .u64 b) ∧ Z.cell? ⟨w.heap.size + 1, 1, none⟩ = some (.int .u64 B)) ∧ Z.cell? ⟨w.heap.size + 1 + 1, 0, none⟩ = some (.int .u64 0) ∧ Z.cell? ⟨w.heap.size + 1 + 1, 1, none⟩ = some (.int .u64 0) ∧ Z.frozen? ⟨w.heap.size + 1 + 1, 0, none⟩ = false ∧ Z.frozen? ⟨w.heap.size + 1 + 1, 1, none⟩ = false ∧ Below w.heap.size w Z :=
    ⟨_, rfl, ⟨by go_cell, by go_cell, by go_cell, by go_cell⟩, by go_cell, by go_cell, by go_simp, by go_simp, by go_grown⟩
  go_enter Try.func23, Try.ntmps23
  go_wp2_with (first
    | (go_at_call 11; go_must (refine (rright_any _ _ _).mono ?_); rintro e w' ⟨rfl, rfl⟩)
    | (go_at_call 42; fail))
  rw [← HZ.out]
  clear HZ
  go_region_held_law (fun w' => w'.cell? ⟨w.heap.size, 0, none⟩ = some (.int .u64 a) ∧ w'.cell? ⟨w.heap.size, 1, none⟩ = some (.int .u64 A) ∧ w'.cell? ⟨w.heap.size + 1, 0, none⟩ = some (.int .u64 b) ∧ w'.cell? ⟨w.heap.size + 1, 1, none⟩ = some (.int .u64 B))
    (first | assumption | ((refine keep4 ?_ (by omega) (by omega); first | assumption | (refine keep4 ?_ (by omega) (by omega); assumption))))
    ((go_at_call 42; refine (half_any _ _ _ (by omega) (by omega)).mono ?_; rintro e w' ⟨rfl, rfl⟩; first | rw [← HX.out] | rw [← HY.out]))
  go_wp2
  obtain ⟨t0, t1⟩ := set_two (x := .int .u64 (X)) (y := .int .u64 Y) r0 r1
  refine bodyPost_ret (v := .tuple #[.agg #[.int .u64 (X), .int .u64 Y], .bool true]) ?_ rfl ⟨by rw [HX.out, HY.out], below_dr (below_set (below_set hBZ (by omega)) (by omega))⟩
  rw [results_cell_tmp rfl]
  simp [asAddr, Result.andThen]
  rw [run_boxS_drew t0 t1]
set_option maxHeartbeats 400000 in
theorem sdo_shrs (a b B : Int) (w : World) (ha : 0 ≤ a ∧ a ≤ a ∧ a ≤ 18446744073709551615) (hb : 0 ≤ b ∧ b ≤ B ∧ B ≤ 18446744073709551615) (hs : (b == B) = false)  :
    Calls Try.prog 23 #[.int .i64 10, .agg #[.int .u64 a, .int .u64 a], .agg #[.int .u64 b, .int .u64 B]] w fun e w' => e = .returned (.tuple #[.agg #[.int .u64 (a / 2 ^ min B.toNat 64), .int .u64 (a / 2 ^ min b.toNat 64)], .bool true]) ∧ Below w.heap.size w w' := by
  have h1 : decide (a ≤ a) = true := decide_eq_true ha.2.1
  have h2 : decide (b ≤ B) = true := decide_eq_true hb.2.1
  obtain ⟨X, HX⟩ : ∃ X, Hid (X = a / 2 ^ min B.toNat 64) := ⟨_, rfl⟩
  obtain ⟨Y, HY⟩ : ∃ Y, Hid (Y = a / 2 ^ min b.toNat 64) := ⟨_, rfl⟩
  obtain ⟨Z, HZ, hcells, r0, r1, f0, f1, hBZ⟩ : ∃ Z, Hid (Z = ((((((w.alloc (spO a a)).alloc (spO b B)).alloc (spO 0 0)).alloc (spO a a)).alloc (spO b B)).alloc (spO 0 18446744073709551615))) ∧ (Z.cell? ⟨w.heap.size, 0, none⟩ = some (.int .u64 a) ∧ Z.cell? ⟨w.heap.size, 1, none⟩ = some (.int .u64 a) ∧ Z.cell? ⟨w.heap.size + 1, 0, none⟩ = some (.int .u64 b) ∧ Z.cell? ⟨w.heap.size + 1, 1, none⟩ = some (.int .u64 B)) ∧ Z.cell? ⟨w.heap.size + 1 + 1, 0, none⟩ = some (.int .u64 0) ∧ Z.cell? ⟨w.heap.size + 1 + 1, 1, none⟩ = some (.int .u64 0) ∧ Z.frozen? ⟨w.heap.size + 1 + 1, 0, none⟩ = false ∧ Z.frozen? ⟨w.heap.size + 1 + 1, 1, none⟩ = false ∧ Below w.heap.size w Z :=
    ⟨_, rfl, ⟨by go_cell, by go_cell, by go_cell, by go_cell⟩, by go_cell, by go_cell, by go_simp, by go_simp, by go_grown⟩
  go_enter Try.func23, Try.ntmps23
  go_wp2_with (first
    | (go_at_call 11; go_must (refine (rright_any _ _ _).mono ?_); rintro e w' ⟨rfl, rfl⟩)
    | (go_at_call 42; fail))
  rw [← HZ.out]
  clear HZ
  go_region_held_law (fun w' => w'.cell? ⟨w.heap.size, 0, none⟩ = some (.int .u64 a) ∧ w'.cell? ⟨w.heap.size, 1, none⟩ = some (.int .u64 a) ∧ w'.cell? ⟨w.heap.size + 1, 0, none⟩ = some (.int .u64 b) ∧ w'.cell? ⟨w.heap.size + 1, 1, none⟩ = some (.int .u64 B))
    (first | assumption | ((refine keep4 ?_ (by omega) (by omega); first | assumption | (refine keep4 ?_ (by omega) (by omega); assumption))))
    ((go_at_call 42; refine (half_any _ _ _ (by omega) (by omega)).mono ?_; rintro e w' ⟨rfl, rfl⟩; first | rw [← HX.out] | rw [← HY.out]))
  go_wp2
  obtain ⟨t0, t1⟩ := set_two (x := .int .u64 (X)) (y := .int .u64 Y) r0 r1
  refine bodyPost_ret (v := .tuple #[.agg #[.int .u64 (X), .int .u64 Y], .bool true]) ?_ rfl ⟨by rw [HX.out, HY.out], below_dr (below_set (below_set hBZ (by omega)) (by omega))⟩
  rw [results_cell_tmp rfl]
  simp [asAddr, Result.andThen]
  rw [run_boxS_drew t0 t1]
end Go.Proofs.Ytammakfpmimljaa
