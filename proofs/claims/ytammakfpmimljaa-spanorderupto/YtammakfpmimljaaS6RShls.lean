/-
  What the document's Do of two spans answers: shifts to the left by one number. Condition: a right span of numbers of 64 bits that isn't single.
-/
import Derived.Test.YtammakfpmimljaaS6RShl
namespace Go.Proofs.Ytammakfpmimljaa
open Go.RowKit
set_option linter.unusedVariables false
set_option maxRecDepth 20000

theorem shifted_as {a A k : Int} {o : Option (Int × Int)} (h : Hid (o = shiftR a A k.toNat)) (w : World) (ha : 0 ≤ a ∧ a ≤ A ∧ A ≤ 18446744073709551615) (hk : 0 ≤ k ∧ k ≤ 18446744073709551615) :
    Calls Try.prog 41 #[.agg #[.int .u64 a, .int .u64 A], .int .u64 k] w fun e w' => e = .returned (optV o) ∧ Below w.heap.size w w' := by
  rw [h.out]; exact shifted_any a A k w ha hk
/-- What a box made below stays in a later world. -/
theorem Bx.below {w w' : World} {n B : Nat} {x y : Int} (h : Bx w n x y) (hb : Below B w w') (hB : n < B) : Bx w' n x y := by
  unfold Bx
  rw [hb.cell (p := ⟨n, 0, none⟩) hB, hb.cell (p := ⟨n, 1, none⟩) hB, hb.frozen (p := ⟨n, 0, none⟩) hB, hb.frozen (p := ⟨n, 1, none⟩) hB]
  exact h

set_option maxHeartbeats 400000 in
theorem sdo_shl2 (a A n : Int) (w : World) (ha : 0 ≤ a ∧ a ≤ A ∧ A ≤ 18446744073709551615) (hn : 0 ≤ n ∧ n ≤ 18446744073709551615) (hs : (a == A) = false) (h : Hid (none = shiftR a A n.toNat)) :
    Calls Try.prog 23 #[.int .i64 9, .agg #[.int .u64 a, .int .u64 A], .agg #[.int .u64 n, .int .u64 n]] w fun e w' => e = .returned (.tuple #[.agg #[.int .u64 0, .int .u64 18446744073709551615], .bool true]) ∧ Below w.heap.size w w' := by
  have h1 : decide (a ≤ A) = true := decide_eq_true ha.2.1
  have h2 : decide (n ≤ n) = true := decide_eq_true (Int.le_refl _)
  obtain ⟨Z, HZ, hcells, r, fu, hBZ, hz⟩ : ∃ Z, Hid (Z = ((((((w.alloc (spO a A)).alloc (spO n n)).alloc (spO 0 0)).alloc (spO a A)).alloc (spO n n)).alloc (spO 0 18446744073709551615))) ∧ Bx Z w.heap.size a A ∧ Bx Z (w.heap.size + 1 + 1) 0 0 ∧ Bx Z (w.heap.size + 1 + 1 + 1 + 1 + 1) 0 18446744073709551615 ∧ Below w.heap.size w Z ∧ w.heap.size + 1 + 1 + 1 + 1 + 1 < Z.heap.size :=
    ⟨_, rfl, ⟨⟨by go_cell, by go_cell⟩, by go_simp, by go_simp⟩, ⟨⟨by go_cell, by go_cell⟩, by go_simp, by go_simp⟩, ⟨⟨by go_cell, by go_cell⟩, by go_simp, by go_simp⟩, by go_grown, by simp⟩
  go_enter Try.func23, Try.ntmps23
  go_wp2_with (first
    | (go_at_call 11; go_must (refine (rright_any _ _ _).mono ?_); rintro e w' ⟨rfl, rfl⟩)
    | (go_at_call 41; go_must (rw [← HZ.out]; refine (shifted_as h _ ha hn).mono ?_); rintro e w1 ⟨rfl, hb1⟩; go_must (simp only [optV]; obtain ⟨⟨r0, r1⟩, q0, q1⟩ := r.below hb1 (by omega); obtain ⟨⟨e0, e1⟩, _, _⟩ := fu.below hb1 (by omega); have hB1 := hBZ.trans (hb1.mono hBZ.size); have hz1 := hb1.size; have k5 : w.heap.size + 1 + 1 + 1 + 1 + 1 < w1.heap.size := Nat.lt_of_lt_of_le hz hz1; have k2 : w.heap.size + 1 + 1 < w1.heap.size := Nat.lt_trans (by omega) k5; clear hz1 hb1 hz HZ)))
  have t := set_two (x := .int .u64 0) (y := .int .u64 18446744073709551615) r0 r1
  refine bodyPost_ret (v := .tuple #[.agg #[.int .u64 0, .int .u64 18446744073709551615], .bool true]) ?_ rfl ⟨rfl, (below_set (below_set hB1 (by omega)) (by omega)).alloc (by simp [World.setCell]; omega) _⟩
  rw [results_cell_tmp rfl]
  simp [asAddr, Result.andThen]
  rw [run_boxS (a := 0) (A := 18446744073709551615)]
  · refine (World.cell?_alloc_past _ _ _ ?_).trans t.1; simp [World.setCell]; omega
  · refine (World.cell?_alloc_past _ _ _ ?_).trans t.2; simp [World.setCell]; omega
set_option maxHeartbeats 400000 in
theorem sdo_shl3 (a A n x X : Int) (w : World) (ha : 0 ≤ a ∧ a ≤ A ∧ A ≤ 18446744073709551615) (hn : 0 ≤ n ∧ n ≤ 18446744073709551615) (hs : (a == A) = false) (h : Hid (some (x, X) = shiftR a A n.toNat)) :
    Calls Try.prog 23 #[.int .i64 9, .agg #[.int .u64 a, .int .u64 A], .agg #[.int .u64 n, .int .u64 n]] w fun e w' => e = .returned (.tuple #[.agg #[.int .u64 x, .int .u64 X], .bool true]) ∧ Below w.heap.size w w' := by
  have h1 : decide (a ≤ A) = true := decide_eq_true ha.2.1
  have h2 : decide (n ≤ n) = true := decide_eq_true (Int.le_refl _)
  obtain ⟨Z, HZ, hcells, r, fu, hBZ, hz⟩ : ∃ Z, Hid (Z = ((((((w.alloc (spO a A)).alloc (spO n n)).alloc (spO 0 0)).alloc (spO a A)).alloc (spO n n)).alloc (spO 0 18446744073709551615))) ∧ Bx Z w.heap.size a A ∧ Bx Z (w.heap.size + 1 + 1) 0 0 ∧ Bx Z (w.heap.size + 1 + 1 + 1 + 1 + 1) 0 18446744073709551615 ∧ Below w.heap.size w Z ∧ w.heap.size + 1 + 1 + 1 + 1 + 1 < Z.heap.size :=
    ⟨_, rfl, ⟨⟨by go_cell, by go_cell⟩, by go_simp, by go_simp⟩, ⟨⟨by go_cell, by go_cell⟩, by go_simp, by go_simp⟩, ⟨⟨by go_cell, by go_cell⟩, by go_simp, by go_simp⟩, by go_grown, by simp⟩
  go_enter Try.func23, Try.ntmps23
  go_wp2_with (first
    | (go_at_call 11; go_must (refine (rright_any _ _ _).mono ?_); rintro e w' ⟨rfl, rfl⟩)
    | (go_at_call 41; go_must (rw [← HZ.out]; refine (shifted_as h _ ha hn).mono ?_); rintro e w1 ⟨rfl, hb1⟩; go_must (simp only [optV]; obtain ⟨⟨r0, r1⟩, q0, q1⟩ := r.below hb1 (by omega); obtain ⟨⟨e0, e1⟩, _, _⟩ := fu.below hb1 (by omega); have hB1 := hBZ.trans (hb1.mono hBZ.size); have hz1 := hb1.size; have k5 : w.heap.size + 1 + 1 + 1 + 1 + 1 < w1.heap.size := Nat.lt_of_lt_of_le hz hz1; have k2 : w.heap.size + 1 + 1 < w1.heap.size := Nat.lt_trans (by omega) k5; clear hz1 hb1 hz HZ)))
  have t := set_two (x := .int .u64 x) (y := .int .u64 X) r0 r1
  refine bodyPost_ret (v := .tuple #[.agg #[.int .u64 x, .int .u64 X], .bool true]) ?_ rfl ⟨rfl, (below_set (below_set hB1 (by omega)) (by omega)).alloc (by simp [World.setCell]; omega) _⟩
  rw [results_cell_tmp rfl]
  simp [asAddr, Result.andThen]
  rw [run_boxS (a := x) (A := X)]
  · refine (World.cell?_alloc_past _ _ _ ?_).trans t.1; simp [World.setCell]; omega
  · refine (World.cell?_alloc_past _ _ _ ?_).trans t.2; simp [World.setCell]; omega
end Go.Proofs.Ytammakfpmimljaa
