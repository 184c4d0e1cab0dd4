/-
  S6LCond
  S6LEqual
-/
import Derived.Test.YtkcofelpndlplaaML22
import Derived.Deep.RegionWith
import Derived.Deep.RegionHeldLaw
/-
  What the landed equal and below answer. Condition: spans of numbers of 64 bits.
-/
namespace Go.Proofs.Ytkcofelpndlplaa
open Go.RowKit
set_option linter.unusedVariables false
set_option maxRecDepth 20000

def meetO (x X y Y : Int) : Option (Int × Int) := if max x y ≤ min X Y then some (max x y, min X Y) else none
theorem meet_two (x X y Y : Int) : (if meetB [(x, X), (y, Y)] = true then some (meetL [(x, X), (y, Y)]) else none) = meetO x X y Y := by
  have h1 := meet_cross (ss := [(x, X), (y, Y)]) (by simp)
  have e1 : loM [(x, X), (y, Y)] = max x y := rfl
  have e2 : hiM [(x, X), (y, Y)] = min X Y := rfl
  rw [e1, e2] at h1
  unfold meetO
  by_cases h : max x y ≤ min X Y
  · rw [decide_eq_true h] at h1
    rw [if_pos h1, if_pos h]
    unfold meetL
    rw [if_pos h1, e1, e2]
  · rw [decide_eq_false h] at h1
    rw [if_neg (by rw [h1]; simp), if_neg h]
theorem optV_as (o : Option (Int × Int)) : ∃ x y c, Hid (optV o = .tuple #[.agg #[.int .u64 x, .int .u64 y], .bool c]) := by
  cases o with
  | none => exact ⟨0, 0, false, rfl⟩
  | some p => exact ⟨p.1, p.2, true, rfl⟩
theorem two_meet {x X y Y p q : Int} {c : Bool} (h : Hid (optV (meetO x X y Y) = .tuple #[.agg #[.int .u64 p, .int .u64 q], .bool c])) (v : Value) (w : World) (hs : SeesS w v [(x, X), (y, Y)]) (hx : W64 x) (hX : W64 X) (hy : W64 y) (hY : W64 Y) :
    Calls Try.prog 69 #[v] w fun e w' => e = .returned (.tuple #[.agg #[.int .u64 p, .int .u64 q], .bool c]) ∧ Below w.heap.size w w' := by
  have h1 := lmeet_any v [(x, X), (y, Y)] w hs (by
    intro s hs
    simp at hs
    rcases hs with rfl | rfl
    · exact ⟨hx, hX⟩
    · exact ⟨hy, hY⟩)
  rw [meet_two, h.out] at h1
  exact h1
/-- Two boxes, a list behind them, a call. -/
theorem second3 {w w1 : World} {o1 o3 : Obj} (hb1 : Below (((w.alloc o1).alloc (spO 0 0)).alloc o3).heap.size (((w.alloc o1).alloc (spO 0 0)).alloc o3) w1) : Bx w1 (w.heap.size + 1) 0 0 ∧ Below w.heap.size w w1 ∧ w.heap.size + 1 < w1.heap.size :=
  ⟨Bx.below ⟨⟨by go_cell, by go_cell⟩, by go_simp, by go_simp⟩ hb1 (by simp), boxS_below (boxS_below (boxS_below hb1)), Nat.lt_of_lt_of_le (by simp) hb1.size⟩
theorem lbelow_from (a A n : Int) (w : World) (ha : W64 a) (hA : W64 A) (hn : W64 n) :
    Calls Try.prog 64 #[.agg #[.int .u64 a, .int .u64 A], .int .u64 n, .bool false] w fun e w' => e = .returned (optV (meetO a A n 18446744073709551615)) ∧ Below w.heap.size w w' := by
  obtain ⟨p, q, c, HP⟩ := optV_as (meetO a A n 18446744073709551615)
  rw [HP.out]
  go_enter Try.func64, Try.ntmps64
  go_wp2_with (go_at_call 69; go_must (refine (two_meet HP _ _ (sees_two _ _ a A n 18446744073709551615 _ (by simp)) ha hA hn ⟨by decide, by decide⟩).mono ?_); rintro e w1 ⟨rfl, hb1⟩; go_must (obtain ⟨⟨⟨r0, r1⟩, f0, f1⟩, hbe, hz⟩ := second3 hb1; have HT : Hid _ := set_two (x := .int .u64 p) (y := .int .u64 q) r0 r1; clear hb1))
  refine bodyPost_ret (v := .tuple #[.agg #[.int .u64 p, .int .u64 q], .bool c]) ?_ rfl ⟨rfl, below_set (below_set hbe (by omega)) (by omega)⟩
  rw [results_cell_tmp rfl]
  simp [asAddr, Result.andThen]
  rw [run_boxS HT.out.1 HT.out.2]
theorem lbelow_zero (a A : Int) (w : World) :
    Calls Try.prog 64 #[.agg #[.int .u64 a, .int .u64 A], .int .u64 0, .bool true] w fun e w' => e = .returned (optV none) ∧ Below w.heap.size w w' := by
  go_enter Try.func64, Try.ntmps64
  go_wp2
  refine bodyPost_ret (v := optV none) ?_ rfl ⟨rfl, by go_grown⟩
  rw [results_cell_tmp rfl]
  simp [asAddr, Result.andThen]
  rw [run_boxS (a := 0) (A := 0)]
  · rfl
  all_goals go_cell
theorem lbelow_less (a A n : Int) (w : World) (ha : W64 a) (hA : W64 A) (hn : W64 n) (hn0 : (n == 0) = false) :
    Calls Try.prog 64 #[.agg #[.int .u64 a, .int .u64 A], .int .u64 n, .bool true] w fun e w' => e = .returned (optV (meetO a A 0 (n - 1))) ∧ Below w.heap.size w w' := by
  obtain ⟨p, q, c, HP⟩ := optV_as (meetO a A 0 (n - 1))
  rw [HP.out]
  have hn1 : n ≠ 0 := by simpa using hn0
  have hn' : 0 ≤ n ∧ n ≤ 18446744073709551615 := hn
  have hX : IntKind.u64.wrap (n - 1) = n - 1 := wrap_in (by omega) (by omega)
  have HW : Hid (W64 (n - 1)) := ⟨by omega, by omega⟩
  go_enter Try.func64, Try.ntmps64
  go_wp2_with (go_at_call 69; go_must (refine (two_meet HP _ _ (sees_two _ _ a A 0 (n - 1) _ (by simp)) ha hA ⟨by decide, by decide⟩ HW.out).mono ?_); rintro e w1 ⟨rfl, hb1⟩; go_must (obtain ⟨⟨⟨r0, r1⟩, f0, f1⟩, hbe, hz⟩ := second3 hb1; have HT : Hid _ := set_two (x := .int .u64 p) (y := .int .u64 q) r0 r1; clear hb1))
  refine bodyPost_ret (v := .tuple #[.agg #[.int .u64 p, .int .u64 q], .bool c]) ?_ rfl ⟨rfl, below_set (below_set hbe (by omega)) (by omega)⟩
  rw [results_cell_tmp rfl]
  simp [asAddr, Result.andThen]
  rw [run_boxS HT.out.1 HT.out.2]
end Go.Proofs.Ytkcofelpndlplaa
/-
  What the landed equal answers. Condition: spans of numbers of 64 bits.
-/
namespace Go.Proofs.Ytkcofelpndlplaa
open Go.RowKit
set_option linter.unusedVariables false
set_option maxRecDepth 20000

theorem dr_below {B : Nat} {w Z : World} (h : Below B w.drew Z) : Below B w Z := ⟨h.os, h.tape, h.output, h.size, h.block⟩
/-- Two boxes, a call. -/
theorem two2 {w w1 : World} {a A : Int} (hb1 : Below ((w.alloc (spO a A)).alloc (spO 0 0)).heap.size ((w.alloc (spO a A)).alloc (spO 0 0)) w1) : (Bx w1 w.heap.size a A ∧ Bx w1 (w.heap.size + 1) 0 0) ∧ Below w.heap.size w w1 ∧ w.heap.size + 1 < w1.heap.size :=
  ⟨⟨Bx.below ⟨⟨by go_cell, by go_cell⟩, by go_simp, by go_simp⟩ hb1 (by simp; omega), Bx.below ⟨⟨by go_cell, by go_cell⟩, by go_simp, by go_simp⟩ hb1 (by simp)⟩, boxS_below (boxS_below hb1), Nat.lt_of_lt_of_le (by simp) hb1.size⟩
theorem lequal_yes (a A n : Int) (w : World) (ha : W64 a) (hA : W64 A) (hn : W64 n) :
    Calls Try.prog 63 #[.agg #[.int .u64 a, .int .u64 A], .int .u64 n, .bool true] w fun e w' => e = .returned (optV (meetO a A n n)) ∧ Below w.heap.size w w' := by
  obtain ⟨p, q, c, HP⟩ := optV_as (meetO a A n n)
  rw [HP.out]
  go_enter Try.func63, Try.ntmps63
  go_wp2_with (go_at_call 50; fail)
  go_region_with (first
    | (go_at_call 50; go_must (refine (lsingle_any n _).mono ?_); rintro e w1 ⟨rfl, hb1⟩; go_must (have q2 := two2 (dr_below hb1); clear hb1; obtain ⟨⟨⟨⟨c0, c1⟩, _, _⟩, h1⟩, hbe, hz⟩ := q2; have HB : Hid (Bx w1 (w.heap.size + 1) 0 0) := h1; have hz0 : w.heap.size < w1.heap.size := (by omega); clear h1))
    | (go_at_call 69; go_must (refine (two_meet HP _ _ (sees_two _ _ a A n n _ (by simp)) ha hA hn hn).mono ?_); rintro e w2 ⟨rfl, hb2⟩; go_must (obtain ⟨⟨r0, r1⟩, f0, f1⟩ := (HB.out.al hz).below hb2 (by simp; omega); have HT : Hid _ := set_two (x := .int .u64 p) (y := .int .u64 q) r0 r1; have hbe2 : Below w.heap.size w w2 := hbe.trans ((boxS_below hb2).mono (by omega)); clear hb2)))
  all_goals go_wp2
  all_goals refine bodyPost_ret (v := .tuple #[.agg #[.int .u64 p, .int .u64 q], .bool c]) ?_ rfl ⟨rfl, by first | exact below_set (below_set hbe2 (by omega)) (by omega) | exact below_dr (below_set (below_set hbe2 (by omega)) (by omega))⟩
  all_goals rw [results_cell_tmp rfl]
  all_goals simp [asAddr, Result.andThen, Act.put]
  all_goals first | rw [run_boxS HT.out.1 HT.out.2] | rw [run_boxS_drew HT.out.1 HT.out.2]
theorem lequal_none (n : Int) (w : World) :
    Calls Try.prog 63 #[.agg #[.int .u64 n, .int .u64 n], .int .u64 n, .bool false] w fun e w' => e = .returned (optV none) ∧ Below w.heap.size w w' := by
  go_enter Try.func63, Try.ntmps63
  go_wp2_with (go_at_call 50; fail)
  go_region_with (first
    | (go_at_call 50; go_must (refine (lsingle_any n _).mono ?_); rintro e w1 ⟨rfl, hb1⟩; go_must (have q2 := two2 (dr_below hb1); clear hb1; obtain ⟨⟨⟨⟨c0, c1⟩, _, _⟩, ⟨⟨r0, r1⟩, f0, f1⟩⟩, hbe, hz⟩ := q2; have HT : Hid _ := set_two (x := .int .u64 0) (y := .int .u64 0) r0 r1; have hz0 : w.heap.size < w1.heap.size := (by omega))))
  all_goals go_wp2
  all_goals refine bodyPost_ret (v := optV none) ?_ rfl ⟨rfl, by first | exact below_set (below_set hbe (by omega)) (by omega) | exact below_dr (below_set (below_set hbe (by omega)) (by omega))⟩
  all_goals rw [results_cell_tmp rfl]
  all_goals simp [asAddr, Result.andThen]
  all_goals first | rw [run_boxS HT.out.1 HT.out.2] | rw [run_boxS_drew HT.out.1 HT.out.2]
  all_goals rfl
theorem lequal_lo (A n : Int) (w : World) (hA : (A == n) = false) (hX : IntKind.u64.wrap (n + 1) = n + 1) :
    Calls Try.prog 63 #[.agg #[.int .u64 n, .int .u64 A], .int .u64 n, .bool false] w fun e w' => e = .returned (optV (some (n + 1, A))) ∧ Below w.heap.size w w' := by
  go_enter Try.func63, Try.ntmps63
  go_wp2_with (go_at_call 50; fail)
  go_region_with (first
    | (go_at_call 50; go_must (refine (lsingle_any n _).mono ?_); rintro e w1 ⟨rfl, hb1⟩; go_must (have q2 := two2 (dr_below hb1); clear hb1; obtain ⟨⟨⟨⟨c0, c1⟩, g0, g1⟩, hB⟩, hbe, hz⟩ := q2; have hz0 : w.heap.size < w1.heap.size := (by omega); obtain ⟨⟨r0, r1⟩, f0, f1⟩ := Bx.far (m := w.heap.size) (i := 0) (v := .int .u64 (n + 1)) hB (by omega); clear hB; have c1' : (w1.setCell ⟨w.heap.size, 0, none⟩ (.int .u64 (n + 1))).cell? ⟨w.heap.size, 1, none⟩ = some (.int .u64 A) := (World.cell?_setCell_other _ _ _ _ (fun e => by injection e with e1 e2; simp at e2)).trans c1; have HT : Hid _ := set_two (x := .int .u64 (n + 1)) (y := .int .u64 A) r0 r1)))
  all_goals go_wp2
  all_goals refine bodyPost_ret (v := optV (some (n + 1, A))) ?_ rfl ⟨rfl, below_set (below_set (below_set hbe (by omega)) (by omega)) (by omega)⟩
  all_goals rw [results_cell_tmp rfl]
  all_goals simp [asAddr, Result.andThen]
  all_goals rw [run_boxS HT.out.1 HT.out.2]
  all_goals rfl
theorem lequal_hi (a n : Int) (w : World) (ha : (a == n) = false) (hX : IntKind.u64.wrap (n - 1) = n - 1) :
    Calls Try.prog 63 #[.agg #[.int .u64 a, .int .u64 n], .int .u64 n, .bool false] w fun e w' => e = .returned (optV (some (a, n - 1))) ∧ Below w.heap.size w w' := by
  go_enter Try.func63, Try.ntmps63
  go_wp2_with (go_at_call 50; fail)
  go_region_with (first
    | (go_at_call 50; go_must (refine (lsingle_any n _).mono ?_); rintro e w1 ⟨rfl, hb1⟩; go_must (have q2 := two2 (dr_below hb1); clear hb1; obtain ⟨⟨⟨⟨c0, c1⟩, g0, g1⟩, hB⟩, hbe, hz⟩ := q2; have hz0 : w.heap.size < w1.heap.size := (by omega); obtain ⟨⟨r0, r1⟩, f0, f1⟩ := Bx.far (m := w.heap.size) (i := 1) (v := .int .u64 (n - 1)) hB (by omega); clear hB; have c0' : (w1.setCell ⟨w.heap.size, 1, none⟩ (.int .u64 (n - 1))).cell? ⟨w.heap.size, 0, none⟩ = some (.int .u64 a) := (World.cell?_setCell_other _ _ _ _ (fun e => by injection e with e1 e2; simp at e2)).trans c0; have HT : Hid _ := set_two (x := .int .u64 a) (y := .int .u64 (n - 1)) r0 r1)))
  all_goals go_wp2
  all_goals refine bodyPost_ret (v := optV (some (a, n - 1))) ?_ rfl ⟨rfl, below_set (below_set (below_set hbe (by omega)) (by omega)) (by omega)⟩
  all_goals rw [results_cell_tmp rfl]
  all_goals simp [asAddr, Result.andThen]
  all_goals rw [run_boxS HT.out.1 HT.out.2]
  all_goals rfl
theorem lequal_far (a A n : Int) (w : World) (ha : (a == n) = false) (hA : (A == n) = false) :
    Calls Try.prog 63 #[.agg #[.int .u64 a, .int .u64 A], .int .u64 n, .bool false] w fun e w' => e = .returned (optV (some (a, A))) ∧ Below w.heap.size w w' := by
  go_enter Try.func63, Try.ntmps63
  go_wp2_with (go_at_call 50; fail)
  go_region_with (first
    | (go_at_call 50; go_must (refine (lsingle_any n _).mono ?_); rintro e w1 ⟨rfl, hb1⟩; go_must (have q2 := two2 (dr_below hb1); clear hb1; obtain ⟨⟨⟨⟨c0, c1⟩, g0, g1⟩, hB⟩, hbe, hz⟩ := q2; have hz0 : w.heap.size < w1.heap.size := (by omega); obtain ⟨⟨r0, r1⟩, f0, f1⟩ := hB; have HT : Hid _ := set_two (x := .int .u64 a) (y := .int .u64 A) r0 r1)))
  all_goals go_wp2
  all_goals refine bodyPost_ret (v := optV (some (a, A))) ?_ rfl ⟨rfl, below_set (below_set hbe (by omega)) (by omega)⟩
  all_goals rw [results_cell_tmp rfl]
  all_goals simp [asAddr, Result.andThen]
  all_goals rw [run_boxS HT.out.1 HT.out.2]
  all_goals rfl
end Go.Proofs.Ytkcofelpndlplaa
