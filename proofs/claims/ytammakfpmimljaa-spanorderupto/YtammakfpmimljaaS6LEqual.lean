/-
  What the landed equal answers. Condition: spans of numbers of 64 bits.
-/
import Derived.Test.YtammakfpmimljaaS6LCond
namespace Go.Proofs.Ytammakfpmimljaa
open Go.RowKit
set_option linter.unusedVariables false
set_option maxRecDepth 20000

theorem dr_below {B : Nat} {w Z : World} (h : Below B w.drew Z) : Below B w Z := ⟨h.os, h.tape, h.output, h.size, h.block⟩
/-- Two boxes, a call. -/
theorem two2 {w w1 : World} {a A : Int} (hb1 : Below ((w.alloc (spO a A)).alloc (spO 0 0)).heap.size ((w.alloc (spO a A)).alloc (spO 0 0)) w1) : (Bx w1 w.heap.size a A ∧ Bx w1 (w.heap.size + 1) 0 0) ∧ Below w.heap.size w w1 ∧ w.heap.size + 1 < w1.heap.size :=
  ⟨⟨Bx.below ⟨⟨by go_cell, by go_cell⟩, by go_simp, by go_simp⟩ hb1 (by simp; omega), Bx.below ⟨⟨by go_cell, by go_cell⟩, by go_simp, by go_simp⟩ hb1 (by simp)⟩, boxS_below (boxS_below hb1), Nat.lt_of_lt_of_le (by simp) hb1.size⟩
theorem lequal_yes (a A n : Int) (w : World) (ha : W64 a) (hA : W64 A) (hn : W64 n) :
    Calls Try.prog 43 #[.agg #[.int .u64 a, .int .u64 A], .int .u64 n, .bool true] w fun e w' => e = .returned (optV (meetO a A n n)) ∧ Below w.heap.size w w' := by
  obtain ⟨p, q, c, HP⟩ := optV_as (meetO a A n n)
  rw [HP.out]
  go_enter Try.func43, Try.ntmps43
  go_wp2_with (go_at_call 12; fail)
  go_region_with (first
    | (go_at_call 12; go_must (refine (lsingle_any n _).mono ?_); rintro e w1 ⟨rfl, hb1⟩; go_must (have q2 := two2 (dr_below hb1); clear hb1; obtain ⟨⟨⟨⟨c0, c1⟩, _, _⟩, h1⟩, hbe, hz⟩ := q2; have HB : Hid (Bx w1 (w.heap.size + 1) 0 0) := h1; have hz0 : w.heap.size < w1.heap.size := (by omega); clear h1))
    | (go_at_call 20; go_must (refine (two_meet HP _ _ (sees_two _ _ a A n n _ (by simp)) ha hA hn hn).mono ?_); rintro e w2 ⟨rfl, hb2⟩; go_must (obtain ⟨⟨r0, r1⟩, f0, f1⟩ := (HB.out.al hz).below hb2 (by simp; omega); have HT : Hid _ := set_two (x := .int .u64 p) (y := .int .u64 q) r0 r1; have hbe2 : Below w.heap.size w w2 := hbe.trans ((boxS_below hb2).mono (by omega)); clear hb2)))
  all_goals go_wp2
  all_goals refine bodyPost_ret (v := .tuple #[.agg #[.int .u64 p, .int .u64 q], .bool c]) ?_ rfl ⟨rfl, by first | exact below_set (below_set hbe2 (by omega)) (by omega) | exact below_dr (below_set (below_set hbe2 (by omega)) (by omega))⟩
  all_goals rw [results_cell_tmp rfl]
  all_goals simp [asAddr, Result.andThen, Act.put]
  all_goals first | rw [run_boxS HT.out.1 HT.out.2] | rw [run_boxS_drew HT.out.1 HT.out.2]
theorem lequal_none (n : Int) (w : World) :
    Calls Try.prog 43 #[.agg #[.int .u64 n, .int .u64 n], .int .u64 n, .bool false] w fun e w' => e = .returned (optV none) ∧ Below w.heap.size w w' := by
  go_enter Try.func43, Try.ntmps43
  go_wp2_with (go_at_call 12; fail)
  go_region_with (first
    | (go_at_call 12; go_must (refine (lsingle_any n _).mono ?_); rintro e w1 ⟨rfl, hb1⟩; go_must (have q2 := two2 (dr_below hb1); clear hb1; obtain ⟨⟨⟨⟨c0, c1⟩, _, _⟩, ⟨⟨r0, r1⟩, f0, f1⟩⟩, hbe, hz⟩ := q2; have HT : Hid _ := set_two (x := .int .u64 0) (y := .int .u64 0) r0 r1; have hz0 : w.heap.size < w1.heap.size := (by omega))))
  all_goals go_wp2
  all_goals refine bodyPost_ret (v := optV none) ?_ rfl ⟨rfl, by first | exact below_set (below_set hbe (by omega)) (by omega) | exact below_dr (below_set (below_set hbe (by omega)) (by omega))⟩
  all_goals rw [results_cell_tmp rfl]
  all_goals simp [asAddr, Result.andThen]
  all_goals first | rw [run_boxS HT.out.1 HT.out.2] | rw [run_boxS_drew HT.out.1 HT.out.2]
  all_goals rfl
theorem lequal_lo (A n : Int) (w : World) (hA : (A == n) = false) (hX : IntKind.u64.wrap (n + 1) = n + 1) :
    Calls Try.prog 43 #[.agg #[.int .u64 n, .int .u64 A], .int .u64 n, .bool false] w fun e w' => e = .returned (optV (some (n + 1, A))) ∧ Below w.heap.size w w' := by
  go_enter Try.func43, Try.ntmps43
  go_wp2_with (go_at_call 12; fail)
  go_region_with (first
    | (go_at_call 12; go_must (refine (lsingle_any n _).mono ?_); rintro e w1 ⟨rfl, hb1⟩; go_must (have q2 := two2 (dr_below hb1); clear hb1; obtain ⟨⟨⟨⟨c0, c1⟩, g0, g1⟩, hB⟩, hbe, hz⟩ := q2; have hz0 : w.heap.size < w1.heap.size := (by omega); obtain ⟨⟨r0, r1⟩, f0, f1⟩ := Bx.far (m := w.heap.size) (i := 0) (v := .int .u64 (n + 1)) hB (by omega); clear hB; have c1' : (w1.setCell ⟨w.heap.size, 0, none⟩ (.int .u64 (n + 1))).cell? ⟨w.heap.size, 1, none⟩ = some (.int .u64 A) := (World.cell?_setCell_other _ _ _ _ (fun e => by injection e with e1 e2; simp at e2)).trans c1; have HT : Hid _ := set_two (x := .int .u64 (n + 1)) (y := .int .u64 A) r0 r1)))
  all_goals go_wp2
  all_goals refine bodyPost_ret (v := optV (some (n + 1, A))) ?_ rfl ⟨rfl, below_set (below_set (below_set hbe (by omega)) (by omega)) (by omega)⟩
  all_goals rw [results_cell_tmp rfl]
  all_goals simp [asAddr, Result.andThen]
  all_goals rw [run_boxS HT.out.1 HT.out.2]
  all_goals rfl
theorem lequal_hi (a n : Int) (w : World) (ha : (a == n) = false) (hX : IntKind.u64.wrap (n - 1) = n - 1) :
    Calls Try.prog 43 #[.agg #[.int .u64 a, .int .u64 n], .int .u64 n, .bool false] w fun e w' => e = .returned (optV (some (a, n - 1))) ∧ Below w.heap.size w w' := by
  go_enter Try.func43, Try.ntmps43
  go_wp2_with (go_at_call 12; fail)
  go_region_with (first
    | (go_at_call 12; go_must (refine (lsingle_any n _).mono ?_); rintro e w1 ⟨rfl, hb1⟩; go_must (have q2 := two2 (dr_below hb1); clear hb1; obtain ⟨⟨⟨⟨c0, c1⟩, g0, g1⟩, hB⟩, hbe, hz⟩ := q2; have hz0 : w.heap.size < w1.heap.size := (by omega); obtain ⟨⟨r0, r1⟩, f0, f1⟩ := Bx.far (m := w.heap.size) (i := 1) (v := .int .u64 (n - 1)) hB (by omega); clear hB; have c0' : (w1.setCell ⟨w.heap.size, 1, none⟩ (.int .u64 (n - 1))).cell? ⟨w.heap.size, 0, none⟩ = some (.int .u64 a) := (World.cell?_setCell_other _ _ _ _ (fun e => by injection e with e1 e2; simp at e2)).trans c0; have HT : Hid _ := set_two (x := .int .u64 a) (y := .int .u64 (n - 1)) r0 r1)))
  all_goals go_wp2
  all_goals refine bodyPost_ret (v := optV (some (a, n - 1))) ?_ rfl ⟨rfl, below_set (below_set (below_set hbe (by omega)) (by omega)) (by omega)⟩
  all_goals rw [results_cell_tmp rfl]
  all_goals simp [asAddr, Result.andThen]
  all_goals rw [run_boxS HT.out.1 HT.out.2]
  all_goals rfl
theorem lequal_far (a A n : Int) (w : World) (ha : (a == n) = false) (hA : (A == n) = false) :
    Calls Try.prog 43 #[.agg #[.int .u64 a, .int .u64 A], .int .u64 n, .bool false] w fun e w' => e = .returned (optV (some (a, A))) ∧ Below w.heap.size w w' := by
  go_enter Try.func43, Try.ntmps43
  go_wp2_with (go_at_call 12; fail)
  go_region_with (first
    | (go_at_call 12; go_must (refine (lsingle_any n _).mono ?_); rintro e w1 ⟨rfl, hb1⟩; go_must (have q2 := two2 (dr_below hb1); clear hb1; obtain ⟨⟨⟨⟨c0, c1⟩, g0, g1⟩, hB⟩, hbe, hz⟩ := q2; have hz0 : w.heap.size < w1.heap.size := (by omega); obtain ⟨⟨r0, r1⟩, f0, f1⟩ := hB; have HT : Hid _ := set_two (x := .int .u64 a) (y := .int .u64 A) r0 r1)))
  all_goals go_wp2
  all_goals refine bodyPost_ret (v := optV (some (a, A))) ?_ rfl ⟨rfl, below_set (below_set hbe (by omega)) (by omega)⟩
  all_goals rw [results_cell_tmp rfl]
  all_goals simp [asAddr, Result.andThen]
  all_goals rw [run_boxS HT.out.1 HT.out.2]
  all_goals rfl
end Go.Proofs.Ytammakfpmimljaa
