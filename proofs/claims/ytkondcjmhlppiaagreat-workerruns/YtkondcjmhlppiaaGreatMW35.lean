/-
  S6LCond
  S6LEqual
  S6LRefA
  S6LRefine
-/
import Derived.Test.YtkondcjmhlppiaaGreatMW34
import Derived.Deep.RegionWith
import Derived.Deep.RegionHeldLaw
namespace Go.Proofs.YtkondcjmhlppiaaGreat
open Go.RowKit
set_option linter.unusedVariables false
set_option maxRecDepth 20000
def meetO (x X y Y : Int) : Option (Int × Int) := if max x y <= min X Y then some (max x y, min X Y) else none
theorem meet_two (x X y Y : Int) : (if meetB [(x, X), (y, Y)] = true then some (meetL [(x, X), (y, Y)]) else none) = meetO x X y Y := by
 have h1 := meet_cross (ss := [(x, X), (y, Y)]) (by simp)
 have e1 : loM [(x, X), (y, Y)] = max x y := rfl
 have e2 : hiM [(x, X), (y, Y)] = min X Y := rfl
 rw [e1, e2] at h1
 unfold meetO
 by_cases h : max x y <= min X Y
 ·rw [decide_eq_true h] at h1
  rw [if_pos h1, if_pos h]
  unfold meetL
  rw [if_pos h1, e1, e2]
 ·rw [decide_eq_false h] at h1
  rw [if_neg (by rw [h1]; simp), if_neg h]
theorem optV_as (o : Option (Int × Int)) : ∃ x y c, Hid (optV o = .tuple #[.agg #[.int .u64 x, .int .u64 y], .bool c]) := by
 cases o with
 | none => exact ⟨0, 0, false, rfl⟩
 | some p => exact ⟨p.1, p.2, true, rfl⟩
theorem two_meet {x X y Y p q : Int} {c : Bool} (h : Hid (optV (meetO x X y Y) = .tuple #[.agg #[.int .u64 p, .int .u64 q], .bool c])) (v : Value) (w : World) (hs : SeesS w v [(x, X), (y, Y)]) (hx : W64 x) (hX : W64 X) (hy : W64 y) (hY : W64 Y) :
  Calls Tryz.prog 108 #[v] w fun e w' => e = .returned (.tuple #[.agg #[.int .u64 p, .int .u64 q], .bool c]) /\ Below w.heap.size w w' := by
 have h1 := lmeet_any v [(x, X), (y, Y)] w hs (by
  intro s hs
  simp at hs
  rcases hs with rfl | rfl
  ·exact ⟨hx, hX⟩
  ·exact ⟨hy, hY⟩)
 rw [meet_two, h.out] at h1
 exact h1
theorem second3 {w w1 : World} {o1 o3 : Obj} (hb1 : Below (((w.alloc o1).alloc (spO 0 0)).alloc o3).heap.size (((w.alloc o1).alloc (spO 0 0)).alloc o3) w1) : Bx w1 (w.heap.size + 1) 0 0 /\ Below w.heap.size w w1 /\ w.heap.size + 1 < w1.heap.size :=
 ⟨Bx.below ⟨⟨by go_cell, by go_cell⟩, by go_simp, by go_simp⟩ hb1 (by simp), boxS_below (boxS_below (boxS_below hb1)), Nat.lt_of_lt_of_le (by simp) hb1.size⟩
theorem lbelow_from (a A n : Int) (w : World) (ha : W64 a) (hA : W64 A) (hn : W64 n) :
  Calls Tryz.prog 103 #[.agg #[.int .u64 a, .int .u64 A], .int .u64 n, .bool false] w fun e w' => e = .returned (optV (meetO a A n 18446744073709551615)) /\ Below w.heap.size w w' := by
 obtain ⟨p, q, c, HP⟩ := optV_as (meetO a A n 18446744073709551615)
 rw [HP.out]
 go_enter Tryz.func103, Tryz.ntmps103
 go_wp2_with (go_at_call 108; go_must (refine (two_meet HP _ _ (sees_two _ _ a A n 18446744073709551615 _ (by simp)) ha hA hn ⟨by decide, by decide⟩).mono ?_); rintro e w1 ⟨rfl, hb1⟩; go_must (obtain ⟨⟨⟨r0, r1⟩, f0, f1⟩, hbe, hz⟩ := second3 hb1; have HT : Hid _ := set_two (x := .int .u64 p) (y := .int .u64 q) r0 r1; clear hb1))
 refine bodyPost_ret (v := .tuple #[.agg #[.int .u64 p, .int .u64 q], .bool c]) ?_ rfl ⟨rfl, below_set (below_set hbe (by omega)) (by omega)⟩
 rw [results_cell_tmp rfl]
 simp [asAddr, Result.andThen]
 rw [run_boxS HT.out.1 HT.out.2]
theorem lbelow_zero (a A : Int) (w : World) :
  Calls Tryz.prog 103 #[.agg #[.int .u64 a, .int .u64 A], .int .u64 0, .bool true] w fun e w' => e = .returned (optV none) /\ Below w.heap.size w w' := by
 go_enter Tryz.func103, Tryz.ntmps103
 go_wp2
 refine bodyPost_ret (v := optV none) ?_ rfl ⟨rfl, by go_grown⟩
 rw [results_cell_tmp rfl]
 simp [asAddr, Result.andThen]
 rw [run_boxS (a := 0) (A := 0)]
 ·rfl
 all_goals go_cell
theorem lbelow_less (a A n : Int) (w : World) (ha : W64 a) (hA : W64 A) (hn : W64 n) (hn0 : (n == 0) = false) :
  Calls Tryz.prog 103 #[.agg #[.int .u64 a, .int .u64 A], .int .u64 n, .bool true] w fun e w' => e = .returned (optV (meetO a A 0 (n - 1))) /\ Below w.heap.size w w' := by
 obtain ⟨p, q, c, HP⟩ := optV_as (meetO a A 0 (n - 1))
 rw [HP.out]
 have hn1 : n ≠ 0 := by simpa using hn0
 have hn' : 0 <= n /\ n <= 18446744073709551615 := hn
 have hX : IntKind.u64.wrap (n - 1) = n - 1 := wrap_in (by omega) (by omega)
 have HW : Hid (W64 (n - 1)) := ⟨by omega, by omega⟩
 go_enter Tryz.func103, Tryz.ntmps103
 go_wp2_with (go_at_call 108; go_must (refine (two_meet HP _ _ (sees_two _ _ a A 0 (n - 1) _ (by simp)) ha hA ⟨by decide, by decide⟩ HW.out).mono ?_); rintro e w1 ⟨rfl, hb1⟩; go_must (obtain ⟨⟨⟨r0, r1⟩, f0, f1⟩, hbe, hz⟩ := second3 hb1; have HT : Hid _ := set_two (x := .int .u64 p) (y := .int .u64 q) r0 r1; clear hb1))
 refine bodyPost_ret (v := .tuple #[.agg #[.int .u64 p, .int .u64 q], .bool c]) ?_ rfl ⟨rfl, below_set (below_set hbe (by omega)) (by omega)⟩
 rw [results_cell_tmp rfl]
 simp [asAddr, Result.andThen]
 rw [run_boxS HT.out.1 HT.out.2]
theorem dr_below {B : Nat} {w Z : World} (h : Below B w.drew Z) : Below B w Z := ⟨h.os, h.tape, h.output, h.size, h.block⟩
theorem two2 {w w1 : World} {a A : Int} (hb1 : Below ((w.alloc (spO a A)).alloc (spO 0 0)).heap.size ((w.alloc (spO a A)).alloc (spO 0 0)) w1) : (Bx w1 w.heap.size a A /\ Bx w1 (w.heap.size + 1) 0 0) /\ Below w.heap.size w w1 /\ w.heap.size + 1 < w1.heap.size :=
 ⟨⟨Bx.below ⟨⟨by go_cell, by go_cell⟩, by go_simp, by go_simp⟩ hb1 (by simp; omega), Bx.below ⟨⟨by go_cell, by go_cell⟩, by go_simp, by go_simp⟩ hb1 (by simp)⟩, boxS_below (boxS_below hb1), Nat.lt_of_lt_of_le (by simp) hb1.size⟩
theorem lequal_yes (a A n : Int) (w : World) (ha : W64 a) (hA : W64 A) (hn : W64 n) :
  Calls Tryz.prog 102 #[.agg #[.int .u64 a, .int .u64 A], .int .u64 n, .bool true] w fun e w' => e = .returned (optV (meetO a A n n)) /\ Below w.heap.size w w' := by
 obtain ⟨p, q, c, HP⟩ := optV_as (meetO a A n n)
 rw [HP.out]
 go_enter Tryz.func102, Tryz.ntmps102
 go_wp2_with (go_at_call 83; fail)
 go_region_with (first
  | (go_at_call 83; go_must (refine (lsingle_any n _).mono ?_); rintro e w1 ⟨rfl, hb1⟩; go_must (have q2 := two2 (dr_below hb1); clear hb1; obtain ⟨⟨⟨⟨c0, c1⟩, _, _⟩, h1⟩, hbe, hz⟩ := q2; have HB : Hid (Bx w1 (w.heap.size + 1) 0 0) := h1; have hz0 : w.heap.size < w1.heap.size := (by omega); clear h1))
  | (go_at_call 108; go_must (refine (two_meet HP _ _ (sees_two _ _ a A n n _ (by simp)) ha hA hn hn).mono ?_); rintro e w2 ⟨rfl, hb2⟩; go_must (obtain ⟨⟨r0, r1⟩, f0, f1⟩ := (HB.out.al hz).below hb2 (by simp; omega); have HT : Hid _ := set_two (x := .int .u64 p) (y := .int .u64 q) r0 r1; have hbe2 : Below w.heap.size w w2 := hbe.trans ((boxS_below hb2).mono (by omega)); clear hb2)))
 all_goals go_wp2
 all_goals refine bodyPost_ret (v := .tuple #[.agg #[.int .u64 p, .int .u64 q], .bool c]) ?_ rfl ⟨rfl, by first | exact below_set (below_set hbe2 (by omega)) (by omega) | exact below_dr (below_set (below_set hbe2 (by omega)) (by omega))⟩
 all_goals rw [results_cell_tmp rfl]
 all_goals simp [asAddr, Result.andThen, Act.put]
 all_goals first | rw [run_boxS HT.out.1 HT.out.2] | rw [run_boxS_drew HT.out.1 HT.out.2]
theorem lequal_none (n : Int) (w : World) :
  Calls Tryz.prog 102 #[.agg #[.int .u64 n, .int .u64 n], .int .u64 n, .bool false] w fun e w' => e = .returned (optV none) /\ Below w.heap.size w w' := by
 go_enter Tryz.func102, Tryz.ntmps102
 go_wp2_with (go_at_call 83; fail)
 go_region_with (first
  | (go_at_call 83; go_must (refine (lsingle_any n _).mono ?_); rintro e w1 ⟨rfl, hb1⟩; go_must (have q2 := two2 (dr_below hb1); clear hb1; obtain ⟨⟨⟨⟨c0, c1⟩, _, _⟩, ⟨⟨r0, r1⟩, f0, f1⟩⟩, hbe, hz⟩ := q2; have HT : Hid _ := set_two (x := .int .u64 0) (y := .int .u64 0) r0 r1; have hz0 : w.heap.size < w1.heap.size := (by omega))))
 all_goals go_wp2
 all_goals refine bodyPost_ret (v := optV none) ?_ rfl ⟨rfl, by first | exact below_set (below_set hbe (by omega)) (by omega) | exact below_dr (below_set (below_set hbe (by omega)) (by omega))⟩
 all_goals rw [results_cell_tmp rfl]
 all_goals simp [asAddr, Result.andThen]
 all_goals first | rw [run_boxS HT.out.1 HT.out.2] | rw [run_boxS_drew HT.out.1 HT.out.2]
 all_goals rfl
theorem lequal_lo (A n : Int) (w : World) (hA : (A == n) = false) (hX : IntKind.u64.wrap (n + 1) = n + 1) :
  Calls Tryz.prog 102 #[.agg #[.int .u64 n, .int .u64 A], .int .u64 n, .bool false] w fun e w' => e = .returned (optV (some (n + 1, A))) /\ Below w.heap.size w w' := by
 go_enter Tryz.func102, Tryz.ntmps102
 go_wp2_with (go_at_call 83; fail)
 go_region_with (first
  | (go_at_call 83; go_must (refine (lsingle_any n _).mono ?_); rintro e w1 ⟨rfl, hb1⟩; go_must (have q2 := two2 (dr_below hb1); clear hb1; obtain ⟨⟨⟨⟨c0, c1⟩, g0, g1⟩, hB⟩, hbe, hz⟩ := q2; have hz0 : w.heap.size < w1.heap.size := (by omega); obtain ⟨⟨r0, r1⟩, f0, f1⟩ := Bx.far (m := w.heap.size) (i := 0) (v := .int .u64 (n + 1)) hB (by omega); clear hB; have c1' : (w1.setCell ⟨w.heap.size, 0, none⟩ (.int .u64 (n + 1))).cell? ⟨w.heap.size, 1, none⟩ = some (.int .u64 A) := (World.cell?_setCell_other _ _ _ _ (fun e => by injection e with e1 e2; simp at e2)).trans c1; have HT : Hid _ := set_two (x := .int .u64 (n + 1)) (y := .int .u64 A) r0 r1)))
 all_goals go_wp2
 all_goals refine bodyPost_ret (v := optV (some (n + 1, A))) ?_ rfl ⟨rfl, below_set (below_set (below_set hbe (by omega)) (by omega)) (by omega)⟩
 all_goals rw [results_cell_tmp rfl]
 all_goals simp [asAddr, Result.andThen]
 all_goals rw [run_boxS HT.out.1 HT.out.2]
 all_goals rfl
theorem lequal_hi (a n : Int) (w : World) (ha : (a == n) = false) (hX : IntKind.u64.wrap (n - 1) = n - 1) :
  Calls Tryz.prog 102 #[.agg #[.int .u64 a, .int .u64 n], .int .u64 n, .bool false] w fun e w' => e = .returned (optV (some (a, n - 1))) /\ Below w.heap.size w w' := by
 go_enter Tryz.func102, Tryz.ntmps102
 go_wp2_with (go_at_call 83; fail)
 go_region_with (first
  | (go_at_call 83; go_must (refine (lsingle_any n _).mono ?_); rintro e w1 ⟨rfl, hb1⟩; go_must (have q2 := two2 (dr_below hb1); clear hb1; obtain ⟨⟨⟨⟨c0, c1⟩, g0, g1⟩, hB⟩, hbe, hz⟩ := q2; have hz0 : w.heap.size < w1.heap.size := (by omega); obtain ⟨⟨r0, r1⟩, f0, f1⟩ := Bx.far (m := w.heap.size) (i := 1) (v := .int .u64 (n - 1)) hB (by omega); clear hB; have c0' : (w1.setCell ⟨w.heap.size, 1, none⟩ (.int .u64 (n - 1))).cell? ⟨w.heap.size, 0, none⟩ = some (.int .u64 a) := (World.cell?_setCell_other _ _ _ _ (fun e => by injection e with e1 e2; simp at e2)).trans c0; have HT : Hid _ := set_two (x := .int .u64 a) (y := .int .u64 (n - 1)) r0 r1)))
 all_goals go_wp2
 all_goals refine bodyPost_ret (v := optV (some (a, n - 1))) ?_ rfl ⟨rfl, below_set (below_set (below_set hbe (by omega)) (by omega)) (by omega)⟩
 all_goals rw [results_cell_tmp rfl]
 all_goals simp [asAddr, Result.andThen]
 all_goals rw [run_boxS HT.out.1 HT.out.2]
 all_goals rfl
theorem lequal_far (a A n : Int) (w : World) (ha : (a == n) = false) (hA : (A == n) = false) :
  Calls Tryz.prog 102 #[.agg #[.int .u64 a, .int .u64 A], .int .u64 n, .bool false] w fun e w' => e = .returned (optV (some (a, A))) /\ Below w.heap.size w w' := by
 go_enter Tryz.func102, Tryz.ntmps102
 go_wp2_with (go_at_call 83; fail)
 go_region_with (first
  | (go_at_call 83; go_must (refine (lsingle_any n _).mono ?_); rintro e w1 ⟨rfl, hb1⟩; go_must (have q2 := two2 (dr_below hb1); clear hb1; obtain ⟨⟨⟨⟨c0, c1⟩, g0, g1⟩, hB⟩, hbe, hz⟩ := q2; have hz0 : w.heap.size < w1.heap.size := (by omega); obtain ⟨⟨r0, r1⟩, f0, f1⟩ := hB; have HT : Hid _ := set_two (x := .int .u64 a) (y := .int .u64 A) r0 r1)))
 all_goals go_wp2
 all_goals refine bodyPost_ret (v := optV (some (a, A))) ?_ rfl ⟨rfl, below_set (below_set hbe (by omega)) (by omega)⟩
 all_goals rw [results_cell_tmp rfl]
 all_goals simp [asAddr, Result.andThen]
 all_goals rw [run_boxS HT.out.1 HT.out.2]
 all_goals rfl
theorem lref_no1 (op : Int) (a A b B : Int) (h : Bool) (w : World) {m : Bool} (HN : Hid (m = holdL op 0 0)) (HO : Hid (false = isCond op)) :
  Calls Tryz.prog 90 #[.int .i64 op, .agg #[.int .u64 a, .int .u64 A], .agg #[.int .u64 b, .int .u64 B], .bool h] w fun e w' => e = .returned (.tuple #[.agg #[.int .u64 0, .int .u64 0], .bool false]) /\ Below w.heap.size w w' := by
 go_enter Tryz.func90, Tryz.ntmps90
 go_wp2_with (first
  | (go_at_call 73; go_must (refine (holds_as HN HO _ (by omega) (by omega)).mono ?_); rintro e w' ⟨rfl, rfl⟩))
 refine bodyPost_ret (v := .tuple #[.agg #[.int .u64 0, .int .u64 0], .bool false]) ?_ rfl ⟨rfl, by go_grown⟩
 rw [results_cell_tmp rfl]
 simp [asAddr, Result.andThen]
 rw [run_boxS (a := 0) (A := 0)]
 all_goals go_cell
theorem lref_no2 (op : Int) (a A b B : Int) (h : Bool) (w : World) {m : Bool} (HN : Hid (m = holdL op 0 0)) (HO : Hid (true = isCond op)) (HR : Hid (false = (decide (a <= A) && decide (b <= B)))) :
  Calls Tryz.prog 90 #[.int .i64 op, .agg #[.int .u64 a, .int .u64 A], .agg #[.int .u64 b, .int .u64 B], .bool h] w fun e w' => e = .returned (.tuple #[.agg #[.int .u64 0, .int .u64 0], .bool false]) /\ Below w.heap.size w w' := by
 go_enter Tryz.func90, Tryz.ntmps90
 go_wp2_with (first
  | (go_at_call 73; go_must (refine (holds_as HN HO _ (by omega) (by omega)).mono ?_); rintro e w' ⟨rfl, rfl⟩)
  | (go_at_call 98; go_must (refine (two_right HR _ _ (sees_two _ _ a A b B _ (by simp))).mono ?_); rintro e w1 ⟨rfl, hb1⟩; go_must (have H3 : Hid (B3 w1 w.heap.size a A b B) := (b3_new w a A b B).next hb1; obtain ⟨⟨⟨c0, c1⟩, _, _⟩, ⟨⟨d0, d1⟩, _, _⟩, ⟨⟨r0, r1⟩, f0, f1⟩, hz⟩ := H3.out; have hz1 : w.heap.size + 1 < w1.heap.size := (by omega); have hz0 : w.heap.size < w1.heap.size := (by omega); have hbe : Below w.heap.size w w1 := grow4 hb1; clear hb1; have HT : Hid _ := set_two (x := .int .u64 0) (y := .int .u64 0) r0 r1)))
 refine bodyPost_ret (v := .tuple #[.agg #[.int .u64 0, .int .u64 0], .bool false]) ?_ rfl ⟨rfl, below_set (below_set hbe (by omega)) (by omega)⟩
 rw [results_cell_tmp rfl]
 simp [asAddr, Result.andThen]
 rw [run_boxS HT.out.1 HT.out.2]
theorem lref_wide (op : Int) (a A b B : Int) (h : Bool) (w : World) {m : Bool} (HN : Hid (m = holdL op 0 0)) (HO : Hid (true = isCond op)) (HR : Hid (true = (decide (a <= A) && decide (b <= B)))) (HS : Hid (false = (b == B))) :
  Calls Tryz.prog 90 #[.int .i64 op, .agg #[.int .u64 a, .int .u64 A], .agg #[.int .u64 b, .int .u64 B], .bool h] w fun e w' => e = .returned (.tuple #[.agg #[.int .u64 a, .int .u64 A], .bool true]) /\ Below w.heap.size w w' := by
 go_enter Tryz.func90, Tryz.ntmps90
 go_wp2_with (first
  | (go_at_call 73; go_must (refine (holds_as HN HO _ (by omega) (by omega)).mono ?_); rintro e w' ⟨rfl, rfl⟩)
  | (go_at_call 98; go_must (refine (two_right HR _ _ (sees_two _ _ a A b B _ (by simp))).mono ?_); rintro e w1 ⟨rfl, hb1⟩; go_must (have H3 : Hid (B3 w1 w.heap.size a A b B) := (b3_new w a A b B).next hb1; obtain ⟨⟨⟨c0, c1⟩, _, _⟩, ⟨⟨d0, d1⟩, _, _⟩, ⟨⟨r0, r1⟩, f0, f1⟩, hz⟩ := H3.out; have hz1 : w.heap.size + 1 < w1.heap.size := (by omega); have hz0 : w.heap.size < w1.heap.size := (by omega); have hbe : Below w.heap.size w w1 := grow4 hb1; clear hb1))
  | (go_at_call 101; go_must (refine (lone_any HS _ _ (sees_one _ _ b B _ (by simp))).mono ?_); rintro e w2 ⟨rfl, hb2⟩; go_must (have H4 : Hid (B3 w2 w.heap.size a A b B) := H3.out.next hb2; have hbe2 : Below w.heap.size w w2 := grow1 hbe (by omega) hb2; clear hb2 hbe H3 c0 c1 d0 d1 r0 r1 f0 f1 hz hz0 hz1; obtain ⟨⟨⟨c0, c1⟩, _, _⟩, ⟨⟨d0, d1⟩, _, _⟩, ⟨⟨r0, r1⟩, f0, f1⟩, hz⟩ := H4.out; have hz1 : w.heap.size + 1 < w2.heap.size := (by omega); have hz0 : w.heap.size < w2.heap.size := (by omega); have HT : Hid _ := set_two (x := .int .u64 a) (y := .int .u64 A) r0 r1)))
 refine bodyPost_ret (v := .tuple #[.agg #[.int .u64 a, .int .u64 A], .bool true]) ?_ rfl ⟨rfl, below_set (below_set hbe2 (by omega)) (by omega)⟩
 rw [results_cell_tmp rfl]
 simp [asAddr, Result.andThen]
 rw [run_boxS HT.out.1 HT.out.2]
theorem lref_16 (a A b B : Int) (h : Bool) (w : World) {m : Bool} (HN : Hid (m = holdL 16 0 0)) (HO : Hid (true = isCond 16)) (HR : Hid (true = (decide (a <= A) && decide (b <= B)))) (HS : Hid (true = (b == B))) (p q : Int) (c : Bool) (HK : Hid (∀ w, Calls Tryz.prog 102 #[.agg #[.int .u64 a, .int .u64 A], .int .u64 b, .bool h] w fun e w' => e = .returned (.tuple #[.agg #[.int .u64 p, .int .u64 q], .bool c]) /\ Below w.heap.size w w')) :
  Calls Tryz.prog 90 #[.int .i64 16, .agg #[.int .u64 a, .int .u64 A], .agg #[.int .u64 b, .int .u64 B], .bool h] w fun e w' => e = .returned (.tuple #[.agg #[.int .u64 p, .int .u64 q], .bool c]) /\ Below w.heap.size w w' := by
 go_enter Tryz.func90, Tryz.ntmps90
 go_wp2_with (first
  | (go_at_call 73; go_must (refine (holds_as HN HO _ (by omega) (by omega)).mono ?_); rintro e w' ⟨rfl, rfl⟩)
  | (go_at_call 98; go_must (refine (two_right HR _ _ (sees_two _ _ a A b B _ (by simp))).mono ?_); rintro e w1 ⟨rfl, hb1⟩; go_must (have H3 : Hid (B3 w1 w.heap.size a A b B) := (b3_new w a A b B).next hb1; obtain ⟨⟨⟨c0, c1⟩, _, _⟩, ⟨⟨d0, d1⟩, _, _⟩, ⟨⟨r0, r1⟩, f0, f1⟩, hz⟩ := H3.out; have hz1 : w.heap.size + 1 < w1.heap.size := (by omega); have hz0 : w.heap.size < w1.heap.size := (by omega); have hbe : Below w.heap.size w w1 := grow4 hb1; clear hb1))
  | (go_at_call 101; go_must (refine (lone_any HS _ _ (sees_one _ _ b B _ (by simp))).mono ?_); rintro e w2 ⟨rfl, hb2⟩; go_must (have H4 : Hid (B3 w2 w.heap.size a A b B) := H3.out.next hb2; have hbe2 : Below w.heap.size w w2 := grow1 hbe (by omega) hb2; clear hb2 hbe H3 c0 c1 d0 d1 r0 r1 f0 f1 hz hz0 hz1; obtain ⟨⟨⟨c0, c1⟩, _, _⟩, ⟨⟨d0, d1⟩, _, _⟩, ⟨⟨r0, r1⟩, f0, f1⟩, hz⟩ := H4.out; have hz1 : w.heap.size + 1 < w2.heap.size := (by omega); have hz0 : w.heap.size < w2.heap.size := (by omega)))
  | (go_at_call 102; go_must (refine (HK.out _).mono ?_); rintro e w3 ⟨rfl, hb3⟩; go_must (have H5 : Hid (B3 w3 w.heap.size a A b B) := H4.out.below hb3; have hbe3 : Below w.heap.size w w3 := hbe2.trans (hb3.mono (by omega)); clear hb3 hbe2 H4 c0 c1 d0 d1 r0 r1 f0 f1 hz hz0 hz1; obtain ⟨⟨⟨c0, c1⟩, _, _⟩, ⟨⟨d0, d1⟩, _, _⟩, ⟨⟨r0, r1⟩, f0, f1⟩, hz⟩ := H5.out; have hz1 : w.heap.size + 1 < w3.heap.size := (by omega); have hz0 : w.heap.size < w3.heap.size := (by omega); have HT : Hid _ := set_two (x := .int .u64 p) (y := .int .u64 q) r0 r1)))
 refine bodyPost_ret (v := .tuple #[.agg #[.int .u64 p, .int .u64 q], .bool c]) ?_ rfl ⟨rfl, below_set (below_set hbe3 (by omega)) (by omega)⟩
 rw [results_cell_tmp rfl]
 simp [asAddr, Result.andThen]
 rw [run_boxS HT.out.1 HT.out.2]
theorem lref_17 (a A b B : Int) (h : Bool) (w : World) {m : Bool} (HN : Hid (m = holdL 17 0 0)) (HO : Hid (true = isCond 17)) (HR : Hid (true = (decide (a <= A) && decide (b <= B)))) (HS : Hid (true = (b == B))) (p q : Int) (c : Bool) (HK : Hid (∀ w, Calls Tryz.prog 102 #[.agg #[.int .u64 a, .int .u64 A], .int .u64 b, .bool (!h)] w fun e w' => e = .returned (.tuple #[.agg #[.int .u64 p, .int .u64 q], .bool c]) /\ Below w.heap.size w w')) :
  Calls Tryz.prog 90 #[.int .i64 17, .agg #[.int .u64 a, .int .u64 A], .agg #[.int .u64 b, .int .u64 B], .bool h] w fun e w' => e = .returned (.tuple #[.agg #[.int .u64 p, .int .u64 q], .bool c]) /\ Below w.heap.size w w' := by
 go_enter Tryz.func90, Tryz.ntmps90
 go_wp2_with (first
  | (go_at_call 73; go_must (refine (holds_as HN HO _ (by omega) (by omega)).mono ?_); rintro e w' ⟨rfl, rfl⟩)
  | (go_at_call 98; go_must (refine (two_right HR _ _ (sees_two _ _ a A b B _ (by simp))).mono ?_); rintro e w1 ⟨rfl, hb1⟩; go_must (have H3 : Hid (B3 w1 w.heap.size a A b B) := (b3_new w a A b B).next hb1; obtain ⟨⟨⟨c0, c1⟩, _, _⟩, ⟨⟨d0, d1⟩, _, _⟩, ⟨⟨r0, r1⟩, f0, f1⟩, hz⟩ := H3.out; have hz1 : w.heap.size + 1 < w1.heap.size := (by omega); have hz0 : w.heap.size < w1.heap.size := (by omega); have hbe : Below w.heap.size w w1 := grow4 hb1; clear hb1))
  | (go_at_call 101; go_must (refine (lone_any HS _ _ (sees_one _ _ b B _ (by simp))).mono ?_); rintro e w2 ⟨rfl, hb2⟩; go_must (have H4 : Hid (B3 w2 w.heap.size a A b B) := H3.out.next hb2; have hbe2 : Below w.heap.size w w2 := grow1 hbe (by omega) hb2; clear hb2 hbe H3 c0 c1 d0 d1 r0 r1 f0 f1 hz hz0 hz1; obtain ⟨⟨⟨c0, c1⟩, _, _⟩, ⟨⟨d0, d1⟩, _, _⟩, ⟨⟨r0, r1⟩, f0, f1⟩, hz⟩ := H4.out; have hz1 : w.heap.size + 1 < w2.heap.size := (by omega); have hz0 : w.heap.size < w2.heap.size := (by omega)))
  | (go_at_call 102; go_must (refine (HK.out _).mono ?_); rintro e w3 ⟨rfl, hb3⟩; go_must (have H5 : Hid (B3 w3 w.heap.size a A b B) := H4.out.below hb3; have hbe3 : Below w.heap.size w w3 := hbe2.trans (hb3.mono (by omega)); clear hb3 hbe2 H4 c0 c1 d0 d1 r0 r1 f0 f1 hz hz0 hz1; obtain ⟨⟨⟨c0, c1⟩, _, _⟩, ⟨⟨d0, d1⟩, _, _⟩, ⟨⟨r0, r1⟩, f0, f1⟩, hz⟩ := H5.out; have hz1 : w.heap.size + 1 < w3.heap.size := (by omega); have hz0 : w.heap.size < w3.heap.size := (by omega); have HT : Hid _ := set_two (x := .int .u64 p) (y := .int .u64 q) r0 r1)))
 refine bodyPost_ret (v := .tuple #[.agg #[.int .u64 p, .int .u64 q], .bool c]) ?_ rfl ⟨rfl, below_set (below_set hbe3 (by omega)) (by omega)⟩
 rw [results_cell_tmp rfl]
 simp [asAddr, Result.andThen]
 rw [run_boxS HT.out.1 HT.out.2]
theorem lref_18 (a A b B : Int) (h : Bool) (w : World) {m : Bool} (HN : Hid (m = holdL 18 0 0)) (HO : Hid (true = isCond 18)) (HR : Hid (true = (decide (a <= A) && decide (b <= B)))) (HS : Hid (true = (b == B))) (p q : Int) (c : Bool) (HK : Hid (∀ w, Calls Tryz.prog 103 #[.agg #[.int .u64 a, .int .u64 A], .int .u64 b, .bool h] w fun e w' => e = .returned (.tuple #[.agg #[.int .u64 p, .int .u64 q], .bool c]) /\ Below w.heap.size w w')) :
  Calls Tryz.prog 90 #[.int .i64 18, .agg #[.int .u64 a, .int .u64 A], .agg #[.int .u64 b, .int .u64 B], .bool h] w fun e w' => e = .returned (.tuple #[.agg #[.int .u64 p, .int .u64 q], .bool c]) /\ Below w.heap.size w w' := by
 go_enter Tryz.func90, Tryz.ntmps90
 go_wp2_with (first
  | (go_at_call 73; go_must (refine (holds_as HN HO _ (by omega) (by omega)).mono ?_); rintro e w' ⟨rfl, rfl⟩)
  | (go_at_call 98; go_must (refine (two_right HR _ _ (sees_two _ _ a A b B _ (by simp))).mono ?_); rintro e w1 ⟨rfl, hb1⟩; go_must (have H3 : Hid (B3 w1 w.heap.size a A b B) := (b3_new w a A b B).next hb1; obtain ⟨⟨⟨c0, c1⟩, _, _⟩, ⟨⟨d0, d1⟩, _, _⟩, ⟨⟨r0, r1⟩, f0, f1⟩, hz⟩ := H3.out; have hz1 : w.heap.size + 1 < w1.heap.size := (by omega); have hz0 : w.heap.size < w1.heap.size := (by omega); have hbe : Below w.heap.size w w1 := grow4 hb1; clear hb1))
  | (go_at_call 101; go_must (refine (lone_any HS _ _ (sees_one _ _ b B _ (by simp))).mono ?_); rintro e w2 ⟨rfl, hb2⟩; go_must (have H4 : Hid (B3 w2 w.heap.size a A b B) := H3.out.next hb2; have hbe2 : Below w.heap.size w w2 := grow1 hbe (by omega) hb2; clear hb2 hbe H3 c0 c1 d0 d1 r0 r1 f0 f1 hz hz0 hz1; obtain ⟨⟨⟨c0, c1⟩, _, _⟩, ⟨⟨d0, d1⟩, _, _⟩, ⟨⟨r0, r1⟩, f0, f1⟩, hz⟩ := H4.out; have hz1 : w.heap.size + 1 < w2.heap.size := (by omega); have hz0 : w.heap.size < w2.heap.size := (by omega)))
  | (go_at_call 103; go_must (refine (HK.out _).mono ?_); rintro e w3 ⟨rfl, hb3⟩; go_must (have H5 : Hid (B3 w3 w.heap.size a A b B) := H4.out.below hb3; have hbe3 : Below w.heap.size w w3 := hbe2.trans (hb3.mono (by omega)); clear hb3 hbe2 H4 c0 c1 d0 d1 r0 r1 f0 f1 hz hz0 hz1; obtain ⟨⟨⟨c0, c1⟩, _, _⟩, ⟨⟨d0, d1⟩, _, _⟩, ⟨⟨r0, r1⟩, f0, f1⟩, hz⟩ := H5.out; have hz1 : w.heap.size + 1 < w3.heap.size := (by omega); have hz0 : w.heap.size < w3.heap.size := (by omega); have HT : Hid _ := set_two (x := .int .u64 p) (y := .int .u64 q) r0 r1)))
 refine bodyPost_ret (v := .tuple #[.agg #[.int .u64 p, .int .u64 q], .bool c]) ?_ rfl ⟨rfl, below_set (below_set hbe3 (by omega)) (by omega)⟩
 rw [results_cell_tmp rfl]
 simp [asAddr, Result.andThen]
 rw [run_boxS HT.out.1 HT.out.2]
theorem lref_19 (a A b B : Int) (h : Bool) (w : World) {m : Bool} (HN : Hid (m = holdL 19 0 0)) (HO : Hid (true = isCond 19)) (HR : Hid (true = (decide (a <= A) && decide (b <= B)))) (HS : Hid (true = (b == B))) (p q : Int) (c : Bool) (HK : Hid (∀ w, Calls Tryz.prog 103 #[.agg #[.int .u64 a, .int .u64 A], .int .u64 b, .bool (!h)] w fun e w' => e = .returned (.tuple #[.agg #[.int .u64 p, .int .u64 q], .bool c]) /\ Below w.heap.size w w')) :
  Calls Tryz.prog 90 #[.int .i64 19, .agg #[.int .u64 a, .int .u64 A], .agg #[.int .u64 b, .int .u64 B], .bool h] w fun e w' => e = .returned (.tuple #[.agg #[.int .u64 p, .int .u64 q], .bool c]) /\ Below w.heap.size w w' := by
 go_enter Tryz.func90, Tryz.ntmps90
 go_wp2_with (first
  | (go_at_call 73; go_must (refine (holds_as HN HO _ (by omega) (by omega)).mono ?_); rintro e w' ⟨rfl, rfl⟩)
  | (go_at_call 98; go_must (refine (two_right HR _ _ (sees_two _ _ a A b B _ (by simp))).mono ?_); rintro e w1 ⟨rfl, hb1⟩; go_must (have H3 : Hid (B3 w1 w.heap.size a A b B) := (b3_new w a A b B).next hb1; obtain ⟨⟨⟨c0, c1⟩, _, _⟩, ⟨⟨d0, d1⟩, _, _⟩, ⟨⟨r0, r1⟩, f0, f1⟩, hz⟩ := H3.out; have hz1 : w.heap.size + 1 < w1.heap.size := (by omega); have hz0 : w.heap.size < w1.heap.size := (by omega); have hbe : Below w.heap.size w w1 := grow4 hb1; clear hb1))
  | (go_at_call 101; go_must (refine (lone_any HS _ _ (sees_one _ _ b B _ (by simp))).mono ?_); rintro e w2 ⟨rfl, hb2⟩; go_must (have H4 : Hid (B3 w2 w.heap.size a A b B) := H3.out.next hb2; have hbe2 : Below w.heap.size w w2 := grow1 hbe (by omega) hb2; clear hb2 hbe H3 c0 c1 d0 d1 r0 r1 f0 f1 hz hz0 hz1; obtain ⟨⟨⟨c0, c1⟩, _, _⟩, ⟨⟨d0, d1⟩, _, _⟩, ⟨⟨r0, r1⟩, f0, f1⟩, hz⟩ := H4.out; have hz1 : w.heap.size + 1 < w2.heap.size := (by omega); have hz0 : w.heap.size < w2.heap.size := (by omega)))
  | (go_at_call 103; go_must (refine (HK.out _).mono ?_); rintro e w3 ⟨rfl, hb3⟩; go_must (have H5 : Hid (B3 w3 w.heap.size a A b B) := H4.out.below hb3; have hbe3 : Below w.heap.size w w3 := hbe2.trans (hb3.mono (by omega)); clear hb3 hbe2 H4 c0 c1 d0 d1 r0 r1 f0 f1 hz hz0 hz1; obtain ⟨⟨⟨c0, c1⟩, _, _⟩, ⟨⟨d0, d1⟩, _, _⟩, ⟨⟨r0, r1⟩, f0, f1⟩, hz⟩ := H5.out; have hz1 : w.heap.size + 1 < w3.heap.size := (by omega); have hz0 : w.heap.size < w3.heap.size := (by omega); have HT : Hid _ := set_two (x := .int .u64 p) (y := .int .u64 q) r0 r1)))
 refine bodyPost_ret (v := .tuple #[.agg #[.int .u64 p, .int .u64 q], .bool c]) ?_ rfl ⟨rfl, below_set (below_set hbe3 (by omega)) (by omega)⟩
 rw [results_cell_tmp rfl]
 simp [asAddr, Result.andThen]
 rw [run_boxS HT.out.1 HT.out.2]
theorem isCond_eq (op : Int) : isCond op = decide (16 <= op /\ op <= 19) := rfl
theorem lequal_any (a A n : Int) (h : Bool) (w : World) (ha : W64 a) (hA : W64 A) (hn : W64 n) (haA : a <= A) :
  Calls Tryz.prog 102 #[.agg #[.int .u64 a, .int .u64 A], .int .u64 n, .bool h] w fun e w' => e = .returned (optV (if h = true then (if a <= n /\ n <= A then some (n, n) else none) else if a = n /\ A = n then none else if a = n then some (n + 1, A) else if A = n then some (a, n - 1) else some (a, A))) /\ Below w.heap.size w w' := by
 have hn' : 0 <= n /\ n <= 18446744073709551615 := hn
 have ha' : 0 <= a /\ a <= 18446744073709551615 := ha
 have hA' : 0 <= A /\ A <= 18446744073709551615 := hA
 cases h
 ·rw [if_neg (by simp)]
  by_cases h1 : a = n /\ A = n
  ·rw [if_pos h1]
   obtain ⟨rfl, rfl⟩ := h1
   exact lequal_none _ w
  rw [if_neg h1]
  by_cases h2 : a = n
  ·rw [if_pos h2]
   subst h2
   exact lequal_lo A a w (by simp; omega) (wrap_in (by omega) (by omega))
  rw [if_neg h2]
  by_cases h3 : A = n
  ·rw [if_pos h3]
   subst h3
   exact lequal_hi a A w (by simpa using h2) (wrap_in (by omega) (by omega))
  ·rw [if_neg h3]
   exact lequal_far a A n w (by simpa using h2) (by simpa using h3)
 ·rw [if_pos rfl]
  have e : (if a <= n /\ n <= A then some (n, n) else none) = meetO a A n n := by
   unfold meetO
   by_cases hc : a <= n /\ n <= A
   ·rw [if_pos hc, if_pos (by omega), Int.max_eq_right hc.1, Int.min_eq_right hc.2]
   ·rw [if_neg hc, if_neg (by omega)]
  rw [e]
  exact lequal_yes a A n w ha hA hn
theorem lbelow_any (a A n : Int) (h : Bool) (w : World) (ha : W64 a) (hA : W64 A) (hn : W64 n) (haA : a <= A) :
  Calls Tryz.prog 103 #[.agg #[.int .u64 a, .int .u64 A], .int .u64 n, .bool h] w fun e w' => e = .returned (optV (if h = true then (if n <= a then none else some (a, min A (n - 1))) else if A < n then none else some (max a n, A))) /\ Below w.heap.size w w' := by
 have hn' : 0 <= n /\ n <= 18446744073709551615 := hn
 have ha' : 0 <= a /\ a <= 18446744073709551615 := ha
 have hA' : 0 <= A /\ A <= 18446744073709551615 := hA
 cases h
 ·rw [if_neg (by simp)]
  have e : (if A < n then none else some (max a n, A)) = meetO a A n 18446744073709551615 := by
   unfold meetO
   rw [Int.min_eq_left hA'.2]
   by_cases hc : A < n
   ·rw [if_pos hc, if_neg (by omega)]
   ·rw [if_neg hc, if_pos (by omega)]
  rw [e]
  exact lbelow_from a A n w ha hA hn
 ·rw [if_pos rfl]
  by_cases h0 : n = 0
  ·subst h0
   rw [if_pos ha'.1]
   exact lbelow_zero a A w
  ·have e : (if n <= a then none else some (a, min A (n - 1))) = meetO a A 0 (n - 1) := by
    unfold meetO
    rw [Int.max_eq_left ha'.1]
    by_cases hc : n <= a
    ·rw [if_pos hc, if_neg (by omega)]
    ·rw [if_neg hc, if_pos (by omega)]
   rw [e]
   exact lbelow_less a A n w ha hA hn (by simpa using h0)
theorem lrefine_any : KRefine := by
 intro op a A b B h w ha hA hb hB
 obtain ⟨m, HN⟩ : ∃ m, Hid (m = holdL op 0 0) := ⟨_, rfl⟩
 unfold refineR
 by_cases c1 : 16 <= op /\ op <= 19
 case neg => rw [if_neg (fun h => c1 h.1)]; exact lref_no1 op a A b B h w HN (by show _ = _; rw [isCond_eq, decide_eq_false c1])
 have HO : Hid (true = isCond op) := by show _ = _; rw [isCond_eq, decide_eq_true c1]
 by_cases c2 : a <= A /\ b <= B
 case neg =>
  rw [if_neg (fun h => c2 h.2)]
  exact lref_no2 op a A b B h w HN HO (by show _ = _; rw [<- Bool.decide_and, decide_eq_false c2])
 have HR : Hid (true = (decide (a <= A) && decide (b <= B))) := by show _ = _; rw [<- Bool.decide_and, decide_eq_true c2]
 rw [if_pos ⟨c1, c2⟩]
 by_cases hs : b = B
 case neg =>
  have e : refineL op a A b B h = some (a, A) := by unfold refineL; rw [if_pos hs]
  rw [e]
  exact lref_wide op a A b B h w HN HO HR (by show _ = _; symm; simpa using hs)
 subst hs
 have HS : Hid (true = (b == b)) := by show _ = _; simp
 have c : op = 16 ∨ op = 17 ∨ op = 18 ∨ op = 19 := by omega
 rcases c with rfl | rfl | rfl | rfl
 ·have e : refineL 16 a A b b h = (if h = true then (if a <= b /\ b <= A then some (b, b) else none) else if a = b /\ A = b then none else if a = b then some (b + 1, A) else if A = b then some (a, b - 1) else some (a, A)) := by
   unfold refineL; rw [if_neg (by simp)]; cases h <;> rfl
  rw [e]
  obtain ⟨p, q, c, HP⟩ := optV_as (if h = true then (if a <= b /\ b <= A then some (b, b) else none) else if a = b /\ A = b then none else if a = b then some (b + 1, A) else if A = b then some (a, b - 1) else some (a, A))
  rw [HP.out]
  exact lref_16 a A b b h w HN HO HR HS p q c (fun w => by rw [<- HP.out]; exact lequal_any a A b h w ha hA hb c2.1)
 ·have e : refineL 17 a A b b h = (if (!h) = true then (if a <= b /\ b <= A then some (b, b) else none) else if a = b /\ A = b then none else if a = b then some (b + 1, A) else if A = b then some (a, b - 1) else some (a, A)) := by
   unfold refineL; rw [if_neg (by simp)]; cases h <;> rfl
  rw [e]
  obtain ⟨p, q, c, HP⟩ := optV_as (if (!h) = true then (if a <= b /\ b <= A then some (b, b) else none) else if a = b /\ A = b then none else if a = b then some (b + 1, A) else if A = b then some (a, b - 1) else some (a, A))
  rw [HP.out]
  exact lref_17 a A b b h w HN HO HR HS p q c (fun w => by rw [<- HP.out]; exact lequal_any a A b (!h) w ha hA hb c2.1)
 ·have e : refineL 18 a A b b h = (if h = true then (if b <= a then none else some (a, min A (b - 1))) else if A < b then none else some (max a b, A)) := by
   unfold refineL; rw [if_neg (by simp)]; cases h <;> rfl
  rw [e]
  obtain ⟨p, q, c, HP⟩ := optV_as (if h = true then (if b <= a then none else some (a, min A (b - 1))) else if A < b then none else some (max a b, A))
  rw [HP.out]
  exact lref_18 a A b b h w HN HO HR HS p q c (fun w => by rw [<- HP.out]; exact lbelow_any a A b h w ha hA hb c2.1)
 ·have e : refineL 19 a A b b h = (if (!h) = true then (if b <= a then none else some (a, min A (b - 1))) else if A < b then none else some (max a b, A)) := by
   unfold refineL; rw [if_neg (by simp)]; cases h <;> rfl
  rw [e]
  obtain ⟨p, q, c, HP⟩ := optV_as (if (!h) = true then (if b <= a then none else some (a, min A (b - 1))) else if A < b then none else some (max a b, A))
  rw [HP.out]
  exact lref_19 a A b b h w HN HO HR HS p q c (fun w => by rw [<- HP.out]; exact lbelow_any a A b (!h) w ha hA hb c2.1)
end Go.Proofs.YtkondcjmhlppiaaGreat
