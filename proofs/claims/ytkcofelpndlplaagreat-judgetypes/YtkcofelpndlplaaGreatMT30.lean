
/-
 What the document's Do of two spans answers: or. Condition: right spans of numbers of 64 bits, not both single.
-/
import Derived.Test.YtkcofelpndlplaaGreatMT29
import Derived.Lib.MinMax
namespace Go.Proofs.YtkcofelpndlplaaGreat
open Go.RowKit
set_option linter.unusedVariables false
set_option maxRecDepth 20000

set_option maxHeartbeats 4000000 in
theorem sdo_or (a A b B : Int) (w : World) (ha : 0 <= a /\ a <= A /\ A <= 18446744073709551615) (hb : 0 <= b /\ b <= B /\ B <= 18446744073709551615) (hs : (a == A) = false) :
  Calls Tryz.prog 87 #[.int .i64 7, .agg #[.int .u64 a, .int .u64 A], .agg #[.int .u64 b, .int .u64 B]] w fun e w' => e = .returned (.tuple #[.agg #[.int .u64 (max a b), .int .u64 (formL (max A B))], .bool true]) /\ Below w.heap.size w w' := by
 have h1 : decide (a <= A) = true := decide_eq_true ha.2.1
 have h2 : decide (b <= B) = true := decide_eq_true hb.2.1
 obtain ⟨P, hP⟩ : ∃ P, max A B = P := ⟨_, rfl⟩
 obtain ⟨Q, hQ⟩ : ∃ Q, max a b = Q := ⟨_, rfl⟩
 have hP0 : 0 <= P /\ P <= 18446744073709551615 := by omega
 rw [hP, hQ]
 obtain ⟨Y, HY⟩ : ∃ Y, Hid (Y = formL P) := ⟨_, rfl⟩
 rw [<- HY.out]
 obtain ⟨Z, HZ, hcells, r0, r1, f0, f1, hBZ⟩ : ∃ Z, Hid (Z = ((((((w.alloc (spO a A)).alloc (spO b B)).alloc (spO 0 0)).alloc (spO a A)).alloc (spO b B)).alloc (spO 0 18446744073709551615))) /\ (Z.cell? ⟨w.heap.size, 0, none⟩ = some (.int .u64 a) /\ Z.cell? ⟨w.heap.size, 1, none⟩ = some (.int .u64 A) /\ Z.cell? ⟨w.heap.size + 1, 0, none⟩ = some (.int .u64 b) /\ Z.cell? ⟨w.heap.size + 1, 1, none⟩ = some (.int .u64 B)) /\ Z.cell? ⟨w.heap.size + 1 + 1, 0, none⟩ = some (.int .u64 0) /\ Z.cell? ⟨w.heap.size + 1 + 1, 1, none⟩ = some (.int .u64 0) /\ Z.frozen? ⟨w.heap.size + 1 + 1, 0, none⟩ = false /\ Z.frozen? ⟨w.heap.size + 1 + 1, 1, none⟩ = false /\ Below w.heap.size w Z :=
  ⟨_, rfl, ⟨by go_cell, by go_cell, by go_cell, by go_cell⟩, by go_cell, by go_cell, by go_simp, by go_simp, by go_grown⟩
 have HT : Hid _ := qAk (x := .int .u64 Q) (y := .int .u64 Y) r0 r1
 go_enter Tryz.func87, Tryz.ntmps87
 go_wp2_with (first
  | (go_at_call 90; go_must (refine (qAd _ _ _).mono ?_); rintro e w' ⟨rfl, rfl⟩)
  | (go_at_call 105; fail))
 rw [<- HZ.out]
 clear HZ
 go_region_held_law (fun w' => w'.cell? ⟨w.heap.size, 0, none⟩ = some (.int .u64 a) /\ w'.cell? ⟨w.heap.size, 1, none⟩ = some (.int .u64 A) /\ w'.cell? ⟨w.heap.size + 1, 0, none⟩ = some (.int .u64 b) /\ w'.cell? ⟨w.heap.size + 1, 1, none⟩ = some (.int .u64 B))
  (first | assumption | ((refine keep4 ?_ (by omega) (by omega); first | assumption | (refine keep4 ?_ (by omega) (by omega); assumption))))
  ((go_at_call 105; refine (form_as HY _ hP0).mono ?_; rintro e w' ⟨rfl, rfl⟩))
 all_goals go_wp2
 all_goals refine bodyPost_ret (v := .tuple #[.agg #[.int .u64 Q, .int .u64 Y], .bool true]) ?_ rfl ⟨rfl, below_dr (qAa (qAa hBZ (by omega)) (by omega))⟩
 all_goals rw [results_cell_tmp rfl]
 all_goals simp [asAddr, Result.andThen]
 all_goals rw [qCg HT.out.1 HT.out.2]
set_option maxHeartbeats 4000000 in
theorem sdo_ors (a b B : Int) (w : World) (ha : 0 <= a /\ a <= a /\ a <= 18446744073709551615) (hb : 0 <= b /\ b <= B /\ B <= 18446744073709551615) (hs : (b == B) = false) :
  Calls Tryz.prog 87 #[.int .i64 7, .agg #[.int .u64 a, .int .u64 a], .agg #[.int .u64 b, .int .u64 B]] w fun e w' => e = .returned (.tuple #[.agg #[.int .u64 (max a b), .int .u64 (formL (max a B))], .bool true]) /\ Below w.heap.size w w' := by
 have h1 : decide (a <= a) = true := decide_eq_true ha.2.1
 have h2 : decide (b <= B) = true := decide_eq_true hb.2.1
 obtain ⟨P, hP⟩ : ∃ P, max a B = P := ⟨_, rfl⟩
 obtain ⟨Q, hQ⟩ : ∃ Q, max a b = Q := ⟨_, rfl⟩
 have hP0 : 0 <= P /\ P <= 18446744073709551615 := by omega
 rw [hP, hQ]
 obtain ⟨Y, HY⟩ : ∃ Y, Hid (Y = formL P) := ⟨_, rfl⟩
 rw [<- HY.out]
 obtain ⟨Z, HZ, hcells, r0, r1, f0, f1, hBZ⟩ : ∃ Z, Hid (Z = ((((((w.alloc (spO a a)).alloc (spO b B)).alloc (spO 0 0)).alloc (spO a a)).alloc (spO b B)).alloc (spO 0 18446744073709551615))) /\ (Z.cell? ⟨w.heap.size, 0, none⟩ = some (.int .u64 a) /\ Z.cell? ⟨w.heap.size, 1, none⟩ = some (.int .u64 a) /\ Z.cell? ⟨w.heap.size + 1, 0, none⟩ = some (.int .u64 b) /\ Z.cell? ⟨w.heap.size + 1, 1, none⟩ = some (.int .u64 B)) /\ Z.cell? ⟨w.heap.size + 1 + 1, 0, none⟩ = some (.int .u64 0) /\ Z.cell? ⟨w.heap.size + 1 + 1, 1, none⟩ = some (.int .u64 0) /\ Z.frozen? ⟨w.heap.size + 1 + 1, 0, none⟩ = false /\ Z.frozen? ⟨w.heap.size + 1 + 1, 1, none⟩ = false /\ Below w.heap.size w Z :=
  ⟨_, rfl, ⟨by go_cell, by go_cell, by go_cell, by go_cell⟩, by go_cell, by go_cell, by go_simp, by go_simp, by go_grown⟩
 have HT : Hid _ := qAk (x := .int .u64 Q) (y := .int .u64 Y) r0 r1
 go_enter Tryz.func87, Tryz.ntmps87
 go_wp2_with (first
  | (go_at_call 90; go_must (refine (qAd _ _ _).mono ?_); rintro e w' ⟨rfl, rfl⟩)
  | (go_at_call 105; fail))
 rw [<- HZ.out]
 clear HZ
 go_region_held_law (fun w' => w'.cell? ⟨w.heap.size, 0, none⟩ = some (.int .u64 a) /\ w'.cell? ⟨w.heap.size, 1, none⟩ = some (.int .u64 a) /\ w'.cell? ⟨w.heap.size + 1, 0, none⟩ = some (.int .u64 b) /\ w'.cell? ⟨w.heap.size + 1, 1, none⟩ = some (.int .u64 B))
  (first | assumption | ((refine keep4 ?_ (by omega) (by omega); first | assumption | (refine keep4 ?_ (by omega) (by omega); assumption))))
  ((go_at_call 105; refine (form_as HY _ hP0).mono ?_; rintro e w' ⟨rfl, rfl⟩))
 all_goals go_wp2
 all_goals refine bodyPost_ret (v := .tuple #[.agg #[.int .u64 Q, .int .u64 Y], .bool true]) ?_ rfl ⟨rfl, below_dr (qAa (qAa hBZ (by omega)) (by omega))⟩
 all_goals rw [results_cell_tmp rfl]
 all_goals simp [asAddr, Result.andThen]
 all_goals rw [qCg HT.out.1 HT.out.2]
theorem or_way : OrWay := fun a A b B w ha hb hs => qBk hs (fun c => sdo_or a A b B w ha hb c) (fun e c => by subst e; exact sdo_ors a b B w ha hb c)
end Go.Proofs.YtkcofelpndlplaaGreat
