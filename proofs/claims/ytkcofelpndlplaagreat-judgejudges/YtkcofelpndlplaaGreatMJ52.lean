
/-
 For every module JudgeJudges answers true. Condition: the sizes that the argument's reading has.
-/
import Derived.Test.YtkcofelpndlplaaGreatMJ51
import Derived.Test.YtkcofelpndlplaaGreatMJ36
import Derived.Test.YtkcofelpndlplaaGreatMJ49
namespace Go.Proofs.YtkcofelpndlplaaGreat
open Go.RowKit
set_option linter.unusedVariables false
set_option linter.unusedSimpArgs false
set_option maxRecDepth 100000

theorem rall_as {vm vc : Value} {ms : List Int} {xs : List In} {w : World} (hm : Sees .i64 w vm ms) (hx : SeesI w vc xs) {P E : Int} (h : Hid ((allJ ms xs).2 = (P, E))) {K : List St} (hK : Hid ((allJ ms xs).1 = K)) :
  Calls Tryz.prog 8 #[.agg #[vm, vc]] w fun e w' => ∃ u, e = .returned (.tuple #[u, .int .i64 P, .int .i64 E]) /\ Ss w.heap.size w' u K /\ Below w.heap.size w w' := by
 have := rall_any vm ms vc xs w hm hx
 rw [h.out, hK.out] at this
 exact this
theorem box9 (w : World) (u v : Value) : ∃ Y, Hid (Y = w.alloc (Obj.cells #[u, v] 25)) /\ Hid (Below w.heap.size w Y) /\ Y.heap.size = w.heap.size + 1 /\ Y.cell? ⟨w.heap.size, 0, none⟩ = some u /\ Y.cell? ⟨w.heap.size, 1, none⟩ = some v :=
 ⟨_, rfl, keepJ (by go_grown), by simp, by go_cell, by go_cell⟩
set_option maxHeartbeats 6400000 in
theorem judges9_any (vm vc : Value) (ms : List Int) (xs : List In) (w : World) (h : SeesM w vm vc ms xs) (z : ms.length * 8 <= 140737488351232 /\ xs.length * 40 <= 140737488355328) :
  Calls Tryz.prog 3 #[modV vm vc] w fun e w' => e = .returned (.bool true) /\ Below w.heap.size w w' := by
 have HM := keepJ h
 have HZ := keepJ z
 obtain ⟨P, E, HJ⟩ : ∃ P E, Hid (judgeR ms xs = (P, E)) := ⟨_, _, rfl⟩
 have HA : Hid ((allJ ms xs).2 = (P, E)) := by show _ = _; rw [<- judge_all]; exact HJ.out
 obtain ⟨K, HK⟩ : ∃ K, Hid ((allJ ms xs).1 = K) := ⟨_, rfl⟩
 obtain ⟨W, HW, HBW, hWz, m0, m1⟩ : ∃ W, Hid (W = w.alloc (Obj.cells #[vm, vc] 25)) /\ Hid (Below w.heap.size w W) /\ w.heap.size < W.heap.size /\ W.cell? ⟨w.heap.size, 0, none⟩ = some vm /\ W.cell? ⟨w.heap.size, 1, none⟩ = some vc :=
  ⟨_, rfl, keepJ (by go_grown), by simp, by go_cell, by go_cell⟩
 have HMW := keepJ (HM.out.below HBW.out)
 clear h z
 go_enter Tryz.func3, Tryz.ntmps3
 go_wp2_with (first
  | (go_at_call 5; rw [<- HW.out]; go_must (refine (awake9_any _).mono ?_); rintro e w1 ⟨rfl, hb1⟩; go_must (have hS1 := keepM2 ⟨m0, m1⟩ hb1 hWz; have hz1 := hb1.size; have HM1 := keepJ (HMW.out.below hb1); clear m0 m1; obtain ⟨m0, m1⟩ := hS1))
  | (go_at_call 6; go_must (refine (copied9_any _ _ ms xs _ HM1.out HZ.out).mono ?_); rintro e w2 ⟨um, uc, rfl, hM2, hb2⟩; go_must (have HM2 := keepJ hM2; have hz2 := hb2.size; have hS2 := keepM2 ⟨m0, m1⟩ hb2 (by omega); clear m0 m1; obtain ⟨m0, m1⟩ := hS2; obtain ⟨xa, xk, rfl⟩ := hM2.maps.shape; obtain ⟨ya, yk, rfl⟩ := hM2.code.shape; obtain ⟨Y, HY, HBY, hYz, n0, n1⟩ := box9 w2 (.slice xa ms.length xk) (.slice ya xs.length yk); have hSY := keepM2 ⟨m0, m1⟩ HBY.out (by omega); clear m0 m1; clear hM2))
  | (go_at_call 7; rw [<- HY.out]; go_must (refine (ljudge_as (HM2.out.below HBY.out).maps (HM2.out.below HBY.out).code HJ).mono ?_); rintro e w3 ⟨rfl, hb3⟩; go_must (obtain ⟨m0, m1⟩ := keepM2 hSY hb3 (by omega); have hS3 := keepM2 ⟨n0, n1⟩ hb3 (by omega); have hz3 := hb3.size; have HM3 := keepJ ((HM2.out.below HBY.out).below hb3); have HB13 : Hid (Below w1.heap.size w1 w3) := hb2.trans ((HBY.out.trans (hb3.mono (by omega))).mono hz2); have HV3 := keepJ (HM1.out.below HB13.out); clear n0 n1 hSY; obtain ⟨n0, n1⟩ := hS3))
  | (go_at_call 8; go_must (refine (rall_as HV3.out.maps HV3.out.code HA HK).mono ?_); rintro e w4 ⟨u, rfl, hS, hb4⟩; go_must (have hS4 := keepM2 ⟨m0, m1⟩ hb4 (by omega); have hT4 := keepM2 ⟨n0, n1⟩ hb4 (by omega); have hz4 := hb4.size; have HM4 := keepJ (HM3.out.below hb4); have HV4 := keepJ (HV3.out.below hb4); have HB14 : Hid (Below w1.heap.size w1 w4) := HB13.out.trans (hb4.mono HB13.out.size); obtain ⟨ua, uk, rfl⟩ := hS.shape; clear m0 m1 n0 n1; obtain ⟨m0, m1⟩ := hS4; obtain ⟨n0, n1⟩ := hT4))
  | (go_at_call 9; go_must (refine (rsame9_any _ _ _ _ ms xs _ HM4.out HV4.out).mono ?_); rintro e w5 ⟨rfl, hb5⟩; go_must (have HB15 : Hid (Below w1.heap.size w1 w5) := HB14.out.trans (hb5.mono HB14.out.size))))
 go_ret
 exact ⟨rfl, HBW.out.trans ((hb1.trans (HB15.out.mono hz1)).mono HBW.out.size)⟩
end Go.Proofs.YtkcofelpndlplaaGreat
