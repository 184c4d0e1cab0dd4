
/-
 WholeSafe where the judge refuses. Condition: the slices read as such.
-/
import Derived.Test.YtbaeakbnoijkcaaGreatMT50
namespace Go.Proofs.YtbaeakbnoijkcaaGreat
open Go.RowKit
set_option linter.unusedVariables false
set_option linter.unusedSimpArgs false
set_option maxRecDepth 100000
set_option maxHeartbeats 1600000 in
theorem whole_bad (vm vc : Value) (ms : List Int) (xs : List In) (ea eb : Int) (vr : Value) (rs : List Rs) (w : World) (h : SeesM w vm vc ms xs) (hr : SeesR w vr rs) (hev : (0 <= ea /\ ea <= 18446744073709551615) /\ 0 <= eb /\ eb <= 18446744073709551615) (z : ms.length * 8 <= 140737488351232 /\ xs.length * 40 <= 140737488355328 /\ rs.length * 48 <= 140737488355328) {P E : Int} (HI : Hid (inqR ms xs = .error (P, E))) :
  Calls Tryz.prog 3 #[.agg #[vm, vc, .int .u64 ea, .int .u64 eb, vr]] w fun e w' => e = .returned (.bool true) /\ Below w.heap.size w w' := by
 have hE0 : E ≠ 0 := inq_err1 HI.out
 have HJ : Hid (judgeR ms xs = (P, E)) := judge_err h.maps h.code HI.out
 have hE1 : (E == 0) = false := by simpa using hE0
 have hE2 : (E != 0) = true := by simpa using hE0
 have hE3 : ¬ E = 0 := hE0
 obtain ⟨V, HV, HqV, hBV, hzV⟩ : ∃ V, Hid (w.alloc (.cells #[vm, vc, .int .u64 ea, .int .u64 eb, vr] 31) = V) /\ Hid (Hp V w.heap.size 31 [vm, vc, .int .u64 ea, .int .u64 eb, vr]) /\ Below w.heap.size w V /\ V.heap.size = w.heap.size + 1 := ⟨_, rfl, Hp.new w _ _, (Below.refl _ _).alloc (Nat.le_refl _) _, by simp⟩
 have hz1 : ms.length * 8 <= 140737488351232 /\ xs.length * 40 <= 140737488355328 := ⟨z.1, z.2.1⟩
 have HSM : Hid (∀ wx : World, Below V.heap.size V wx -> SeesM wx vm vc ms xs) := fun wx hb => (h.below hBV).below hb
 have HQC : Hid (∀ wx : World, Below V.heap.size V wx -> wx.cell? ⟨w.heap.size, 0, none⟩ = some (vm) /\ wx.cell? ⟨w.heap.size, 1, none⟩ = some (vc) /\ wx.cell? ⟨w.heap.size, 2, none⟩ = some (.int .u64 ea) /\ wx.cell? ⟨w.heap.size, 3, none⟩ = some (.int .u64 eb) /\ wx.cell? ⟨w.heap.size, 4, none⟩ = some (vr)) := fun wx hb => have g := HqV.out.below hb (by omega); ⟨g.cell rfl, g.cell rfl, g.cell rfl, g.cell rfl, g.cell rfl⟩
 have K1 : Hid True := trivial
 have K2 : Hid True := trivial
 go_enter Tryz.func3, Tryz.ntmps3
 go_wp2_with (first
  | (go_at_call 4; rw [HV.out]; go_must (refine (runsT_any V).mono ?_); rintro e w1 ⟨rfl, hb1⟩; go_must (have hz1w := hb1.size; obtain ⟨q0, q1, q2, q3, q4⟩ := HQC.out w1 hb1; skip))
  | (go_at_call 6; (have hq := K1; clear hq); go_must (refine (copied9_own vm vc ms xs w1 (HSM.out w1 hb1) hz1).mono ?_); rintro e w2 ⟨um2, uc2, rfl, hs2, ho2, hoc2, hb2⟩; go_must (have HS2 := keepJ hs2; have hB2 : Below V.heap.size V w2 := hb1.trans (hb2.mono hz1w); have hz2w := hB2.size; clear hs2 K1 ho2 hoc2 hb2))
  | (go_at_call 5; go_must (refine (ljudge_as HS2.out.maps HS2.out.code (P := P) (E := E) HJ).mono ?_); rintro e w3 ⟨rfl, hb3⟩; go_must (have hB3 : Below V.heap.size V w3 := hB2.trans (hb3.mono hz2w); have hz3w := hB3.size; clear q0 q1 q2 q3 q4; obtain ⟨q0, q1, q2, q3, q4⟩ := HQC.out w3 hB3; skip)))
 go_region_held3 (fun w' => w'.cell? ⟨w.heap.size, 0, none⟩ = some (vm) /\ w'.cell? ⟨w.heap.size, 1, none⟩ = some (vc) /\ w'.cell? ⟨w.heap.size, 2, none⟩ = some (.int .u64 ea) /\ w'.cell? ⟨w.heap.size, 3, none⟩ = some (.int .u64 eb) /\ w'.cell? ⟨w.heap.size, 4, none⟩ = some (vr))
  (first | with_reducible exact hS5 | with_reducible exact hS6 | exact HQC.out w3 hB3)
  (first
   | (go_at_call 6; go_must (refine (copied9_own vm vc ms xs w3.drew (HSM.out w3.drew (qAf hB3)) hz1).mono ?_); rintro e w5 ⟨um5, uc5, rfl, hs5, ho5, hoc5, hb5'⟩; go_must (have hb5 : Below w3.heap.size w3 w5 := qAi hb5'; have hB5 : Below V.heap.size V w5 := hB3.trans (hb5.mono hz3w); have hz5w := hB5.size; have HS5 := keepJ hs5; have hS5 := HQC.out w5 hB5; clear hs5 hb5' ho5 hoc5))
   | (go_at_call 7; go_must (refine (mtrace_bad (ea, eb) _ w5 HS5.out.maps HS5.out.code HJ hE0).mono ?_); rintro e w6 ⟨rfl, hb6⟩; go_must (have hB6 : Below V.heap.size V w6 := hB5.trans (hb6.mono hz5w); have hS6 := HQC.out w6 hB6)))
 go_wp2
 go_ret
 exact ⟨rfl, hBV.trans (hB6.mono hBV.size)⟩
end Go.Proofs.YtbaeakbnoijkcaaGreat
