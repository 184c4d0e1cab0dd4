
/-
 WholeForms, walked. Condition: the arguments' reading, and what the listed variables hold.
-/
import Derived.Test.YtiheafdphgllkaaGreatDoorMW5
import Derived.Test.YtiheafdphgllkaaGreatDoorMW49
import Derived.Test.YtiheafdphgllkaaGreatDoorMW41
import Derived.Test.YtiheafdphgllkaaGreatDoorMW45
import Derived.Test.YtiheafdphgllkaaGreatDoorMW44
import Derived.Test.YtiheafdphgllkaaGreatDoorMW15
namespace Go.Proofs.YtiheafdphgllkaaGreatDoor
open Go.RowKit
set_option linter.unusedVariables false
set_option linter.unusedSimpArgs false
set_option maxRecDepth 100000
def TraceTo (w w' : World) (T : List Ac) (E : Int) (e : Ending) : Prop := ∃ v, e = .returned (.tuple #[v, .int .i64 E]) /\ w'.ownsRow w.heap.size 55 7 v T.length (flatX T) /\ Below w.heap.size w w'
theorem code_at11 {w : World} {v : Value} {xs : List In} (h : SeesI w v xs) (hx : 0 < xs.length) : ∃ cb co ccap, v = .slice (some ⟨cb, co, none⟩) xs.length ccap := by
 obtain ⟨a, c, rfl, _, _, _, g⟩ := h
 obtain ⟨b, off, rfl, _⟩ := g (fun e => by rw [e] at hx; simp at hx)
 exact ⟨b, off, c, rfl⟩
theorem trace_one (ms : List Int) (xs : List In) (ev : Int × Int) (hev : (0 <= ev.1 /\ ev.1 <= 18446744073709551615) /\ 0 <= ev.2 /\ ev.2 <= 18446744073709551615) (rs : List Rs) : ∃ T P E, Hid (judgeR ms xs = (P, E)) /\ (∀ vm vc vr w, SeesM w vm vc ms xs -> SeesR w vr rs -> Calls Tryz.prog 12 #[modV vm vc, evV ev, vr] w fun e w' => TraceTo w w' T E e) := by
 cases hi : inqR ms xs with
 | ok K =>
  obtain ⟨hmj, ⟨known, hKn, _⟩, hj0⟩ := judge_known hi
  refine ⟨traceE ms xs ev 257 startE rs, 0, 0, hj0, fun vm vc vr w hm hr => ?_⟩
  obtain ⟨cb, co, ccap, rfl⟩ := code_at11 hm.code hKn.T.pos
  exact mtrace_ok ev hev w hm.maps hm.code hr hi (keepJ rfl)
 | error e =>
  obtain ⟨P, E⟩ := e
  have hE : E ≠ 0 := inq_errorE hi (fun e h => (run_errorE (p := e.1) (E := e.2) h).2)
  have hj : Hid (judgeR ms xs = (P, E)) := by show _ = _; unfold judgeR; rw [hi]
  refine ⟨[], P, E, hj, fun vm vc vr w hm hr => ?_⟩
  refine (mtrace_bad ev vr w hm.maps hm.code hj hE).mono ?_
  rintro e w' ⟨rfl, hb⟩
  exact ⟨_, rfl, World.ownsRow_nil _ _ _ _, hb⟩
theorem field_code (a b : Value) (w : World) : (Instr.field 25 (.agg #[a, b]) 1).run Tryz.prog w = .ok b w := by
 simp [Instr.field, run_underlying Tryz.underlying25, asAgg, part, Tryz.isAgg23]
theorem laid_to {w w' : World} (h : Laid w) (hb : Below w.heap.size w w') : Laid w' := laid_keeps w w' h hb
theorem shapeM {w : World} {vm vc : Value} {ms : List Int} {xs : List In} (h : SeesM w vm vc ms xs) : (∃ a c, vm = .slice a ms.length c) /\ ∃ a c, vc = .slice a xs.length c := by
 obtain ⟨a, c, e, _⟩ := h.maps
 obtain ⟨a', c', e', _⟩ := h.code
 exact ⟨⟨a, c, e⟩, a', c', e'⟩
set_option maxHeartbeats 6400000 in
theorem forms_bad (vm vc : Value) (ms : List Int) (xs : List In) (ea eb : Int) (vr : Value) (rs : List Rs) (w : World) (hL : Laid w) (h : SeesM w vm vc ms xs) (z : ms.length * 8 <= 140737488351232 /\ xs.length * 40 <= 140737488351232) (hf : formedB ms xs = false) :
  Calls Tryz.prog 3 #[.agg #[vm, vc, .int .u64 ea, .int .u64 eb, vr]] w fun e w' => e = .returned (.bool true) /\ Below w.heap.size w w' := by
 obtain ⟨V, HV, HqV, hBV, hzV⟩ : ∃ V, Hid (w.alloc (.cells #[vm, vc, .int .u64 ea, .int .u64 eb, vr] 31) = V) /\ Hid (Hp V w.heap.size 31 [vm, vc, .int .u64 ea, .int .u64 eb, vr]) /\ Below w.heap.size w V /\ V.heap.size = w.heap.size + 1 := ⟨_, rfl, Hp.new w _ _, (Below.refl _ _).alloc (Nat.le_refl _) _, by simp⟩
 have hz1 : ms.length * 8 <= 140737488351232 /\ xs.length * 40 <= 140737488355328 := ⟨z.1, by omega⟩
 have hz2 : xs.length <= 3518437208780 := by omega
 have HLV := keepJ (laid_to hL hBV)
 have HSM : Hid (∀ wx : World, Below V.heap.size V wx -> SeesM wx vm vc ms xs) := fun wx hb => (h.below hBV).below hb
 have HQC : Hid (∀ wx : World, Below V.heap.size V wx -> wx.cell? ⟨w.heap.size, 0, none⟩ = some (vm) /\ wx.cell? ⟨w.heap.size, 1, none⟩ = some (vc)) := fun wx hb => have g := HqV.out.below hb (by omega); ⟨g.cell rfl, g.cell rfl⟩
 obtain ⟨pb, pe, HPL⟩ : ∃ pb pe, Hid (printL xs = (pb, pe)) := ⟨_, _, rfl⟩
 have HF := keepJ hf
 obtain ⟨⟨ma, mc, e1⟩, ca, cc, e2⟩ := shapeM h
 subst e1 e2
 have hfl := field_code
 have K1 : Hid True := trivial
 have K2 : Hid True := trivial
 clear h hL hf
 go_enter Tryz.func3, Tryz.ntmps3
 go_wp2_with (first
  | (go_at_call 4; rw [HV.out]; go_must (refine (runsT_any V).mono ?_); rintro e w1 ⟨rfl, hb1⟩; go_must (have HB1 := keepJ hb1; obtain ⟨q0, q1⟩ := HQC.out w1 hb1; clear hb1))
  | (go_at_call 6; (have hq := K1; clear hq); go_must (refine (copied9_own _ _ ms xs w1 (HSM.out w1 HB1.out) hz1).mono ?_); rintro e w2 ⟨um, uc, rfl, hs2, _, _, hb2⟩; go_must (have HS2 := keepJ hs2; have HB2 := keepJ (HB1.out.trans (hb2.mono HB1.out.size)); obtain ⟨⟨na, nc, e1⟩, da, dc, e2⟩ := shapeM hs2; subst e1 e2; clear hs2 hb2 K1 q0 q1; dsimp only [modV]))
  | (go_at_call 5; go_must (have hpp := lprint_any _ xs w2 (laid_to HLV.out HB2.out) HS2.out.code HS2.out.wf hz2; rw [HPL.out] at hpp; refine hpp.mono ?_); rintro e w3 ⟨rfl, hb3⟩; go_must (have HB3 := keepJ (HB2.out.trans (hb3.mono HB2.out.size)); obtain ⟨q0, q1⟩ := HQC.out w3 HB3.out; clear hb3 hpp))
  | (go_at_call 6; (have hq := K2; clear hq); go_must (refine (copied9_own _ _ ms xs w3 (HSM.out w3 HB3.out) hz1).mono ?_); rintro e w4 ⟨um4, uc4, rfl, hs4, _, _, hb4⟩; go_must (have HS4 := keepJ hs4; have HB4 := keepJ (HB3.out.trans (hb4.mono HB3.out.size)); obtain ⟨⟨na4, nc4, e1⟩, da4, dc4, e2⟩ := shapeM hs4; subst e1 e2; clear hs4 hb4 K2 q0 q1))
  | (go_at_call 7; go_must (refine (encode_bad _ _ ms xs w4 HS4.out HF.out).mono ?_); rintro e w5 ⟨rfl, hb5⟩; go_must (have HB5 := keepJ (HB4.out.trans (hb5.mono HB4.out.size)); clear hb5)))
 go_ret
 exact ⟨rfl, hBV.trans (HB5.out.mono hBV.size)⟩
set_option maxHeartbeats 12800000 in
theorem forms_ok (vm vc : Value) (ms : List Int) (xs : List In) (ea eb : Int) (vr : Value) (rs : List Rs) (w : World) (hL : Laid w) (h : SeesM w vm vc ms xs) (hr : SeesR w vr rs) (hev : (0 <= ea /\ ea <= 18446744073709551615) /\ 0 <= eb /\ eb <= 18446744073709551615) (z : ms.length * 8 <= 140737488351232 /\ xs.length * 40 <= 140737488351232) (hf : formedB ms xs = true) :
  Calls Tryz.prog 3 #[.agg #[vm, vc, .int .u64 ea, .int .u64 eb, vr]] w fun e w' => e = .returned (.bool true) /\ Below w.heap.size w w' := by
 obtain ⟨T, P, E, HJ, hT⟩ := trace_one ms xs (ea, eb) hev rs
 have HTR := keepJ hT
 obtain ⟨p1, p2, p3, p4, p5⟩ := formed_parts hf
 obtain ⟨i0, hi, hy0, hy1, hy2⟩ := info_parts infoInt9
 obtain ⟨V, HV, HqV, hBV, hzV⟩ : ∃ V, Hid (w.alloc (.cells #[vm, vc, .int .u64 ea, .int .u64 eb, vr] 31) = V) /\ Hid (Hp V w.heap.size 31 [vm, vc, .int .u64 ea, .int .u64 eb, vr]) /\ Below w.heap.size w V /\ V.heap.size = w.heap.size + 1 := ⟨_, rfl, Hp.new w _ _, (Below.refl _ _).alloc (Nat.le_refl _) _, by simp⟩
 have hz1 : ms.length * 8 <= 140737488351232 /\ xs.length * 40 <= 140737488355328 := ⟨z.1, by omega⟩
 have hz2 : xs.length <= 3518437208780 := by omega
 have HLV := keepJ (laid_to hL hBV)
 have HWF := keepJ h.wf
 have HSM : Hid (∀ wx : World, Below V.heap.size V wx -> SeesM wx vm vc ms xs) := fun wx hb => (h.below hBV).below hb
 have HSR : Hid (∀ wx : World, Below V.heap.size V wx -> SeesR wx vr rs) := fun wx hb => (hr.below hBV (Nat.le_refl _)).below hb (Nat.le_refl _)
 have HQC : Hid (∀ wx : World, Below V.heap.size V wx -> wx.cell? ⟨w.heap.size, 0, none⟩ = some (vm) /\ wx.cell? ⟨w.heap.size, 1, none⟩ = some (vc) /\ wx.cell? ⟨w.heap.size, 2, none⟩ = some (.int .u64 ea) /\ wx.cell? ⟨w.heap.size, 3, none⟩ = some (.int .u64 eb) /\ wx.cell? ⟨w.heap.size, 4, none⟩ = some (vr)) := fun wx hb => have g := HqV.out.below hb (by omega); ⟨g.cell rfl, g.cell rfl, g.cell rfl, g.cell rfl, g.cell rfl⟩
 have HPL : Hid (printL xs = (printB xs, 0)) := by show _ = _; unfold printL; rw [if_pos (List.all_eq_true.2 p5)]
 have HPP : Hid (parseL (printB xs) = (xs, 0, 0)) := parse_print (fun i hi => ⟨p5 i hi, h.wf i hi⟩)
 have hpl : (printB xs).length <= 1073741824 := by have := printB_len xs; omega
 have HTH : Hid (decL (modE ms xs) = ((ms, xs), 0, 0)) := dec_there hf h.wf
 have HBE := keepJ (modE_byte hf h.wf)
 have HMW := keepJ (wf_small (fitF_bd ms [] p4))
 have HSA : Hid (sameM ms xs ms xs = true) := sameM_true ms xs
 have HF := keepJ hf
 obtain ⟨⟨ma, mc, e1⟩, ca, cc, e2⟩ := shapeM h
 obtain ⟨ra, rc, e3⟩ : ∃ a c, vr = .slice a rs.length c := by obtain ⟨a, c, e, _⟩ := hr; exact ⟨a, c, e⟩
 subst e1 e2 e3
 obtain ⟨pb, HPB⟩ : ∃ pb, Hid (printB xs = pb) := ⟨_, rfl⟩
 obtain ⟨mb, HMB⟩ : ∃ mb, Hid (modE ms xs = mb) := ⟨_, rfl⟩
 rw [HPB.out] at HPL HPP hpl
 rw [HMB.out] at HTH HBE
 have hEE : (E != E) = false := by simp
 have hPP : (P != P) = false := by simp
 have hfl := field_code
 have K1 : Hid True := trivial
 have K2 : Hid True := trivial
 have K3 : Hid True := trivial
 have K4 : Hid True := trivial
 have K5 : Hid True := trivial
 have K6 : Hid True := trivial
 have K7 : Hid True := trivial
 clear h hL hf hT hr p1 p2 p3 p4 p5
 go_enter Tryz.func3, Tryz.ntmps3
 go_wp2_with (first
  | (go_at_call 4; rw [HV.out]; go_must (refine (runsT_any V).mono ?_); rintro e w1 ⟨rfl, hb1⟩; go_must (have HB1 := keepJ hb1; obtain ⟨q0, q1, -⟩ := HQC.out w1 hb1; clear hb1))
  | (go_at_call 6; (have hq := K1; clear hq); go_must (refine (copied9_own _ _ ms xs w1 (HSM.out w1 HB1.out) hz1).mono ?_); rintro e w2 ⟨um, uc, rfl, hs2, _, _, hb2⟩; go_must (have HS2 := keepJ hs2; have HB2 := keepJ (HB1.out.trans (hb2.mono HB1.out.size)); obtain ⟨⟨na, nc, e1⟩, da, dc, e2⟩ := shapeM hs2; subst e1 e2; clear hs2 hb2 K1 q0 q1; dsimp only [modV]))
  | (go_at_call 5; go_must (have hpp := lprint_any _ xs w2 (laid_to HLV.out HB2.out) HS2.out.code HS2.out.wf hz2; rw [HPL.out] at hpp; refine hpp.mono ?_); rintro e w3 ⟨rfl, hb3⟩; go_must (have HB3 := keepJ (HB2.out.trans (hb3.mono HB2.out.size)); obtain ⟨q0, q1, -⟩ := HQC.out w3 HB3.out; clear hb3 hpp HS2))
  | (go_at_call 6; (have hq := K2; clear hq); go_must (refine (copied9_own _ _ ms xs w3 (HSM.out w3 HB3.out) hz1).mono ?_); rintro e w4 ⟨um4, uc4, rfl, hs4, _, _, hb4⟩; go_must (have HS4 := keepJ hs4; have HB4 := keepJ (HB3.out.trans (hb4.mono HB3.out.size)); obtain ⟨⟨na4, nc4, e1⟩, da4, dc4, e2⟩ := shapeM hs4; subst e1 e2; clear hs4 hb4 K2 q0 q1))
  | (go_at_call 7; go_must (refine (encode_ok _ _ ms xs w4 HS4.out HF.out).mono ?_); rintro e w5 ⟨v5, rfl, ho5, hb5⟩; go_must (rw [HMB.out] at ho5; have hs5 : Sees .u8 w5 v5 mb := Sees.own ho5 (wf_bytes HBE.out); obtain ⟨b5, c5, hv5⟩ := own_shape ho5; subst hv5; have HS5 := keepJ hs5; have HB5 := keepJ (HB4.out.trans (hb5.mono HB4.out.size)); clear hb5 ho5 hs5 HS4))
  | (go_at_call 8; go_must (have hpp := lparse_any pb w5 (laid_to HLV.out HB5.out) hpl; rw [HPP.out] at hpp; refine hpp.mono ?_); rintro e w6 ⟨v6, rfl, ho6, hb6⟩; go_must (have hs6 : SeesI w6 v6 xs := own_seesI ho6; obtain ⟨b6, c6, hv6⟩ := own_shape ho6; subst hv6; have HS6 := keepJ hs6; have HB6 := keepJ (HB5.out.trans (hb6.mono HB5.out.size)); have HT6 := keepJ (HS5.out.below hb6 (Nat.le_refl _)); clear hb6 ho6 hs6 hpp HS5))
  | (go_at_call 9; go_must (have hpp := decode_any _ mb w6 HT6.out; rw [HTH.out] at hpp; refine hpp.mono ?_); rintro e w7 ⟨um7, uc7, rfl, hom, hoc, _, hb7⟩; go_must (have hs7 : SeesM w7 um7 uc7 ms xs := ⟨Sees.own hom HMW.out, own_seesI hoc, HWF.out⟩; obtain ⟨⟨na7, nc7, e1⟩, da7, dc7, e2⟩ := shapeM hs7; subst e1 e2; have HB7 := keepJ (HB6.out.trans (hb7.mono HB6.out.size)); have HC7 := keepJ (HS6.out.below hb7); obtain ⟨W8, HW8, HI8, hb8⟩ : ∃ W8, Hid (w7.alloc (.cells #[.slice na7 ms.length nc7, .slice da7 xs.length dc7] 25) = W8) /\ Hid (Hp W8 w7.heap.size 25 [.slice na7 ms.length nc7, .slice da7 xs.length dc7]) /\ Below w7.heap.size w7 W8 := ⟨_, rfl, Hp.new w7 _ _, (Below.refl _ _).alloc (Nat.le_refl _) _⟩; have HB8 := keepJ (HB7.out.trans (hb8.mono HB7.out.size)); have HX8 : Hid (∀ wx, Below W8.heap.size W8 wx -> SeesM wx (.slice na7 ms.length nc7) (.slice da7 xs.length dc7) ms xs /\ SeesM wx (.slice ma ms.length mc) (.slice b6 xs.length c6) ms xs /\ Hp wx w7.heap.size 25 [.slice na7 ms.length nc7, .slice da7 xs.length dc7]) := (fun wx hb => ⟨(hs7.below hb8).below hb, ⟨(HSM.out wx (HB8.out.trans (hb.mono HB8.out.size))).maps, (HC7.out.below hb8).below hb, HWF.out⟩, HI8.out.below hb HI8.out.lt⟩); have i0 := HI8.out.cell (j := 0) rfl; have i1 := HI8.out.cell (j := 1) rfl; obtain ⟨q0, q1, -⟩ := HQC.out W8 HB8.out; clear hb7 hom hoc hs7 hb8 hpp HS6 HC7 HT6; dsimp only [modV]))
  | (rw [HW8.out])
  | (go_at_call 10; (have hq := K3; clear hq); go_must (have hpp := lsame_any _ _ _ _ ms xs ms xs W8 (HX8.out W8 (Below.refl _ _)).1 (HSM.out W8 HB8.out); rw [HSA.out] at hpp; refine hpp.mono ?_); rintro e w9 ⟨rfl, hb9⟩; go_must (have HB9 := keepJ (HB8.out.trans (hb9.mono HB8.out.size)); have H89 := keepJ hb9; clear hb9 hpp K3 q0 q1 i0 i1; obtain ⟨q0, q1, -⟩ := HQC.out w9 HB9.out))
  | (go_at_call 10; (have hq := K4; clear hq); go_must (have hpp := lsame_any _ _ _ _ ms xs ms xs w9 (HX8.out w9 H89.out).2.1 (HSM.out w9 HB9.out); rw [HSA.out] at hpp; refine hpp.mono ?_); rintro e w10 ⟨rfl, hb10⟩; go_must (have HB10 := keepJ (HB9.out.trans (hb10.mono HB9.out.size)); have H810 := keepJ (H89.out.trans (hb10.mono H89.out.size)); clear hb10 hpp K4 q0 q1; have i0 := (HX8.out w10 H810.out).2.2.cell (j := 0) rfl; have i1 := (HX8.out w10 H810.out).2.2.cell (j := 1) rfl))
  | (go_at_call 11; (have hq := K5; clear hq); go_must (refine (ljudge_as (HX8.out w10 H810.out).1.maps (HX8.out w10 H810.out).1.code HJ).mono ?_); rintro e w11 ⟨rfl, hb11⟩; go_must (have HB11 := keepJ (HB10.out.trans (hb11.mono HB10.out.size)); have H811 := keepJ (H810.out.trans (hb11.mono H810.out.size)); clear hb11 K5 i0 i1; obtain ⟨q0, q1, -⟩ := HQC.out w11 HB11.out))
  | (go_at_call 6; (have hq := K6; clear hq); go_must (refine (copied9_own _ _ ms xs w11 (HSM.out w11 HB11.out) hz1).mono ?_); rintro e w12 ⟨um12, uc12, rfl, hs12, _, _, hb12⟩; go_must (have HS12 := keepJ hs12; have HB12 := keepJ (HB11.out.trans (hb12.mono HB11.out.size)); have H812 := keepJ (H811.out.trans (hb12.mono H811.out.size)); obtain ⟨⟨na12, nc12, e1⟩, da12, dc12, e2⟩ := shapeM hs12; subst e1 e2; clear hs12 hb12 K6 q0 q1))
  | (go_at_call 11; (have hq := K7; clear hq); go_must (refine (ljudge_as HS12.out.maps HS12.out.code HJ).mono ?_); rintro e w13 ⟨rfl, hb13⟩; go_must (have HB13 := keepJ (HB12.out.trans (hb13.mono HB12.out.size)); have H813 := keepJ (H812.out.trans (hb13.mono H812.out.size)); clear hb13 K7 HS12; have i0 := (HX8.out w13 H813.out).2.2.cell (j := 0) rfl; have i1 := (HX8.out w13 H813.out).2.2.cell (j := 1) rfl; obtain ⟨-, -, q2, q3, q4⟩ := HQC.out w13 HB13.out))
  | (go_at_call 12; go_must (refine (HTR.out _ _ _ w13 (HX8.out w13 H813.out).1 (HSR.out w13 HB13.out)).mono ?_); rintro e w14 ⟨v14, rfl, ho14, hb14⟩; go_must (obtain ⟨xa, xc, hv14⟩ := own_shape ho14; subst hv14; have HO14 := keepJ ho14; have HB14 := keepJ (HB13.out.trans (hb14.mono HB13.out.size)); have H814 := keepJ (H813.out.trans (hb14.mono H813.out.size)); clear ho14 hb14 i0 i1 q2 q3 q4)))
 have HX14 := keepJ (own_seesX HO14.out)
 obtain ⟨Z, HZ, HOZ, HBZ⟩ : ∃ Z, Hid ((w14.alloc (.cells #[] 3)).drew = Z) /\ Hid (Z.ownsRow w14.heap.size 3 1 (.slice (some ⟨w14.heap.size, 0, none⟩) 0 0) 0 []) /\ Hid (Below w14.heap.size w14 Z) := ⟨_, rfl, World.ownsRow_made (base := w14.heap.size) (e := 3) (size := 1) w14 #[] 0 (Nat.le_refl _) (by simp [maxLen]) (by simp), below_drE ((Below.refl w14.heap.size w14).alloc (Nat.le_refl _) _)⟩
 have HZV : Hid (Below V.heap.size V Z) := HB14.out.trans (HBZ.out.mono HB14.out.size)
 clear HO14
 refine wp_region_held_drew (S := fun w' => w'.cell? ⟨w.heap.size, 0, none⟩ = some (.slice ma ms.length mc) /\ w'.cell? ⟨w.heap.size, 1, none⟩ = some (.slice ca xs.length cc) /\ w'.cell? ⟨w.heap.size, 2, none⟩ = some (.int .u64 ea) /\ w'.cell? ⟨w.heap.size, 3, none⟩ = some (.int .u64 eb) /\ w'.cell? ⟨w.heap.size, 4, none⟩ = some (.slice ra rs.length rc)) (by kernel_rfl) (HQC.out w14.drew (below_drE HB14.out)) (fun hHeld => ?_)
 refine tkGo [1, 2, 3, 5, 7, 8, 9, 10] ?_
 repeat (refine tkO (v := ?_) rfl ?_ ?_; rotate_left; (intro wy hSw; (try dsimp only at hSw); go_simp; (first | done | with_reducible rfl)); try simp only [Act.put, p1q, p2q, p3q, p4q, p5q, p6q])
 refine tkEnd ?_
 refine runO 0 (by kernel_rfl) rfl (by rfl) (fun KK hK => ?_)
 go_simp
 rw [HZ.out]
 refine hK.out _ _ (HQC.out Z HZV.out) (fun hHeld => ?_)
 clear hK KK
 try simp only [Act.put, p1q, p2q, p3q, p4q, p5q, p6q]
 refine runO 4 (by kernel_rfl) rfl (by rfl) (fun KK hK => ?_)
 refine wp_append_sees (.tmp 126) (.tmp 129) 22 rfl w14.heap.size 3 i0 (.int .i64 0) 8 Tryz.underlying22 hi hy0 hy1 hy2 rfl .i64 _ [] rfl HOZ.out _ ms rfl (HSM.out Z HZV.out).maps (by unfold maxLen; simp; omega) (by simp; omega) HBZ.out.size ?_
 intro v15 w15 hown15 hg15
 rw [List.nil_append] at hown15
 have hb15 : Below w14.heap.size w14 w15 := HBZ.out.grown hg15 HBZ.out.size (fun j hj => by (have hj' : w14.heap.size = j := Option.some.inj hj); omega)
 have HB15 := keepJ (HB14.out.trans (hb15.mono HB14.out.size))
 have H815 := keepJ (H814.out.trans (hb15.mono H814.out.size))
 have hs15 : SeesM w15 v15 (.slice b6 xs.length c6) ms xs := ⟨Sees.own hown15 HMW.out, (HX8.out w15 H815.out).2.1.code, HWF.out⟩
 have HX15 := keepJ (HX14.out.below hb15)
 have HM15 := keepJ hs15
 obtain ⟨⟨na15, nc15, e1⟩, -⟩ := shapeM hs15
 subst e1
 clear hown15 hg15 hb15 hs15
 refine hK.out _ _ (HQC.out w15 HB15.out) (fun hHeld => ?_)
 clear hK KK
 try simp only [Act.put, p1q, p2q, p3q, p4q, p5q, p6q]
 refine tkGo [6] ?_
 repeat (refine tkO (v := ?_) rfl ?_ ?_; rotate_left; (intro wy hSw; (try dsimp only at hSw); go_simp; (first | done | with_reducible rfl)); try simp only [Act.put, p1q, p2q, p3q, p4q, p5q, p6q])
 refine tkEnd ?_
 refine runO 11 (by kernel_rfl) rfl (by rfl) (fun KK hK => ?_)
 go_simp
 go_at_call 12
 refine (HTR.out _ _ _ w15 HM15.out (HSR.out w15 HB15.out)).mono ?_
 rintro e w16 ⟨v16, rfl, ho16, hb16⟩
 obtain ⟨ya, yc, hv16⟩ := own_shape ho16
 subst hv16
 have HY16 := keepJ (own_seesX ho16)
 have HX16 := keepJ (HX15.out.below hb16)
 have HB16 := keepJ (HB15.out.trans (hb16.mono HB15.out.size))
 clear ho16 hb16
 go_simp
 refine hK.out _ _ (HQC.out w16 HB16.out) (fun hHeld => ?_)
 clear hK KK
 try simp only [Act.put, p1q, p2q, p3q, p4q, p5q, p6q]
 refine tkGo [12, 13, 14, 15, 16] ?_
 repeat (refine tkO (v := ?_) rfl ?_ ?_; rotate_left; (intro wy hSw; (try dsimp only at hSw); go_simp; (first | done | with_reducible rfl)); try simp only [Act.put, p1q, p2q, p3q, p4q, p5q, p6q])
 refine tkEnd ?_
 refine wpAnyH_done (by kernel_rfl) ?_ _
 clear hHeld
 have hTT : ((T.length : Int) != T.length) = false := by simp
 obtain ⟨n, HN⟩ : ∃ n, Hid (T.length = n) := ⟨_, rfl⟩
 obtain ⟨a1, k1, e1, h1a, h1b, HA⟩ := HX16.out
 obtain ⟨a2, k2, e2, h2a, h2b, HC⟩ := HY16.out
 injection e1 with e11 _ e12
 injection e2 with e21 _ e22
 subst e11 e12 e21 e22
 have HA := keepJ HA
 have HC := keepJ HC
 have hn62 : n <= 9223372036854775807 := by have := HN.out; omega
 rw [HN.out] at hTT ⊢
 have HBW : Hid (Below w.heap.size w w16) := hBV.trans (HB16.out.mono hBV.size)
 clear h1a h1b h2a h2b HX14 HX15 HX16 HY16 HM15 HX8 HSM HSR HQC HTR
 go_wp2
 go_loopw [21] (fun i wr => ∃ k : Nat, k <= n /\ i = .int .i64 k /\ Below w16.heap.size w16 wr) (fun i _ => n - (intOf i).toNat)
 case atStart => exact ⟨0, by omega, rfl, Below.refl _ _⟩
 case round =>
  obtain ⟨k, hk, rfl, hbr⟩ := hrel
  rename World => wr
  by_cases hkn : k < n
  ·have hkI : (k : Int) < n := by omega
   have hne : T ≠ [] := fun e => by have := HN.out; rw [e] at this; simp at this; omega
   have hkL : k < T.length := by have := HN.out; omega
   obtain ⟨ga, oa, rfl, hga, hata⟩ := HA.out hne
   obtain ⟨gb, ob, rfl, hgb, hatb⟩ := HC.out hne
   have h1 : AtA wr ga (oa + k * 7) (T.getD k Ac.nil) := fun j hj => (hbr.cell (p := ⟨ga, oa + k * 7 + j, none⟩) hga).trans (hata k hkL j hj)
   have h2 : AtA wr gb (ob + k * 7) (T.getD k Ac.nil) := fun j hj => (hbr.cell (p := ⟨gb, ob + k * 7 + j, none⟩) hgb).trans (hatb k hkL j hj)
   obtain ⟨⟨ak, apc, am, ao, aq, av, an⟩, HAk⟩ : ∃ A, Hid (T.getD k Ac.nil = A) := ⟨_, rfl⟩
   rw [HAk.out] at h1 h2
   obtain ⟨a0, a1, a2, a3, a4, a5, a6⟩ := h1.seven
   obtain ⟨b0, b1, b2, b3, b4, b5, b6⟩ := h2.seven
   simp only at a0 a1 a2 a3 a4 a5 a6 b0 b1 b2 b3 b4 b5 b6
   clear hata hatb h1 h2
   go_wp2
   go_region
   go_wp2
   go_roundw
   case rel => exact ⟨k + 1, by omega, by go_num, below_drE hbr⟩
   case measure => (simp [intOf]; try omega)
  ·have hkI : ¬ (k : Int) < n := by omega
   go_wp2
   go_ret
   exact ⟨rfl, HBW.out.trans (hbr.mono HBW.out.size)⟩
theorem forms_walk (vm vc : Value) (ms : List Int) (xs : List In) (ea eb : Int) (vr : Value) (rs : List Rs) (w : World) (hL : Laid w) (h : SeesM w vm vc ms xs) (hr : SeesR w vr rs) (hev : (0 <= ea /\ ea <= 18446744073709551615) /\ 0 <= eb /\ eb <= 18446744073709551615) (z : ms.length * 8 <= 140737488351232 /\ xs.length * 40 <= 140737488351232 /\ rs.length * 48 <= 140737488355328) :
  Calls Tryz.prog 3 #[.agg #[vm, vc, .int .u64 ea, .int .u64 eb, vr]] w fun e w' => e = .returned (.bool true) /\ Below w.heap.size w w' := by
 cases hf : formedB ms xs with
 | false => exact forms_bad vm vc ms xs ea eb vr rs w hL h ⟨z.1, z.2.1⟩ hf
 | true => exact forms_ok vm vc ms xs ea eb vr rs w hL h hr hev ⟨z.1, z.2.1⟩ hf
end Go.Proofs.YtiheafdphgllkaaGreatDoor
