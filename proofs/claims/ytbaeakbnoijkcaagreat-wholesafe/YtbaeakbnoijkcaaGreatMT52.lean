
/-
 WholeSafe where the judge takes the module. Condition: the slices read as such.
-/
import Derived.Test.YtbaeakbnoijkcaaGreatMT0
import Derived.Test.YtbaeakbnoijkcaaGreatMT51
namespace Go.Proofs.YtbaeakbnoijkcaaGreat
open Go.RowKit
set_option linter.unusedVariables false
set_option linter.unusedSimpArgs false
set_option maxRecDepth 100000
set_option maxHeartbeats 12800000 in
theorem whole_ok (vm vc : Value) (ms : List Int) (xs : List In) (ea eb : Int) (vr : Value) (rs : List Rs) (w : World) (h : SeesM w vm vc ms xs) (hr : SeesR w vr rs) (hev : (0 <= ea /\ ea <= 18446744073709551615) /\ 0 <= eb /\ eb <= 18446744073709551615) (z : ms.length * 8 <= 140737488351232 /\ xs.length * 40 <= 140737488355328 /\ rs.length * 48 <= 140737488355328) {K : Kn} (HI : Hid (inqR ms xs = .ok K)) :
  Calls Tryz.prog 3 #[.agg #[vm, vc, .int .u64 ea, .int .u64 eb, vr]] w fun e w' => e = .returned (.bool true) /\ Below w.heap.size w w' := by
 obtain ⟨hmj, ⟨known, hKn, _⟩, hj0⟩ := judge_known HI.out
 have HJ : Hid (judgeR ms xs = (0, 0)) := hj0
 obtain ⟨c, hc⟩ : ∃ c : Nat, costA xs = c /\ c <= 256 := cost_nat xs
 have HC : Hid (((c : Nat) : Int) = costA xs) := hc.1.symm
 have herr : errL xs = 0 := (check_ok).2 hKn.T
 have HErr : Hid ((0 : Int) = errL xs) := herr.symm
 have hcI : (c : Int) <= 256 := by have := hc.2; omega
 have HPot : Hid (pot xs startE <= c) := by
  show _ <= _
  rw [HC.out]
  unfold costA
  rw [if_pos herr]
  have h1 := pot_start hKn.T
  have h2 := costC_le (bnd_ok hKn.T.place) xs.length
  have h3 := h2.2.2 (Int.le_trans h2.1 (cost_256 hKn.T))
  omega
 have hfld : ∀ (a : Option Addr) (n c : Nat) (a' : Option Addr) (n' c' : Nat) (wx : World), (Instr.field 25 (modV (.slice a n c) (.slice a' n' c')) 1).run Tryz.prog wx = .ok (.slice a' n' c') wx := fun _ _ _ _ _ _ _ => by kernel_rfl
 clear hc hj0 herr
 obtain ⟨V, HV, HqV, hBV, hzV⟩ : ∃ V, Hid (w.alloc (.cells #[vm, vc, .int .u64 ea, .int .u64 eb, vr] 31) = V) /\ Hid (Hp V w.heap.size 31 [vm, vc, .int .u64 ea, .int .u64 eb, vr]) /\ Below w.heap.size w V /\ V.heap.size = w.heap.size + 1 := ⟨_, rfl, Hp.new w _ _, (Below.refl _ _).alloc (Nat.le_refl _) _, by simp⟩
 have hz1 : ms.length * 8 <= 140737488351232 /\ xs.length * 40 <= 140737488355328 := ⟨z.1, z.2.1⟩
 have HSM : Hid (∀ wx : World, Below V.heap.size V wx -> SeesM wx vm vc ms xs) := fun wx hb => (h.below hBV).below hb
 have HQC : Hid (∀ wx : World, Below V.heap.size V wx -> wx.cell? ⟨w.heap.size, 0, none⟩ = some (vm) /\ wx.cell? ⟨w.heap.size, 1, none⟩ = some (vc) /\ wx.cell? ⟨w.heap.size, 2, none⟩ = some (.int .u64 ea) /\ wx.cell? ⟨w.heap.size, 3, none⟩ = some (.int .u64 eb) /\ wx.cell? ⟨w.heap.size, 4, none⟩ = some (vr)) := fun wx hb => have g := HqV.out.below hb (by omega); ⟨g.cell rfl, g.cell rfl, g.cell rfl, g.cell rfl, g.cell rfl⟩
 have K1 : Hid True := trivial
 have K2 : Hid True := trivial
 go_enter Tryz.func3, Tryz.ntmps3
 go_wp2_with (first
  | (go_at_call 4; rw [HV.out]; go_must (refine (runsT_any V).mono ?_); rintro e w1 ⟨rfl, hb1⟩; go_must (have hz1w := hb1.size; obtain ⟨q0, q1, q2, q3, q4⟩ := HQC.out w1 hb1; skip))
  | (go_at_call 6; (have hq := K1; clear hq); go_must (refine (copied9_own vm vc ms xs w1 (HSM.out w1 hb1) hz1).mono ?_); rintro e w2 ⟨um2, uc2, rfl, hs2, ho2, hoc2, hb2⟩; go_must (have HS2 := keepJ hs2; have hB2 : Below V.heap.size V w2 := hb1.trans (hb2.mono hz1w); have hz2w := hB2.size; clear hs2 K1 ho2 hoc2 hb2))
  | (go_at_call 5; go_must (refine (ljudge_as HS2.out.maps HS2.out.code (P := 0) (E := 0) HJ).mono ?_); rintro e w3 ⟨rfl, hb3⟩; go_must (have hB3 : Below V.heap.size V w3 := hB2.trans (hb3.mono hz2w); have hz3w := hB3.size; clear q0 q1 q2 q3 q4; obtain ⟨q0, q1, q2, q3, q4⟩ := HQC.out w3 hB3; skip))
  | (go_at_call 6; (have hq := K2; clear hq); go_must (refine (copied9_own vm vc ms xs w3 (HSM.out w3 hB3) hz1).mono ?_); rintro e w4 ⟨um4, uc4, rfl, hs4, ho4, hoc4, hb4⟩; go_must (obtain ⟨xa4, xc4, rfl⟩ := hs4.maps.shape; obtain ⟨ya4, yc4, rfl⟩ := hs4.code.shape; have HS4 := keepJ hs4; have hB4 : Below V.heap.size V w4 := hB3.trans (hb4.mono hz3w); have hz4w := hB4.size; clear hs4 K2 ho4 hoc4 hb4))
  | (go_at_call 8; go_must (refine (lcost_any _ xs w4 HS4.out.code HC HErr).mono ?_); rintro e w5 ⟨rfl, hb5⟩; go_must (have hB5 : Below V.heap.size V w5 := hB4.trans (hb5.mono hz4w); have hz5w := hB5.size; clear q0 q1 q2 q3 q4 hfld)))
 refine wp_region_held_drew (S := fun w' => w'.cell? ⟨w.heap.size, 0, none⟩ = some (vm) /\ w'.cell? ⟨w.heap.size, 1, none⟩ = some (vc) /\ w'.cell? ⟨w.heap.size, 2, none⟩ = some (.int .u64 ea) /\ w'.cell? ⟨w.heap.size, 3, none⟩ = some (.int .u64 eb) /\ w'.cell? ⟨w.heap.size, 4, none⟩ = some (vr)) (by kernel_rfl) (HQC.out _ (qAf hB5)) (fun hHeld => ?_)
 refine tks [0, 1, 3, 4] ?_
 repeat (refine tk (v := ?_) rfl (by kernel_rfl) (by kernel_rfl) (by kernel_rfl) (fun _ _ _ h => h) (by assumption) (by rfl) ?_ ?_; rotate_left; (intro wy hSw; (try dsimp only at hSw); go_simp; (first | done | with_reducible rfl)); try simp only [Act.put, List.getElem_toArray, List.getElem_cons_zero, List.getElem_cons_succ, List.setIfInBounds_toArray, List.set_cons_zero, List.set_cons_succ])
 refine tkE ?_
 refine wpAnyH_ready (rs := [2]) (by kernel_rfl) (by simp) ?_
 refine AllReadyH.cons rfl (fun KK hK => ?_) AllReadyH.nil
 rw [if_pos (by rfl)]
 go_simp
 go_at_call 6
 refine (copied9_own vm vc ms xs w5.drew (HSM.out w5.drew (qAf hB5)) hz1).mono ?_
 rintro e w6 ⟨um, uc, rfl, hs6, ho6, hoc6, hb6'⟩
 have hb6 : Below w5.heap.size w5 w6 := qAi hb6'
 have hB6 : Below V.heap.size V w6 := hB5.trans (hb6.mono hz5w)
 have hz6w := hB6.size
 obtain ⟨cx, cxo, cxcap, rfl, hcx⟩ := code_shape hs6.code hKn.T.pos
 have HXM := keepJ hs6.maps
 have HXC := keepJ hs6.code
 obtain ⟨ma, mcap, rfl⟩ := hs6.maps.shape
 have hxob := ho6.blocks
 have hxoc := hoc6.blocks
 clear hs6 ho6 hoc6 hb6'
 go_simp
 refine hK.out _ _ (HQC.out w6 hB6) (fun hHeld => ?_)
 clear hK KK
 try simp only [Act.put, List.getElem_toArray, List.getElem_cons_zero, List.getElem_cons_succ, List.setIfInBounds_toArray, List.set_cons_zero, List.set_cons_succ]
 refine tks [5] ?_
 repeat (refine tk (v := ?_) rfl (by kernel_rfl) (by kernel_rfl) (by kernel_rfl) (fun _ _ _ h => h) (by assumption) (by rfl) ?_ ?_; rotate_left; (intro wy hSw; (try dsimp only at hSw); go_simp; (first | done | with_reducible rfl)); try simp only [Act.put, List.getElem_toArray, List.getElem_cons_zero, List.getElem_cons_succ, List.setIfInBounds_toArray, List.set_cons_zero, List.set_cons_succ])
 refine tkE ?_
 refine wpAnyH_ready (rs := [6]) (by kernel_rfl) (by simp) ?_
 refine AllReadyH.cons rfl (fun KK hK => ?_) AllReadyH.nil
 rw [if_pos (by rfl)]
 go_simp
 obtain ⟨F, HF, HhF, hBF⟩ : ∃ F, Hid (w6.alloc (.cells ((((Tryz.zeroCells46.setIfInBounds 0 (.slice ma ms.length mcap)).setIfInBounds 1 (.slice (some ⟨cx, cxo, none⟩) xs.length cxcap)).setIfInBounds 2 (.int .u64 ea)).setIfInBounds 3 (.int .u64 eb)) 46) = F) /\ Hid (Hp F w6.heap.size 46 (xcC (.slice ma ms.length mcap) (.slice (some ⟨cx, cxo, none⟩) xs.length cxcap) (ea, eb) startE)) /\ Below w6.heap.size w6 F :=
  ⟨_, rfl, Hp.new w6 (xcC (.slice ma ms.length mcap) (.slice (some ⟨cx, cxo, none⟩) xs.length cxcap) (ea, eb) startE) _, (Below.refl _ _).alloc (Nat.le_refl _) _⟩
 rw [HF.out]
 have hBF6 : Below V.heap.size V F := hB6.trans (hBF.mono hz6w)
 refine hK.out _ _ (HQC.out F hBF6) (fun hHeld => ?_)
 clear hK KK
 try simp only [Act.put, List.getElem_toArray, List.getElem_cons_zero, List.getElem_cons_succ, List.setIfInBounds_toArray, List.set_cons_zero, List.set_cons_succ]
 refine tks [7] ?_
 repeat (refine tk (v := ?_) rfl (by kernel_rfl) (by kernel_rfl) (by kernel_rfl) (fun _ _ _ h => h) (by assumption) (by rfl) ?_ ?_; rotate_left; (intro wy hSw; (try dsimp only at hSw); go_simp; (first | done | with_reducible rfl)); try simp only [Act.put, List.getElem_toArray, List.getElem_cons_zero, List.getElem_cons_succ, List.setIfInBounds_toArray, List.set_cons_zero, List.set_cons_succ])
 refine tkE ?_
 refine wpAnyH_done (by kernel_rfl) ?_ _
 clear hHeld
 have HXF := keepJ (show Xa F w6.heap.size (.slice ma ms.length mcap) (.slice (some ⟨cx, cxo, none⟩) xs.length cxcap) (ea, eb) startE from ⟨HhF.out, startE_wr, rfl, by decide⟩)
 have HMF := keepJ (HXM.out.below hBF (Nat.le_refl _))
 have HCF := keepJ (HXC.out.below hBF)
 have hzF := hBF.size
 have hltF : w6.heap.size < F.heap.size := HhF.out.lt
 go_wp2_with (first
  | (go_at_call 9; go_must (refine (new_any _).mono ?_); rintro e w7 ⟨rfl, hs7, hz7, hb7'⟩; go_must (have hb7 : Below F.heap.size F w7 := hb7'; have hB7 : Below V.heap.size V w7 := hBF6.trans (hb7.mono hBF6.size); have hz7w := hB7.size; have HSC7 := keepJ hs7; clear hs7 hb7')))
 go_region_held3 (fun w' => w'.cell? ⟨w.heap.size, 0, none⟩ = some (vm) /\ w'.cell? ⟨w.heap.size, 1, none⟩ = some (vc) /\ w'.cell? ⟨w.heap.size, 2, none⟩ = some (.int .u64 ea) /\ w'.cell? ⟨w.heap.size, 3, none⟩ = some (.int .u64 eb) /\ w'.cell? ⟨w.heap.size, 4, none⟩ = some (vr))
  (first | with_reducible exact hS8 | with_reducible exact hS9 | exact HQC.out w7 hB7)
  (first
   | (go_at_call 6; go_must (refine (copied9_own vm vc ms xs w7.drew (HSM.out w7.drew (qAf hB7)) hz1).mono ?_); rintro e w8 ⟨um8, uc8, rfl, hs8, ho8, hoc8, hb8'⟩; go_must (have hb8 : Below w7.heap.size w7 w8 := qAi hb8'; have hB8 : Below V.heap.size V w8 := hB7.trans (hb8.mono hz7w); have hz8w := hb8.size; have HS8 := keepJ hs8; have hS8 := HQC.out w8 hB8; have HSC8 := keepJ (HSC7.out.below hb8 HSC7.out.lt); have hob8 := ho8.blocks; have hoc9 := hoc8.blocks; clear hs8 hb8' ho8 hoc8))
   | (go_at_call 10; go_must (refine (mnew_copied (ea, eb) w8 HS8.out HSC8.out HI (B := w7.heap.size) (by omega) hob8 hoc9).mono ?_); rintro e w9 ⟨b, cb, ccap, um9, rfl, hbb, hmh, hch, hcc, hub⟩; go_must (have HMH := keepJ hmh; have hz9 := hch.size; have hB9 : Below V.heap.size V w9 := hB8.trans (hch.below (fun k e => by omega) (by omega)); have hS9 := HQC.out w9 hB9; clear hmh)))
 have hb9 := HMH.out.ma.hp.lt
 go_wp2
 obtain ⟨G, HG, HcG, hBG⟩ : ∃ G, Hid (w9.alloc (.cells #[.int .u64 0, .int .u64 0, .int .u64 0, .int .u64 0, .int .u64 0, .int .u64 0, .int .u64 0, .int .u64 0, .int .u64 0, .int .u64 0, .int .u64 0, .int .u64 0, .int .u64 0, .int .u64 0, .int .u64 0, .int .u64 0] 43) = G) /\ Hid (Hp G w9.heap.size 43 (nums startE.cs)) /\ Below w9.heap.size w9 G := ⟨_, rfl, Hp.new w9 (nums startE.cs) _, (Below.refl _ _).alloc (Nat.le_refl _) _⟩
 rw [HG.out]
 have hcbl : cb < w9.heap.size := (codeL HMH.out.code hKn.T.pos).2.1
 have hz89 : w8.heap.size <= w9.heap.size := hz9
 have HAp : Hid (Ap V b F.heap.size w6.heap.size w9.heap.size um9 cb (.slice ma ms.length mcap) cx ms) := ⟨⟨by omega, by omega, by omega, by omega⟩, ⟨by omega, by omega, by omega, by omega, by omega⟩, ⟨by omega, by omega, by omega, by omega, by omega, by omega⟩, by
  by_cases hms : ms = []
  ·exact .inl hms
  ·refine .inr ⟨fun j hj => ?_, fun j hj => ?_⟩
   ·rcases sees_ltE HXM.out hj with e | e
    ·exact absurd e hms
    ·omega
   ·rcases sees_ltE HMH.out.maps hj with e | e
    ·exact absurd e hms
    ·rcases hub with e2 | e2
     ·exact absurd e2 hms
     ·have := e2 j hj
      omega⟩
 have HR0 : Hid (Rd V G b F.heap.size w6.heap.size w9.heap.size um9 cb ccap (.slice ma ms.length mcap) cx cxo cxcap ms xs (ea, eb) startE startE startE.cs) := by
  have hFG : Chg F G (fun k => k = F.heap.size) := (((Chg.of_below (S := fun k => k = F.heap.size) hb7).trans (Chg.of_below (S := fun k => k = F.heap.size) hb8) (fun _ _ e => e)).trans hch (fun _ _ e => e)).trans (Chg.of_below (S := fun k => k = F.heap.size) hBG) (fun _ _ e => e)
  refine ⟨HMH.out.below hBG, HXF.out.chg hFG (by omega), HcG.out, HMF.out.chg hFG ?_, HCF.out.chg hFG (by omega), hB9.trans (hBG.mono hB9.size)⟩
  by_cases hms : ms = []
  ·exact .inl hms
  ·refine .inr fun j hj e => ?_
   rcases sees_ltE HXM.out hj with e2 | e2
   ·exact absurd e2 hms
   ·omega
 have HRS : Hid (SeesR w vr rs) := hr
 obtain ⟨ra, rcap, rfl⟩ : ∃ a c, vr = .slice a rs.length c := by obtain ⟨a, c, e, _⟩ := hr; exact ⟨a, c, e⟩
 have hrl : rs.length <= 9223372036854775807 := by omega
 clear hS8 hS9 hch hub hr hb1 hcbl hcc hbb hob8 hoc9 hxob hxoc hz7 hb7 hb8 hB8 hB7 hB9 hBG HcG HMH HXF HMF HCF HXM HXC HhF hBF HS8 HSC8 HSC7
 go_loopw [14, 15] (fun u n wr => ∃ (us k : Nat) (M : Mc), u = .int .i64 us /\ n = .int .i64 k /\ us <= k /\ Safe xs ms.length known M /\ M.mode = 0 /\ Rd V wr b F.heap.size w6.heap.size w9.heap.size um9 cb ccap (.slice ma ms.length mcap) cx cxo cxcap ms xs (ea, eb) M M M.cs /\ pot xs M <= c /\ M.steps = k) (fun _ n _ => 800 - (intOf n).toNat)
 case atStart => exact ⟨0, 0, startE, rfl, rfl, Nat.le_refl _, safe_start hKn, rfl, HR0.out, HPot.out, rfl⟩
 case round =>
  obtain ⟨us, k, M, rfl, rfl, hus, hS, m0, hrd, hpot, hk⟩ := hrel
  have hpl := hS.pot_le hKn.T
  rw [if_pos m0] at hpl
  have hkI : (k : Int) < c := by omega
  have hkI2 : (k : Int) <= 1000 := by omega
  have husI : (us : Int) <= 1000 := by omega
  have HRd := keepJ hrd
  clear hrd
  obtain ⟨hsafe, hpt, hs1⟩ := safe_run (ms := ms) (ev := (ea, eb)) hKn hS m0 hev
  have hkd := step_kinds (ms := ms) (xs := xs) (ev := (ea, eb)) m0
  have hcsN := fun g => step_cs (ms := ms) (xs := xs) (ev := (ea, eb)) m0 g
  have hcsM := fun g => step_csM (ms := ms) (xs := xs) (ev := (ea, eb)) m0 g
  have hend := fun g => step_end (ms := ms) (xs := xs) (ev := (ea, eb)) m0 g
  have HX0 : Hid (∀ (cnt : Int) (cs : List Int) (wx : World), Rd V wx b F.heap.size w6.heap.size w9.heap.size um9 cb ccap (.slice ma ms.length mcap) cx cxo cxcap ms xs (ea, eb) M M cs -> ((nth xs M.pc).op = 21 -> (nth xs M.pc).imm = 5 -> cnt = upW (M.cs.getD (regV M.regs 1).toNat 0) 1) -> (0 <= cnt /\ cnt <= 18446744073709551615) -> Calls Tryz.prog 12 #[.pointer (some ⟨w6.heap.size, 0, none⟩), .int .u64 cnt] wx fun e w' => e = .returned (acV (stepE ms xs (ea, eb) M).1) /\ Rd V w' b F.heap.size w6.heap.size w9.heap.size um9 cb ccap (.slice ma ms.length mcap) cx cxo cxcap ms xs (ea, eb) M (stepE ms xs (ea, eb) M).2 cs /\ wx.heap.size <= w'.heap.size) := fun cnt cs wx hR hc0 hc1 => by
   refine (xstep_any cnt wx hR.xa hR.xm (HAp.out.m.imp id fun g e => (g.1 _ e).2.2.1 rfl) hR.xc HAp.out.c.2.2.1 hKn hS m0 hev hc0 hc1).mono ?_
   rintro e w' ⟨rfl, hcw, hx⟩
   exact ⟨rfl, hR.stepX HAp.out hcw hx, hcw.size⟩
  have HY0 : Hid (∀ (N : Mc) (cs : List Int) (wx : World), Rd V wx b F.heap.size w6.heap.size w9.heap.size um9 cb ccap (.slice ma ms.length mcap) cx cxo cxcap ms xs (ea, eb) M N cs -> Calls Tryz.prog 13 #[.pointer (some ⟨b, 0, none⟩)] wx fun e w' => e = .returned (acV (stepE ms xs (ea, eb) M).1) /\ Chg wx w' (fun k => k = b ∨ k = F.heap.size) /\ Rd V w' b F.heap.size w6.heap.size w9.heap.size um9 cb ccap (.slice ma ms.length mcap) cx cxo cxcap ms xs (ea, eb) (stepE ms xs (ea, eb) M).2 N cs) := fun N cs wx hR => by
   refine (mstep_all (ev := (ea, eb)) hKn hS hev hR.mh (by omega)).mono ?_
   rintro e w' ⟨rfl, hcw, hm⟩
   exact ⟨rfl, hcw, hR.stepY HAp.out hcw hm⟩
  obtain ⟨⟨⟨ak, apc, am, ao, aq, av, an⟩, M1⟩, HR⟩ : ∃ R, Hid (stepE ms xs (ea, eb) M = R) := ⟨_, rfl⟩
  rw [HR.out] at hkd hsafe hpt hs1 hcsN hcsM hend HX0 HY0
  simp only at hkd hsafe hpt hs1 hcsN hcsM hend
  clear HR
  by_cases hmk : (nth xs M.pc).op = 21 /\ (nth xs M.pc).imm = 5
  ·have hx1 := (qBu (hKn.T.right hS.pc) (hKn.made hS.pc hS.kn) hS.wr hS.hold (hKn.asks hS.pc hS.kn) hmk.1).2 hmk.2
   obtain ⟨g, hg⟩ := Int.eq_ofNat_of_zero_le hx1.1
   have hg16 : g < 16 := by omega
   have hgI : (g : Int) < 16 := by omega
   have hgI2 : (g : Int) <= 15 := by omega
   obtain ⟨hc1, hak⟩ := hcsM hmk
   rw [show (regV M.regs 1).toNat = g by omega] at hc1
   obtain ⟨v0, Hv0⟩ : ∃ v, Hid (M.cs.getD g 0 = v) := ⟨_, rfl⟩
   rw [Hv0.out] at hc1
   obtain ⟨u, Hu⟩ : ∃ u, Hid (upW v0 1 = u) := ⟨_, rfl⟩
   rw [Hu.out] at hc1
   have hu : 0 <= u /\ u <= 18446744073709551615 := by rw [<- Hu.out]; exact upW_in v0 1
   have hwu : IntKind.u64.wrap (v0 + 1) = u := by rw [<- Hu.out, IntKind.wrap_u64]; rfl
   have HCS : Hid (M1.cs = M.cs.set g u) := hc1
   have Hcu : Hid (u = upW (M.cs.getD (regV M.regs 1).toNat 0) 1) := by show _ = _; rw [show (regV M.regs 1).toNat = g by omega, Hv0.out, Hu.out]
   have HGv : Hid (M.regs.getD 1 0 = g) := hg
   have HMk : Hid (true = decide ((nth xs M.pc).op = 21 /\ (nth xs M.pc).imm = 5)) := by show _ = _; rw [decide_eq_true hmk]
   have hm1 : M1.mode = 0 := by rcases hkd with e | e | e <;> omega
   have k4 : (ak == 4) = false := by simp; omega
   have k2 : (ak == 2) = false := by simp; omega
   have hlcs : M.cs.length = 16 := hS.cs.1
   have Hl16 := keepJ hlcs
   clear hcsM hcsN hkd hmk hx1 hc1 hak hg hlcs
   go_wp2_with (first
    | (go_at_call 11; go_must (refine (xmarks_any wr HRd.out.xa HRd.out.xc hS.pc HMk).mono ?_); rintro e wa ⟨rfl, hba⟩; go_must (have HRa := keepJ (HRd.out.below hba); have z1 := HRa.out.xa.reg (k := 1) (by omega); rw [HGv.out] at z1; have y1 : wa.cell? ⟨w9.heap.size, g, none⟩ = some (.int .u64 v0) := (by have g1 := HRa.out.ct.cell (nums_get (R := M.cs) (r := g) (by rw [Hl16.out]; exact hg16)); rw [Hv0.out] at g1; exact g1); have f1 := HRa.out.ct.frozen g; obtain ⟨Wm, HWm, HRm⟩ : ∃ Wm, Hid (wa.setCell ⟨w9.heap.size, g, none⟩ (.int .u64 u) = Wm) /\ Hid (Rd V Wm b F.heap.size w6.heap.size w9.heap.size um9 cb ccap (.slice ma ms.length mcap) cx cxo cxcap ms xs (ea, eb) M M (M.cs.set g u)) := ⟨_, rfl, HRa.out.count HAp.out g u⟩; have z2 := HRm.out.xa.reg (k := 1) (by omega); rw [HGv.out] at z2; have y2 : Wm.cell? ⟨w9.heap.size, g, none⟩ = some (.int .u64 u) := (by rw [<- HWm.out]; exact World.cell?_setCell_same _ _ _ y1)))
    | rw [HWm.out]
    | (go_at_call 12; go_must (refine (HX0.out u (M.cs.set g u) Wm HRm.out (fun _ _ => Hcu.out) hu).mono ?_); rintro e wb ⟨rfl, hRb, hzb⟩; go_must (have hbw := hRb.mh.ma.hp.lt; have hsw := hRb.mh.sc.lt; obtain ⟨Y, HY, HaY, hbY⟩ : ∃ Y, Hid (wb.alloc (.cells #[.int .i64 ak, .int .i64 apc, .int .i64 am, .int .i64 ao, .int .u64 aq, .int .u64 av, .int .u64 an] 57) = Y) /\ Hid (Hp Y wb.heap.size 57 (actC ak apc am ao aq av an)) /\ Below wb.heap.size wb Y := ⟨_, rfl, Hp.new wb _ _, (Below.refl _ _).alloc (Nat.le_refl _) _⟩; have HRY := keepJ (hRb.below hbY); clear hRb))
    | rw [HY.out]
    | (go_at_call 13; go_must (refine (HY0.out M1 (M.cs.set g u) Y HRY.out).mono ?_); rintro e wc ⟨rfl, hcc, hRc⟩; go_must (have HaC := keepJ (HaY.out.chg hcc (fun e => by rcases e with e | e <;> omega)); obtain ⟨Y2, HY2, HaY2, hbY2⟩ : ∃ Y, Hid (wc.alloc (.cells #[.int .i64 ak, .int .i64 apc, .int .i64 am, .int .i64 ao, .int .u64 aq, .int .u64 av, .int .u64 an] 57) = Y) /\ Hid (Hp Y wc.heap.size 57 (actC ak apc am ao aq av an)) /\ Below wc.heap.size wc Y := ⟨_, rfl, Hp.new wc _ _, (Below.refl _ _).alloc (Nat.le_refl _) _⟩; have HRZ := keepJ (hRc.below hbY2); have HaD := keepJ (HaC.out.below hbY2 HaC.out.lt); obtain ⟨a0, a1, a2, a3, a4, a5, a6, _⟩ := act7 HaD.out; obtain ⟨d0, d1, d2, d3, d4, d5, d6, _⟩ := act7 HaY2.out; have x93 := HRZ.out.xa.at.2; clear hRc hcc))
    | rw [HY2.out])
   go_roundw
   case rel => exact ⟨us, k + 1, M1, rfl, by go_num, by omega, hsafe, hm1, by rw [HCS.out]; exact HRZ.out, by omega, by omega⟩
   case measure => simp [intOf]; omega
  ·have hnm := hmk
   have HMk : Hid (false = decide ((nth xs M.pc).op = 21 /\ (nth xs M.pc).imm = 5)) := by show _ = _; rw [decide_eq_false hmk]
   have HCS : Hid (M1.cs = M.cs) := hcsN hmk
   clear hcsN hcsM hmk
   rcases hkd with ⟨hk4, hm1⟩ | ⟨hk2, hm1⟩ | ⟨hk1, hm1⟩
   ·have k4 : (ak == 4) = true := by simp [hk4]
    have HN : Hid (regV M1.regs (nth xs M1.pc).a = an) := hend hk4
    have c22 : (nth xs M1.pc).op = 22 := by
     rcases hsafe.mode with g | g | g
     ·omega
     ·omega
     ·exact g.2
    have har := qBi (hKn.T.right hsafe.pc) (.inr (.inr (.inr c22)))
    have hsI : (M1.steps : Int) = k + 1 := by omega
    clear hk4 hend c22 hs1 hk hpl
    go_wp2_with (first
     | (go_at_call 11; go_must (refine (xmarks_any wr HRd.out.xa HRd.out.xc hS.pc HMk).mono ?_); rintro e wa ⟨rfl, hba⟩; go_must (have HRa := keepJ (HRd.out.below hba); skip))
     | (go_at_call 12; go_must (refine (HX0.out 0 M.cs wa HRa.out (fun h1 h2 => absurd ⟨h1, h2⟩ hnm) (by decide)).mono ?_); rintro e wb ⟨rfl, hRb, hzb⟩; go_must (have hbw := hRb.mh.ma.hp.lt; have hsw := hRb.mh.sc.lt; obtain ⟨Y, HY, HaY, hbY⟩ : ∃ Y, Hid (wb.alloc (.cells #[.int .i64 ak, .int .i64 apc, .int .i64 am, .int .i64 ao, .int .u64 aq, .int .u64 av, .int .u64 an] 57) = Y) /\ Hid (Hp Y wb.heap.size 57 (actC ak apc am ao aq av an)) /\ Below wb.heap.size wb Y := ⟨_, rfl, Hp.new wb _ _, (Below.refl _ _).alloc (Nat.le_refl _) _⟩; have HRY := keepJ (hRb.below hbY); clear hRb))
     | rw [HY.out]
     | (go_at_call 13; go_must (refine (HY0.out M1 M.cs Y HRY.out).mono ?_); rintro e wc ⟨rfl, hcc, hRc⟩; go_must (have HaC := keepJ (HaY.out.chg hcc (fun e => by rcases e with e | e <;> omega)); obtain ⟨Y2, HY2, HaY2, hbY2⟩ : ∃ Y, Hid (wc.alloc (.cells #[.int .i64 ak, .int .i64 apc, .int .i64 am, .int .i64 ao, .int .u64 aq, .int .u64 av, .int .u64 an] 57) = Y) /\ Hid (Hp Y wc.heap.size 57 (actC ak apc am ao aq av an)) /\ Below wc.heap.size wc Y := ⟨_, rfl, Hp.new wc _ _, (Below.refl _ _).alloc (Nat.le_refl _) _⟩; have HRZ := keepJ (hRc.below hbY2); have HaD := keepJ (HaC.out.below hbY2 HaC.out.lt); obtain ⟨a0, a1, a2, a3, a4, a5, a6, _⟩ := act7 HaD.out; obtain ⟨d0, d1, d2, d3, d4, d5, d6, _⟩ := act7 HaY2.out; have x93 := HRZ.out.xa.at.2; clear hRc hcc))
     | rw [HY2.out]
     | (go_at_call 14; go_must (refine (mover_yes Y2 HRZ.out.mh.ma hm1 HRZ.out.mh.code hsafe.pc har HN).mono ?_); rintro e wd ⟨rfl, hbd⟩; go_must (have HRD := keepJ (HRZ.out.below hbd); have HaE := keepJ (HaD.out.below hbd HaD.out.lt); clear a0 a1 a2 a3 a4 a5 a6; obtain ⟨a0, a1, a2, a3, a4, a5, a6, _⟩ := act7 HaE.out; skip))
     | (go_at_call 15; go_must (refine (msteps_any wd HRD.out.mh.ma).mono ?_); rintro e we ⟨rfl, rfl⟩))
    go_ret
    exact ⟨rfl, hBV.trans (HRD.out.bl.mono hBV.size)⟩
   ·have k4 : (ak == 4) = false := by simp; omega
    have k2 : (ak == 2) = true := by simp [hk2]
    have HK2 := keepJ hk2
    clear hk2
    have hw1 : IntKind.u64.wrap (k : Int) = k := by rw [IntKind.wrap_u64]; omega
    have hw2 : IntKind.u64.wrap ((k : Int) * 3) = (k : Int) * 3 := by rw [IntKind.wrap_u64]; omega
    by_cases hu : us < rs.length
    ·have huI : (us : Int) < rs.length := by omega
     obtain ⟨rb, roff, hrb, hrlt, hat⟩ : ∃ b off, ra = some ⟨b, off, none⟩ /\ b < w.heap.size /\ AtR w b (off + us * 6) (rs.getD us Rs.nil) := by
      obtain ⟨a1, c1, e, _, _, _, _, g⟩ := HRS.out
      injection e with e1 e2 e3
      subst e1
      obtain ⟨b, off, rfl, hlt, hat⟩ := g (fun e => by rw [e] at hu; simp at hu)
      exact ⟨b, off, rfl, hlt, hat us hu⟩
     have hrwf : (rs.getD us Rs.nil).wf := by
      obtain ⟨a1, c1, e, _, _, _, hw, _⟩ := HRS.out
      refine hw _ ?_
      rw [List.getD_eq_getElem?_getD, List.getElem?_eq_getElem hu]
      exact List.getElem_mem _
     have hrc : rs.length <= rcap /\ rcap <= 9223372036854775807 := by
      obtain ⟨a1, c1, e, g1, g2, _⟩ := HRS.out
      injection e with e1 e2 e3
      subst e3
      unfold maxLen at g2
      exact ⟨g1, by omega⟩
     subst hrb
     obtain ⟨hrc1, hrc2⟩ := hrc
     obtain ⟨⟨rE, rf, rv, ro, rk, ru⟩, HRr⟩ : ∃ r, Hid (rs.getD us Rs.nil = r) := ⟨_, rfl⟩
     rw [HRr.out] at hat hrwf
     have hrv : 0 <= rv /\ rv <= 18446744073709551615 := hrwf
     obtain ⟨t0, t1, t2, t3, t4, t5⟩ := hat
     simp only at t0 t1 t2 t3 t4 t5
     have T0 := keepJ t0
     have T1 := keepJ t1
     have T2 := keepJ t2
     have T3 := keepJ t3
     have T4 := keepJ t4
     have T5 := keepJ t5
     clear t0 t1 t2 t3 t4 t5 hrwf
     have HBk : Hid (∀ (E : Int) (f : Bool) (v : Int) (o : Bool) (kk uu : Int) (wx : World), (0 <= v /\ v <= 18446744073709551615) -> Rd V wx b F.heap.size w6.heap.size w9.heap.size um9 cb ccap (.slice ma ms.length mcap) cx cxo cxcap ms xs (ea, eb) M1 M1 M.cs -> Calls Tryz.prog 16 #[.pointer (some ⟨w6.heap.size, 0, none⟩), .agg #[.int .i64 E, .bool f, .int .u64 v, .bool o, .int .u64 kk, .int .u64 uu]] wx fun e w' => e = .returned (.tuple #[]) /\ Chg wx w' (fun j => j = w6.heap.size) /\ Rd V w' b F.heap.size w6.heap.size w9.heap.size um9 cb ccap (.slice ma ms.length mcap) cx cxo cxcap ms xs (ea, eb) M1 (answerE xs M1 E f v) M.cs) := fun E f v o kk uu wx hv hR => by
      have hsa := safe_answer (E := E) (f := f) (v := v) hKn hsafe hm1 hv
      refine (xback_any E f v o kk uu hv wx hR.xa hR.xc hsafe.pc (Nat.lt_of_lt_of_le hsa.1.pc hKn.T.top) HAp.out.c.2.2.1 rfl).mono ?_
      rintro e w' ⟨rfl, hcw, hx⟩
      exact ⟨rfl, hcw, hR.stepX HAp.out hcw (hx.same rfl rfl rfl rfl)⟩
     have HAn : Hid (∀ (E : Int) (f : Bool) (v : Int) (o : Bool) (kk uu : Int) (N : Mc) (wx : World), (0 <= v /\ v <= 18446744073709551615) -> Rd V wx b F.heap.size w6.heap.size w9.heap.size um9 cb ccap (.slice ma ms.length mcap) cx cxo cxcap ms xs (ea, eb) M1 N M.cs -> Calls Tryz.prog 17 #[.pointer (some ⟨b, 0, none⟩), .agg #[.int .i64 E, .bool f, .int .u64 v, .bool o, .int .u64 kk, .int .u64 uu]] wx fun e w' => e = .returned (.int .i64 0) /\ Rd V w' b F.heap.size w6.heap.size w9.heap.size um9 cb ccap (.slice ma ms.length mcap) cx cxo cxcap ms xs (ea, eb) (answerE xs M1 E f v) N M.cs) := fun E f v o kk uu N wx hv hR => by
      refine (manswer_all hKn hsafe hR.mh hm1 E f v o kk uu hv).mono ?_
      rintro e w' ⟨rfl, hcw, hm⟩
      exact ⟨rfl, hR.stepY HAp.out hcw hm⟩
     go_wp2_with (first
      | (go_at_call 11; go_must (refine (xmarks_any wr HRd.out.xa HRd.out.xc hS.pc HMk).mono ?_); rintro e wa ⟨rfl, hba⟩; go_must (have HRa := keepJ (HRd.out.below hba); skip))
      | (go_at_call 12; go_must (refine (HX0.out 0 M.cs wa HRa.out (fun h1 h2 => absurd ⟨h1, h2⟩ hnm) (by decide)).mono ?_); rintro e wb ⟨rfl, hRb, hzb⟩; go_must (have hbw := hRb.mh.ma.hp.lt; have hsw := hRb.mh.sc.lt; obtain ⟨Y, HY, HaY, hbY⟩ : ∃ Y, Hid (wb.alloc (.cells #[.int .i64 ak, .int .i64 apc, .int .i64 am, .int .i64 ao, .int .u64 aq, .int .u64 av, .int .u64 an] 57) = Y) /\ Hid (Hp Y wb.heap.size 57 (actC ak apc am ao aq av an)) /\ Below wb.heap.size wb Y := ⟨_, rfl, Hp.new wb _ _, (Below.refl _ _).alloc (Nat.le_refl _) _⟩; have HRY := keepJ (hRb.below hbY); clear hRb))
      | rw [HY.out]
      | (go_at_call 13; go_must (refine (HY0.out M1 M.cs Y HRY.out).mono ?_); rintro e wc ⟨rfl, hcc, hRc⟩; go_must (have HaC := keepJ (HaY.out.chg hcc (fun e => by rcases e with e | e <;> omega)); obtain ⟨Y2, HY2, HaY2, hbY2⟩ : ∃ Y, Hid (wc.alloc (.cells #[.int .i64 ak, .int .i64 apc, .int .i64 am, .int .i64 ao, .int .u64 aq, .int .u64 av, .int .u64 an] 57) = Y) /\ Hid (Hp Y wc.heap.size 57 (actC ak apc am ao aq av an)) /\ Below wc.heap.size wc Y := ⟨_, rfl, Hp.new wc _ _, (Below.refl _ _).alloc (Nat.le_refl _) _⟩; have HRZ := keepJ (hRc.below hbY2); have HaD := keepJ (HaC.out.below hbY2 HaC.out.lt); obtain ⟨a0, a1, a2, a3, a4, a5, a6, _⟩ := act7 HaD.out; obtain ⟨d0, d1, d2, d3, d4, d5, d6, _⟩ := act7 HaY2.out; have x93 := HRZ.out.xa.at.2; obtain ⟨X, HX, HrX, hbX⟩ : ∃ X, Hid (Y2.alloc (.cells #[.int .i64 0, .bool ((k : Int) % 2 == 0), .int .u64 ((k : Int) * 3), .bool false, .int .u64 0, .int .u64 0] 64) = X) /\ Hid (Hp X Y2.heap.size 64 [.int .i64 0, .bool ((k : Int) % 2 == 0), .int .u64 ((k : Int) * 3), .bool false, .int .u64 0, .int .u64 0]) /\ Below Y2.heap.size Y2 X := ⟨_, rfl, Hp.new Y2 _ _, (Below.refl _ _).alloc (Nat.le_refl _) _⟩; have HRX := keepJ (HRZ.out.below hbX); have xq4 := (HQC.out X HRX.out.bl).2.2.2.2; have hxY : w6.heap.size < Y2.heap.size := HRZ.out.xa.hp.lt; (have o0 := HrX.out.cell (j := 0) rfl); (have p0 := HrX.out.frozen 0); (have o1 := HrX.out.cell (j := 1) rfl); (have p1 := HrX.out.frozen 1); (have o2 := HrX.out.cell (j := 2) rfl); (have p2 := HrX.out.frozen 2); (have o3 := HrX.out.cell (j := 3) rfl); (have p3 := HrX.out.frozen 3); (have o4 := HrX.out.cell (j := 4) rfl); (have p4 := HrX.out.frozen 4); (have o5 := HrX.out.cell (j := 5) rfl); (have p5 := HrX.out.frozen 5); obtain ⟨X2, HX2, HrX2, hbX2⟩ : ∃ X2, Hid (((((((X.setCell ⟨Y2.heap.size, 0, none⟩ (.int .i64 rE)).setCell ⟨Y2.heap.size, 1, none⟩ (.bool rf)).setCell ⟨Y2.heap.size, 2, none⟩ (.int .u64 rv)).setCell ⟨Y2.heap.size, 3, none⟩ (.bool ro)).setCell ⟨Y2.heap.size, 4, none⟩ (.int .u64 rk)).setCell ⟨Y2.heap.size, 5, none⟩ (.int .u64 ru)) = X2) /\ Hid (Hp X2 Y2.heap.size 64 [.int .i64 rE, .bool rf, .int .u64 rv, .bool ro, .int .u64 rk, .int .u64 ru]) /\ Below Y2.heap.size Y2 X2 := ⟨_, rfl, HrX.out.sets [.int .i64 rE, .bool rf, .int .u64 rv, .bool ro, .int .u64 rk, .int .u64 ru] 0, hbX.trans (qAc (qAa Y2.heap.size [.int .i64 rE, .bool rf, .int .u64 rv, .bool ro, .int .u64 rk, .int .u64 ru] X 0) (Nat.le_refl _) hbX.size)⟩; have HRX2 := keepJ (HRZ.out.below hbX2); have hwX := hBV.trans (HRX.out.bl.mono hBV.size); (have s0 := (hwX.cell (p := ⟨rb, roff + us * 6, none⟩) hrlt).trans T0.out); (have s1 := (hwX.cell (p := ⟨rb, roff + us * 6 + 1, none⟩) hrlt).trans T1.out); (have s2 := (hwX.cell (p := ⟨rb, roff + us * 6 + 2, none⟩) hrlt).trans T2.out); (have s3 := (hwX.cell (p := ⟨rb, roff + us * 6 + 3, none⟩) hrlt).trans T3.out); (have s4 := (hwX.cell (p := ⟨rb, roff + us * 6 + 4, none⟩) hrlt).trans T4.out); (have s5 := (hwX.cell (p := ⟨rb, roff + us * 6 + 5, none⟩) hrlt).trans T5.out); (have g0 := HrX2.out.cell (j := 0) rfl); (have g1 := HrX2.out.cell (j := 1) rfl); (have g2 := HrX2.out.cell (j := 2) rfl); (have g3 := HrX2.out.cell (j := 3) rfl); (have g4 := HrX2.out.cell (j := 4) rfl); (have g5 := HrX2.out.cell (j := 5) rfl); clear hRc hcc))
      | rw [HY2.out]
      | rw [HX.out]
      | rw [HX2.out]
      | (go_at_call 16; go_must (refine (HBk.out rE rf rv ro rk ru X2 (by omega) HRX2.out).mono ?_); rintro e wd ⟨rfl, hcd, hRd⟩; go_must (have HRD := keepJ hRd; have HrD := keepJ (HrX2.out.chg hcd (fun e => by omega)); clear hRd; (have g0 := HrD.out.cell (j := 0) rfl); (have h0 := HrD.out.frozen 0); (have g1 := HrD.out.cell (j := 1) rfl); (have h1 := HrD.out.frozen 1); (have g2 := HrD.out.cell (j := 2) rfl); (have h2 := HrD.out.frozen 2); (have g3 := HrD.out.cell (j := 3) rfl); (have h3 := HrD.out.frozen 3); (have g4 := HrD.out.cell (j := 4) rfl); (have h4 := HrD.out.frozen 4); (have g5 := HrD.out.cell (j := 5) rfl); (have h5 := HrD.out.frozen 5); skip))
      | (go_at_call 17; go_must (refine (HAn.out rE rf rv ro rk ru (answerE xs M1 rE rf rv) wd (by omega) HRD.out).mono ?_); rintro e we ⟨rfl, hRe⟩))
     go_roundw
     case rel =>
      have hsa := safe_answer (E := rE) (f := rf) (v := rv) hKn hsafe hm1 (by omega)
      exact ⟨us + 1, k + 1, answerE xs M1 rE rf rv, by go_num, by go_num, by omega, hsa.1, rfl, by rw [show (answerE xs M1 rE rf rv).cs = M.cs from HCS.out]; exact hRe, by have := hsa.2.1; omega, by have := hsa.2.2; omega⟩
     case measure => simp [intOf]; omega
    ·have huI : ¬ (us : Int) < rs.length := by omega
     have HBk : Hid (∀ (E : Int) (f : Bool) (v : Int) (o : Bool) (kk uu : Int) (wx : World), (0 <= v /\ v <= 18446744073709551615) -> Rd V wx b F.heap.size w6.heap.size w9.heap.size um9 cb ccap (.slice ma ms.length mcap) cx cxo cxcap ms xs (ea, eb) M1 M1 M.cs -> Calls Tryz.prog 16 #[.pointer (some ⟨w6.heap.size, 0, none⟩), .agg #[.int .i64 E, .bool f, .int .u64 v, .bool o, .int .u64 kk, .int .u64 uu]] wx fun e w' => e = .returned (.tuple #[]) /\ Chg wx w' (fun j => j = w6.heap.size) /\ Rd V w' b F.heap.size w6.heap.size w9.heap.size um9 cb ccap (.slice ma ms.length mcap) cx cxo cxcap ms xs (ea, eb) M1 (answerE xs M1 E f v) M.cs) := fun E f v o kk uu wx hv hR => by
      have hsa := safe_answer (E := E) (f := f) (v := v) hKn hsafe hm1 hv
      refine (xback_any E f v o kk uu hv wx hR.xa hR.xc hsafe.pc (Nat.lt_of_lt_of_le hsa.1.pc hKn.T.top) HAp.out.c.2.2.1 rfl).mono ?_
      rintro e w' ⟨rfl, hcw, hx⟩
      exact ⟨rfl, hcw, hR.stepX HAp.out hcw (hx.same rfl rfl rfl rfl)⟩
     have HAn : Hid (∀ (E : Int) (f : Bool) (v : Int) (o : Bool) (kk uu : Int) (N : Mc) (wx : World), (0 <= v /\ v <= 18446744073709551615) -> Rd V wx b F.heap.size w6.heap.size w9.heap.size um9 cb ccap (.slice ma ms.length mcap) cx cxo cxcap ms xs (ea, eb) M1 N M.cs -> Calls Tryz.prog 17 #[.pointer (some ⟨b, 0, none⟩), .agg #[.int .i64 E, .bool f, .int .u64 v, .bool o, .int .u64 kk, .int .u64 uu]] wx fun e w' => e = .returned (.int .i64 0) /\ Rd V w' b F.heap.size w6.heap.size w9.heap.size um9 cb ccap (.slice ma ms.length mcap) cx cxo cxcap ms xs (ea, eb) (answerE xs M1 E f v) N M.cs) := fun E f v o kk uu N wx hv hR => by
      refine (manswer_all hKn hsafe hR.mh hm1 E f v o kk uu hv).mono ?_
      rintro e w' ⟨rfl, hcw, hm⟩
      exact ⟨rfl, hR.stepY HAp.out hcw hm⟩
     go_wp2_with (first
      | (go_at_call 11; go_must (refine (xmarks_any wr HRd.out.xa HRd.out.xc hS.pc HMk).mono ?_); rintro e wa ⟨rfl, hba⟩; go_must (have HRa := keepJ (HRd.out.below hba); skip))
      | (go_at_call 12; go_must (refine (HX0.out 0 M.cs wa HRa.out (fun h1 h2 => absurd ⟨h1, h2⟩ hnm) (by decide)).mono ?_); rintro e wb ⟨rfl, hRb, hzb⟩; go_must (have hbw := hRb.mh.ma.hp.lt; have hsw := hRb.mh.sc.lt; obtain ⟨Y, HY, HaY, hbY⟩ : ∃ Y, Hid (wb.alloc (.cells #[.int .i64 ak, .int .i64 apc, .int .i64 am, .int .i64 ao, .int .u64 aq, .int .u64 av, .int .u64 an] 57) = Y) /\ Hid (Hp Y wb.heap.size 57 (actC ak apc am ao aq av an)) /\ Below wb.heap.size wb Y := ⟨_, rfl, Hp.new wb _ _, (Below.refl _ _).alloc (Nat.le_refl _) _⟩; have HRY := keepJ (hRb.below hbY); clear hRb))
      | rw [HY.out]
      | (go_at_call 13; go_must (refine (HY0.out M1 M.cs Y HRY.out).mono ?_); rintro e wc ⟨rfl, hcc, hRc⟩; go_must (have HaC := keepJ (HaY.out.chg hcc (fun e => by rcases e with e | e <;> omega)); obtain ⟨Y2, HY2, HaY2, hbY2⟩ : ∃ Y, Hid (wc.alloc (.cells #[.int .i64 ak, .int .i64 apc, .int .i64 am, .int .i64 ao, .int .u64 aq, .int .u64 av, .int .u64 an] 57) = Y) /\ Hid (Hp Y wc.heap.size 57 (actC ak apc am ao aq av an)) /\ Below wc.heap.size wc Y := ⟨_, rfl, Hp.new wc _ _, (Below.refl _ _).alloc (Nat.le_refl _) _⟩; have HRZ := keepJ (hRc.below hbY2); have HaD := keepJ (HaC.out.below hbY2 HaC.out.lt); obtain ⟨a0, a1, a2, a3, a4, a5, a6, _⟩ := act7 HaD.out; obtain ⟨d0, d1, d2, d3, d4, d5, d6, _⟩ := act7 HaY2.out; have x93 := HRZ.out.xa.at.2; obtain ⟨X, HX, HrX, hbX⟩ : ∃ X, Hid (Y2.alloc (.cells #[.int .i64 0, .bool ((k : Int) % 2 == 0), .int .u64 ((k : Int) * 3), .bool false, .int .u64 0, .int .u64 0] 64) = X) /\ Hid (Hp X Y2.heap.size 64 [.int .i64 0, .bool ((k : Int) % 2 == 0), .int .u64 ((k : Int) * 3), .bool false, .int .u64 0, .int .u64 0]) /\ Below Y2.heap.size Y2 X := ⟨_, rfl, Hp.new Y2 _ _, (Below.refl _ _).alloc (Nat.le_refl _) _⟩; have HRX := keepJ (HRZ.out.below hbX); have xq4 := (HQC.out X HRX.out.bl).2.2.2.2; have hxY : w6.heap.size < Y2.heap.size := HRZ.out.xa.hp.lt; (have o0 := HrX.out.cell (j := 0) rfl); (have p0 := HrX.out.frozen 0); (have o1 := HrX.out.cell (j := 1) rfl); (have p1 := HrX.out.frozen 1); (have o2 := HrX.out.cell (j := 2) rfl); (have p2 := HrX.out.frozen 2); (have o3 := HrX.out.cell (j := 3) rfl); (have p3 := HrX.out.frozen 3); (have o4 := HrX.out.cell (j := 4) rfl); (have p4 := HrX.out.frozen 4); (have o5 := HrX.out.cell (j := 5) rfl); (have p5 := HrX.out.frozen 5); clear hRc hcc))
      | rw [HY2.out]
      | rw [HX.out]
      | (go_at_call 16; go_must (refine (HBk.out 0 ((k : Int) % 2 == 0) ((k : Int) * 3) false 0 0 X (by omega) HRX.out).mono ?_); rintro e wd ⟨rfl, hcd, hRd⟩; go_must (have HRD := keepJ hRd; have HrD := keepJ (HrX.out.chg hcd (fun e => by omega)); clear hRd; (have g0 := HrD.out.cell (j := 0) rfl); (have h0 := HrD.out.frozen 0); (have g1 := HrD.out.cell (j := 1) rfl); (have h1 := HrD.out.frozen 1); (have g2 := HrD.out.cell (j := 2) rfl); (have h2 := HrD.out.frozen 2); (have g3 := HrD.out.cell (j := 3) rfl); (have h3 := HrD.out.frozen 3); (have g4 := HrD.out.cell (j := 4) rfl); (have h4 := HrD.out.frozen 4); (have g5 := HrD.out.cell (j := 5) rfl); (have h5 := HrD.out.frozen 5); skip))
      | (go_at_call 17; go_must (refine (HAn.out 0 ((k : Int) % 2 == 0) ((k : Int) * 3) false 0 0 (answerE xs M1 0 ((k : Int) % 2 == 0) ((k : Int) * 3)) wd (by omega) HRD.out).mono ?_); rintro e we ⟨rfl, hRe⟩))
     go_roundw
     case rel =>
      have hsa := safe_answer (E := 0) (f := ((k : Int) % 2 == 0)) (v := ((k : Int) * 3)) hKn hsafe hm1 (by omega)
      exact ⟨us + 1, k + 1, answerE xs M1 0 ((k : Int) % 2 == 0) ((k : Int) * 3), by go_num, by go_num, by omega, hsa.1, rfl, by rw [show (answerE xs M1 0 ((k : Int) % 2 == 0) ((k : Int) * 3)).cs = M.cs from HCS.out]; exact hRe, by have := hsa.2.1; omega, by have := hsa.2.2; omega⟩
     case measure => simp [intOf]; omega
   ·have k4 : (ak == 4) = false := by simp; omega
    have k2 : (ak == 2) = false := by simp; omega
    clear hk1
    go_wp2_with (first
     | (go_at_call 11; go_must (refine (xmarks_any wr HRd.out.xa HRd.out.xc hS.pc HMk).mono ?_); rintro e wa ⟨rfl, hba⟩; go_must (have HRa := keepJ (HRd.out.below hba); skip))
     | (go_at_call 12; go_must (refine (HX0.out 0 M.cs wa HRa.out (fun h1 h2 => absurd ⟨h1, h2⟩ hnm) (by decide)).mono ?_); rintro e wb ⟨rfl, hRb, hzb⟩; go_must (have hbw := hRb.mh.ma.hp.lt; have hsw := hRb.mh.sc.lt; obtain ⟨Y, HY, HaY, hbY⟩ : ∃ Y, Hid (wb.alloc (.cells #[.int .i64 ak, .int .i64 apc, .int .i64 am, .int .i64 ao, .int .u64 aq, .int .u64 av, .int .u64 an] 57) = Y) /\ Hid (Hp Y wb.heap.size 57 (actC ak apc am ao aq av an)) /\ Below wb.heap.size wb Y := ⟨_, rfl, Hp.new wb _ _, (Below.refl _ _).alloc (Nat.le_refl _) _⟩; have HRY := keepJ (hRb.below hbY); clear hRb))
     | rw [HY.out]
     | (go_at_call 13; go_must (refine (HY0.out M1 M.cs Y HRY.out).mono ?_); rintro e wc ⟨rfl, hcc, hRc⟩; go_must (have HaC := keepJ (HaY.out.chg hcc (fun e => by rcases e with e | e <;> omega)); obtain ⟨Y2, HY2, HaY2, hbY2⟩ : ∃ Y, Hid (wc.alloc (.cells #[.int .i64 ak, .int .i64 apc, .int .i64 am, .int .i64 ao, .int .u64 aq, .int .u64 av, .int .u64 an] 57) = Y) /\ Hid (Hp Y wc.heap.size 57 (actC ak apc am ao aq av an)) /\ Below wc.heap.size wc Y := ⟨_, rfl, Hp.new wc _ _, (Below.refl _ _).alloc (Nat.le_refl _) _⟩; have HRZ := keepJ (hRc.below hbY2); have HaD := keepJ (HaC.out.below hbY2 HaC.out.lt); obtain ⟨a0, a1, a2, a3, a4, a5, a6, _⟩ := act7 HaD.out; obtain ⟨d0, d1, d2, d3, d4, d5, d6, _⟩ := act7 HaY2.out; have x93 := HRZ.out.xa.at.2; clear hRc hcc))
     | rw [HY2.out])
    go_roundw
    case rel => exact ⟨us, k + 1, M1, rfl, by go_num, by omega, hsafe, hm1, by rw [HCS.out]; exact HRZ.out, by omega, by omega⟩
    case measure => simp [intOf]; omega
theorem whole_any (vm vc : Value) (ms : List Int) (xs : List In) (ea eb : Int) (vr : Value) (rs : List Rs) (w : World) (h : SeesM w vm vc ms xs) (hr : SeesR w vr rs) (hev : (0 <= ea /\ ea <= 18446744073709551615) /\ 0 <= eb /\ eb <= 18446744073709551615) (z : ms.length * 8 <= 140737488351232 /\ xs.length * 40 <= 140737488355328 /\ rs.length * 48 <= 140737488355328) :
  Calls Tryz.prog 3 #[.agg #[vm, vc, .int .u64 ea, .int .u64 eb, vr]] w fun e w' => e = .returned (.bool true) /\ Below w.heap.size w w' := by
 cases hi : inqR ms xs with
 | error e => exact whole_bad vm vc ms xs ea eb vr rs w h hr hev z (P := e.1) (E := e.2) hi
 | ok K => exact whole_ok vm vc ms xs ea eb vr rs w h hr hev z hi
end Go.Proofs.YtbaeakbnoijkcaaGreat
