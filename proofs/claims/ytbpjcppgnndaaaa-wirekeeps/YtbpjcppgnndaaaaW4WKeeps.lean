/-
  WireKeeps, walked: true. Conditions: the bytes read as bytes, and are no more than an argument may be.
-/
import Derived.Test.YtbpjcppgnndaaaaW4Kp
namespace Go.Proofs.Ytbpjcppgnndaaaa
open Go.RowKit
set_option linter.unusedVariables false
set_option maxRecDepth 100000

set_option maxHeartbeats 12800000 in
theorem wkeeps_law (vb : Value) (bs : List Int) (w : World) (h : Sees .u8 w vb bs) (zb : bs.length ≤ 140737488351232) :
    Calls Try.prog 7 #[vb] w fun e w' => e = .returned (.bool true) ∧ Below w.heap.size w w' := by
  obtain ⟨i5, hi5, hz50, hz51, hz52⟩ := info_parts Try.info5
  obtain ⟨i0, hi, hz0, hz1, hz2⟩ := info_parts Try.infoInt
  obtain ⟨j0, hj, hy0, hy1, hy2⟩ := info_parts Try.infoInst4
  have HBY := keepH h.bytes
  have HSB : Hid (∀ wk, Below w.heap.size w wk → Sees .u8 wk vb bs) := fun wk hk => h.below hk (Nat.le_refl _)
  obtain ⟨ab, kb, hvb⟩ := h.shape
  subst hvb
  obtain ⟨ms, is, q, e, hdl, hmb, hiw, hm4, hi64⟩ := dec_wf2 (ys := bs) h.bytes
  have HDL := keepH hdl
  have HMB := keepH hmb
  have HIW := keepH hiw
  have HZ : Hid (bs.length ≤ 140737488351232) := zb
  obtain ⟨L, HL⟩ : ∃ L, Hid (L = bs.length) := ⟨_, rfl⟩
  have HSH : Hid (∀ wk, Below w.heap.size w wk → Sees .u8 wk (.slice ab L kb) bs) := fun wk hk => by rw [HL.out]; exact HSB.out wk hk
  rw [← HL.out]
  have hL : L ≤ 140737488351232 := by rw [HL.out]; exact zb
  have hplus : ¬ 9223372036854775807 < (strI bs).size + 3 := by rw [strI_size, ← HL.out]; omega
  have HWB : Hid (∀ x ∈ bs, (Lit.int .u8 x).wf = true) := h.wf
  have HW3 : Hid (∀ x ∈ bs ++ [71, 72, 73], (Lit.int .u8 x).wf = true) := by
    intro x hx
    rcases List.mem_append.1 hx with hx | hx
    · exact HWB.out x hx
    · simp at hx; rcases hx with rfl | rfl | rfl <;> rfl
  have HL3 : Hid ((bs ++ [71, 72, 73]).length = L + 3) := by rw [HL.out]; show _ = _; simp
  clear h hdl hmb hiw zb HSB
  go_enter Try.func7, Try.ntmps7
  go_wp2_with (first
    | (go_at_call 9; go_must (refine (awake_any _).mono ?_); rintro e w1 ⟨rfl, hb1⟩; go_must (have hs1 := hb1.size; have HOE := keepH (own_lit w1 w.heap.size 5 [] w1.heap.size rfl hs1 (by simp [maxLen]))))
    | (at_builtin; have hq := HOE; clear hq; go_must (refine wpList_append_sees rfl (.tmp 25) (.tmp 26) 28 rfl w.heap.size 5 i5 (.int .u8 0) 1 Try.underlying28 hi5 hz50 hz51 hz52 rfl .u8 _ [] rfl HOE.out _ bs rfl ((HSH.out _ hb1).alloc _) (by have := HZ.out; unfold maxLen; simp; omega) (by have := HZ.out; simp; omega) (by simp; omega) ?_); intro v2 w2 ho2 hg2; go_must (have hB2 := (hb1.alloc hs1 _).grown hg2 (by simp; omega) (fun k hk => (HOE.out.lt k hk).1); have HO2 : Hid (w2.ownsRow w.heap.size 5 1 v2 bs.length (bs.map (Value.int .u8))) := ho2; have hs2 := hB2.size; clear ho2 hg2 hb1 HOE hs1))
    | (at_builtin; have hq := HO2; clear hq; go_must (refine wpList_append_sees rfl (.tmp 27) (.tmp 28) 28 rfl w.heap.size 5 i5 (.int .u8 0) 1 Try.underlying28 hi5 hz50 hz51 hz52 rfl .u8 _ bs rfl (HO2.out.alloc _) _ [71, 72, 73] rfl (Sees.lit w2 .u8 _ [71, 72, 73] _ 3 rfl rfl (by simp) (by decide)) (by have := HZ.out; unfold maxLen; simp; omega) (by have := HZ.out; simp; omega) (by simp; omega) ?_); intro v3 w3 ho3 hg3; go_must (have hB3 := (hB2.alloc hs2 _).grown hg3 (by simp; omega) (fun k hk => (HO2.out.lt k hk).1); have hs3 := hB3.size; rw [HL3.out] at ho3; obtain ⟨g, cap, rfl, hg0, hg1, hgc, hgm, _⟩ := own_open ho3 (by omega); have HA3 := keepH ho3; have HV3 : Hid (Sees .u8 w3 (.slice (some ⟨g, 0, none⟩) L cap) bs) := by { rw [HL.out]; exact mine_sees ho3 (by rw [HL.out]; rfl) HWB.out (by omega) }; unfold maxLen at hgm; have hle : L ≤ cap := (by omega); obtain ⟨V, hV, HV⟩ : ∃ V, (∀ wx, (Instr.slice 28 (.slice (some ⟨g, 0, none⟩) (L + 3) cap) none (some (.int .i64 L)) none).run Try.prog wx = .ok V wx) ∧ Hid (V = .slice (some ⟨g, 0, none⟩) L cap) := ⟨_, run_upto Try.underlying28 size_u8 (some ⟨g, 0, none⟩) (L + 3) cap L hle, cutV_zero g L cap⟩; rw [← HV.out] at HV3; clear ho3 hg3 hB2 HO2 hs2))
    | (go_at_call 14; have hq := HV3; clear hq; go_must (refine (decode_any _ bs _ HV3.out).mono ?_); rintro e w4 ⟨xm, xc, rfl, hom, hoc, hap, hb4⟩; rw [HDL.out] at hom hoc ⊢; go_must (have HX4 : Hid (SeesM w4 xm xc ms is) := ⟨Sees.own hom (wf_small HMB.out), own_seesI hoc, HIW.out⟩; obtain ⟨a3, k3, hxm⟩ := HX4.out.maps.shape; obtain ⟨a4, k4, hxc⟩ := HX4.out.code.shape; subst hxm hxc; have HOM4 := keepH hom; have HOC4 := keepH hoc; have HAP := keepH hap; have hB4 := hB3.trans (hb4.mono hB3.size); have HB34 := keepH hb4; have hs4 := hB4.size; have hs34 := hb4.size; have HV4 := keepH ((HV3.out.below hb4 (Nat.le_refl _)).below (below_alloc _ (.cells #[.slice a3 ms.length k3, .slice a4 is.length k4] 25)) (Nat.le_refl _)); clear hom hoc hap hb4 hB3 HV3 HX4))
    | (go_at_call 14; have hq := HV4; clear hq; go_must (refine (decode_any _ bs _ HV4.out).mono ?_); rintro e w5 ⟨ym, yc, rfl, hom, hoc, _, hb5⟩; rw [HDL.out] at hom hoc ⊢; go_must (have HX5 : Hid (SeesM w5 ym yc ms is) := ⟨Sees.own hom (wf_small HMB.out), own_seesI hoc, HIW.out⟩; obtain ⟨a5, k5, hym⟩ := HX5.out.maps.shape; obtain ⟨a6, k6, hyc⟩ := HX5.out.code.shape; subst hym hyc; have HOM5 := keepH hom; have HOC5 := keepH hoc; have HB45 := keepH hb5; have hs45 := hb5.size; have hB5 := (hB4.alloc hs4 _).trans (hb5.mono (hB4.alloc hs4 _).size); have hs5 := hB5.size; clear hom hoc hb5 hB4 HV4 HX5))
    | (go_at_call 15; go_must (refine (rdecode_any _ bs _ (HSH.out _ (hB5.alloc hB5.size _))).mono ?_); rintro e w6 ⟨zm, zc, rfl, hom, hoc, hb6⟩; rw [HDL.out] at hom hoc ⊢; go_must (have HX6 : Hid (SeesM w6 zm zc ms is) := ⟨Sees.own hom (wf_small HMB.out), own_seesI hoc, HIW.out⟩; obtain ⟨a7, k7, hzm⟩ := HX6.out.maps.shape; obtain ⟨a8, k8, hzc⟩ := HX6.out.code.shape; subst hzm hzc; have HOM6 := keepH hom; have HOC6 := keepH hoc; have HB56 := keepH hb6; have hs56 := hb6.size; have hB6 := (hB5.alloc hs5 _).trans (hb6.mono (hB5.alloc hs5 _).size); have hs6 := hB6.size; have hB7 := hB6.alloc hs6 (.cells #[.slice a7 ms.length k7, .slice a8 is.length k8] 25); have HA7 := keepH ((own_below (((own_below (own_below HA3.out HB34.out (Nat.le_refl _)) (below_alloc w4 (.cells #[.slice a3 ms.length k3, .slice a4 is.length k4] 25)) (Nat.le_refl _) |> fun t => own_below t HB45.out (Nat.le_refl _))).alloc (.cells #[.slice a5 ms.length k5, .slice a6 is.length k6] 25)) hb6 (Nat.le_refl _)).alloc (.cells #[.slice a7 ms.length k7, .slice a8 is.length k8] 25)); have hcb := run_string (src := 28) (dst := 9) Try.underlying28 Try.underlying5 Try.underlying9 (HSH.out _ hB7); have hcv := run_string (src := 28) (dst := 9) (bs := bs ++ [71, 72, 73]) Try.underlying28 Try.underlying5 Try.underlying9 (Sees.own (by rw [HL3.out]; exact HA7.out) HW3.out); rw [strI_marks] at hcv; clear hom hoc hb6 hB5 HX6)))
  have HMlt : Hid (∀ k, (Value.slice a3 ms.length k3).ownBlock = some k → w3.heap.size ≤ k ∧ k < w4.heap.size) := HOM4.out.lt
  have HClt : Hid (∀ k, (Value.slice a4 is.length k4).ownBlock = some k → w3.heap.size ≤ k ∧ k < w4.heap.size) := HOC4.out.lt
  obtain ⟨W, HWW⟩ : ∃ W, Hid (W = w6.alloc (.cells #[.slice a7 ms.length k7, .slice a8 is.length k8] 25)) := ⟨_, keepH rfl⟩
  rw [← HWW.out] at HA7 hB7 ⊢
  have hz4 : w4.heap.size + 1 ≤ w5.heap.size := by simpa using hs45
  have hz5 : w5.heap.size + 1 ≤ w6.heap.size := by simpa using hs56
  have hz6 : w6.heap.size + 1 ≤ W.heap.size := by rw [HWW.out]; simp
  have hbW4 : Below (w4.alloc (.cells #[.slice a3 ms.length k3, .slice a4 is.length k4] 25)).heap.size (w4.alloc (.cells #[.slice a3 ms.length k3, .slice a4 is.length k4] 25)) W := by
    rw [HWW.out]
    exact ((HB45.out.alloc hs45 _).trans (HB56.out.mono (by simp; omega))).alloc (by simp; omega) _
  have hbW5 : Below (w5.alloc (.cells #[.slice a5 ms.length k5, .slice a6 is.length k6] 25)).heap.size (w5.alloc (.cells #[.slice a5 ms.length k5, .slice a6 is.length k6] 25)) W := by
    rw [HWW.out]
    exact HB56.out.alloc hs56 _
  have HK : Hid (Kp w W (w4.heap.size + 1) W.heap.size W) := ⟨hB7, Nat.le_refl _, fun _ _ _ => rfl⟩
  have HM := keepH (own_below (HOM4.out.alloc _) hbW4 (Nat.le_refl _))
  have HC := keepH (own_below (HOC4.out.alloc _) hbW4 (Nat.le_refl _))
  have HX := keepH ((MdC.new w4 (.slice a3 ms.length k3) (.slice a4 is.length k4)).below hbW4 (by simp))
  have HNM := keepH (own_base (base := w4.heap.size + 1) (own_below (HOM5.out.alloc _) hbW5 (Nat.le_refl _)) (by simp))
  have HNC := keepH (own_base (base := w4.heap.size + 1) (own_below (HOC5.out.alloc _) hbW5 (Nat.le_refl _)) (by simp))
  have HXN := keepH ((MdC.new w5 (.slice a5 ms.length k5) (.slice a6 is.length k6)).below hbW5 (by simp))
  have HUM := keepH (own_base (base := w4.heap.size + 1) (HOM6.out.alloc (.cells #[.slice a7 ms.length k7, .slice a8 is.length k8] 25)) (by simp; omega))
  have HUC := keepH (own_base (base := w4.heap.size + 1) (HOC6.out.alloc (.cells #[.slice a7 ms.length k7, .slice a8 is.length k8] 25)) (by simp; omega))
  have HXU := keepH (MdC.new w6 (.slice a7 ms.length k7) (.slice a8 is.length k8))
  rw [← HWW.out] at HUM HUC HXU
  have HN : Hid (∀ wk, Kp w W (w4.heap.size + 1) W.heap.size wk → SeesM wk (.slice a5 ms.length k5) (.slice a6 is.length k6) ms is) := fun wk hk =>
    ⟨Sees.own (hk.own (Nat.le_refl _) HNM.out) (wf_small HMB.out), own_seesI (hk.own (Nat.le_refl _) HNC.out), HIW.out⟩
  have HU : Hid (∀ wk, Kp w W (w4.heap.size + 1) W.heap.size wk → SeesM wk (.slice a7 ms.length k7) (.slice a8 is.length k8) ms is) := fun wk hk =>
    ⟨Sees.own (hk.own (Nat.le_refl _) HUM.out) (wf_small HMB.out), own_seesI (hk.own (Nat.le_refl _) HUC.out), HIW.out⟩
  have HNB : Hid (∀ wk, Kp w W (w4.heap.size + 1) W.heap.size wk → MdC wk w5.heap.size (.slice a5 ms.length k5) (.slice a6 is.length k6)) := fun wk hk => hk.md (Nat.le_refl _) HXN.out hz4
  have HUB : Hid (∀ wk, Kp w W (w4.heap.size + 1) W.heap.size wk → MdC wk w6.heap.size (.slice a7 ms.length k7) (.slice a8 is.length k8)) := fun wk hk => hk.md (Nat.le_refl _) HXU.out (by omega)
  clear hcb hcv hplus HOM4 HOC4 HOM5 HOC5 HOM6 HOC6 HB34 HB45 HB56 hbW4 hbW5 HNM HNC HXN HUM HUC HXU hB6 hB7 HA3 hV HV hs45 hs56
  go_loopw [13] (fun i wr => ∃ k : Nat, k ≤ L ∧ i = .int .i64 k ∧ (∃ zs, wr.ownsRow w.heap.size 5 1 (.slice (some ⟨g, 0, none⟩) (L + 3) cap) (L + 3) zs) ∧ W.grownBy wr (some g)) (fun i _ => L - (intOf i).toNat)
  case atStart => exact ⟨0, by omega, rfl, ⟨_, HA7.out⟩, grown_refl _ _⟩
  case round =>
    obtain ⟨k, hk, rfl, ⟨zs, hown⟩, hgr⟩ := hrel
    by_cases hlt : k < L
    · have hzl : zs.length = L + 3 := by have := hown.1; omega
      obtain ⟨z, hcell⟩ : ∃ z, wr.cell? ⟨g, k, none⟩ = some z := ⟨zs[k]'(by omega), by rw [hown.cellAt k (by omega)]; exact List.getElem?_eq_getElem (by omega)⟩
      have hfz := hown.frozenAt k
      have R := hown.stored k (.int .u8 0)
      have hgr' := grown_trans hgr R.2
      have R1 := R.1
      clear hown R hgr
      go_wp2
      go_roundw
      case rel => exact ⟨k + 1, by omega, by go_num, ⟨_, R1⟩, hgr'⟩
      case measure => simp [intOf]; omega
    · obtain ⟨WA, rfl⟩ : ∃ WA, WA = wr := ⟨_, rfl⟩
      have HK1 := keepH (HK.out.grown hgr (fun k hk => by injection hk with hk; omega))
      have M1 := keepH (HM.out.kept hgr (own_far HM.out hg1))
      have C1 := keepH (HC.out.kept hgr (own_far HC.out hg1))
      have X1 := keepH (HX.out.kept hgr (by simp; omega))
      obtain ⟨c0, c1⟩ := X1.out.cells
      clear hown hgr HA7 HK HM HC HX
      go_wp2_with fail
      clear c0 c1
      go_loopw [14] (fun i wr => ∃ k : Nat, k ≤ ms.length ∧ i = .int .i64 k ∧ (∃ zs, wr.ownsRow w3.heap.size 3 1 (.slice a3 ms.length k3) ms.length zs) ∧ WA.grownBy wr (Value.slice a3 ms.length k3).ownBlock) (fun i _ => ms.length - (intOf i).toNat)
      case atStart => exact ⟨0, by omega, rfl, ⟨_, M1.out⟩, grown_refl _ _⟩
      case round =>
        obtain ⟨k, hk, rfl, ⟨zs, hown⟩, hgr⟩ := hrel
        have X2 := keepH (X1.out.kept hgr (fun e => by have := HMlt.out _ e; omega))
        obtain ⟨c0, c1⟩ := X2.out.cells
        by_cases hlt : k < ms.length
        · obtain ⟨g', cap', ev, hg0', hg1', hcm, _, hcl⟩ := own_open hown (by omega)
          obtain ⟨rfl, rfl⟩ : a3 = some ⟨g', 0, none⟩ ∧ k3 = cap' := by injection ev with e1 e2 e3; exact ⟨e1, e3⟩
          have hzl : zs.length = ms.length := by have := hown.1; omega
          obtain ⟨z, hcell⟩ : ∃ z, wr.cell? ⟨g', k, none⟩ = some z := ⟨zs[k]'(by omega), hcl k _ (List.getElem?_eq_getElem (by omega))⟩
          have hfz := hown.frozenAt k
          have R := hown.stored k (.int .i64 (-9))
          have hgr' := grown_trans hgr (show wr.grownBy _ (Value.slice (some ⟨g', 0, none⟩) ms.length k3).ownBlock from R.2)
          have R1 := R.1
          clear hown R hgr hcl ev X2
          go_wp2
          go_roundw
          case rel => exact ⟨k + 1, by omega, by go_num, ⟨_, R1⟩, hgr'⟩
          case measure => simp [intOf]; omega
        · have HK2 := keepH (HK1.out.grown hgr (fun k hk => by have := HMlt.out k hk; omega))
          have C2 := keepH (C1.out.kept hgr (own_unlike2 C1.out (fun k hk e => HAP.out k e hk)))
          have M2 := keepH hown
          clear hgr HK1 C1 X1 M1 hown
          go_wp2_with (at_builtin; have hq := M2; clear hq; go_must (refine wpList_append_own _ rfl (.tmp 81) (.tmp 82) 22 rfl w3.heap.size 3 i0 (.int .i64 0) 1 8 Try.underlying22 hi hz0 hz1 hz2 rfl (by decide) _ _ _ rfl (M2.out.alloc _) ⟨_, 0, none⟩ 2 2 [.int .i64 (-8), .int .i64 (-7)] rfl rfl (two_new _ _ _ _) (two_one _ _) (by unfold maxLen; omega) (by omega) (by have h1 := HK2.out.t; simp; omega) ?_); intro v7 w7 ho7 hg7 _; go_must (have HK3 := keepH ((HK2.out.grown (grown_alloc _ _ none) (fun k e => by cases e)).grown hg7 (fun k hk => by have := HMlt.out k hk; omega)); have C3 := keepH ((C2.out.alloc _).kept hg7 (own_unlike2 C2.out (fun k hk e => HAP.out k e hk))); have X3 := keepH ((X2.out.kept (grown_alloc _ _ none) (by simp)).kept hg7 (fun e => by have := HMlt.out _ e; omega)); obtain ⟨d0, d1⟩ := X3.out.cells; have f0 := X3.out.frozen 0; obtain ⟨a9, k9, hv7, _, _, _⟩ := own_openN ho7; subst hv7; clear ho7 hg7 HK2 C2 X2 M2 c0 c1))
          have HK4 := keepH (HK3.out.grown (grown_set w7 ⟨w4.heap.size, 0, none⟩ (.slice a9 (ms.length + 2) k9)) (fun k hk => by have hk' : w4.heap.size = k := Option.some.inj hk; omega))
          have C4 := keepH (C3.out.kept (grown_set w7 ⟨w4.heap.size, 0, none⟩ (.slice a9 (ms.length + 2) k9)) (own_unlike2 C3.out (fun k hk e => by have e' : w4.heap.size = k := Option.some.inj e; have := HClt.out k hk; omega)))
          have X4 := keepH (X3.out.set0 (.slice a9 (ms.length + 2) k9))
          clear HK3 C3 X3 d0 d1 f0
          obtain ⟨WB, HWB⟩ : ∃ WB, Hid (WB = w7.setCell ⟨w4.heap.size, 0, none⟩ (.slice a9 (ms.length + 2) k9)) := ⟨_, keepH rfl⟩
          rw [← HWB.out] at HK4 C4 X4 ⊢
          go_loopw [15] (fun i wr => ∃ k : Nat, k ≤ is.length ∧ i = .int .i64 k ∧ (∃ zs, wr.ownsRow w3.heap.size 45 5 (.slice a4 is.length k4) is.length zs) ∧ WB.grownBy wr (Value.slice a4 is.length k4).ownBlock) (fun i _ => is.length - (intOf i).toNat)
          case atStart => exact ⟨0, by omega, rfl, ⟨_, C4.out⟩, grown_refl _ _⟩
          case round =>
            obtain ⟨k, hk, rfl, ⟨zs, hown⟩, hgr⟩ := hrel
            have X5 := keepH (X4.out.kept hgr (fun e => by have := HClt.out _ e; omega))
            obtain ⟨c0, c1⟩ := X5.out.cells
            by_cases hlt : k < is.length
            · obtain ⟨a', cap', ev, hcm, _, hgs⟩ := own_openN hown
              obtain ⟨g', hgs⟩ := hgs (by omega)
              subst hgs
              obtain ⟨rfl, rfl⟩ : a4 = some ⟨g', 0, none⟩ ∧ k4 = cap' := by injection ev with e1 e2 e3; exact ⟨e1, e3⟩
              have hzl : zs.length = is.length * 5 := hown.1
              have hcell : ∀ j, j < 5 → ∃ z, wr.cell? ⟨g', k * 5 + j, none⟩ = some z := fun j hj => ⟨zs[k * 5 + j]'(by omega), by rw [hown.cellAt (k * 5 + j) (by omega)]; exact List.getElem?_eq_getElem (by omega)⟩
              obtain ⟨z0, e0⟩ := hcell 0 (by omega)
              obtain ⟨z1, e1⟩ := hcell 1 (by omega)
              obtain ⟨z2, e2⟩ := hcell 2 (by omega)
              obtain ⟨z3, e3⟩ := hcell 3 (by omega)
              obtain ⟨z4, e4⟩ := hcell 4 (by omega)
              rw [Nat.add_zero] at e0
              have f0 := hown.frozenAt (k * 5)
              have f1 := hown.frozenAt (k * 5 + 1)
              have f2 := hown.frozenAt (k * 5 + 2)
              have f3 := hown.frozenAt (k * 5 + 3)
              have f4 := hown.frozenAt (k * 5 + 4)
              have S0 := hown.stored (k * 5) (.int .i64 99)
              have S1 := S0.1.stored (k * 5 + 1) (.int .i64 0)
              have S2 := S1.1.stored (k * 5 + 2) (.int .i64 0)
              have S3 := S2.1.stored (k * 5 + 3) (.int .i64 0)
              have S4 := S3.1.stored (k * 5 + 4) (.int .i64 0)
              have hgr' := grown_trans hgr (show wr.grownBy _ (Value.slice (some ⟨g', 0, none⟩) is.length k4).ownBlock from ((((S0.2.trans S1.2).trans S2.2).trans S3.2).trans S4.2))
              have R1 := S4.1
              clear hown S0 S1 S2 S3 S4 hgr hcell ev X5
              go_wp2
              go_roundw
              case rel => exact ⟨k + 1, by omega, by go_num, ⟨_, R1⟩, hgr'⟩
              case measure => simp [intOf]; omega
            · have HK5 := keepH (HK4.out.grown hgr (fun k hk => by have := HClt.out k hk; omega))
              have C5 := keepH hown
              clear hgr HK4 C4 X4 hown
              obtain ⟨es, ee, HEL⟩ : ∃ es ee, Hid (encL ms is = (es, ee)) := ⟨_, _, rfl⟩
              have HEB : Hid (∀ x ∈ es, 0 ≤ x ∧ x ≤ 255) := by
                have h1 := encL_byte (ms := ms) HIW.out
                rw [HEL.out] at h1
                exact h1
              obtain ⟨E, HE⟩ : ∃ E, Hid (E = es.length) := ⟨_, rfl⟩
              have hE : E ≤ 4096 := by
                have h1 := encL_len ms is
                rw [HEL.out] at h1
                rw [HE.out]; exact h1
              have hne46 : w6.heap.size ≠ w4.heap.size := by omega
              go_wp2_with (first
                | (at_builtin; have hq := C5; clear hq; go_must (refine wpList_append_own _ rfl (.tmp 98) (.tmp 100) 23 rfl w3.heap.size 45 j0 (instV 0 0 0 0 0) 5 40 Try.underlying23 hj hy0 hy1 hy2 rfl (by decide) _ _ _ rfl (C5.out.alloc _) ⟨_, 0, none⟩ 1 1 [.int .i64 98, .int .i64 0, .int .i64 0, .int .i64 0, .int .i64 0] rfl rfl (five_new _ _ _ _ _ _ _) (five_one _ _ _ _ _) (by unfold maxLen; omega) (by omega) (by have h1 := HK5.out.t; simp; omega) ?_); intro v8 w8 ho8 hg8 _; go_must (have HK6 := keepH ((HK5.out.grown (grown_alloc _ _ none) (fun k e => by cases e)).grown hg8 (fun k hk => by have := HClt.out k hk; omega)); have X6 := keepH ((X5.out.kept (grown_alloc _ _ none) (by simp)).kept hg8 (fun e => by have := HClt.out _ e; omega)); obtain ⟨d0, d1⟩ := X6.out.cells; have f1 := X6.out.frozen 1; obtain ⟨t0, t1⟩ := (HUB.out _ HK6.out).cells; obtain ⟨a10, k10, hv8, _, _, _⟩ := own_openN ho8; subst hv8; have HK7 := keepH (HK6.out.grown (grown_set w8 ⟨w4.heap.size, 1, none⟩ (.slice a10 (is.length + 1) k10)) (fun k hk => by have hk' : w4.heap.size = k := Option.some.inj hk; omega)); have X7 := keepH (X6.out.set1 (.slice a10 (is.length + 1) k10)); obtain ⟨u0, u1⟩ := (HUB.out _ HK7.out).cells; clear ho8 hg8 HK5 C5 X5 HK6 X6 c0 c1))
                | (go_at_call 11; have hq := HK7; clear hq; go_must (refine (encode_any _ _ ms is _ (HU.out _ HK7.out)).mono ?_); rintro e w9 ⟨v9, rfl, ho9, hb9⟩; rw [HEL.out] at ho9 ⊢; go_must (obtain ⟨a11, k11, hv9⟩ := (Sees.own ho9 (wf_bytes HEB.out)).shape; have HO9 := keepH (own_base ho9 HK7.out.t); rw [← HE.out] at hv9; rw [← HE.out] at HO9; subst hv9; have HElt : Hid (∀ k, (Value.slice a11 E k11).ownBlock = some k → W.heap.size ≤ k ∧ k < w9.heap.size) := HO9.out.lt; have HK8 := keepH (HK7.out.below hb9); have X8 := keepH (X7.out.below hb9 X7.out.lt); obtain ⟨s0, s1⟩ := (HUB.out _ HK8.out).cells; clear ho9 hb9 HK7 X7 d0 d1 f1 t0 t1 u0 u1))
                | (go_at_call 11; have hq := HK8; clear hq; go_must (refine (encode_any _ _ ms is _ (HU.out _ HK8.out)).mono ?_); rintro e w10 ⟨v10, rfl, ho10, hb10⟩; rw [HEL.out] at ho10 ⊢; go_must (obtain ⟨a12, k12, hv10⟩ := (Sees.own ho10 (wf_bytes HEB.out)).shape; have HO10 := keepH ho10; rw [← HE.out] at hv10; rw [← HE.out] at HO10; subst hv10; have HO9' := keepH (own_below HO9.out hb10 (Nat.le_refl _)); have HK9 := keepH (HK8.out.below hb10); have X9 := keepH (X8.out.below hb10 X8.out.lt); clear ho10 hb10 HK8 X8 s0 s1 HO9)))
              have hzW : w.heap.size ≤ W.heap.size := by omega
              go_loopw [20] (fun i wr => ∃ k : Nat, k ≤ E ∧ i = .int .i64 k ∧ (∃ zs, wr.ownsRow W.heap.size 5 1 (.slice a11 E k11) E zs) ∧ w10.grownBy wr (Value.slice a11 E k11).ownBlock) (fun i _ => E - (intOf i).toNat)
              case atStart => exact ⟨0, by omega, rfl, ⟨_, HO9'.out⟩, grown_refl _ _⟩
              case round =>
                obtain ⟨k, hk, rfl, ⟨zs, hown⟩, hgr⟩ := hrel
                by_cases hlt : k < E
                · obtain ⟨g', cap', ev, hg0', hg1', hcm, _, hcl⟩ := own_open hown (by omega)
                  obtain ⟨rfl, rfl⟩ : a11 = some ⟨g', 0, none⟩ ∧ k11 = cap' := by injection ev with e1 e2 e3; exact ⟨e1, e3⟩
                  have hzl : zs.length = E := by have := hown.1; omega
                  obtain ⟨z, hcell⟩ : ∃ z, wr.cell? ⟨g', k, none⟩ = some z := ⟨zs[k]'(by omega), hcl k _ (List.getElem?_eq_getElem (by omega))⟩
                  have hfz := hown.frozenAt k
                  have R := hown.stored k (.int .u8 1)
                  have hgr' := grown_trans hgr (show wr.grownBy _ (Value.slice (some ⟨g', 0, none⟩) E k11).ownBlock from R.2)
                  have R1 := R.1
                  clear hown R hgr hcl ev
                  go_wp2
                  go_roundw
                  case rel => exact ⟨k + 1, by omega, by go_num, ⟨_, R1⟩, hgr'⟩
                  case measure => simp [intOf]; omega
                · have HK10 := keepH (HK9.out.grown hgr (fun k hk => by have := HElt.out k hk; omega))
                  have X10 := keepH (X9.out.kept hgr (fun e => by have := HElt.out _ e; omega))
                  have O10 := keepH (HO10.out.kept hgr (own_unlike2 HO10.out (fun k hk e => by have h1 := HElt.out k e; have h2 := HO10.out.lt k hk; omega)))
                  obtain ⟨u0, u1⟩ := (HUB.out _ HK10.out).cells
                  clear hown hgr HK9 X9 HO10 HO9'
                  go_wp2_with (first
                    | (go_at_call 12; go_must (refine (rencode_any _ _ ms is _ (HU.out _ HK10.out)).mono ?_); rintro e w11 ⟨v11, rfl, ho11, hb11⟩; rw [HEL.out] at ho11 ⊢; go_must (obtain ⟨a13, k13, hv11⟩ := (Sees.own ho11 (wf_bytes HEB.out)).shape; have HS11 := keepH (Sees.own ho11 (wf_bytes HEB.out)); rw [← HE.out] at hv11; subst hv11; have O11 := keepH (own_below O10.out hb11 (Nat.le_refl _)); rw [HE.out] at O11; have HT11 := keepH (Sees.own O11.out (wf_bytes HEB.out)); rw [← HE.out] at HT11; have HK11 := keepH (HK10.out.below hb11); have X11 := keepH (X10.out.below hb11 X10.out.lt); obtain ⟨s0, s1⟩ := (HUB.out _ HK11.out).cells; obtain ⟨n0, n1⟩ := (HNB.out _ HK11.out).cells; clear ho11 hb11 HK10 X10 u0 u1 O10 O11))
                    | (go_at_call 13; go_must (refine (rsame_any _ _ _ _ ms is ms is _ (HN.out _ HK11.out) (HU.out _ HK11.out)).mono ?_); rintro e w12 ⟨rfl, hb12⟩; rw [sameM_true]; go_must (have HK12 := keepH (HK11.out.below hb12); obtain ⟨x0, x1⟩ := (X11.out.below hb12 X11.out.lt).cells; obtain ⟨y0, y1⟩ := (HUB.out _ HK12.out).cells; have hcv := run_string (src := 28) (dst := 9) Try.underlying28 Try.underlying5 Try.underlying9 (HT11.out.below hb12 (Nat.le_refl _)); have hcb := run_string (src := 28) (dst := 9) Try.underlying28 Try.underlying5 Try.underlying9 (HS11.out.below hb12 (Nat.le_refl _)); clear hb12 HK11 X11 s0 s1 n0 n1 HT11 HS11)))
                  go_ret
                  exact ⟨retb (by simp), HK12.out.g⟩
theorem wkeeps_all (vb : Value) (bs : List Int) (w : World) (h : Sees .u8 w vb bs) (zb : bs.length * Try.prog.bytesOf 5 ≤ reachBytes) :
    Calls Try.prog 7 #[vb] w fun e w' => e = .returned (.bool true) ∧ Below w.heap.size w w' := by
  have b1 : Try.prog.bytesOf 5 = 1 := by kernel_rfl
  rw [b1] at zb
  exact wkeeps_law vb bs w h (by unfold reachBytes at zb; omega)
end Go.Proofs.Ytbpjcppgnndaaaa
