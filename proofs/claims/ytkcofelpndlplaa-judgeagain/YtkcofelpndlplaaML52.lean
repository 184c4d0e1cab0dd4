/-
  W9AgainP
  W9AgainQ
-/
import Derived.Test.YtkcofelpndlplaaML51
/-
  JudgeAgain, walked where the module is good: the answer is true. Conditions: the module's slices read as numbers and as instructions, and take up no more bytes than an argument may.
-/
namespace Go.Proofs.Ytkcofelpndlplaa
open Go.RowKit
set_option linter.unusedVariables false
set_option linter.unusedSimpArgs false
set_option maxRecDepth 100000

set_option maxHeartbeats 6400000 in
theorem again_ok (vm vc : Value) (ms : List Int) (xs : List In) (t : Int) (w : World) (h : SeesM w vm vc ms xs) (z : ms.length * 8 ≤ 140737488351232 ∧ xs.length * 40 ≤ 140737488355328) {K : Kn} (HI : Hid (inqR ms xs = .ok K)) :
    Calls Try.prog 4 #[modV vm vc, .int .i64 t] w fun e w' => e = .returned (.bool true) ∧ Below w.heap.size w w' := by
  have HM := keepJ h
  have HZ := keepJ z
  have HJ : Hid (judgeR ms xs = (0, 0)) := by show _ = _; unfold judgeR; rw [HI.out]
  obtain ⟨hmf, hT, hrun⟩ := inq_ok HI.out
  have HT := keepJ hT
  have HMF := keepJ hmf
  have h64 := hT.top
  have hpos := hT.pos
  obtain ⟨am, km, rfl⟩ := h.maps.shape
  obtain ⟨ac, kc, rfl⟩ := h.code.shape
  obtain ⟨W, HW, HBW, hWz, m0, m1⟩ : ∃ W, Hid (W = w.alloc (Obj.cells #[.slice am ms.length km, .slice ac xs.length kc] 25)) ∧ Hid (Below w.heap.size w W) ∧ w.heap.size < W.heap.size ∧ W.cell? ⟨w.heap.size, 0, none⟩ = some (.slice am ms.length km) ∧ W.cell? ⟨w.heap.size, 1, none⟩ = some (.slice ac xs.length kc) :=
    ⟨_, rfl, keepJ (by go_grown), by simp, by go_cell, by go_cell⟩
  have HMW := keepJ (HM.out.below HBW.out)
  have K1 : Hid True := trivial
  have K2 : Hid True := trivial
  clear h z hmf hT hrun
  go_enter Try.func4, Try.ntmps4
  go_wp2_with (first
    | (go_at_call 5; rw [← HW.out]; go_must (refine (awake9_any _).mono ?_); rintro e w1 ⟨rfl, hb1⟩; go_must (have hS1 := keepM2 ⟨m0, m1⟩ hb1 hWz; have hz1 := hb1.size; have HM1 := keepJ (HMW.out.below hb1); clear m0 m1; obtain ⟨m0, m1⟩ := hS1))
    | (go_at_call 7; (have hq := K1; clear hq); go_must (refine (copied9_any _ _ ms xs _ HM1.out HZ.out).mono ?_); rintro e w2 ⟨um, uc, rfl, hM2, hb2⟩; go_must (have HM2 := keepJ hM2; have hz2 := hb2.size; clear hM2 K1))
    | (go_at_call 10; go_must (refine (ljudge_as HM2.out.maps HM2.out.code HJ).mono ?_); rintro e w3 ⟨rfl, hb3⟩; go_must (have hz3 := hb3.size; have HB13 := keepJ (hb2.trans (hb3.mono hz2)); have hS3 := keepM2 ⟨m0, m1⟩ HB13.out (by omega); clear m0 m1; obtain ⟨m0, m1⟩ := hS3; have HM3 := keepJ (HM1.out.below HB13.out)))
    | (go_at_call 7; (have hq := K2; clear hq); go_must (refine (copied9_any _ _ ms xs _ HM3.out HZ.out).mono ?_); rintro e w4 ⟨um4, uc4, rfl, hM4, hb4⟩; go_must (have HM4 := keepJ hM4; have hz4 := hb4.size; clear hM4 K2))
    | (go_at_call 6; go_must (refine (ltypes_as HM4.out.maps HM4.out.code HI).mono ?_); rintro e w5 ⟨tb, vs, rfl, hR, hl, hMK, hb5⟩; go_must (have hz5 := hb5.size; have HB35 := keepJ (hb4.trans (hb5.mono hz4)); have hS5 := keepM2 ⟨m0, m1⟩ HB35.out (by omega); have HC5 := keepJ hS5; clear m0 m1; obtain ⟨m0, m1⟩ := hS5; have HM5 := keepJ (HM3.out.below HB35.out); have HR5 := keepJ hR; have HL := keepJ hl; clear hR hl hMK))
    | (go_at_call 7; go_must (refine (copied9_own _ _ ms xs _ HM5.out HZ.out).mono ?_); rintro e w6 ⟨um6, uc6, rfl, hM6, ho6, hp6, hb6⟩; go_must (obtain ⟨a6, k6, rfl⟩ := hM6.maps.shape; obtain ⟨c6, l6, rfl⟩ := hM6.code.shape; have HM6 := keepJ hM6; have HO6 := keepJ ho6; have HP6 := keepJ hp6; have hz6 := hb6.size; have hS6 := keepM2 ⟨m0, m1⟩ hb6 (by omega); clear m0 m1 hM6 ho6 hp6; obtain ⟨m0, m1⟩ := hS6)))
  obtain ⟨Y, mb, HY, HMB, HMD, HO, HP, HBY, hmb, m0', m1'⟩ : ∃ Y mb, Hid (Y = w6.alloc (Obj.cells #[.slice a6 ms.length k6, .slice c6 xs.length l6] 25)) ∧ Hid (w6.heap.size = mb) ∧ Hid (MdC Y mb (.slice a6 ms.length k6) (.slice c6 xs.length l6)) ∧ Hid (OwnOr Y w5.heap.size 3 1 (.slice a6 ms.length k6) ms.length (ms.map (Value.int .i64))) ∧ Hid (OwnOr Y w5.heap.size 42 5 (.slice c6 xs.length l6) xs.length (flat xs)) ∧ Hid (Below w5.heap.size w5 Y) ∧ w5.heap.size ≤ mb ∧ Y.cell? ⟨w.heap.size, 0, none⟩ = some (.slice am ms.length km) ∧ Y.cell? ⟨w.heap.size, 1, none⟩ = some (.slice ac xs.length kc) := by
    refine ⟨_, _, rfl, rfl, MdC.new w6 _ _, ?_, ?_, keepJ (hb6.alloc hz6 _), hz6, ?_, ?_⟩
    · exact HO6.out.imp id fun h => h.alloc _
    · exact HP6.out.imp id fun h => h.alloc _
    · rw [(below_alloc w6 _).cell (p := ⟨w.heap.size, 0, none⟩) (show w.heap.size < w6.heap.size by omega)]; exact m0
    · rw [(below_alloc w6 _).cell (p := ⟨w.heap.size, 1, none⟩) (show w.heap.size < w6.heap.size by omega)]; exact m1
  rw [← HY.out, HMB.out]
  have HWM : Hid (∀ x ∈ ms, (Lit.int .i64 x).wf = true) := HM.out.maps.wf
  clear HY HMB HO6 HP6 HM6 m0 m1 m0' m1'
  go_loopw [10] (fun i wr => ∃ k : Nat, k ≤ 4 ∧ i = .int .i64 k ∧ Hid (∃ a cap, MdC wr mb (.slice a (fourN ms k).length cap) (.slice c6 xs.length l6) ∧ OwnOr wr w5.heap.size 3 1 (.slice a (fourN ms k).length cap) (fourN ms k).length ((fourN ms k).map (Value.int .i64)) ∧ OwnOr wr w5.heap.size 42 5 (.slice c6 xs.length l6) xs.length (flat xs) ∧ Below w5.heap.size w5 wr)) (fun i _ => 4 - (intOf i).toNat)
  case atStart => exact ⟨0, by omega, rfl, a6, k6, HMD.out, HO.out, HP.out, HBY.out⟩
  case round =>
    obtain ⟨k, hk, rfl, HR⟩ := hrel
    obtain ⟨wo, rfl⟩ : ∃ wo, wo = wr := ⟨_, rfl⟩
    obtain ⟨a, cap, hMd, hOw, hIn, hBw⟩ := HR.out
    obtain ⟨ys, HYS⟩ : ∃ ys, Hid (fourN ms k = ys) := ⟨_, rfl⟩
    have hwf := fourN_wf HWM.out k hk
    rw [HYS.out] at hMd hOw hwf
    have HMd := keepJ hMd
    have HOw := keepJ hOw
    have HIn := keepJ hIn
    have HBw := keepJ hBw
    have HSe := keepJ (hOw.sees hwf)
    obtain ⟨d0, d1⟩ := hMd.cells
    by_cases hlt : k < 4
    · have hkI : (k : Int) < 4 := by omega
      clear HR hMd hOw hIn hBw
      go_wp2
      go_loopw [11, 12] (fun th i wq => ∃ j : Nat, j ≤ ys.length ∧ th = .bool (hasI (ys.take j) k) ∧ i = .int .i64 j ∧ wo = wq) (fun _ i _ => ys.length - (intOf i).toNat)
      case atStart => exact ⟨0, by omega, rfl, rfl, rfl⟩
      case round =>
        obtain ⟨j, hj, rfl, rfl, rfl⟩ := hrel
        by_cases hjl : j < ys.length
        · obtain ⟨a', c', hv, q1, q2, q3, q4, q5⟩ := id HSe.out
          injection hv with e1 e2 e3
          subst e1 e3
          obtain ⟨b, off, rfl, hbz, hcell⟩ := q5 (fun e => by rw [e] at hjl; simp at hjl)
          obtain ⟨y, HYY⟩ : ∃ y, Hid (ys.getD j 0 = y) := ⟨_, rfl⟩
          have cj := hcell j hjl
          rw [HYY.out] at cj
          have hjI : (j : Int) < ys.length := by omega
          have hcm : cap ≤ 9223372036854775807 := by unfold maxLen at q2; omega
          have HSU := has_succ hjl (k : Int)
          rw [HYY.out] at HSU
          obtain ⟨hb, HHB⟩ : ∃ hb, Hid (hasI (ys.take j) k = hb) := ⟨_, rfl⟩
          rw [HHB.out] at HSU ⊢
          have HSU' := keepJ HSU
          clear HSU hcell q5 q3 q4 q2
          cases hb with
          | true =>
            go_wp2
            go_roundw
            case rel => exact ⟨j + 1, by omega, by rw [HSU'.out]; rfl, by go_num, by first | rfl | trivial⟩
            case measure => simp [intOf]; omega
          | false =>
            by_cases hyk : y = k
            · subst hyk
              go_wp2
              go_roundw
              case rel => exact ⟨j + 1, by omega, by rw [HSU'.out]; simp, by go_num, by first | rfl | trivial⟩
              case measure => simp [intOf]; omega
            · go_wp2
              go_roundw
              case rel => exact ⟨j + 1, by omega, by rw [HSU'.out]; simp [hyk], by go_num, by first | rfl | trivial⟩
              case measure => simp [intOf]; omega
        · have hjn : ¬ (j : Int) < ys.length := by omega
          have HTK : Hid (ys.take j = ys) := List.take_of_length_le (by omega)
          rw [HTK.out]
          obtain ⟨hb, HHB⟩ : ∃ hb, Hid (hasI ys k = hb) := ⟨_, rfl⟩
          rw [HHB.out]
          cases hb with
          | true =>
            have HN4 : Hid (fourN ms (k + 1) = ys) := by show addM (fourN ms k) k = ys; rw [HYS.out]; unfold addM; rw [HHB.out]; rfl
            go_wp2
            go_roundw
            case rel => exact ⟨k + 1, by omega, by go_num, a, cap, by rw [HN4.out]; exact HMd.out, by rw [HN4.out]; exact HOw.out, HIn.out, HBw.out⟩
            case measure => simp [intOf]; omega
          | false =>
            have HN4 : Hid (fourN ms (k + 1) = ys ++ [(k : Int)]) := by show addM (fourN ms k) k = _; rw [HYS.out]; unfold addM; rw [HHB.out]; rfl
            have HLN : (ys ++ [(k : Int)]).length = ys.length + 1 := by simp
            have hyl : ys.length ≤ 8 := by
              have h1 := fourN_up ms k
              have h2 := (maps_each HMF.out).1
              rw [HYS.out] at h1
              omega
            obtain ⟨i0, hi, hz0, hz1, hz2⟩ := info_parts infoInt9
            have hwz5 := HBw.out.size
            have f0 := HMd.out.frozen 0
            rcases HOw.out with ⟨h0, ad, hv⟩ | hown
            · obtain rfl : ys = [] := List.eq_nil_of_length_eq_zero h0
              injection hv with e1 e2 e3
              subst e1 e3
              go_wp2_with (at_builtin; refine wpList_append_zero rfl (.tmp 75) (.tmp 77) 22 rfl 3 i0 (.int .i64 0) 8 Try.underlying22 hi hz0 hz1 hz2 rfl .i64 ad rfl _ [(k : Int)] rfl (Sees.lit _ .i64 _ [(k : Int)] _ 1 rfl rfl (by simp) (by intro x hx; simp at hx; subst hx; exact four_wf hlt)) (by simp) w5.heap.size (by simp; omega) (by unfold maxLen; simp) (by simp) ?_; intro v7 w7 hown7 hg7; go_must (obtain ⟨hM7, a7, cap7, rfl, hM8, hO8, hI8, hB8⟩ := maps_put (HMd.out.kept (grownA_alloc _ _ none) (by simp)) (HIn.out.alloc _) (HBw.out.alloc hwz5 _) hmb (by simp; omega) hg7 (.inl rfl) hown7; have HM8 := keepJ hM8; have HO8 := keepJ hO8; have HI8 := keepJ hI8; have HB8 := keepJ hB8; obtain ⟨x0, x1⟩ := hM7.cells; have f7 := hM7.frozen 0; clear hM7 hM8 hO8 hI8 hB8 hown7 hg7))
              go_roundw
              case rel => exact ⟨k + 1, by omega, by go_num, a7, cap7, by rw [HN4.out]; first | exact HM8.out | (have := HM8.out; rw [HLN] at this ⊢; exact this), by rw [HN4.out]; first | exact HO8.out | (have := HO8.out; rw [HLN] at this ⊢; exact this), by first | exact HI8.out | (have := HI8.out; rw [HLN] at this; exact this), by first | exact HB8.out | (have := HB8.out; rw [HLN] at this; exact this)⟩
              case measure => simp [intOf]; omega
            · have HOWN := keepJ hown
              clear hown
              go_wp2_with (at_builtin; refine wpList_append_sees rfl (.tmp 75) (.tmp 77) 22 rfl w5.heap.size 3 i0 (.int .i64 0) 8 Try.underlying22 hi hz0 hz1 hz2 rfl .i64 (.slice a ys.length cap) ys rfl (HOWN.out.alloc _) _ [(k : Int)] rfl (Sees.lit _ .i64 _ [(k : Int)] _ 1 rfl rfl (by simp) (by intro x hx; simp at hx; subst hx; exact four_wf hlt)) (by unfold maxLen; simp; omega) (by simp; omega) (by simp; omega) ?_; intro v7 w7 hown7 hg7; go_must (obtain ⟨hM7, a7, cap7, rfl, hM8, hO8, hI8, hB8⟩ := maps_put (HMd.out.kept (grownA_alloc _ _ none) (by simp)) (HIn.out.alloc _) (HBw.out.alloc hwz5 _) hmb (by simp; omega) hg7 (own_row (HOWN.out.alloc _)) hown7; have HM8 := keepJ hM8; have HO8 := keepJ hO8; have HI8 := keepJ hI8; have HB8 := keepJ hB8; obtain ⟨x0, x1⟩ := hM7.cells; have f7 := hM7.frozen 0; clear hM7 hM8 hO8 hI8 hB8 hown7 hg7))
              go_roundw
              case rel => exact ⟨k + 1, by omega, by go_num, a7, cap7, by rw [HN4.out]; first | exact HM8.out | (have := HM8.out; rw [HLN] at this ⊢; exact this), by rw [HN4.out]; first | exact HO8.out | (have := HO8.out; rw [HLN] at this ⊢; exact this), by first | exact HI8.out | (have := HI8.out; rw [HLN] at this; exact this), by first | exact HB8.out | (have := HB8.out; rw [HLN] at this; exact this)⟩
              case measure => simp [intOf]; omega
    · have e4 : k = 4 := by omega
      have hk4 : ¬ (k : Int) < 4 := by omega
      have HYS4 : Hid (fourN ms 4 = ys) := by rw [← e4]; exact HYS.out
      have H4 := four_ok HMF.out
      rw [HYS4.out] at H4
      have HI4 : Hid (judgeR ys xs = (0, 0)) := by show _ = _; unfold judgeR; rw [← HYS4.out, inq_four HI.out]
      have hy4 : (ys.length : Int) = 4 := by have := H4.2; omega
      have HS4 := keepJ HIn.out.seesI
      have hwz5 := HBw.out.size
      have hmp : mb < wo.heap.size := HMd.out.lt
      have HBW5 : Hid (Below w.heap.size w w5) := HBW.out.trans ((hb1.trans ((HB13.out.trans (HB35.out.mono HB13.out.size)).mono hz1)).mono HBW.out.size)
      have hw5 : w.heap.size < w5.heap.size := by omega
      clear e4 hlt hk H4 HR hMd hOw hIn hBw
      have hposI : (0 : Int) < xs.length := by omega
      have hx0 : ¬ (xs.length : Int) = 0 := by omega
      have hxn : ¬ xs.length = 0 := by omega
      have hxe : ¬ xs = [] := fun e => by rw [e] at hpos; simp at hpos
      by_cases hlong : 62 < xs.length
      · have hl2 : 64 < (xs.length : Int) + 2 := by omega
        clear hlong
        go_wp2_with (go_at_call 10; go_must (refine (ljudge_as HSe.out HS4.out HI4).mono ?_); rintro e w8 ⟨rfl, hb8⟩; go_must (have hz8 := hb8.size; have hM8 := HMd.out.below hb8 hmp; have HB58 := keepJ (HBw.out.trans (hb8.mono hwz5)); have HB8 := keepJ (HBW5.out.trans (HB58.out.mono HBW5.out.size)); clear d0 d1; obtain ⟨d0, d1⟩ := hM8.cells; obtain ⟨n0, n1⟩ := keepM2 HC5.out HB58.out hw5))
        go_ret
        exact ⟨rfl, HB8.out⟩
      obtain ⟨cb, co, rfl, hcc, hck⟩ : ∃ cb co, ac = some ⟨cb, co, none⟩ ∧ xs.length ≤ kc ∧ kc ≤ 9223372036854775807 := by
        obtain ⟨a', c', hv, h1, h2, h3, h4⟩ := HM.out.code
        injection hv with e1 e2 e3
        subst e1 e3
        obtain ⟨b, off, rfl, _⟩ := h4 (fun e => by rw [e] at hpos; simp at hpos)
        exact ⟨b, off, rfl, h1, by unfold maxLen at h2; omega⟩
      have HAT : Hid (∀ wx, Below w5.heap.size w5 wx → ∀ p, p < xs.length → cb < wx.heap.size ∧ At wx cb (co + p * 5) (nth xs p)) := fun wx hb p hp => by
        obtain ⟨a', c', hv, h1, h2, h3, h4⟩ := HM.out.code.below (HBW5.out.trans (hb.mono HBW5.out.size))
        injection hv with e1 e2 e3
        subst e1 e3
        obtain ⟨b, off, he, hlt, hat⟩ := h4 (fun e => by rw [e] at hpos; simp at hpos)
        injection he with he
        injection he with e4 e5
        subst e4 e5
        exact ⟨hlt, hat p hp⟩
      have hl2 : ¬ 64 < (xs.length : Int) + 2 := by omega
      obtain ⟨n1N, HN1⟩ : ∃ m : Nat, Hid (xs.length = m + 1) := ⟨xs.length - 1, by show _ = _; omega⟩
      have hm61 : n1N + 1 ≤ 62 := by rw [← HN1.out]; omega
      have hidx : IntKind.i64.wrap ((xs.length : Int) - 1) = (n1N : Int) := by rw [IntKind.wrap_i64, HN1.out]; omega
      have hidx2 : (xs.length : Int) - 1 = (n1N : Int) := by rw [HN1.out]; omega
      have hn1I : (n1N : Int) < xs.length := by rw [HN1.out]; omega
      obtain ⟨lop, HLO⟩ : ∃ lop, Hid ((nth xs n1N).op = lop) := ⟨_, rfl⟩
      by_cases h22 : lop = 22
      · subst h22
        obtain ⟨q, hq8, hq0, hq7⟩ := tail_arg t
        obtain ⟨j0, hj, hy0, hy1, hy2⟩ := info_parts infoInst9
        obtain ⟨zs, HZS⟩ : ∃ zs, Hid (xs ++ tailI q = zs) := ⟨_, rfl⟩
        have HZL : Hid (zs.length = xs.length + 2) := by rw [← HZS.out]; show _ = _; simp [tailI]
        rcases inq_tail HI.out ⟨hq0, hq7⟩ (by omega) with hok | ⟨P, herr⟩
        · have HIL : Hid (inqR ms zs = .ok (K ++ two0)) := by rw [← HZS.out]; exact hok
          have HKL : Hid (K.length = xs.length) := HL.out
          have HD0 : Hid (((K ++ two0).getD xs.length kn0).1 = false) := by show _ = _; rw [getD_app, List.getD_eq_getElem?_getD, List.getElem?_eq_none (by rw [HKL.out]; omega)]; rfl
          have HD1 : Hid (((K ++ two0).getD (xs.length + 1) kn0).1 = false) := by show _ = _; rw [getD_app, List.getD_eq_getElem?_getD, List.getElem?_eq_none (by rw [HKL.out]; omega)]; rfl
          have hzb : ((zs.length : Int) != (xs.length : Int) + 2) = false := by rw [HZL.out]; simp
          have hze : ((zs.length : Int) == (xs.length : Int) + 2) = true := by rw [HZL.out]; simp
          have hxz : (xs.length : Int) < zs.length := by rw [HZL.out]; omega
          have hxz1 : (xs.length : Int) + 1 < zs.length := by rw [HZL.out]; omega
          clear hok
          go_wp2_with (first
            | (go_at_call 10; go_must (refine (ljudge_as HSe.out HS4.out HI4).mono ?_); rintro e w8 ⟨rfl, hb8⟩; go_must (have hz8 := hb8.size; have hM8 := HMd.out.below hb8 hmp; have HB58 := keepJ (HBw.out.trans (hb8.mono hwz5)); have HB8 := keepJ (HBW5.out.trans (HB58.out.mono HBW5.out.size)); clear d0 d1; obtain ⟨d0, d1⟩ := hM8.cells; obtain ⟨n0, n1⟩ := keepM2 HC5.out HB58.out hw5; have hop := (HAT.out w8 HB58.out n1N (by rw [HN1.out]; omega)).2.1; rw [HLO.out] at hop; have HM8 := keepJ (HM5.out.below HB58.out)))
            | (go_at_call 7; go_must (refine (copied9_own _ _ ms xs _ HM8.out HZ.out).mono ?_); rintro e w9 ⟨um9, uc9, rfl, hM9, ho9, hp9, hb9⟩; go_must (obtain ⟨a9, k9, rfl⟩ := hM9.maps.shape; obtain ⟨c9, l9, rfl⟩ := hM9.code.shape; have HO9 := keepJ ho9; have HP9 : Hid (w9.ownsRow w8.heap.size 42 5 (.slice c9 xs.length l9) xs.length (flat xs)) := hp9.resolve_left (fun e => hxn e.1); have hz9 := hb9.size; have HB89 := keepJ hb9; clear hM9 ho9 hp9 n0 n1 d0 d1 hop))
            | (at_builtin; have hq := HP9; clear hq; go_must (refine wpList_append_seesI rfl (.tmp 123) (.tmp 130) 23 rfl w8.heap.size 42 j0 (instV 0 0 0 0 0) Try.underlying23 hj hy0 hy1 hy2 rfl (.slice c9 xs.length l9) xs rfl ((HP9.out.alloc _).alloc _) _ (tailI q) rfl (seesI_lit _ _ (tailI q) _ 2 _ (by simp) rfl rfl (by simp [tailI])) (by unfold maxLen; simp [tailI]; omega) (by simp [tailI]; omega) (by simp; omega) ?_); intro vA wA hownA hgA; go_must (obtain ⟨e0, e1, f1, aA, kA, rfl, hMB, hOB, hPB, hBB⟩ := code_put (w0 := w8) (mb := w9.heap.size) ((MdC.new w9 _ _).kept (grownA_alloc _ _ none) (by simp)) ((HO9.out.alloc _).alloc _) ((HP9.out.alloc _).alloc _) ((HB89.out.alloc hz9 _).alloc (by simp; omega) _) hz9 (by simp; omega) hgA hownA; rw [HZS.out] at hMB hOB hPB hBB; rw [HZS.out]; have HMB := keepJ hMB; have HOB := keepJ hOB; have HPB := keepJ hPB; have HBB := keepJ hBB; clear hMB hOB hPB hBB hownA hgA HP9 HO9))
            | (go_at_call 6; go_must (refine (ltypes_as (HOB.out.sees HWM.out) HPB.out.seesI HIL).mono ?_); rintro e wC ⟨ub, us, rfl, hRC, hlC, _, hbC⟩; go_must (have HB8C := keepJ (HBB.out.trans (hbC.mono HBB.out.size)); have HRC := keepJ hRC; have HLC := keepJ hlC; have HRT := keepJ (HR5.out.grown (HB58.out.trans (HB8C.out.mono HB58.out.size))); have g0 := HRC.out.shut (j := xs.length) (by rw [HZL.out]; omega) (by rw [hlC]; exact Nat.le_refl _) HD0.out; have g1 := HRC.out.shut (j := xs.length + 1) (by rw [HZL.out]; omega) (by rw [hlC]; exact Nat.le_refl _) HD1.out; clear hRC hlC hbC)))
          · go_ret
            exact ⟨rfl, HB8.out⟩
          have HBC := keepJ (HB8.out.trans (HB8C.out.mono HB8.out.size))
          have HLX : Hid (xs.length ≤ zs.length) := by show _ ≤ _; rw [HZL.out]; omega
          clear g0 g1 e0 e1 f1
          go_loopw [18] (fun i wr => ∃ p m : Nat, p ≤ xs.length ∧ i = .int .i64 p ∧ wr = wC.drewN m) (fun i _ => xs.length - (intOf i).toNat)
          case atStart => exact ⟨0, 0, by omega, rfl, rfl⟩
          case round =>
            obtain ⟨p, m, hp, rfl, rfl⟩ := hrel
            by_cases hpt : p < xs.length
            · have hpI : (p : Int) < xs.length := by omega
              have hpz : (p : Int) < zs.length := by omega
              cases hr : (K.getD p kn0).1 with
              | false =>
                have c1 := HRT.out.shut hpt (by rw [HKL.out]; exact Nat.le_refl _) hr
                have c2 := HRC.out.shut (j := p) (by have := HLX.out; omega) (by rw [HLC.out]; exact Nat.le_refl _) (by rw [getD_app]; exact hr)
                clear hr
                go_wp2
                go_region
                all_goals go_wp2
                all_goals refine wp_loop_rounds 1 ?_
                all_goals rw [rounds_succ]
                all_goals go_wp2
                all_goals go_roundw
                case rel => exact ⟨p + 1, _, by omega, by go_num, rfl⟩
                case measure => simp [intOf]; omega
              | true =>
                obtain ⟨g, cap, hrow, hc8, hcm⟩ := HRT.out.rowAt hpt (by rw [HKL.out]; exact Nat.le_refl _) hr
                obtain ⟨g2, cap2, hrow2, hc82, hcm2⟩ := HRC.out.rowAt (j := p) (by have := HLX.out; omega) (by rw [HLC.out]; exact Nat.le_refl _) (by rw [getD_app]; exact hr)
                rw [getD_app] at hrow2
                obtain ⟨st, HST⟩ : ∃ st, Hid ((K.getD p kn0).2 = st) := ⟨_, rfl⟩
                rw [HST.out] at hrow hrow2
                have HR1 := keepJ hrow
                have HR2 := keepJ hrow2
                have c1 := hrow.1
                have c2 := hrow2.1
                clear hr hrow hrow2
                go_wp2
                go_region
                all_goals go_wp2
                all_goals (
                  go_loopw [19] (fun i wr => ∃ r m : Nat, r ≤ 8 ∧ i = .int .i64 r ∧ wr = wC.drewN m) (fun i _ => 8 - (intOf i).toNat)
                  case atStart => exact ⟨0, _, by omega, rfl, rfl⟩
                  case round =>
                    obtain ⟨r, m2, hr8, rfl, rfl⟩ := hrel
                    by_cases hrt : r < 8
                    · have hrI : (r : Int) < 8 := by omega
                      obtain ⟨tk, tl, th, tm, HTY⟩ : ∃ k' lo hi m, Hid (st.getD r Ty.nil = ⟨k', lo, hi, m⟩) := ⟨_, _, _, _, rfl⟩
                      have hA1 := HR1.out.2.2.2 r hrt
                      have hA2 := HR2.out.2.2.2 r hrt
                      rw [HTY.out] at hA1 hA2
                      obtain ⟨y0, y1, y2, y3⟩ := hA1
                      obtain ⟨z0, z1, z2, z3⟩ := hA2
                      simp only at y0 y1 y2 y3 z0 z1 z2 z3
                      go_wp2
                      go_region
                      all_goals go_wp2
                      all_goals go_roundw
                      case rel => exact ⟨r + 1, _, by omega, by go_num, rfl⟩
                      case measure => simp [intOf]; omega
                    · have hrn : ¬ (r : Int) < 8 := by omega
                      clear hrt
                      go_wp2
                      go_roundw
                      case rel => exact ⟨p + 1, _, by omega, by go_num, rfl⟩
                      case measure => simp [intOf]; omega)
            · have hpn : ¬ (p : Int) < xs.length := by omega
              clear hpt
              go_wp2
              go_ret
              exact ⟨rfl, below_drewN HBC.out _⟩
        · have HIL : Hid (inqR ms zs = .error (P, 32)) := by rw [← HZS.out]; exact herr
          clear herr
          go_wp2_with (first
            | (go_at_call 10; go_must (refine (ljudge_as HSe.out HS4.out HI4).mono ?_); rintro e w8 ⟨rfl, hb8⟩; go_must (have hz8 := hb8.size; have hM8 := HMd.out.below hb8 hmp; have HB58 := keepJ (HBw.out.trans (hb8.mono hwz5)); have HB8 := keepJ (HBW5.out.trans (HB58.out.mono HBW5.out.size)); clear d0 d1; obtain ⟨d0, d1⟩ := hM8.cells; obtain ⟨n0, n1⟩ := keepM2 HC5.out HB58.out hw5; have hop := (HAT.out w8 HB58.out n1N (by rw [HN1.out]; omega)).2.1; rw [HLO.out] at hop; have HM8 := keepJ (HM5.out.below HB58.out)))
            | (go_at_call 7; go_must (refine (copied9_own _ _ ms xs _ HM8.out HZ.out).mono ?_); rintro e w9 ⟨um9, uc9, rfl, hM9, ho9, hp9, hb9⟩; go_must (obtain ⟨a9, k9, rfl⟩ := hM9.maps.shape; obtain ⟨c9, l9, rfl⟩ := hM9.code.shape; have HO9 := keepJ ho9; have HP9 : Hid (w9.ownsRow w8.heap.size 42 5 (.slice c9 xs.length l9) xs.length (flat xs)) := hp9.resolve_left (fun e => hxn e.1); have hz9 := hb9.size; have HB89 := keepJ hb9; clear hM9 ho9 hp9 n0 n1 d0 d1 hop))
            | (at_builtin; have hq := HP9; clear hq; go_must (refine wpList_append_seesI rfl (.tmp 123) (.tmp 130) 23 rfl w8.heap.size 42 j0 (instV 0 0 0 0 0) Try.underlying23 hj hy0 hy1 hy2 rfl (.slice c9 xs.length l9) xs rfl ((HP9.out.alloc _).alloc _) _ (tailI q) rfl (seesI_lit _ _ (tailI q) _ 2 _ (by simp) rfl rfl (by simp [tailI])) (by unfold maxLen; simp [tailI]; omega) (by simp [tailI]; omega) (by simp; omega) ?_); intro vA wA hownA hgA; go_must (obtain ⟨e0, e1, f1, aA, kA, rfl, hMB, hOB, hPB, hBB⟩ := code_put (w0 := w8) (mb := w9.heap.size) ((MdC.new w9 _ _).kept (grownA_alloc _ _ none) (by simp)) ((HO9.out.alloc _).alloc _) ((HP9.out.alloc _).alloc _) ((HB89.out.alloc hz9 _).alloc (by simp; omega) _) hz9 (by simp; omega) hgA hownA; rw [HZS.out] at hMB hOB hPB hBB; rw [HZS.out]; have HMB := keepJ hMB; have HOB := keepJ hOB; have HPB := keepJ hPB; have HBB := keepJ hBB; clear hMB hOB hPB hBB hownA hgA HP9 HO9))
            | (go_at_call 6; go_must (refine (ltypes_err (HOB.out.sees HWM.out) HPB.out.seesI HIL).mono ?_); rintro e wC ⟨rfl, hbC⟩; go_must (have HBC := keepJ (HB8.out.trans ((HBB.out.trans (hbC.mono HBB.out.size)).mono HB8.out.size)); clear hbC)))
          all_goals go_ret
          all_goals first | exact ⟨rfl, HBC.out⟩ | exact ⟨rfl, HB8.out⟩
      · have hlb : (lop != 22) = true := by simpa using h22
        go_wp2_with (go_at_call 10; go_must (refine (ljudge_as HSe.out HS4.out HI4).mono ?_); rintro e w8 ⟨rfl, hb8⟩; go_must (have hz8 := hb8.size; have hM8 := HMd.out.below hb8 hmp; have HB58 := keepJ (HBw.out.trans (hb8.mono hwz5)); have HB8 := keepJ (HBW5.out.trans (HB58.out.mono HBW5.out.size)); clear d0 d1; obtain ⟨d0, d1⟩ := hM8.cells; obtain ⟨n0, n1⟩ := keepM2 HC5.out HB58.out hw5; have hop := (HAT.out w8 HB58.out n1N (by rw [HN1.out]; omega)).2.1; rw [HLO.out] at hop))
        all_goals go_ret
        all_goals exact ⟨rfl, HB8.out⟩
end Go.Proofs.Ytkcofelpndlplaa
/-
  JudgeAgain, walked: the answer is true. Conditions: the module's slices read as numbers and as instructions, and take up no more bytes than an argument may.
-/
namespace Go.Proofs.Ytkcofelpndlplaa
open Go.RowKit
set_option linter.unusedVariables false

theorem again9_any (vm vc : Value) (ms : List Int) (xs : List In) (t : Int) (w : World) (h : SeesM w vm vc ms xs) (z : ms.length * 8 ≤ 140737488351232 ∧ xs.length * 40 ≤ 140737488355328) (ht : -9223372036854775808 ≤ t ∧ t ≤ 9223372036854775807) :
    Calls Try.prog 4 #[modV vm vc, .int .i64 t] w fun e w' => e = .returned (.bool true) ∧ Below w.heap.size w w' := by
  cases hi : inqR ms xs with
  | ok K => exact again_ok vm vc ms xs t w h z hi
  | error e =>
    obtain ⟨P, E⟩ := e
    exact again_bad vm vc ms xs t w h z hi
end Go.Proofs.Ytkcofelpndlplaa
