
/-
  OwnerOrders, walked. Condition: none but the arguments' reading.
-/
import Derived.Test.YtpbfgebecgikjaaTk
import Derived.Test.YtpbfgebecgikjaaW22Op
namespace Go.Proofs.Ytpbfgebecgikjaa
open Go.RowKit
set_option linter.unusedVariables false
set_option linter.unusedSimpArgs false
set_option maxRecDepth 100000
set_option maxHeartbeats 25600000 in
theorem ownerOrders_ok (s n : Int) (mv : Value) (es : List (Int × Int)) (qv : Value) (qs : List Rt) (cv : Value) (cs : List Int) (w : World) (hm : SeesG dfC 2 (0, 0) w mv es) (hs : SeesG rtC 7 Rt.nil w qv qs) (hwf : ∀ q ∈ qs, q.wf) (hc : Sees .i64 w cv cs) :
    Calls Try.prog 4 #[shV s n mv, qv, cv] w fun e w' => e = .returned (.bool true) ∧ Below w.heap.size w w' := by
  obtain ⟨ma, mc, ev, hml, hmm⟩ := hm.shape
  subst ev
  obtain ⟨qa, qc, ev, hql, hqm⟩ := hs.shape
  subst ev
  obtain ⟨i0, hi0, hz0, hzs, hzb⟩ := info_parts infoRt
  obtain ⟨i1, hi1, hz1, hzs1, hzb1⟩ := info_parts infoIf22
  obtain ⟨i2, hi2, hz2, hzs2, hzb2⟩ := info_parts infoRp
  obtain ⟨X, HX, HBX, HPX⟩ : ∃ X, Hid (w.alloc (.cells #[.int .i64 s, .int .i64 n, .slice ma es.length mc] 24) = X) ∧ Hid (Below w.heap.size w X) ∧ Hid (Hp X w.heap.size 24 [.int .i64 s, .int .i64 n, .slice ma es.length mc]) := ⟨_, rfl, below_allocG _ _, Hp.new w _ _⟩
  have HMV : Hid (∀ wx, Below X.heap.size X wx → SeesG dfC 2 (0, 0) wx (.slice ma es.length mc) es) := fun wx hb => hm.below (HBX.out.trans (hb.mono HBX.out.size)) (Nat.le_refl _)
  have HQV : Hid (∀ wx, Below X.heap.size X wx → SeesG rtC 7 Rt.nil wx (.slice qa qs.length qc) qs) := fun wx hb => hs.below (HBX.out.trans (hb.mono HBX.out.size)) (Nat.le_refl _)
  have HCV : Hid (∀ wx, Below X.heap.size X wx → Sees .i64 wx cv cs) := fun wx hb => hc.below (HBX.out.trans (hb.mono HBX.out.size)) (Nat.le_refl _)
  have HWF := keepG hwf
  obtain ⟨ca, cc, ev⟩ := hc.shape
  subst ev
  have hcl : cs.length ≤ 9223372036854775807 := by obtain ⟨_, _, e, h1, h2, _⟩ := hc; unfold maxLen at h2; omega
  have HBC : Hid (∀ wx, Below X.heap.size X wx → wx.cell? ⟨w.heap.size, 0, none⟩ = some (.int .i64 s) ∧ wx.cell? ⟨w.heap.size, 1, none⟩ = some (.int .i64 n) ∧ wx.cell? ⟨w.heap.size, 2, none⟩ = some (.slice ma es.length mc)) := by
    intro wx hb
    have h := HPX.out.below hb HPX.out.lt
    exact ⟨h.cell (j := 0) rfl, h.cell (j := 1) rfl, h.cell (j := 2) rfl⟩
  have HEND : Hid (∀ wx, Below X.heap.size X wx → Below w.heap.size w wx) := fun wx hb => HBX.out.trans (hb.mono HBX.out.size)
  obtain ⟨nb, HNB⟩ : ∃ nb, Hid (w.heap.size = nb) := ⟨_, rfl⟩
  have HBC2 : Hid (∀ wx, Below X.heap.size X wx → wx.cell? ⟨nb, 0, none⟩ = some (.int .i64 s) ∧ wx.cell? ⟨nb, 1, none⟩ = some (.int .i64 n) ∧ wx.cell? ⟨nb, 2, none⟩ = some (.slice ma es.length mc)) := by rw [← HNB.out]; exact HBC.out
  clear hm hs hwf hc HBC
  go_enter Try.func4, Try.ntmps4
  cases hn : newO s n es with
  | none =>
    have HN := keepG hn
    clear hn
    go_wp2_with (first
      | (go_at_call 7; rw [HX.out, HNB.out]; go_must (refine (awake22_any X).mono ?_); rintro e w1 ⟨rfl, hb1⟩; go_must (have HB1 := keepG hb1; obtain ⟨c0, c1, c2⟩ := HBC2.out w1 hb1; clear hb1))
      | (go_at_call 8; go_must (refine (lonew_no s n w1 (HMV.out w1 HB1.out) HN).mono ?_); rintro e w2 ⟨rfl, hb2⟩; go_must (have HB2 := keepG (HB1.out.trans (hb2.mono HB1.out.size)); clear hb2)))
    go_ret
    exact ⟨rfl, HEND.out _ HB2.out⟩
  | some o =>
    have HN := keepG hn
    obtain ⟨hol, hov, hon, _⟩ := newO_line hn
    obtain ⟨hn4, hs4, he4, hok, hnn, hss, hst, hdl, hs0, hdf⟩ := newO_parts hn
    have HOL := keepG hol
    have HOV := keepG hov
    have HON := keepG hon
    have HOK := keepG hok
    have HNN := keepG hnn
    have HSS := keepG hss
    have HST := keepG hst
    have HDL := keepG hdl
    have HS0 := keepG hs0
    have HDF := keepG hdf
    clear hn hol hov hon hok hnn hss hst hdl hs0 hdf
    by_cases hlong : 2000 < qs.length
    · have hlI : (2000 : Int) < qs.length := by omega
      go_wp2_with (first
        | (go_at_call 7; rw [HX.out, HNB.out]; go_must (refine (awake22_any X).mono ?_); rintro e w1 ⟨rfl, hb1⟩; go_must (have HB1 := keepG hb1; obtain ⟨c0, c1, c2⟩ := HBC2.out w1 hb1; clear hb1))
        | (go_at_call 8; go_must (refine (lznew_ok s n HB1.out (HMV.out w1 HB1.out) HN).mono ?_); rintro e w2 ⟨a, F0, rfl, hL, _, _⟩; go_must (have HL2 := keepG hL; clear hL)))
      go_ret
      exact ⟨rfl, HEND.out _ HL2.out.be⟩
    have hlI : ¬ (2000 : Int) < qs.length := by omega
    go_wp2_with (first
      | (go_at_call 7; rw [HX.out, HNB.out]; go_must (refine (awake22_any X).mono ?_); rintro e w1 ⟨rfl, hb1⟩; go_must (have HB1 := keepG hb1; obtain ⟨c0, c1, c2⟩ := HBC2.out w1 hb1; clear hb1))
      | (go_at_call 8; go_must (refine (lznew_ok s n HB1.out (HMV.out w1 HB1.out) HN).mono ?_); rintro e w2 ⟨a, F0, rfl, hL, _, _⟩; go_must (have HL2 := keepG (Oz.start (ds := o.ds) (st := o.st) hL); clear hL)))
    clear HB1 hlI
    go_loopw [9, 10] (fun m i wr => ∃ (j : Nat) (vs : List Value) (Fs : Nat → Ft), j ≤ es.length ∧ i = .int .i64 j ∧ vs.length = j ∧ Hid (Oz X wr a o m vs o.ds o.st (.slice none 0 0) [] (.slice none 0 0) [] [] Fs)) (fun _ i _ => es.length - (intOf i).toNat)
    case atStart => exact ⟨0, [], _, by omega, rfl, rfl, HL2.out⟩
    case round =>
      clear HL2
      obtain ⟨j, vs, Fs, hj, rfl, hvl, HM⟩ := hrel
      rename World => wr
      obtain ⟨c0, c1, c2⟩ := HBC2.out wr HM.out.be
      obtain ⟨xa, xc, ev⟩ := HM.out.fm.shape
      subst ev
      by_cases hlt : j < es.length
      · have hltI : (j : Int) < es.length := by omega
        obtain ⟨p, off, ev, d0, d1⟩ := dfAt (HMV.out wr HM.out.be) hlt
        subst ev
        obtain ⟨e1, e2, e3, e4⟩ := HDF.out j hlt
        rw [e1] at d0
        rw [e2] at d1
        have HMK := keepG (lmake_ok (o.ds.getD j (false, 0)).1 (o.ds.getD j (false, 0)).2 e3 e4 wr)
        have HDJ : Hid (o.ds.getD vs.length (false, 0) = o.ds.getD j (false, 0)) := by show _ = _; rw [hvl]
        obtain ⟨d, HD⟩ : ∃ d, Hid (o.ds.getD j (false, 0) = d) := ⟨_, rfl⟩
        rw [HD.out] at HMK d0 d1 HDJ
        obtain ⟨kk, HKK⟩ : ∃ kk : Int, Hid ((if d.1 = true then (1 : Int) else 0) = kk) := ⟨_, rfl⟩
        rw [HKK.out] at HMK d0
        have hvb : vs.length ≤ 4 := by omega
        have HVL := keepG hvl
        clear e1 e2 e3 e4 hvl
        go_wp2_with (first
          | (go_at_call 23; go_must (refine HMK.out.mono ?_); rintro e w3 ⟨v, Fb, rfl, hL, hS, hb3⟩; go_must (obtain ⟨tv, uv, ev, -⟩ := hL.ifc; subst ev; have hnil : ∀ wx, (binOp .eql 69 (.iface tv uv) .nilIface).run Try.prog wx = .ok (.bool false) wx := (fun wx => by rfl); have HL3 := keepG hL; have HS3 := keepG hS; have HB3 := keepG hb3; have HR3 := keepG (own_below HM.out.fm.row hb3 (Nat.le_refl _)); clear hL hS hb3))
          | (at_builtin; go_must (refine wpList_append_own_at _ rfl (.tmp 77) (.tmp 79) 67 rfl X.heap.size 69 i1 _ 1 16 Try.underlying67 hi1 hz1 hzs1 hzb1 rfl (by decide) (.slice xa vs.length xc) vs.length (flatG ifC vs) rfl (HR3.out.alloc _) ⟨_, 0, none⟩ 1 1 (ifC (.iface tv uv)) rfl rfl (cells_new _ (ifC (.iface tv uv)) _ _ rfl) (if_one tv uv) (by unfold maxLen; omega) (by omega) (by have := HM.out.be.size; have := HB3.out.size; simp; omega) ?_); intro v4 w4 hown hgr _ hnew; go_must (have HM4 := keepG (HM.out.goFm' (HM.out.fm.more HS0.out HM.out.be.size HB3.out (by rw [HDJ.out]; exact HL3.out) HS3.out hown hgr hnew)); clear hown hgr hnew)))
        obtain ⟨Gs, hM4⟩ := HM4.out
        go_roundw
        case rel => exact ⟨j + 1, vs ++ [Value.iface tv uv], Gs, by omega, by go_num, by rw [List.length_append, HVL.out]; rfl, keepG hM4⟩
        case measure => simp [intOf]; omega
      · have hltI : ¬ (j : Int) < es.length := by omega
        obtain rfl : j = es.length := by omega
        have HVL := keepG hvl
        clear hj hlt hvl
        go_wp2
        go_loopw [13, 14, 15] (fun tv gv i wr => ∃ (j : Nat) (L : List Rt) (R : List (Ry × Value)) (o1 : On) (Fs : Nat → Ft), j ≤ qs.length ∧ i = .int .i64 j ∧ L.length ≤ j ∧ Hid (Oz X wr a o1 (.slice xa vs.length xc) vs o.ds o.st tv L gv R R Fs ∧ Pg o L (R.map Prod.fst) o1 ∧ ∀ q ∈ L, q.wf)) (fun _ _ i _ => qs.length - (intOf i).toNat)
        case atStart => exact ⟨0, [], [], o, Fs, Nat.zero_le _, rfl, Nat.le_refl _, HM.out, Pg.start HOL.out, by simp⟩
        case round =>
          clear HM
          obtain ⟨j, L, R, o1, Fs, hj, rfl, hLj, HC⟩ := hrel
          rename World => wr
          by_cases hlt : j < qs.length
          · have hltI : (j : Int) < qs.length := by omega
            obtain ⟨p, off, ev, hat⟩ := rtAt (HQV.out wr HC.out.1.be) hlt
            subst ev
            obtain ⟨q, HQ⟩ : ∃ q, Hid (qs.getD j Rt.nil = q) := ⟨_, rfl⟩
            obtain ⟨d0, d1, d2, d3, d4, d5, d6⟩ := hat j hlt q HQ.out
            have hqw := HWF.out _ (getD_memR2 qs j hlt)
            rw [HQ.out] at hqw
            have hRL := HC.out.2.1.le
            have hln := HC.out.2.1.ln
            have HZS : Hid ((o1.ln.length + [q].length) * 56 ≤ 140737488355328) := by show _ ≤ _; rw [hln, List.length_drop]; simp; omega
            obtain ⟨Z, HZ, hbZ, HSZ⟩ : ∃ Z, Hid (wr.alloc (.cells #[.int .i64 q.f, .int .i64 q.t, .bool q.wk, .int .i64 q.m, .int .i64 q.op, .int .u64 q.k, .int .u64 q.v] 45) = Z) ∧ Below wr.heap.size wr Z ∧ Hid (SeesG rtC 7 Rt.nil Z (.slice (some ⟨wr.heap.size, 0, none⟩) 1 1) [q]) := ⟨_, rfl, below_allocG _ _, lit_rts wr [q] (by simp)⟩
            have HCZ := keepG (HC.out.1.below hbZ)
            have HAZ := keepG (HC.out.1.own.aptN (α := Rt) (ws := [q]) (v := .slice (some ⟨wr.heap.size, 0, none⟩) 1 1) (fun k e => ft_litO e))
            have HW1 : Hid (∀ x ∈ [q], x.wf) := by intro x hx; rw [List.mem_singleton.1 hx]; exact hqw
            obtain ⟨hps, hpn⟩ := HC.out.2.1.send HOV.out q
            obtain ⟨ta, tc, ev⟩ := own_shape HC.out.1.tk
            subst ev
            clear hat hbZ
            cases ht : o.takes q with
            | true =>
              obtain ⟨o2, hsd, hpg⟩ := hps ht
              have HS1 := keepG hsd
              have HPG := keepG hpg
              clear ht hps hpn hsd hpg
              go_wp2_with (first
                | (go_at_call 10; rw [HZ.out]; go_must (refine (HCZ.out.own.send HZS HSZ.out HW1.out HAZ.out HS1).mono ?_); rintro e w5 ⟨rfl, F5, hL5, hn5⟩; go_must (have HC5 := keepG (HCZ.out.goOwn hL5 hn5); obtain ⟨p', off', ev, hat⟩ := rtAt (HQV.out w5 HC5.out.be) hlt; (have ev := Option.some.inj ev); (injection ev with ev1 ev2 _); subst ev1 ev2; obtain ⟨f0, f1, f2, f3, f4, f5, f6⟩ := hat j hlt q HQ.out; clear hL5 hn5 hat))
                | (at_builtin; go_must (refine wpList_append_own_at _ rfl (.tmp 95) (.tmp 100) 34 rfl X.heap.size 45 i0 _ 7 56 Try.underlying34 hi0 hz0 hzs hzb rfl (by decide) (.slice ta L.length tc) L.length (flatG rtC L) rfl (HC5.out.tk.alloc _) ⟨_, 0, none⟩ 1 1 (rtC q) rfl rfl (cells_new _ (rtC q) _ _ rfl) (rt_one q) (by unfold maxLen; omega) (by omega) (by have := HC5.out.be.size; simp; omega) ?_); intro v6 w6 hown hgr _ hnew; go_must (have HC6 := keepG (HC5.out.take (q := q) hown hgr hnew); obtain ⟨va, vc, ev⟩ := own_shape hown; subst ev; clear hown hgr hnew)))
              obtain ⟨Gs, hC6⟩ := HC6.out
              have HWL : Hid (∀ x ∈ L ++ [q], x.wf) := by
                intro x hx
                rcases List.mem_append.1 hx with g | g
                · exact HC.out.2.2 x g
                · exact HW1.out x g
              have HC7 : Hid (Oz X w6 a o2 (.slice xa vs.length xc) vs o.ds o.st (.slice va (L.length + 1) vc) (L ++ [q]) _ R R Gs ∧ Pg o (L ++ [q]) (R.map Prod.fst) o2) := ⟨hC6, HPG.out⟩
              have hLj2 : (L ++ [q]).length ≤ j + 1 := by simp; omega
              have hLE : L.length + 1 = (L ++ [q]).length := by simp
              rw [hLE] at HC7
              simp only [hLE]
              clear hC6 HC6 HC5 HCZ HC HPG hLj hRL hln hLE
              generalize L ++ [q] = L2 at *
              generalize o2 = o3 at *
              go_loopw [14, 16] (fun gv k wz => ∃ (z : Nat) (R : List (Ry × Value)) (o4 : On) (Hs : Nat → Ft), z ≤ 3 ∧ k = .int .i64 z ∧ Hid (Oz X wz a o4 (.slice xa vs.length xc) vs o.ds o.st (.slice va L2.length vc) L2 gv R R Hs ∧ Pg o L2 (R.map Prod.fst) o4)) (fun _ k _ => 3 - (intOf k).toNat)
              case atStart => exact ⟨0, R, o3, _, by omega, rfl, HC7.out⟩
              case round =>
                clear HC7
                obtain ⟨z, R, o4, Hs, hz, rfl, HD⟩ := hrel
                rename World => wz
                by_cases hjc : j < cs.length
                · have hjcI : (j : Int) < cs.length := by omega
                  have hjcd : decide ((j : Int) < cs.length) = true := by simpa using hjcI
                  obtain ⟨a', cap', ev, _, _, _, _, hcc⟩ := HCV.out wz HD.out.1.be
                  simp only [Value.slice.injEq] at ev
                  obtain ⟨rfl, -, rfl⟩ := ev
                  obtain ⟨pc, oc, ev, _, hat⟩ := hcc (fun e => by rw [e] at hjc; simp at hjc)
                  subst ev
                  have g0 := hat j hjc
                  obtain ⟨cj, HCJ⟩ : ∃ cj, Hid (cs.getD j 0 = cj) := ⟨_, rfl⟩
                  rw [HCJ.out] at g0
                  clear hat hcc
                  by_cases hzc : (z : Int) < cj
                  · have hzcd : decide ((z : Int) < cj) = true := by simpa using hzc
                    by_cases hz3 : z < 3
                    · have hz3I : (z : Int) < 3 := by omega
                      have hz3d : decide ((z : Int) < 3) = true := by simpa using hz3I
                      obtain ⟨ga, gc, ev⟩ := own_shape HD.out.1.gt
                      subst ev
                      have hRle := HD.out.2.le
                      rw [List.length_map] at hRle
                      have HZC : Hid (o4.ln.length * 56 ≤ 140737488355328) := by show _ ≤ _; rw [HD.out.2.ln, List.length_drop]; omega
                      by_cases hRL : R.length < L2.length
                      · obtain ⟨p, o5, hsp, hpg⟩ := HD.out.2.step (by rw [List.length_map]; exact hRL)
                        obtain ⟨q, x, ps⟩ := p
                        obtain ⟨qf, qt, qw, qm, qo, qk, qz⟩ := q
                        obtain ⟨xE, xf, xv, xo, xk, xu⟩ := x
                        have HSP := keepG hsp
                        have HPG := keepG hpg
                        clear hsp hpg
                        go_wp2_with (first
                | (go_at_call 13; go_must (refine (HD.out.1.own.step HZC HSP).mono ?_); rintro e w6 ⟨a6, c6, rfl, F6, hL6, hn6, hr6, ha6⟩; go_must (unfold rpV; obtain ⟨Gs6, hM6⟩ := HD.out.1.goRep (p := ⟨⟨qf, qt, qw, qm, qo, qk, qz⟩, ⟨xE, xf, xv, xo, xk, xu⟩, ps⟩) hL6 hn6 hr6 ha6; obtain ⟨W7, HW7, hb7, HP7⟩ : ∃ W7, Hid (w6.alloc (.cells (rpC ⟨⟨qf, qt, qw, qm, qo, qk, qz⟩, ⟨xE, xf, xv, xo, xk, xu⟩, ps⟩ (.slice a6 ps.length c6)).toArray 50) = W7) ∧ Below w6.heap.size w6 W7 ∧ Hid (Hp W7 w6.heap.size 50 (rpC ⟨⟨qf, qt, qw, qm, qo, qk, qz⟩, ⟨xE, xf, xv, xo, xk, xu⟩, ps⟩ (.slice a6 ps.length c6))) := ⟨_, rfl, below_allocG _ _, Hp.new w6 _ _⟩; have HM7 := keepG (hM6.below hb7); obtain ⟨⟨y0, y1, y2, y3, y4, y5, y6⟩, y7, y8, y9, y10, y11, y12, y13⟩ := rp_cells HP7.out; clear hL6 hn6 hr6 ha6 hM6 hb7))
                | (rw [HW7.out])
                | (at_builtin; go_must (refine wpList_append_own_at _ rfl (.tmp 126) (.tmp 128) 75 rfl X.heap.size 50 i2 _ 14 128 Try.underlying75 hi2 hz2 hzs2 hzb2 rfl (by decide) (.slice ga R.length gc) R.length (flatG rpG R) rfl (HM7.out.gt.alloc _) ⟨_, 0, none⟩ 1 1 (rpG (⟨⟨qf, qt, qw, qm, qo, qk, qz⟩, ⟨xE, xf, xv, xo, xk, xu⟩, ps⟩, .slice a6 ps.length c6)) rfl rfl (cells_new _ (rpG (⟨⟨qf, qt, qw, qm, qo, qk, qz⟩, ⟨xE, xf, xv, xo, xk, xu⟩, ps⟩, .slice a6 ps.length c6)) _ _ rfl) (rp_one _ _ _ _) (by unfold maxLen; omega) (by omega) (by have := HM7.out.be.size; simp; omega) ?_); intro v8 w8 hown hgr _ hnew; go_must (have HM8 := keepG (HM7.out.lay (x := (⟨⟨qf, qt, qw, qm, qo, qk, qz⟩, ⟨xE, xf, xv, xo, xk, xu⟩, ps⟩, .slice a6 ps.length c6)) hown hgr hnew); obtain ⟨va8, vc8, ev⟩ := own_shape hown; subst ev; clear hown hgr hnew)))
                        obtain ⟨Gs8, hM8⟩ := HM8.out
                        go_roundw
                        case rel => exact ⟨z + 1, R ++ [(⟨⟨qf, qt, qw, qm, qo, qk, qz⟩, ⟨xE, xf, xv, xo, xk, xu⟩, ps⟩, .slice a6 ps.length c6)], o5, Gs8, by omega, by go_num, hM8, by rw [List.map_append]; exact HPG.out⟩
                        case measure => simp [intOf]; omega
                      · obtain ⟨hsp, _⟩ := HD.out.2.stop (by rw [List.length_map]; exact hRL)
                        obtain ⟨p, HPN⟩ : ∃ p, Hid (Ry.nil = p) := ⟨_, rfl⟩
                        rw [HPN.out] at hsp
                        obtain ⟨q, x, ps⟩ := p
                        obtain ⟨qf, qt, qw, qm, qo, qk, qz⟩ := q
                        obtain ⟨xE, xf, xv, xo, xk, xu⟩ := x
                        have HSP := keepG hsp
                        clear hsp
                        go_wp2_with (go_at_call 13; go_must (refine (HD.out.1.own.step HZC HSP).mono ?_); rintro e w6 ⟨a6, c6, rfl, F6, hL6, hn6, _, _⟩; go_must (unfold rpV; obtain ⟨W7, HW7, hb7⟩ : ∃ W7, Hid (w6.alloc (.cells (rpC ⟨⟨qf, qt, qw, qm, qo, qk, qz⟩, ⟨xE, xf, xv, xo, xk, xu⟩, ps⟩ (.slice a6 ps.length c6)).toArray 50) = W7) ∧ Below w6.heap.size w6 W7 := ⟨_, rfl, below_allocG _ _⟩; have HM7 := keepG ((HD.out.1.goOwn hL6 hn6).below hb7); clear hL6 hn6 hb7))
                        rw [HW7.out]
                        go_roundw
                        case rel => exact ⟨z + 1, R, o4, _, by omega, by go_num, HM7.out, HD.out.2⟩
                        case measure => simp [intOf]; omega
                    · have hz3I : ¬ (z : Int) < 3 := by omega
                      have hz3d : decide ((z : Int) < 3) = false := by simpa using hz3I
                      go_wp2
                      go_roundw
                      case rel => exact ⟨j + 1, L2, R, o4, Hs, by omega, by go_num, hLj2, HD.out.1, HD.out.2, HWL.out⟩
                      case measure => simp [intOf]; omega
                  · have hzcd : decide ((z : Int) < cj) = false := by simpa using hzc
                    go_wp2
                    go_roundw
                    case rel => exact ⟨j + 1, L2, R, o4, Hs, by omega, by go_num, hLj2, HD.out.1, HD.out.2, HWL.out⟩
                    case measure => simp [intOf]; omega
                · have hjcI : ¬ (j : Int) < cs.length := by omega
                  have hjcd : decide ((j : Int) < cs.length) = false := by simpa using hjcI
                  go_wp2
                  go_roundw
                  case rel => exact ⟨j + 1, L2, R, o4, Hs, by omega, by go_num, hLj2, HD.out.1, HD.out.2, HWL.out⟩
                  case measure => simp [intOf]; omega
            | false =>
              have HS1 := keepG (hpn ht)
              clear ht hps hpn
              have HWL := keepG HC.out.2.2
              have HPG := keepG HC.out.2.1
              have hLj2 : L.length ≤ j + 1 := by omega
              go_wp2_with (go_at_call 10; rw [HZ.out]; go_must (refine (HCZ.out.own.send HZS HSZ.out HW1.out HAZ.out HS1).mono ?_); rintro e w5 ⟨rfl, F5, hL5, hn5⟩; go_must (have HC7 := keepG (And.intro (HCZ.out.goOwn hL5 hn5) HPG.out); clear hL5 hn5))
              clear HCZ HC HPG hLj hRL hln
              go_loopw [14, 16] (fun gv k wz => ∃ (z : Nat) (R : List (Ry × Value)) (o4 : On) (Hs : Nat → Ft), z ≤ 3 ∧ k = .int .i64 z ∧ Hid (Oz X wz a o4 (.slice xa vs.length xc) vs o.ds o.st (.slice ta L.length tc) L gv R R Hs ∧ Pg o L (R.map Prod.fst) o4)) (fun _ k _ => 3 - (intOf k).toNat)
              case atStart => exact ⟨0, R, o1, _, by omega, rfl, HC7.out⟩
              case round =>
                clear HC7
                obtain ⟨z, R, o4, Hs, hz, rfl, HD⟩ := hrel
                rename World => wz
                by_cases hjc : j < cs.length
                · have hjcI : (j : Int) < cs.length := by omega
                  have hjcd : decide ((j : Int) < cs.length) = true := by simpa using hjcI
                  obtain ⟨a', cap', ev, _, _, _, _, hcc⟩ := HCV.out wz HD.out.1.be
                  simp only [Value.slice.injEq] at ev
                  obtain ⟨rfl, -, rfl⟩ := ev
                  obtain ⟨pc, oc, ev, _, hat⟩ := hcc (fun e => by rw [e] at hjc; simp at hjc)
                  subst ev
                  have g0 := hat j hjc
                  obtain ⟨cj, HCJ⟩ : ∃ cj, Hid (cs.getD j 0 = cj) := ⟨_, rfl⟩
                  rw [HCJ.out] at g0
                  clear hat hcc
                  by_cases hzc : (z : Int) < cj
                  · have hzcd : decide ((z : Int) < cj) = true := by simpa using hzc
                    by_cases hz3 : z < 3
                    · have hz3I : (z : Int) < 3 := by omega
                      have hz3d : decide ((z : Int) < 3) = true := by simpa using hz3I
                      obtain ⟨ga, gc, ev⟩ := own_shape HD.out.1.gt
                      subst ev
                      have hRle := HD.out.2.le
                      rw [List.length_map] at hRle
                      have HZC : Hid (o4.ln.length * 56 ≤ 140737488355328) := by show _ ≤ _; rw [HD.out.2.ln, List.length_drop]; omega
                      by_cases hRL : R.length < L.length
                      · obtain ⟨p, o5, hsp, hpg⟩ := HD.out.2.step (by rw [List.length_map]; exact hRL)
                        obtain ⟨q, x, ps⟩ := p
                        obtain ⟨qf, qt, qw, qm, qo, qk, qz⟩ := q
                        obtain ⟨xE, xf, xv, xo, xk, xu⟩ := x
                        have HSP := keepG hsp
                        have HPG := keepG hpg
                        clear hsp hpg
                        go_wp2_with (first
                | (go_at_call 13; go_must (refine (HD.out.1.own.step HZC HSP).mono ?_); rintro e w6 ⟨a6, c6, rfl, F6, hL6, hn6, hr6, ha6⟩; go_must (unfold rpV; obtain ⟨Gs6, hM6⟩ := HD.out.1.goRep (p := ⟨⟨qf, qt, qw, qm, qo, qk, qz⟩, ⟨xE, xf, xv, xo, xk, xu⟩, ps⟩) hL6 hn6 hr6 ha6; obtain ⟨W7, HW7, hb7, HP7⟩ : ∃ W7, Hid (w6.alloc (.cells (rpC ⟨⟨qf, qt, qw, qm, qo, qk, qz⟩, ⟨xE, xf, xv, xo, xk, xu⟩, ps⟩ (.slice a6 ps.length c6)).toArray 50) = W7) ∧ Below w6.heap.size w6 W7 ∧ Hid (Hp W7 w6.heap.size 50 (rpC ⟨⟨qf, qt, qw, qm, qo, qk, qz⟩, ⟨xE, xf, xv, xo, xk, xu⟩, ps⟩ (.slice a6 ps.length c6))) := ⟨_, rfl, below_allocG _ _, Hp.new w6 _ _⟩; have HM7 := keepG (hM6.below hb7); obtain ⟨⟨y0, y1, y2, y3, y4, y5, y6⟩, y7, y8, y9, y10, y11, y12, y13⟩ := rp_cells HP7.out; clear hL6 hn6 hr6 ha6 hM6 hb7))
                | (rw [HW7.out])
                | (at_builtin; go_must (refine wpList_append_own_at _ rfl (.tmp 126) (.tmp 128) 75 rfl X.heap.size 50 i2 _ 14 128 Try.underlying75 hi2 hz2 hzs2 hzb2 rfl (by decide) (.slice ga R.length gc) R.length (flatG rpG R) rfl (HM7.out.gt.alloc _) ⟨_, 0, none⟩ 1 1 (rpG (⟨⟨qf, qt, qw, qm, qo, qk, qz⟩, ⟨xE, xf, xv, xo, xk, xu⟩, ps⟩, .slice a6 ps.length c6)) rfl rfl (cells_new _ (rpG (⟨⟨qf, qt, qw, qm, qo, qk, qz⟩, ⟨xE, xf, xv, xo, xk, xu⟩, ps⟩, .slice a6 ps.length c6)) _ _ rfl) (rp_one _ _ _ _) (by unfold maxLen; omega) (by omega) (by have := HM7.out.be.size; simp; omega) ?_); intro v8 w8 hown hgr _ hnew; go_must (have HM8 := keepG (HM7.out.lay (x := (⟨⟨qf, qt, qw, qm, qo, qk, qz⟩, ⟨xE, xf, xv, xo, xk, xu⟩, ps⟩, .slice a6 ps.length c6)) hown hgr hnew); obtain ⟨va8, vc8, ev⟩ := own_shape hown; subst ev; clear hown hgr hnew)))
                        obtain ⟨Gs8, hM8⟩ := HM8.out
                        go_roundw
                        case rel => exact ⟨z + 1, R ++ [(⟨⟨qf, qt, qw, qm, qo, qk, qz⟩, ⟨xE, xf, xv, xo, xk, xu⟩, ps⟩, .slice a6 ps.length c6)], o5, Gs8, by omega, by go_num, hM8, by rw [List.map_append]; exact HPG.out⟩
                        case measure => simp [intOf]; omega
                      · obtain ⟨hsp, _⟩ := HD.out.2.stop (by rw [List.length_map]; exact hRL)
                        obtain ⟨p, HPN⟩ : ∃ p, Hid (Ry.nil = p) := ⟨_, rfl⟩
                        rw [HPN.out] at hsp
                        obtain ⟨q, x, ps⟩ := p
                        obtain ⟨qf, qt, qw, qm, qo, qk, qz⟩ := q
                        obtain ⟨xE, xf, xv, xo, xk, xu⟩ := x
                        have HSP := keepG hsp
                        clear hsp
                        go_wp2_with (go_at_call 13; go_must (refine (HD.out.1.own.step HZC HSP).mono ?_); rintro e w6 ⟨a6, c6, rfl, F6, hL6, hn6, _, _⟩; go_must (unfold rpV; obtain ⟨W7, HW7, hb7⟩ : ∃ W7, Hid (w6.alloc (.cells (rpC ⟨⟨qf, qt, qw, qm, qo, qk, qz⟩, ⟨xE, xf, xv, xo, xk, xu⟩, ps⟩ (.slice a6 ps.length c6)).toArray 50) = W7) ∧ Below w6.heap.size w6 W7 := ⟨_, rfl, below_allocG _ _⟩; have HM7 := keepG ((HD.out.1.goOwn hL6 hn6).below hb7); clear hL6 hn6 hb7))
                        rw [HW7.out]
                        go_roundw
                        case rel => exact ⟨z + 1, R, o4, _, by omega, by go_num, HM7.out, HD.out.2⟩
                        case measure => simp [intOf]; omega
                    · have hz3I : ¬ (z : Int) < 3 := by omega
                      have hz3d : decide ((z : Int) < 3) = false := by simpa using hz3I
                      go_wp2
                      go_roundw
                      case rel => exact ⟨j + 1, L, R, o4, Hs, by omega, by go_num, hLj2, HD.out.1, HD.out.2, HWL.out⟩
                      case measure => simp [intOf]; omega
                  · have hzcd : decide ((z : Int) < cj) = false := by simpa using hzc
                    go_wp2
                    go_roundw
                    case rel => exact ⟨j + 1, L, R, o4, Hs, by omega, by go_num, hLj2, HD.out.1, HD.out.2, HWL.out⟩
                    case measure => simp [intOf]; omega
                · have hjcI : ¬ (j : Int) < cs.length := by omega
                  have hjcd : decide ((j : Int) < cs.length) = false := by simpa using hjcI
                  go_wp2
                  go_roundw
                  case rel => exact ⟨j + 1, L, R, o4, Hs, by omega, by go_num, hLj2, HD.out.1, HD.out.2, HWL.out⟩
                  case measure => simp [intOf]; omega
          · have hltI : ¬ (j : Int) < qs.length := by omega
            have hLq : L.length ≤ 2000 := by omega
            have HWL := keepG HC.out.2.2
            obtain ⟨ta, tc, ev⟩ := own_shape HC.out.1.tk
            subst ev
            go_wp2
            go_loopw [14] (fun gv wz => ∃ (R : List (Ry × Value)) (o4 : On) (Hs : Nat → Ft), Hid (Oz X wz a o4 (.slice xa vs.length xc) vs o.ds o.st (.slice ta L.length tc) L gv R R Hs ∧ Pg o L (R.map Prod.fst) o4)) (fun gv _ => L.length - slN gv)
            case atStart => exact ⟨R, o1, Fs, HC.out.1, HC.out.2.1⟩
            case round =>
              clear HC
              obtain ⟨R, o4, Hs, HD⟩ := hrel
              rename World => wz
              obtain ⟨ga, gc, ev⟩ := own_shape HD.out.1.gt
              subst ev
              have hRle := HD.out.2.le
              rw [List.length_map] at hRle
              have HZC : Hid (o4.ln.length * 56 ≤ 140737488355328) := by show _ ≤ _; rw [HD.out.2.ln, List.length_drop]; omega
              by_cases hRL : R.length < L.length
              · have hRLI : (R.length : Int) < L.length := by omega
                obtain ⟨p, o5, hsp, hpg⟩ := HD.out.2.step (by rw [List.length_map]; exact hRL)
                obtain ⟨q, x, ps⟩ := p
                obtain ⟨qf, qt, qw, qm, qo, qk, qz⟩ := q
                obtain ⟨xE, xf, xv, xo, xk, xu⟩ := x
                have HSP := keepG hsp
                have HPG := keepG hpg
                clear hsp hpg
                go_wp2_with (first
              | (go_at_call 13; go_must (refine (HD.out.1.own.step HZC HSP).mono ?_); rintro e w6 ⟨a6, c6, rfl, F6, hL6, hn6, hr6, ha6⟩; go_must (unfold rpV; obtain ⟨Gs6, hM6⟩ := HD.out.1.goRep (p := ⟨⟨qf, qt, qw, qm, qo, qk, qz⟩, ⟨xE, xf, xv, xo, xk, xu⟩, ps⟩) hL6 hn6 hr6 ha6; obtain ⟨W7, HW7, hb7, HP7⟩ : ∃ W7, Hid (w6.alloc (.cells (rpC ⟨⟨qf, qt, qw, qm, qo, qk, qz⟩, ⟨xE, xf, xv, xo, xk, xu⟩, ps⟩ (.slice a6 ps.length c6)).toArray 50) = W7) ∧ Below w6.heap.size w6 W7 ∧ Hid (Hp W7 w6.heap.size 50 (rpC ⟨⟨qf, qt, qw, qm, qo, qk, qz⟩, ⟨xE, xf, xv, xo, xk, xu⟩, ps⟩ (.slice a6 ps.length c6))) := ⟨_, rfl, below_allocG _ _, Hp.new w6 _ _⟩; have HM7 := keepG (hM6.below hb7); obtain ⟨⟨y0, y1, y2, y3, y4, y5, y6⟩, y7, y8, y9, y10, y11, y12, y13⟩ := rp_cells HP7.out; clear hL6 hn6 hr6 ha6 hM6 hb7))
              | (rw [HW7.out])
              | (at_builtin; go_must (refine wpList_append_own_at _ rfl (.tmp 142) (.tmp 144) 75 rfl X.heap.size 50 i2 _ 14 128 Try.underlying75 hi2 hz2 hzs2 hzb2 rfl (by decide) (.slice ga R.length gc) R.length (flatG rpG R) rfl (HM7.out.gt.alloc _) ⟨_, 0, none⟩ 1 1 (rpG (⟨⟨qf, qt, qw, qm, qo, qk, qz⟩, ⟨xE, xf, xv, xo, xk, xu⟩, ps⟩, .slice a6 ps.length c6)) rfl rfl (cells_new _ (rpG (⟨⟨qf, qt, qw, qm, qo, qk, qz⟩, ⟨xE, xf, xv, xo, xk, xu⟩, ps⟩, .slice a6 ps.length c6)) _ _ rfl) (rp_one _ _ _ _) (by unfold maxLen; omega) (by omega) (by have := HM7.out.be.size; simp; omega) ?_); intro v8 w8 hown hgr _ hnew; go_must (have HM8 := keepG (HM7.out.lay (x := (⟨⟨qf, qt, qw, qm, qo, qk, qz⟩, ⟨xE, xf, xv, xo, xk, xu⟩, ps⟩, .slice a6 ps.length c6)) hown hgr hnew); obtain ⟨va8, vc8, ev⟩ := own_shape hown; subst ev; clear hown hgr hnew)))
                obtain ⟨Gs8, hM8⟩ := HM8.out
                go_roundw
                case rel => exact ⟨R ++ [(⟨⟨qf, qt, qw, qm, qo, qk, qz⟩, ⟨xE, xf, xv, xo, xk, xu⟩, ps⟩, .slice a6 ps.length c6)], o5, Gs8, hM8, by rw [List.map_append]; exact HPG.out⟩
                case measure => simp [slN]; omega
              · have hRLI : ¬ (R.length : Int) < L.length := by omega
                obtain ⟨hsp, hln⟩ := HD.out.2.stop (by rw [List.length_map]; exact hRL)
                obtain ⟨p, HPN⟩ : ∃ p, Hid (Ry.nil = p) := ⟨_, rfl⟩
                rw [HPN.out] at hsp
                obtain ⟨q, x, ps⟩ := p
                obtain ⟨qf, qt, qw, qm, qo, qk, qz⟩ := q
                obtain ⟨xE, xf, xv, xo, xk, xu⟩ := x
                have HSP := keepG hsp
                have HLN := keepG hln
                have HPF := keepG HD.out.2
                have HRE : Hid (R.length = L.length) := by show _ = _; omega
                clear hsp hln
                go_wp2_with (first
                  | (go_at_call 13; go_must (refine (HD.out.1.own.step HZC HSP).mono ?_); rintro e w6 ⟨a6, c6, rfl, F6, hL6, hn6, _, _⟩; go_must (unfold rpV; obtain ⟨W7, HW7, hb7⟩ : ∃ W7, Hid (w6.alloc (.cells (rpC ⟨⟨qf, qt, qw, qm, qo, qk, qz⟩, ⟨xE, xf, xv, xo, xk, xu⟩, ps⟩ (.slice a6 ps.length c6)).toArray 50) = W7) ∧ Below w6.heap.size w6 W7 := ⟨_, rfl, below_allocG _ _⟩; have HM7 := keepG ((HD.out.1.goOwn hL6 hn6).below hb7); clear hL6 hn6 hb7))
                  | (rw [HW7.out])
                  | (go_at_call 21; go_must (refine (HM7.out.own.waiting HZC HLN).mono ?_); rintro e w8 ⟨a8, c8, rfl, _, hb8⟩; go_must (have HM8 := keepG (HM7.out.below hb8); clear hb8)))
                clear HM7 HD HPN HW7 HSP
                go_loopw [23] (fun i wz => ∃ (jj : Nat) (st : List Sr) (Hs : Nat → Ft), jj ≤ L.length ∧ i = .int .i64 jj ∧ Hid (Oz X wz a o4 (.slice xa vs.length xc) vs o.ds st (.slice ta L.length tc) L (.slice ga R.length gc) R R Hs ∧ st = (o.after (L.take jj)).st)) (fun i _ => L.length - (intOf i).toNat)
                case atStart => exact ⟨0, o.st, _, Nat.zero_le _, rfl, HM8.out, rfl⟩
                case round =>
                  clear HM8
                  obtain ⟨jj, st, Hs, hjj, rfl, HD⟩ := hrel
                  rename World => wz
                  by_cases hjt : jj < L.length
                  · have hjtI : (jj : Int) < L.length := by omega
                    obtain ⟨pt, ot, ev, hat⟩ := rtAt HD.out.1.tk.sees hjt
                    subst ev
                    have hmem := getD_memR2 L jj hjt
                    have htk := HPF.out.tk _ hmem
                    have hqw := HWL.out _ hmem
                    have hpat := HPF.out.at (i := jj) (by rw [List.length_map, HRE.out]; exact hjt)
                    have hta := take_atR L jj hjt
                    have hok2 := after_ok (L.take jj) HOK.out (fun x hx => HPF.out.tk x (List.mem_of_mem_take hx))
                    obtain ⟨as1, -, -, -, as5⟩ := after_same (L.take jj) o
                    have hsv := after_app (L.getD jj Rt.nil) (L.take jj) o
                    rw [← hta] at hsv
                    obtain ⟨q, HQ⟩ : ∃ q, Hid (L.getD jj Rt.nil = q) := ⟨_, rfl⟩
                    obtain ⟨d0, d1, d2, d3, d4, d5, d6⟩ := hat jj hjt q HQ.out
                    rw [HQ.out] at htk hqw hpat hsv
                    obtain ⟨k, hqm, hk, hof⟩ := On.takes_at htk
                    have hst2 := HD.out.2
                    obtain ⟨on, HON2⟩ : ∃ on, Hid (o.after (L.take jj) = on) := ⟨_, rfl⟩
                    rw [HON2.out] at hpat hok2 as1 as5 hsv hst2
                    obtain ⟨tf, tt, wk, tm, top, tk, tz⟩ := q
                    simp only at hqm d0 d1 d2 d3 d4 d5 d6 hof
                    subst hqm
                    have hkv : k < vs.length := by rw [HVL.out, ← HST.out]; exact hk
                    have hkst : k < st.length := by rw [hst2, as1]; exact hk
                    have hinv := hok2.inv k (by rw [as5, HDL.out, ← HST.out]; exact hk)
                    rw [as5, ← hst2] at hinv
                    have HINV := keepG hinv
                    have HKV := keepG hkv
                    have HKS := keepG hkst
                    have HSV := keepG hsv
                    have HQW := keepG hqw
                    have HST2 := keepG hst2
                    obtain ⟨gx, hgx, hgp⟩ : ∃ x, R[jj]? = some x ∧ x.1 = (on.serve ⟨tf, tt, wk, (k : Int), top, tk, tz⟩ []).1 := by
                      rw [List.getElem?_map] at hpat
                      obtain ⟨x, h1, h2⟩ := Option.map_eq_some_iff.1 hpat
                      exact ⟨x, h1, h2⟩
                    obtain ⟨gp, gu⟩ := gx
                    have hgp : gp = (on.serve ⟨tf, tt, wk, (k : Int), top, tk, tz⟩ []).1 := hgp
                    obtain ⟨pg, og, ev⟩ := got_addr HD.out.1.gt hgx
                    subst ev
                    obtain ⟨pm, om, ev⟩ := HD.out.1.fm.addr hkv
                    subst ev
                    have HXR := keepG hgx
                    have HGP := keepG hgp
                    have hjRI : (jj : Int) < R.length := by rw [HRE.out]; exact hjtI
                    have hkI : ¬ (k : Int) < 0 := by omega
                    have hkId : decide ((k : Int) < 0) = false := by simp
                    have hkL : ¬ (vs.length : Int) ≤ k := by omega
                    have hkLd : decide ((vs.length : Int) ≤ k) = false := by simpa using hkL
                    obtain ⟨W1, HW1, HP1, HB1, HZ1⟩ : ∃ W1, Hid (wz.alloc (.cells #[.int .i64 tf, .int .i64 tt, .bool wk, .int .i64 k, .int .i64 top, .int .u64 tk, .int .u64 tz] 45) = W1) ∧ Hid (Hp W1 wz.heap.size 45 (rtC ⟨tf, tt, wk, (k : Int), top, tk, tz⟩)) ∧ Hid (Below wz.heap.size wz W1) ∧ Hid (W1.heap.size = wz.heap.size + 1) := ⟨_, rfl, Hp.new wz _ _, below_allocG _ _, by show _ = _; simp⟩
                    obtain ⟨nq, HNQ⟩ : ∃ nq, Hid (wz.heap.size = nq) := ⟨_, rfl⟩
                    obtain ⟨W2, HW2, HP2, HB2, HZ2⟩ : ∃ W2, Hid (W1.alloc (.cells #[.int .i64 tf, .int .i64 tt, .bool wk, .int .i64 k, .int .i64 top, .int .u64 tk, .int .u64 tz, .int .i64 0, .bool false, .int .u64 0, .bool false, .int .u64 0, .int .u64 0, .slice none 0 0] 50) = W2) ∧ Hid (Hp W2 W1.heap.size 50 (rpC ⟨⟨tf, tt, wk, (k : Int), top, tk, tz⟩, Rq.none, []⟩ (.slice none 0 0))) ∧ Hid (Below W1.heap.size W1 W2) ∧ Hid (W2.heap.size = W1.heap.size + 1) := ⟨_, rfl, Hp.new W1 _ _, below_allocG _ _, by show _ = _; simp⟩
                    obtain ⟨nw, HNW⟩ : ∃ nw, Hid (W1.heap.size = nw) := ⟨_, rfl⟩
                    have HQ2 := keepG (HP1.out.below HB2.out HP1.out.lt)
                    rw [HNQ.out] at HP1 HQ2
                    rw [HNW.out] at HP2
                    have hnqw : ¬ nq = nw := by have := HZ1.out; have := HNQ.out; have := HNW.out; omega
                    have hnwq : ¬ nw = nq := fun e => hnqw e.symm
                    have HM2 := keepG ((HD.out.1.below HB1.out).below HB2.out)
                    have HNO : Hid (∀ i, i < 5 → ¬ Hs i nw) := HD.out.1.new (by have := HZ1.out; have := HNW.out; omega)
                    have HNOQ : Hid (∀ i, i < 5 → ¬ Hs i nq) := HD.out.1.new (by have := HNQ.out; omega)
                    have hXw := HD.out.1.be.size
                    have HX0 : Hid (X.heap.size ≤ nw) := by show _ ≤ _; have := HZ1.out; have := HNW.out; omega
                    have HNL : Hid (nw < W2.heap.size ∧ nq < W2.heap.size) := ⟨HP2.out.lt, HQ2.out.lt⟩
                    have HQC : Hid (∀ wx : World, Hp wx nq 45 (rtC ⟨tf, tt, wk, (k : Int), top, tk, tz⟩) → wx.cell? ⟨nq, 0, none⟩ = some (.int .i64 tf) ∧ wx.cell? ⟨nq, 1, none⟩ = some (.int .i64 tt) ∧ wx.cell? ⟨nq, 2, none⟩ = some (.bool wk) ∧ wx.cell? ⟨nq, 3, none⟩ = some (.int .i64 k) ∧ wx.cell? ⟨nq, 4, none⟩ = some (.int .i64 top) ∧ wx.cell? ⟨nq, 5, none⟩ = some (.int .u64 tk) ∧ wx.cell? ⟨nq, 6, none⟩ = some (.int .u64 tz)) := fun wx h => ⟨h.cell (j := 0) rfl, h.cell (j := 1) rfl, h.cell (j := 2) rfl, h.cell (j := 3) rfl, h.cell (j := 4) rfl, h.cell (j := 5) rfl, h.cell (j := 6) rfl⟩
                    obtain ⟨s0, s1, s2, s3, s4, s5, s6⟩ := HQC.out W1 HP1.out
                    obtain ⟨t0, t1, t2, t3, t4, t5, t6⟩ := HQC.out W2 HQ2.out
                    have HFR := keepG (fun (wx : World) (h : Hp wx nw 50 (rpC ⟨⟨tf, tt, wk, (k : Int), top, tk, tz⟩, Rq.none, []⟩ (.slice none 0 0))) (i : Nat) => h.frozen i)
                    have HAS5 := keepG as5
                    have HOF0 := keepG hof
                    clear hof
                    clear hat hmem htk hqw hpat hta hok2 as1 as5 hsv hst2 hinv hgx hgp hkst
                    cases wk with
                    | true =>
                      have HPX : Hid (gp = ⟨⟨tf, tt, true, (k : Int), top, tk, tz⟩, Rq.none, (st.getD k Sr.nil).1⟩) := by show _ = _; rw [HGP.out, HST2.out]; rfl
                      have HNX : Hid ((o.after (L.take (jj + 1))).st = st) := by show _ = _; rw [HSV.out, HST2.out]; rfl
                      rw [HPX.out] at HXR
                      obtain ⟨G, hSh, -⟩ := HM2.out.fm.at HKV.out
                      obtain ⟨it, iu, hiv, -⟩ := hSh.ifc
                      obtain ⟨f, x, hvia, hcall⟩ := hSh.pairs HINV.out.1 HINV.out.2
                      rw [hiv] at hvia
                      obtain ⟨hme, hfe⟩ := hvia.fix
                      have m0 := HM2.out.fm.cell HKV.out
                      rw [hiv] at m0
                      have HCP := keepG hcall
                      obtain ⟨S1, HS1⟩ : ∃ S1, Hid ((st.getD k Sr.nil).1 = S1) := ⟨_, rfl⟩
                      rw [HS1.out] at HPX HCP HXR
                      clear hSh hvia hcall hiv
                      go_wp2_with (first
                        | (rw [HW1.out, HNQ.out])
                        | (rw [HW2.out, HNW.out])
                        | (refine HCP.out.mono ?_; rintro e w5 ⟨u5, rfl, hr5, hb5⟩; go_must (have HM5 := keepG (HM2.out.below hb5); have HP5 := keepG (HP2.out.below hb5 HP2.out.lt); have HR5 := keepG hr5; have z13 : w5.cell? ⟨nw, 13, none⟩ = some (.slice none 0 0) := HP5.out.cell (j := 13) rfl; have zf := HP5.out.frozen 13; obtain ⟨ua, uc, ev⟩ := own_shape hr5; subst ev; clear hr5 hb5)))
                      obtain ⟨W6, HW6, HM6, HP6, HSU⟩ : ∃ W6, Hid (w5.setCell ⟨nw, 13, none⟩ (.slice ua S1.length uc) = W6) ∧ Hid (Oz X W6 a o4 (.slice (some ⟨pm, om, none⟩) vs.length xc) vs o.ds st (.slice (some ⟨pt, ot, none⟩) L.length tc) L (.slice (some ⟨pg, og, none⟩) R.length gc) R R Hs) ∧ Hid (Hp W6 nw 50 (rpC ⟨⟨tf, tt, true, (k : Int), top, tk, tz⟩, Rq.none, S1⟩ (.slice ua S1.length uc))) ∧ Hid (SeesG ppC 2 Pp.nil W6 (.slice ua S1.length uc) (⟨⟨tf, tt, true, (k : Int), top, tk, tz⟩, Rq.none, S1⟩ : Ry).ps) := ⟨_, rfl, HM5.out.set HNO.out HX0.out (Chg.set _ _ _ _), HP5.out.set 13 (.slice ua S1.length uc), own_seesG ppC_len Pp.nil (own_chg HR5.out (Chg.set w5 nw 13 (.slice ua S1.length uc)) (fun k hk e => by have := (HR5.out.lt k hk).1; have := HNL.out.1; omega))⟩
                      rw [HW6.out]
                      have HGW := keepG (got_at HM6.out.gt HXR.out)
                      have HRW : Hid (∀ wx : World, Hp wx nw 50 (rpC ⟨⟨tf, tt, true, (k : Int), top, tk, tz⟩, Rq.none, S1⟩ (.slice ua S1.length uc)) → wx.rangeAt nw 0 (rpC ⟨⟨tf, tt, true, (k : Int), top, tk, tz⟩, Rq.none, S1⟩ (.slice ua S1.length uc))) := fun wx h => h.range (fun i _ => by rw [Nat.zero_add])
                      have HSG : Hid (SeesG ppC 2 Pp.nil W6.drew gu (⟨⟨tf, tt, true, (k : Int), top, tk, tz⟩, Rq.none, S1⟩ : Ry).ps) := own_seesG ppC_len Pp.nil (HM6.out.ps (⟨⟨tf, tt, true, (k : Int), top, tk, tz⟩, Rq.none, S1⟩, gu) (List.mem_of_getElem? HXR.out))
                      have HMD := keepG (HM6.out.below (below_drG (Below.refl W6.heap.size W6)))
                      go_wp2
                      refine wp_region_held_drew (S := fun w' => w'.rangeAt pg (og + jj * 14) (rpC ⟨⟨tf, tt, true, (k : Int), top, tk, tz⟩, Rq.none, S1⟩ gu) ∧ w'.rangeAt nw 0 (rpC ⟨⟨tf, tt, true, (k : Int), top, tk, tz⟩, Rq.none, S1⟩ (.slice ua S1.length uc))) (by kernel_rfl) ⟨HGW.out, HRW.out _ HP6.out⟩ (fun hHeld => ?_)
                      refine tkGo [0, 1, 2] ?_
                      repeat (refine tkOne (v := ?_) rfl (by kernel_rfl) (by kernel_rfl) (by kernel_rfl) (fun _ _ _ h => h) (by assumption) (by rfl) ?_ ?_; rotate_left; (intro wy hSw; (try dsimp only at hSw); go_simp; (first | done | with_reducible rfl)); try simp only [Act.put, List.getElem_toArray, List.getElem_cons_zero, List.getElem_cons_succ, List.setIfInBounds_toArray, List.set_cons_zero, List.set_cons_succ])
                      refine tkEnd ?_
                      refine wpAnyH_take (i := 3) rfl (by kernel_rfl) (by kernel_rfl) (by kernel_rfl) (fun _ _ _ h => h) (yieldsIf_load_mid (by rfl) _ _ rfl _ _ rfl (rpC ⟨⟨tf, tt, true, (k : Int), top, tk, tz⟩, Rq.none, S1⟩ gu) _ (fun w h => h.1) Try.underlying50 rfl (by kernel_rfl)) (by assumption) ?_
                      try simp only [Act.put, List.getElem_toArray, List.getElem_cons_zero, List.getElem_cons_succ, List.setIfInBounds_toArray, List.set_cons_zero, List.set_cons_succ]
                      refine wpAnyH_take (i := 4) rfl (by kernel_rfl) (by kernel_rfl) (by kernel_rfl) (fun _ _ _ h => h) (yieldsIf_load_mid (by rfl) _ _ rfl _ _ rfl (rpC ⟨⟨tf, tt, true, (k : Int), top, tk, tz⟩, Rq.none, S1⟩ (.slice ua S1.length uc)) _ (fun w h => h.2) Try.underlying50 rfl (by kernel_rfl)) (by assumption) ?_
                      try simp only [Act.put, List.getElem_toArray, List.getElem_cons_zero, List.getElem_cons_succ, List.setIfInBounds_toArray, List.set_cons_zero, List.set_cons_succ]
                      refine wpAnyH_ready (rs := [5]) (by kernel_rfl) (by simp) ?_
                      refine AllReadyH.cons rfl (fun KK hK => ?_) AllReadyH.nil
                      rw [if_pos (by rfl)]
                      go_simp
                      go_at_call 15
                      refine (walike (p := ⟨⟨tf, tt, true, (k : Int), top, tk, tz⟩, Rq.none, S1⟩) HSG.out HSU.out.drew).mono ?_
                      rintro e w9 ⟨rfl, hb9⟩
                      have HM9 := keepG (HMD.out.below hb9)
                      have HP9 := keepG (Hp.below (w := W6.drew) HP6.out.drew hb9 HP6.out.drew.lt)
                      clear hb9
                      go_simp
                      refine hK.out _ _ ⟨got_at HM9.out.gt HXR.out, HRW.out _ HP9.out⟩ (fun hHeld => ?_)
                      clear hK KK
                      try simp only [Act.put, List.getElem_toArray, List.getElem_cons_zero, List.getElem_cons_succ, List.setIfInBounds_toArray, List.set_cons_zero, List.set_cons_succ]
                      refine tkGo [6] ?_
                      repeat (refine tkOne (v := ?_) rfl (by kernel_rfl) (by kernel_rfl) (by kernel_rfl) (fun _ _ _ h => h) (by assumption) (by rfl) ?_ ?_; rotate_left; (intro wy hSw; (try dsimp only at hSw); go_simp; (first | done | with_reducible rfl)); try simp only [Act.put, List.getElem_toArray, List.getElem_cons_zero, List.getElem_cons_succ, List.setIfInBounds_toArray, List.set_cons_zero, List.set_cons_succ])
                      refine tkEnd ?_
                      refine wpAnyH_done (by kernel_rfl) ?_ _
                      clear hHeld
                      go_wp2
                      go_roundw
                      case rel => exact ⟨jj + 1, st, _, by omega, by go_num, HM9.out, HNX.out.symm⟩
                      case measure => simp [intOf]; omega
                    | false =>
                      obtain ⟨x, s5, HDO⟩ : ∃ x s5, Hid (doSh (o.ds.getD k (false, 0)).1 (o.ds.getD k (false, 0)).2 (st.getD k Sr.nil) top tk tz = (x, s5)) := ⟨_, _, rfl⟩
                      have hdf : on.df (k : Int) = o.ds.getD k (false, 0) := by unfold On.df; rw [HAS5.out]; rfl
                      have hsr : on.sr (k : Int) = st.getD k Sr.nil := by unfold On.sr; rw [HST2.out]; rfl
                      have HPX : Hid (gp = ⟨⟨tf, tt, false, (k : Int), top, tk, tz⟩, x, []⟩) := by show _ = _; rw [HGP.out]; unfold On.serve; simp only [Bool.false_eq_true, if_false, hdf, hsr, HDO.out]
                      have HNX : Hid ((o.after (L.take (jj + 1))).st = st.set k s5) := by show _ = _; rw [HSV.out]; unfold On.serve; simp only [Bool.false_eq_true, if_false, hdf, hsr, HDO.out]; rw [HST2.out]; rfl
                      rw [HPX.out] at HXR
                      have HOF : Hid (ofL tk n = s) := by show _ = _; have h := HOF0.out rfl; rw [HNN.out, HSS.out, Int.toNat_of_nonneg (by omega), Int.toNat_of_nonneg (by omega)] at h; exact h
                      obtain ⟨b0, b1, -⟩ := HBC2.out W2 HM2.out.be
                      have hss : (s != s) = false := by simp
                      clear hdf hsr
                      go_wp2_with (first
                        | (rw [HW1.out, HNQ.out])
                        | (rw [HW2.out, HNW.out]))
                      refine wp_region_held_drew (S := fun w' => w'.cell? ⟨nq, 5, none⟩ = some (.int .u64 tk) ∧ w'.cell? ⟨nb, 1, none⟩ = some (.int .i64 n) ∧ w'.cell? ⟨nb, 0, none⟩ = some (.int .i64 s)) (by kernel_rfl) ⟨t5, b1, b0⟩ (fun hHeld => ?_)
                      refine tkGo [0, 1, 2, 3, 4, 6, 7] ?_
                      repeat (refine tkOne (v := ?_) rfl (by kernel_rfl) (by kernel_rfl) (by kernel_rfl) (fun _ _ _ h => h) (by assumption) (by rfl) ?_ ?_; rotate_left; (intro wy hSw; (try dsimp only at hSw); go_simp; (first | done | with_reducible rfl)); try simp only [Act.put, List.getElem_toArray, List.getElem_cons_zero, List.getElem_cons_succ, List.setIfInBounds_toArray, List.set_cons_zero, List.set_cons_succ])
                      refine tkEnd ?_
                      refine wpAnyH_ready (rs := [5]) (by kernel_rfl) (by simp) ?_
                      refine AllReadyH.cons rfl (fun KK hK => ?_) AllReadyH.nil
                      rw [if_pos (by rfl)]
                      go_simp
                      go_at_call 24
                      refine (lof_any tk n W2.drew HQW.out (by omega)).mono ?_
                      rintro e w4 ⟨rfl, rfl⟩
                      rw [HOF.out]
                      go_simp
                      refine hK.out _ _ ⟨t5, b1, b0⟩ (fun hHeld => ?_)
                      clear hK KK
                      try simp only [Act.put, List.getElem_toArray, List.getElem_cons_zero, List.getElem_cons_succ, List.setIfInBounds_toArray, List.set_cons_zero, List.set_cons_succ]
                      refine tkGo [8] ?_
                      repeat (refine tkOne (v := ?_) rfl (by kernel_rfl) (by kernel_rfl) (by kernel_rfl) (fun _ _ _ h => h) (by assumption) (by rfl) ?_ ?_; rotate_left; (intro wy hSw; (try dsimp only at hSw); go_simp; (first | done | with_reducible rfl)); try simp only [Act.put, List.getElem_toArray, List.getElem_cons_zero, List.getElem_cons_succ, List.setIfInBounds_toArray, List.set_cons_zero, List.set_cons_succ])
                      refine tkEnd ?_
                      refine wpAnyH_done (by kernel_rfl) ?_ _
                      clear hHeld
                      obtain ⟨W3, HW3, HM3, HQ3, HP3, HZ3⟩ : ∃ W3, Hid (W2.drew = W3) ∧ Hid (Oz X W3 a o4 (.slice (some ⟨pm, om, none⟩) vs.length xc) vs o.ds st (.slice (some ⟨pt, ot, none⟩) L.length tc) L (.slice (some ⟨pg, og, none⟩) R.length gc) R R Hs) ∧ Hid (Hp W3 nq 45 (rtC ⟨tf, tt, false, (k : Int), top, tk, tz⟩)) ∧ Hid (Hp W3 nw 50 (rpC ⟨⟨tf, tt, false, (k : Int), top, tk, tz⟩, Rq.none, []⟩ (.slice none 0 0))) ∧ Hid (W3.heap.size = W2.heap.size) := ⟨_, rfl, HM2.out.below (below_drG (Below.refl W2.heap.size W2)), HQ2.out.drew, HP2.out.drew, rfl⟩
                      rw [HW3.out]
                      obtain ⟨r0, r1, r2, r3, r4, r5, r6⟩ := HQC.out W3 HQ3.out
                      have HM4 := keepG (HM3.out.below (below_drG (Below.refl W3.heap.size W3)))
                      obtain ⟨G, hSh, hnx⟩ := HM4.out.fm.at HKV.out
                      obtain ⟨it, iu, hiv, hah⟩ := hSh.ifc
                      obtain ⟨f, xx, hvia, hcall⟩ := hSh.do_any top tk tz HINV.out.1 HINV.out.2 HM4.out.be.size HDO
                      have HNXT : Hid (∀ {w5 : World} {G' : Ft}, Sh w5 X.heap.size (vs.getD k .nilIface) (o.ds.getD k (false, 0)).1 (o.ds.getD k (false, 0)).2 s5 G' → Nx W3.drew w5 G G' → ∃ F', Fm X w5 (.slice (some ⟨pm, om, none⟩) vs.length xc) vs o.ds (st.set k s5) F' ∧ Nx W3.drew w5 (Hs 1) F') := fun h1 h2 => hnx h1 h2 HM4.out.be.size HKS.out
                      rw [hiv] at hvia
                      obtain ⟨hme, hfe⟩ := hvia.fix
                      have m0 := HM3.out.fm.cell HKV.out
                      rw [hiv] at m0
                      have HIV := keepG hiv
                      have HCD := keepG hcall
                      obtain ⟨xE, xf, xv, xo, xk, xu⟩ := x
                      simp only at HCD
                      clear hSh hvia hcall hiv hnx
                      go_wp2
                      refine wp_region_held_drew (S := fun w' => w'.cell? ⟨pm, om + k, none⟩ = some (.iface it iu) ∧ w'.cell? ⟨nq, 3, none⟩ = some (.int .i64 k) ∧ w'.cell? ⟨nq, 4, none⟩ = some (.int .i64 top) ∧ w'.cell? ⟨nq, 5, none⟩ = some (.int .u64 tk) ∧ w'.cell? ⟨nq, 6, none⟩ = some (.int .u64 tz)) (by kernel_rfl) ⟨m0, r3, r4, r5, r6⟩ (fun hHeld => ?_)
                      refine tkGo [0, 1, 2, 3, 4, 5, 6, 7, 8, 9, 10, 11, 12, 13, 14] ?_
                      repeat (refine tkOne (v := ?_) rfl (by kernel_rfl) (by kernel_rfl) (by kernel_rfl) (fun _ _ _ h => h) (by assumption) (by rfl) ?_ ?_; rotate_left; (intro wy hSw; (try dsimp only at hSw); go_simp; (first | done | with_reducible rfl)); try simp only [Act.put, List.getElem_toArray, List.getElem_cons_zero, List.getElem_cons_succ, List.setIfInBounds_toArray, List.set_cons_zero, List.set_cons_succ])
                      refine tkEnd ?_
                      refine wpAnyH_ready (rs := [15]) (by kernel_rfl) (by simp) ?_
                      refine AllReadyH.cons rfl (fun KK hK => ?_) AllReadyH.nil
                      rw [if_pos (by rfl)]
                      go_simp
                      refine HCD.out.mono ?_
                      rintro e w5 ⟨rfl, F5, hS5, hn5⟩
                      obtain ⟨F6, hF6, hN6⟩ := HNXT.out hS5 hn5
                      obtain ⟨Gs5, hM5, hno5⟩ := HM4.out.goDo ⟨F6, hF6, hN6⟩
                      have HM5 := keepG hM5
                      have HNO5 : Hid (∀ i, i < 5 → ¬ Gs5 i nw) := hno5 nw (by show nw < W3.heap.size; rw [HZ3.out]; exact HNL.out.1) HNO.out
                      have HP5 := keepG (Hp.chg (w := W3.drew) HP3.out.drew hN6.chg (HNO.out 1 (by omega)))
                      have HQ5 := keepG (Hp.chg (w := W3.drew) HQ3.out.drew hN6.chg (HNOQ.out 1 (by omega)))
                      have m5 := HM5.out.fm.cell HKV.out
                      rw [HIV.out] at m5
                      obtain ⟨-, -, -, v3, v4, v5, v6⟩ := HQC.out w5 HQ5.out
                      clear hS5 hn5 hF6 hN6 hM5 hno5
                      dsimp only [resG]
                      go_simp
                      refine hK.out _ _ ⟨m5, v3, v4, v5, v6⟩ (fun hHeld => ?_)
                      clear hK KK
                      try simp only [Act.put, List.getElem_toArray, List.getElem_cons_zero, List.getElem_cons_succ, List.setIfInBounds_toArray, List.set_cons_zero, List.set_cons_succ]
                      have z7 : w5.cell? ⟨nw, 7, none⟩ = some (.int .i64 0) := HP5.out.cell (j := 7) rfl
                      have z8 : w5.cell? ⟨nw, 8, none⟩ = some (.bool false) := HP5.out.cell (j := 8) rfl
                      have z9 : w5.cell? ⟨nw, 9, none⟩ = some (.int .u64 0) := HP5.out.cell (j := 9) rfl
                      have z10 : w5.cell? ⟨nw, 10, none⟩ = some (.bool false) := HP5.out.cell (j := 10) rfl
                      have z11 : w5.cell? ⟨nw, 11, none⟩ = some (.int .u64 0) := HP5.out.cell (j := 11) rfl
                      have z12 : w5.cell? ⟨nw, 12, none⟩ = some (.int .u64 0) := HP5.out.cell (j := 12) rfl
                      have y7 := HP5.out.frozen 7
                      have y8 := HP5.out.frozen 8
                      have y9 := HP5.out.frozen 9
                      have y10 := HP5.out.frozen 10
                      have y11 := HP5.out.frozen 11
                      have y12 := HP5.out.frozen 12
                      obtain ⟨W6, HW6, HM6, HP6, HQ6⟩ : ∃ W6, Hid ((((((w5.setCell ⟨nw, 7, none⟩ (.int .i64 xE)).setCell ⟨nw, 8, none⟩ (.bool xf)).setCell ⟨nw, 9, none⟩ (.int .u64 xv)).setCell ⟨nw, 10, none⟩ (.bool xo)).setCell ⟨nw, 11, none⟩ (.int .u64 xk)).setCell ⟨nw, 12, none⟩ (.int .u64 xu) = W6) ∧ Hid (Oz X W6 a o4 (.slice (some ⟨pm, om, none⟩) vs.length xc) vs o.ds (st.set k s5) (.slice (some ⟨pt, ot, none⟩) L.length tc) L (.slice (some ⟨pg, og, none⟩) R.length gc) R R Gs5) ∧ Hid (Hp W6 nw 50 (rpC ⟨⟨tf, tt, false, (k : Int), top, tk, tz⟩, ⟨xE, xf, xv, xo, xk, xu⟩, []⟩ (.slice none 0 0))) ∧ Hid (Hp W6 nq 45 (rtC ⟨tf, tt, false, (k : Int), top, tk, tz⟩)) := ⟨_, rfl, HM5.out.set HNO5.out HX0.out (Chg.sets w5 nw 7 (resCG xE xf xv xo xk xu)), HP5.out.sets (resCG xE xf xv xo xk xu) 7, HQ5.out.fars hnqw (resCG xE xf xv xo xk xu) 7⟩
                      have HSU : Hid (SeesG ppC 2 Pp.nil W6 (.slice none 0 0) (⟨⟨tf, tt, false, (k : Int), top, tk, tz⟩, ⟨xE, xf, xv, xo, xk, xu⟩, []⟩ : Ry).ps) := SeesG.nil Pp.nil _
                      have m6 := HM6.out.fm.cell HKV.out
                      rw [HIV.out] at m6
                      obtain ⟨-, -, -, e3, e4, e5, e6⟩ := HQC.out W6 HQ6.out
                      refine tkGo [16] ?_
                      repeat (refine tkOne (v := ?_) rfl (by kernel_rfl) (by kernel_rfl) (by kernel_rfl) (fun _ _ _ h => h) (by assumption) (by rfl) ?_ ?_; rotate_left; (intro wy hSw; (try dsimp only at hSw); go_simp; (first | done | with_reducible rfl)); try simp only [Act.put, List.getElem_toArray, List.getElem_cons_zero, List.getElem_cons_succ, List.setIfInBounds_toArray, List.set_cons_zero, List.set_cons_succ])
                      refine tkEnd ?_
                      refine wpAnyH_ready (rs := [17]) (by kernel_rfl) (by simp) ?_
                      refine AllReadyH.cons rfl (fun KK hK => ?_) AllReadyH.nil
                      rw [if_pos (by rfl)]
                      go_simp
                      rw [HW6.out]
                      refine hK.out _ _ ⟨m6, e3, e4, e5, e6⟩ (fun hHeld => ?_)
                      clear hK KK
                      try simp only [Act.put, List.getElem_toArray, List.getElem_cons_zero, List.getElem_cons_succ, List.setIfInBounds_toArray, List.set_cons_zero, List.set_cons_succ]
                      refine wpAnyH_done (by kernel_rfl) ?_ _
                      clear hHeld
                      have HGW := keepG (got_at HM6.out.gt HXR.out)
                      have HRW : Hid (∀ wx : World, Hp wx nw 50 (rpC ⟨⟨tf, tt, false, (k : Int), top, tk, tz⟩, ⟨xE, xf, xv, xo, xk, xu⟩, []⟩ (.slice none 0 0)) → wx.rangeAt nw 0 (rpC ⟨⟨tf, tt, false, (k : Int), top, tk, tz⟩, ⟨xE, xf, xv, xo, xk, xu⟩, []⟩ (.slice none 0 0))) := fun wx h => h.range (fun i _ => by rw [Nat.zero_add])
                      have HSG : Hid (SeesG ppC 2 Pp.nil W6.drew gu (⟨⟨tf, tt, false, (k : Int), top, tk, tz⟩, ⟨xE, xf, xv, xo, xk, xu⟩, []⟩ : Ry).ps) := own_seesG ppC_len Pp.nil (HM6.out.ps (⟨⟨tf, tt, false, (k : Int), top, tk, tz⟩, ⟨xE, xf, xv, xo, xk, xu⟩, []⟩, gu) (List.mem_of_getElem? HXR.out))
                      have HMD := keepG (HM6.out.below (below_drG (Below.refl W6.heap.size W6)))
                      go_wp2
                      refine wp_region_held_drew (S := fun w' => w'.rangeAt pg (og + jj * 14) (rpC ⟨⟨tf, tt, false, (k : Int), top, tk, tz⟩, ⟨xE, xf, xv, xo, xk, xu⟩, []⟩ gu) ∧ w'.rangeAt nw 0 (rpC ⟨⟨tf, tt, false, (k : Int), top, tk, tz⟩, ⟨xE, xf, xv, xo, xk, xu⟩, []⟩ (.slice none 0 0))) (by kernel_rfl) ⟨HGW.out, HRW.out _ HP6.out⟩ (fun hHeld => ?_)
                      refine tkGo [0, 1, 2] ?_
                      repeat (refine tkOne (v := ?_) rfl (by kernel_rfl) (by kernel_rfl) (by kernel_rfl) (fun _ _ _ h => h) (by assumption) (by rfl) ?_ ?_; rotate_left; (intro wy hSw; (try dsimp only at hSw); go_simp; (first | done | with_reducible rfl)); try simp only [Act.put, List.getElem_toArray, List.getElem_cons_zero, List.getElem_cons_succ, List.setIfInBounds_toArray, List.set_cons_zero, List.set_cons_succ])
                      refine tkEnd ?_
                      refine wpAnyH_take (i := 3) rfl (by kernel_rfl) (by kernel_rfl) (by kernel_rfl) (fun _ _ _ h => h) (yieldsIf_load_mid (by rfl) _ _ rfl _ _ rfl (rpC ⟨⟨tf, tt, false, (k : Int), top, tk, tz⟩, ⟨xE, xf, xv, xo, xk, xu⟩, []⟩ gu) _ (fun w h => h.1) Try.underlying50 rfl (by kernel_rfl)) (by assumption) ?_
                      try simp only [Act.put, List.getElem_toArray, List.getElem_cons_zero, List.getElem_cons_succ, List.setIfInBounds_toArray, List.set_cons_zero, List.set_cons_succ]
                      refine wpAnyH_take (i := 4) rfl (by kernel_rfl) (by kernel_rfl) (by kernel_rfl) (fun _ _ _ h => h) (yieldsIf_load_mid (by rfl) _ _ rfl _ _ rfl (rpC ⟨⟨tf, tt, false, (k : Int), top, tk, tz⟩, ⟨xE, xf, xv, xo, xk, xu⟩, []⟩ (.slice none 0 0)) _ (fun w h => h.2) Try.underlying50 rfl (by kernel_rfl)) (by assumption) ?_
                      try simp only [Act.put, List.getElem_toArray, List.getElem_cons_zero, List.getElem_cons_succ, List.setIfInBounds_toArray, List.set_cons_zero, List.set_cons_succ]
                      refine wpAnyH_ready (rs := [5]) (by kernel_rfl) (by simp) ?_
                      refine AllReadyH.cons rfl (fun KK hK => ?_) AllReadyH.nil
                      rw [if_pos (by rfl)]
                      go_simp
                      go_at_call 15
                      refine (walike (p := ⟨⟨tf, tt, false, (k : Int), top, tk, tz⟩, ⟨xE, xf, xv, xo, xk, xu⟩, []⟩) HSG.out HSU.out.drew).mono ?_
                      rintro e w9 ⟨rfl, hb9⟩
                      have HM9 := keepG (HMD.out.below hb9)
                      have HP9 := keepG (Hp.below (w := W6.drew) HP6.out.drew hb9 HP6.out.drew.lt)
                      clear hb9
                      go_simp
                      refine hK.out _ _ ⟨got_at HM9.out.gt HXR.out, HRW.out _ HP9.out⟩ (fun hHeld => ?_)
                      clear hK KK
                      try simp only [Act.put, List.getElem_toArray, List.getElem_cons_zero, List.getElem_cons_succ, List.setIfInBounds_toArray, List.set_cons_zero, List.set_cons_succ]
                      refine tkGo [6] ?_
                      repeat (refine tkOne (v := ?_) rfl (by kernel_rfl) (by kernel_rfl) (by kernel_rfl) (fun _ _ _ h => h) (by assumption) (by rfl) ?_ ?_; rotate_left; (intro wy hSw; (try dsimp only at hSw); go_simp; (first | done | with_reducible rfl)); try simp only [Act.put, List.getElem_toArray, List.getElem_cons_zero, List.getElem_cons_succ, List.setIfInBounds_toArray, List.set_cons_zero, List.set_cons_succ])
                      refine tkEnd ?_
                      refine wpAnyH_done (by kernel_rfl) ?_ _
                      clear hHeld
                      go_wp2
                      go_roundw
                      case rel => exact ⟨jj + 1, (st.set k s5), _, by omega, by go_num, HM9.out, HNX.out.symm⟩
                      case measure => simp [intOf]; omega
                  · have hjtI : ¬ (jj : Int) < L.length := by omega
                    have HE1 : Hid (o4.end = (0, ⟨o4.sh, o4.n, o4.ds, o4.st, o4.ln, true⟩)) := by show _ = _; unfold On.end; rw [if_pos HLN.out]
                    have HE2 : Hid ((⟨o4.sh, o4.n, o4.ds, o4.st, o4.ln, true⟩ : On).send [] = (43, ⟨o4.sh, o4.n, o4.ds, o4.st, o4.ln, true⟩)) := by show _ = _; unfold On.send; rw [if_pos rfl]
                    have HE3 : Hid (((⟨o4.sh, o4.n, o4.ds, o4.st, o4.ln, true⟩ : On).ln.length + ([] : List Rt).length) * 56 ≤ 140737488355328) := HZC.out
                    go_wp2_with (first
                      | (go_at_call 16; go_must (refine (HD.out.1.own.endd HE1).mono ?_); rintro e w6 ⟨rfl, F6, hL6, hn6⟩; go_must (have HL6 := keepG hL6; clear hL6 hn6))
                      | (go_at_call 22; go_must (refine HL6.out.ended.mono ?_); rintro e w7 ⟨rfl, rfl⟩)
                      | (go_at_call 10; go_must (refine (HL6.out.send HE3 (SeesG.nil Rt.nil w6) (by simp) (fun h => absurd rfl h) HE2).mono ?_); rintro e w8 ⟨rfl, F8, hL8, hn8⟩; go_must (have HL8 := keepG hL8; clear hL8 hn8)))
                    go_ret
                    exact ⟨rfl, HEND.out _ HL8.out.be⟩
/-- OwnerOrders. -/
theorem ownerOrders_walk (s n : Int) (mv : Value) (es : List (Int × Int)) (qv : Value) (qs : List Rt) (cv : Value) (cs : List Int) (w : World) (hm : SeesG dfC 2 (0, 0) w mv es) (_ : es.length * 16 ≤ 140737488351232) (hs : Rqs w qv qs) (_ : qs.length * 56 ≤ 140737488351232 ∧ ∀ x ∈ qs, True) (hc : Sees .i64 w cv cs) (_ : cs.length * 8 ≤ 140737488351232) :
    Calls Try.prog 4 #[shV s n mv, qv, cv] w fun e w' => e = .returned (.bool true) ∧ Below w.heap.size w w' := ownerOrders_ok s n mv es qv qs cv cs w hm hs.sees hs.wf hc
end Go.Proofs.Ytpbfgebecgikjaa
