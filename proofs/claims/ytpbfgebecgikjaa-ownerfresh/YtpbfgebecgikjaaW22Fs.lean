
/-
  OwnerFresh, walked. Condition: none but the arguments' reading.
-/
import Derived.Test.YtpbfgebecgikjaaW22Row
namespace Go.Proofs.Ytpbfgebecgikjaa
open Go.RowKit
set_option linter.unusedVariables false
set_option linter.unusedSimpArgs false
set_option maxRecDepth 100000
theorem newO_sr {sh n : Int} {es : List (Int × Int)} {o : On} (h : newO sh n es = some o) (m : Int) : (o.sr m).1 = [] := by
  obtain ⟨_, _, _, ds, h1, rfl, _⟩ := newO_some h
  show ((List.replicate ds.length Sr.nil).getD m.toNat Sr.nil).1 = []
  simp only [List.getD, List.getElem?_replicate]
  split <;> rfl
set_option maxHeartbeats 25600000 in
theorem ownerFresh_ok (s n : Int) (mv : Value) (es : List (Int × Int)) (qv : Value) (qs : List Rt) (w : World) (hm : SeesG dfC 2 (0, 0) w mv es) (hs : SeesG rtC 7 Rt.nil w qv qs) (hwf : ∀ q ∈ qs, q.wf) (hlen : qs.length * 56 ≤ 140737488351232) :
    Calls Try.prog 5 #[shV s n mv, qv] w fun e w' => e = .returned (.bool true) ∧ Below w.heap.size w w' := by
  have HWF := keepG hwf
  have HMW := keepG (fun (wx : World) (hb : Below w.heap.size w wx) => hm.below hb (Nat.le_refl _))
  have HQW := keepG (fun (wx : World) (hb : Below w.heap.size w wx) => hs.below hb (Nat.le_refl _))
  obtain ⟨ma, mc, ev, hml, hmm⟩ := hm.shape
  subst ev
  obtain ⟨qa, qc, ev, hql, hqm⟩ := hs.shape
  subst ev
  obtain ⟨i0, hi0, hz0, hzs, hzb⟩ := info_parts infoRt
  obtain ⟨X, HX, HBX, HPX⟩ : ∃ X, Hid (w.alloc (.cells #[.int .i64 s, .int .i64 n, .slice ma es.length mc] 24) = X) ∧ Hid (Below w.heap.size w X) ∧ Hid (Hp X w.heap.size 24 [.int .i64 s, .int .i64 n, .slice ma es.length mc]) := ⟨_, rfl, below_allocG _ _, Hp.new w _ _⟩
  have HMV : Hid (∀ wx, Below X.heap.size X wx → SeesG dfC 2 (0, 0) wx (.slice ma es.length mc) es) := fun wx hb => HMW.out wx (HBX.out.trans (hb.mono HBX.out.size))
  have HQV : Hid (∀ wx, Below X.heap.size X wx → SeesG rtC 7 Rt.nil wx (.slice qa qs.length qc) qs) := fun wx hb => HQW.out wx (HBX.out.trans (hb.mono HBX.out.size))
  obtain ⟨nb, HNB⟩ : ∃ nb, Hid (w.heap.size = nb) := ⟨_, rfl⟩
  rw [HNB.out] at HPX
  have HBC2 : Hid (∀ wx, Below X.heap.size X wx → wx.cell? ⟨nb, 0, none⟩ = some (.int .i64 s) ∧ wx.cell? ⟨nb, 1, none⟩ = some (.int .i64 n) ∧ wx.cell? ⟨nb, 2, none⟩ = some (.slice ma es.length mc)) := by
    intro wx hb
    have h := HPX.out.below hb HPX.out.lt
    exact ⟨h.cell (j := 0) rfl, h.cell (j := 1) rfl, h.cell (j := 2) rfl⟩
  clear hm hs hwf HMW HQW
  go_enter Try.func5, Try.ntmps5
  cases hn : newO s n es with
  | none =>
    have HN := keepG hn
    clear hn
    go_wp2_with (first
      | (go_at_call 7; rw [HX.out, HNB.out]; go_must (refine (awake22_any X).mono ?_); rintro e w1 ⟨rfl, hb1⟩; go_must (have HB1 := keepG hb1; obtain ⟨c0, c1, c2⟩ := HBC2.out w1 hb1; clear hb1))
      | (have hq := HB2; clear hq; go_at_call 8; go_must (refine (lonew_no s n w2 (HMV.out w2 HB2.out) HN).mono ?_); rintro e w3 ⟨rfl, hb3⟩; go_must (have HB3 := keepG (HB2.out.trans (hb3.mono HB2.out.size)); clear hb3))
      | (go_at_call 8; go_must (refine (lonew_no s n w1 (HMV.out w1 HB1.out) HN).mono ?_); rintro e w2 ⟨rfl, hb2⟩; go_must (have HB2 := keepG (HB1.out.trans (hb2.mono HB1.out.size)); obtain ⟨c20, c21, c22⟩ := HBC2.out w2 HB2.out; clear hb2)))
    go_ret
    exact ⟨rfl, HBX.out.trans (HB3.out.mono HBX.out.size)⟩
  | some o =>
    have HN := keepG hn
    obtain ⟨hol, hov, hon, hst⟩ := newO_line hn
    have HOL := keepG hol
    have HOV := keepG hov
    have HON := keepG hon
    have HOS := keepG hst
    have HSR := keepG (newO_sr hn)
    clear hn hol hov hon hst
    go_wp2_with (first
      | (go_at_call 7; rw [HX.out, HNB.out]; go_must (refine (awake22_any X).mono ?_); rintro e w1 ⟨rfl, hb1⟩; go_must (have HB1 := keepG hb1; obtain ⟨c0, c1, c2⟩ := HBC2.out w1 hb1; clear hb1))
      | (have hq := HL2; clear hq; go_at_call 8; go_must (refine (lznew_ok s n HL2.out.be (HMV.out w2 HL2.out.be) HN).mono ?_); rintro e w3 ⟨b, G0, rfl, hL, hS, hb⟩; go_must (have HL3 : Hid (L2 X w3 a b F0 G0 o o) := ⟨HL2.out.below hb, hL, Apt.made HL2.out.lies hS⟩; clear hL hS hb))
      | (go_at_call 8; go_must (refine (lznew_ok s n HB1.out (HMV.out w1 HB1.out) HN).mono ?_); rintro e w2 ⟨a, F0, rfl, hL, _, hb2⟩; go_must (have HL2 := keepG hL; obtain ⟨c20, c21, c22⟩ := HBC2.out w2 (HB1.out.trans (hb2.mono HB1.out.size)); clear hL hb2)))
    clear HL2 HB1
    obtain ⟨T, HT⟩ : ∃ T, Hid (o.takes = T) := ⟨_, rfl⟩
    go_loopw [9] (fun i wr => ∃ j : Nat, j ≤ qs.length ∧ j ≤ 500 ∧ i = .int .i64 j ∧ ∃ F, Hid (L2 X wr a b F G0 (o.line ((qs.take j).filter T)) o)) (fun i _ => qs.length - (intOf i).toNat)
    case atStart => exact ⟨0, by omega, by omega, rfl, F0, by rw [show o.line ((qs.take 0).filter T) = o from HOL.out]; exact HL3.out⟩
    case round =>
      clear HL3
      obtain ⟨j, hj, hj5, rfl, F, HM⟩ := hrel
      rename World => wr
      have hfl : ((qs.take j).filter T).length ≤ j := by have := List.length_filter_le T (qs.take j); simp at this; omega
      obtain ⟨L, HL⟩ : ∃ L, Hid ((qs.take j).filter T = L) := ⟨_, rfl⟩
      rw [HL.out] at hfl HM
      by_cases hlt : j < qs.length
      · have hltI : (j : Int) < qs.length := by omega
        by_cases hj3 : j < 500
        · have hj3I : (j : Int) < 500 := by omega
          obtain ⟨p, off, ev, hat⟩ := rtAt (HQV.out wr HM.out.la.be) hlt
          subst ev
          obtain ⟨q, HQ⟩ : ∃ q, Hid (qs.getD j Rt.nil = q) := ⟨_, rfl⟩
          obtain ⟨d0, d1, d2, d3, d4, d5, d6⟩ := hat j hlt q HQ.out
          have hqw := HWF.out _ (getD_memR2 qs j hlt)
          have hft := filter_take (T := T) hlt
          rw [HQ.out] at hqw hft
          rw [HL.out] at hft
          have hso := send_one HOV.out L q
          rw [HT.out] at hso
          obtain ⟨E, o', HS1, HF1⟩ : ∃ E o', Hid ((o.line L).send [q] = (E, o')) ∧ Hid (o' = o.line ((qs.take (j + 1)).filter T)) := by
            refine ⟨_, _, rfl, ?_⟩
            show ((o.line L).send [q]).2 = _
            rw [hso, hft]
            split <;> rfl
          have HZS : Hid (((o.line L).ln.length + [q].length) * 56 ≤ 140737488355328) := by show (L.length + 1) * 56 ≤ _; omega
          obtain ⟨Z, HZ, hbZ, HSZ⟩ : ∃ Z, Hid (wr.alloc (.cells #[.int .i64 q.f, .int .i64 q.t, .bool q.wk, .int .i64 q.m, .int .i64 q.op, .int .u64 q.k, .int .u64 q.v] 45) = Z) ∧ Below wr.heap.size wr Z ∧ Hid (SeesG rtC 7 Rt.nil Z (.slice (some ⟨wr.heap.size, 0, none⟩) 1 1) [q]) := ⟨_, rfl, below_allocG _ _, lit_rts wr [q] (by simp)⟩
          have HMZ := keepG (HM.out.below hbZ)
          have HAZ := keepG (HM.out.la.aptN (α := Rt) (ws := [q]) (v := .slice (some ⟨wr.heap.size, 0, none⟩) 1 1) (fun k e => ft_litO e))
          have HW1 : Hid (∀ x ∈ [q], x.wf) := by intro x hx; rw [List.mem_singleton.1 hx]; exact hqw
          clear hat hft hso hbZ HM
          go_wp2_with (go_at_call 10; rw [HZ.out]; go_must (refine (HMZ.out.la.send HZS HSZ.out HW1.out HAZ.out HS1).mono ?_); rintro e w5 ⟨rfl, F5, hL5, hn5⟩; go_must (have HM5 := keepG (HMZ.out.goA hL5 hn5); clear hL5 hn5))
          go_roundw
          case rel => exact ⟨j + 1, by omega, by omega, by go_num, F5, by rw [← HF1.out]; exact HM5.out⟩
          case measure => simp [intOf]; omega
        · have hj3I : ¬ (j : Int) < 500 := by omega
          have HLL : Hid ((o.line L).ln = L) := rfl
          have hL5 : L.length ≤ 500 := by omega
          have HZW : Hid ((o.line L).ln.length * 56 ≤ 140737488355328) := by show L.length * 56 ≤ _; omega
          have HZ0 : Hid (o.ln.length * 56 ≤ 140737488355328) := by show _ ≤ _; rw [HON.out]; simp
          have hw1 : IntKind.i64.wrap ((L.length : Int) + 1) = (L.length : Int) + 1 := by rw [IntKind.wrap_i64]; omega
          go_wp2_with (first
            | (have hq := HM2; clear hq; go_at_call 21; go_must (refine (HM2.out.la.waiting HZW HLL).mono ?_); rintro e w3 ⟨a3, c3, rfl, hr3, hb3⟩; go_must (have HM3 := keepG (HM2.out.below hb3); have HA3 := keepG ((HA1.out.below hb1b).below hb3); have HC3 := keepG hr3; have HB12 := keepG hb1b; have HZ23 := keepG hb3.size; clear hb1b hb3 hr3))
            | (have hq := HM1; clear hq; go_at_call 21; go_must (refine (HM1.out.lb.waiting HZ0 HON).mono ?_); rintro e w2 ⟨a2, c2, rfl, -, hb1b⟩; go_must (have HM2 := keepG (HM1.out.below hb1b)))
            | (go_at_call 21; go_must (refine (HM.out.la.waiting HZW HLL).mono ?_); rintro e w1 ⟨a1, c1, rfl, hr1, hb1⟩; go_must (have HM1 := keepG (HM.out.below hb1); have HA1 := keepG hr1; have HZ01 := keepG hb1.size; clear hb1 hr1)))
          have HB12' := HB12.out.size
          have HAF : Hid (Apt (ftV (.slice a1 L.length c1)) F ∧ Apt (ftV (.slice a1 L.length c1)) G0 ∧ Apt (ftV (.slice a1 L.length c1)) (ftV (.slice a3 L.length c3)) ∧ Since X (ftV (.slice a1 L.length c1))) := by
            refine ⟨fun k e1 e2 => ?_, fun k e1 e2 => ?_, fun k e1 e2 => ?_, fun k e1 => ?_⟩
            · have := (HA1.out.lt k e1).1; have := HM.out.la.lies k e2; omega
            · have := (HA1.out.lt k e1).1; have := HM.out.lb.lies k e2; omega
            · have := (HA1.out.lt k e1).2; have := (HC3.out.lt k e2).1; omega
            · have := (HA1.out.lt k e1).1; have := HM.out.la.be.size; omega
          have HWR3 : Hid (wr.heap.size ≤ w3.heap.size) := Nat.le_trans HZ01.out (Nat.le_trans HB12' HZ23.out)
          clear HM1 HM2 HA1 HB12 HB12' HM HZ23 HZ01
          go_loopw [12] (fun i wz => ∃ (z : Nat) (Y : List Rt), z ≤ L.length ∧ i = .int .i64 z ∧ Hid (Y.length = L.length ∧ RoRt wz wr.heap.size (.slice a1 L.length c1) Y ∧ RoRt wz w2.heap.size (.slice a3 L.length c3) L ∧ L2 X wz a b F G0 (o.line L) o) ∧ Hid (wr.heap.size ≤ wz.heap.size)) (fun i _ => L.length - (intOf i).toNat)
          case atStart => exact ⟨0, L, by omega, rfl, ⟨rfl, HA3.out, HC3.out, HM3.out⟩, HWR3.out⟩
          case round =>
            clear HA3 HC3 HM3
            obtain ⟨z, Y, hz, rfl, HY, HWZ⟩ := hrel
            rename World => wz
            by_cases hzt : z < L.length
            · have hztI : (z : Int) < L.length := by omega
              have hYz : z < Y.length := by have := HY.out.1; omega
              have HOR : Hid (wz.ownsRow wr.heap.size 45 7 (.slice a1 L.length c1) L.length (flatG rtC Y)) := by have h5 := HY.out.2.1; unfold RoRt at h5; rw [HY.out.1] at h5; exact h5
              obtain ⟨g, cap, ev, hg1, hg2, hcap, hcm, hat⟩ := own_atG rtC_len Rt.nil HY.out.2.1 (by omega)
              rw [HY.out.1] at ev
              simp only [Value.slice.injEq, true_and] at ev
              obtain ⟨rfl, rfl⟩ := ev
              have g0 := hat z hYz 0 (by omega)
              have g1 := hat z hYz 1 (by omega)
              have g2 := hat z hYz 2 (by omega)
              have g3 := hat z hYz 3 (by omega)
              have g4 := hat z hYz 4 (by omega)
              have g5 := hat z hYz 5 (by omega)
              have g6 := hat z hYz 6 (by omega)
              simp only [List.getElem?_cons_zero, List.getElem?_cons_succ, Nat.add_zero] at g0 g1 g2 g3 g4 g5 g6
              obtain ⟨g0, f0⟩ := g0
              obtain ⟨g1, f1⟩ := g1
              obtain ⟨g2, f2⟩ := g2
              obtain ⟨g3, f3⟩ := g3
              obtain ⟨g4, f4⟩ := g4
              obtain ⟨g5, f5⟩ := g5
              obtain ⟨g6, f6⟩ := g6
              obtain ⟨qz, HQZ⟩ : ∃ qz, Hid (Y.getD z Rt.nil = qz) := ⟨_, rfl⟩
              rw [HQZ.out] at g0 g1 g2 g3 g4 g5 g6
              have hpu := own_putG rtC_len HY.out.1 HOR.out hYz ⟨-9, 0, false, 0, 0, 0, 0⟩
              have hcs := Chg.sets wz g (z * 7) (rtC ⟨-9, 0, false, 0, 0, 0, 0⟩)
              have HYN : Hid ((Y.set z ⟨-9, 0, false, 0, 0, 0, 0⟩).length = L.length ∧ RoRt (wz.setCells g (z * 7) (rtC ⟨-9, 0, false, 0, 0, 0, 0⟩)) wr.heap.size (.slice (some ⟨g, 0, none⟩) L.length c1) (Y.set z ⟨-9, 0, false, 0, 0, 0, 0⟩) ∧ RoRt (wz.setCells g (z * 7) (rtC ⟨-9, 0, false, 0, 0, 0, 0⟩)) w2.heap.size (.slice a3 L.length c3) L ∧ L2 X (wz.setCells g (z * 7) (rtC ⟨-9, 0, false, 0, 0, 0, 0⟩)) a b F G0 (o.line L) o) := by
                have hl : (Y.set z ⟨-9, 0, false, 0, 0, 0, 0⟩).length = L.length := by rw [List.length_set]; exact HY.out.1
                refine ⟨hl, ?_, own_chg HY.out.2.2.1 hcs (fun k hk e => ?_), ⟨HY.out.2.2.2.la.keeps hcs (fun k e1 e2 => ?_) (fun k e1 => ?_), HY.out.2.2.2.lb.keeps hcs (fun k e1 e2 => ?_) (fun k e1 => ?_), HY.out.2.2.2.fg⟩⟩
                · unfold RoRt; rw [hl]; exact hpu
                · subst e; exact HAF.out.2.2.1 k rfl hk
                · subst e1; exact HAF.out.1 k rfl e2
                · subst e1; exact HAF.out.2.2.2 k rfl
                · subst e1; exact HAF.out.2.1 k rfl e2
                · subst e1; exact HAF.out.2.2.2 k rfl
              have HWZ2 := keepG (Nat.le_trans HWZ.out hcs.size)
              clear hat hpu hcs HY HOR
              go_wp2
              go_roundw
              case rel => exact ⟨z + 1, Y.set z ⟨-9, 0, false, 0, 0, 0, 0⟩, by omega, by go_num, HYN.out, HWZ2.out⟩
              case measure => simp [intOf]; omega
            · have hztI : ¬ (z : Int) < L.length := by omega
              have HOR : Hid (wz.ownsRow wr.heap.size 45 7 (.slice a1 L.length c1) L.length (flatG rtC Y)) := by have h5 := HY.out.2.1; unfold RoRt at h5; rw [HY.out.1] at h5; exact h5
              have HX3 := keepG HY.out.2.2.1
              have HMz := keepG HY.out.2.2.2
              have hBz : wr.heap.size ≤ wz.heap.size := HWZ.out
              clear HY
              go_wp2_with (first
                | (at_builtin; go_must (refine wpList_append_own_at _ rfl _ _ 34 rfl wr.heap.size 45 i0 _ 7 56 Try.underlying34 hi0 hz0 hzs hzb rfl (by decide) (.slice a1 L.length c1) L.length (flatG rtC Y) rfl (HOR.out.alloc _) ⟨_, 0, none⟩ 1 1 (rtC Rt.nil) rfl rfl (cells_new _ (rtC Rt.nil) _ _ rfl) (rt_one _) (by unfold maxLen; omega) (by omega) (by simp; omega) ?_); intro v9 w9 hown hgr _ _; go_must (obtain ⟨va9, vc9, ev⟩ := own_shape hown; subst ev; have hcg := chg_append hgr; have HM9 : Hid (L2 X w9 a b F G0 (o.line L) o) := ⟨HMz.out.la.keeps hcg (fun k e1 e2 => HAF.out.1 k e1 e2) HAF.out.2.2.2, HMz.out.lb.keeps hcg (fun k e1 e2 => HAF.out.2.1 k e1 e2) HAF.out.2.2.2, HMz.out.fg⟩; have HX9 := keepG (own_chg HX3.out hcg (fun k hk e => HAF.out.2.2.1 k e hk)); clear hown hgr hcg))
                | (go_at_call 21; go_must (refine (HM9.out.la.waiting HZW HLL).mono ?_); rintro e w10 ⟨a10, c10, rfl, hr10, hb10⟩; go_must (have HM10 := keepG (HM9.out.below hb10); have HX10 := keepG (RoRt.below HX9.out hb10); have HR10 := keepG hr10; clear hb10 hr10))
                | (go_at_call 12; go_must (refine (wlines HR10.out.sees (RoRt.sees HX10.out)).mono ?_); rintro e w11 ⟨rfl, hb11⟩; go_must (have HM11 := keepG (HM10.out.below hb11); clear hb11)))
              clear HM9 HX9 HM10 HX10 HR10 HX3 HMz HOR
              go_loopw [13] (fun i wy => ∃ y : Nat, y ≤ L.length ∧ i = .int .i64 y ∧ ∃ F c, Hid (L2 X wy a b F G0 c o ∧ c.ln = L.drop y ∧ c.st.length = es.length)) (fun i _ => L.length - (intOf i).toNat)
              case atStart => exact ⟨0, by omega, rfl, F, o.line L, HM11.out, rfl, HOS.out⟩
              case round =>
                clear HM11
                obtain ⟨y, hy, rfl, F2, c, HC⟩ := hrel
                rename World => wy
                by_cases hyt : y < L.length
                · have hytI : (y : Int) < L.length := by omega
                  obtain ⟨p, c', e1, e2, -, e4⟩ := step_cons (HC.out.2.1.trans (drop_cons hyt))
                  have HST := keepG e1
                  have HLN := keepG e2
                  have HSL : Hid (c'.st.length = es.length) := e4.trans HC.out.2.2
                  have HZC : Hid (c.ln.length * 56 ≤ 140737488355328) := by show _ ≤ _; rw [HC.out.2.1, List.length_drop]; omega
                  clear e1 e2 e4
                  go_wp2_with (go_at_call 13; go_must (refine (HC.out.1.la.step HZC HST).mono ?_); rintro e w12 ⟨a12, c12, rfl, F12, hL12, hn12, -, -⟩; go_must (have HM12 := keepG (HC.out.1.goA hL12 hn12); clear hL12 hn12))
                  go_roundw
                  case rel => exact ⟨y + 1, by omega, by go_num, F12, c', HM12.out, HLN.out, HSL.out⟩
                  case measure => simp [intOf]; omega
                · have hytI : ¬ (y : Int) < L.length := by omega
                  have HMy := keepG HC.out.1
                  have HSL := keepG HC.out.2.2
                  clear HC
                  go_wp2
                  go_loopw [14] (fun i wm => ∃ m : Nat, m ≤ es.length ∧ i = .int .i64 m ∧ Hid (L2 X wm a b F2 G0 c o)) (fun i _ => es.length - (intOf i).toNat)
                  case atStart => exact ⟨0, by omega, rfl, HMy.out⟩
                  case round =>
                    clear HMy
                    obtain ⟨m, hm5, rfl, HMm⟩ := hrel
                    rename World => wm
                    obtain ⟨-, -, k2⟩ := HBC2.out wm HMm.out.la.be
                    by_cases hmt : m < es.length
                    · have hmtI : (m : Int) < es.length := by omega
                      have hha : c.hasM m = true := On.hasM_of (by rw [HSL.out]; exact hmt)
                      have hhb : o.hasM m = true := On.hasM_of (by rw [HOS.out]; exact hmt)
                      obtain ⟨P, HP⟩ : ∃ P, Hid ((c.sr m).1 = P) := ⟨_, rfl⟩
                      have HQA : Hid ((if c.hasM m = true then ((0 : Int), (c.sr m).1) else (2, [])) = (0, P)) := by show _ = _; rw [if_pos hha, HP.out]
                      have HQB : Hid ((if o.hasM m = true then ((0 : Int), (o.sr m).1) else (2, [])) = (0, [])) := by show _ = _; rw [if_pos hhb, HSR.out]
                      have hPl : P.length ≤ 16 := by
                        have h5 := HMm.out.la.ok
                        have h6 := (h5.inv m (by rw [← h5.len, HSL.out]; exact hmt))
                        have h7 := h6.1.len
                        rw [← HP.out]
                        show (c.st.getD (m : Int).toNat Sr.nil).1.length ≤ 16
                        have e : (m : Int).toNat = m := rfl
                        rw [e]
                        omega
                      clear hha hhb HP
                      go_wp2_with (first
                        | (have hq := HRa; clear hq; go_at_call 18; go_must (refine (HMa.out.la.pairs m HQA).mono ?_); rintro e wb ⟨ab, cb, rfl, hrb, hbb⟩; go_must (have HMb := keepG (HMa.out.below hbb); have HRa2 := keepG (HRa.out.below hbb); have HRb := keepG hrb; clear hbb hrb))
                        | (go_at_call 18; go_must (refine (HMm.out.la.pairs m HQA).mono ?_); rintro e wa ⟨aa, ca, rfl, hra, hba⟩; go_must (have HMa := keepG (HMm.out.below hba); have HRa := keepG hra; clear hba hra)))
                      have HAP : Hid (Apt (ftV (.slice aa P.length ca)) F2 ∧ Apt (ftV (.slice aa P.length ca)) G0 ∧ Apt (ftV (.slice aa P.length ca)) (ftV (.slice ab P.length cb)) ∧ Since X (ftV (.slice aa P.length ca))) := by
                        refine ⟨fun k e1 e2 => ?_, fun k e1 e2 => ?_, fun k e1 e2 => ?_, fun k e1 => ?_⟩
                        · have := (HRa.out.lt k e1).1; have := HMm.out.la.lies k e2; omega
                        · have := (HRa.out.lt k e1).1; have := HMm.out.lb.lies k e2; omega
                        · have := (HRa.out.lt k e1).2; have := (HRb.out.lt k e2).1; omega
                        · have := (HRa.out.lt k e1).1; have := HMm.out.la.be.size; omega
                      clear HRa HMa
                      go_loopw [19] (fun i wt => ∃ (t : Nat) (Y : List Pp), t ≤ P.length ∧ i = .int .i64 t ∧ Hid (Y.length = P.length ∧ RoPp wt wm.heap.size (.slice aa P.length ca) Y ∧ RoPp wt wa.heap.size (.slice ab P.length cb) P ∧ L2 X wt a b F2 G0 c o)) (fun i _ => P.length - (intOf i).toNat)
                      case atStart => exact ⟨0, P, by omega, rfl, rfl, HRa2.out, HRb.out, HMb.out⟩
                      case round =>
                        clear HRa2 HRb HMb
                        obtain ⟨t, Y, ht, rfl, HY⟩ := hrel
                        rename World => wt
                        by_cases htt : t < P.length
                        · have httI : (t : Int) < P.length := by omega
                          have hYt : t < Y.length := by have := HY.out.1; omega
                          have HOR : Hid (wt.ownsRow wm.heap.size 80 2 (.slice aa P.length ca) P.length (flatG ppC Y)) := by have h5 := HY.out.2.1; unfold RoPp at h5; rw [HY.out.1] at h5; exact h5
                          obtain ⟨g, cap, ev, hg1, hg2, hcap, hcm, hat⟩ := own_atG ppC_len Pp.nil HY.out.2.1 (by omega)
                          rw [HY.out.1] at ev
                          simp only [Value.slice.injEq, true_and] at ev
                          obtain ⟨rfl, rfl⟩ := ev
                          have g0 := hat t hYt 0 (by omega)
                          have g1 := hat t hYt 1 (by omega)
                          simp only [List.getElem?_cons_zero, List.getElem?_cons_succ, Nat.add_zero] at g0 g1
                          obtain ⟨g0, f0⟩ := g0
                          obtain ⟨g1, f1⟩ := g1
                          obtain ⟨qz, HQZ⟩ : ∃ qz, Hid (Y.getD t Pp.nil = qz) := ⟨_, rfl⟩
                          rw [HQZ.out] at g0 g1
                          have hpu := own_putG ppC_len HY.out.1 HOR.out hYt ⟨9999, 0⟩
                          have hcs := Chg.sets wt g (t * 2) (ppC ⟨9999, 0⟩)
                          have HYN : Hid ((Y.set t ⟨9999, 0⟩).length = P.length ∧ RoPp (wt.setCells g (t * 2) (ppC ⟨9999, 0⟩)) wm.heap.size (.slice (some ⟨g, 0, none⟩) P.length ca) (Y.set t ⟨9999, 0⟩) ∧ RoPp (wt.setCells g (t * 2) (ppC ⟨9999, 0⟩)) wa.heap.size (.slice ab P.length cb) P ∧ L2 X (wt.setCells g (t * 2) (ppC ⟨9999, 0⟩)) a b F2 G0 c o) := by
                            have hl : (Y.set t ⟨9999, 0⟩).length = P.length := by rw [List.length_set]; exact HY.out.1
                            refine ⟨hl, ?_, own_chg HY.out.2.2.1 hcs (fun k hk e => ?_), ⟨HY.out.2.2.2.la.keeps hcs (fun k e1 e2 => ?_) (fun k e1 => ?_), HY.out.2.2.2.lb.keeps hcs (fun k e1 e2 => ?_) (fun k e1 => ?_), HY.out.2.2.2.fg⟩⟩
                            · unfold RoPp; rw [hl]; exact hpu
                            · subst e; exact HAP.out.2.2.1 k rfl hk
                            · subst e1; exact HAP.out.1 k rfl e2
                            · subst e1; exact HAP.out.2.2.2 k rfl
                            · subst e1; exact HAP.out.2.1 k rfl e2
                            · subst e1; exact HAP.out.2.2.2 k rfl
                          clear hat hpu hcs HY HOR
                          go_wp2
                          go_roundw
                          case rel => exact ⟨t + 1, Y.set t ⟨9999, 0⟩, by omega, by go_num, HYN.out⟩
                          case measure => simp [intOf]; omega
                        · have httI : ¬ (t : Int) < P.length := by omega
                          have HRt := keepG HY.out.2.2.1
                          have HMt := keepG HY.out.2.2.2
                          clear HY
                          go_wp2_with (first
                            | (have hq := HMr; clear hq; go_at_call 18; go_must (refine (HMr.out.lb.pairs m HQB).mono ?_); rintro e wn ⟨an, cn, rfl, -, hbn⟩; go_must (have HMn := keepG (HMr.out.below hbn); have HQn := keepG (RoPp.below HRt2.out hbn); have HRn := keepG (RoPp.below HRr.out hbn); clear hbn))
                            | (go_at_call 18; go_must (refine (HMt.out.la.pairs m HQA).mono ?_); rintro e wq ⟨ar, cr, rfl, hrr, hbr⟩; go_must (have HMr := keepG (HMt.out.below hbr); have HRt2 := keepG (RoPp.below HRt.out hbr); have HRr := keepG hrr; clear hbr hrr))
                            | (go_at_call 19; go_must (refine (wpairs22 (own_seesG ppC_len Pp.nil HQn.out) (own_seesG ppC_len Pp.nil HRn.out)).mono ?_); rintro e wo ⟨rfl, hbo⟩; go_must (have HMo := keepG (HMn.out.below hbo); clear hbo)))
                          go_roundw
                          case rel => exact ⟨m + 1, by omega, by go_num, HMo.out⟩
                          case measure => simp [intOf]; omega
                    · have hmtI : ¬ (m : Int) < es.length := by omega
                      go_wp2
                      go_ret
                      exact ⟨rfl, HBX.out.trans (HMm.out.la.be.mono HBX.out.size)⟩
      · have hltI : ¬ (j : Int) < qs.length := by omega
        have HLL : Hid ((o.line L).ln = L) := rfl
        have hL5 : L.length ≤ 500 := by omega
        have HZW : Hid ((o.line L).ln.length * 56 ≤ 140737488355328) := by show L.length * 56 ≤ _; omega
        have HZ0 : Hid (o.ln.length * 56 ≤ 140737488355328) := by show _ ≤ _; rw [HON.out]; simp
        have hw1 : IntKind.i64.wrap ((L.length : Int) + 1) = (L.length : Int) + 1 := by rw [IntKind.wrap_i64]; omega
        go_wp2_with (first
          | (have hq := HM2; clear hq; go_at_call 21; go_must (refine (HM2.out.la.waiting HZW HLL).mono ?_); rintro e w3 ⟨a3, c3, rfl, hr3, hb3⟩; go_must (have HM3 := keepG (HM2.out.below hb3); have HA3 := keepG ((HA1.out.below hb1b).below hb3); have HC3 := keepG hr3; have HB12 := keepG hb1b; have HZ23 := keepG hb3.size; clear hb1b hb3 hr3))
          | (have hq := HM1; clear hq; go_at_call 21; go_must (refine (HM1.out.lb.waiting HZ0 HON).mono ?_); rintro e w2 ⟨a2, c2, rfl, -, hb1b⟩; go_must (have HM2 := keepG (HM1.out.below hb1b)))
          | (go_at_call 21; go_must (refine (HM.out.la.waiting HZW HLL).mono ?_); rintro e w1 ⟨a1, c1, rfl, hr1, hb1⟩; go_must (have HM1 := keepG (HM.out.below hb1); have HA1 := keepG hr1; have HZ01 := keepG hb1.size; clear hb1 hr1)))
        have HB12' := HB12.out.size
        have HAF : Hid (Apt (ftV (.slice a1 L.length c1)) F ∧ Apt (ftV (.slice a1 L.length c1)) G0 ∧ Apt (ftV (.slice a1 L.length c1)) (ftV (.slice a3 L.length c3)) ∧ Since X (ftV (.slice a1 L.length c1))) := by
          refine ⟨fun k e1 e2 => ?_, fun k e1 e2 => ?_, fun k e1 e2 => ?_, fun k e1 => ?_⟩
          · have := (HA1.out.lt k e1).1; have := HM.out.la.lies k e2; omega
          · have := (HA1.out.lt k e1).1; have := HM.out.lb.lies k e2; omega
          · have := (HA1.out.lt k e1).2; have := (HC3.out.lt k e2).1; omega
          · have := (HA1.out.lt k e1).1; have := HM.out.la.be.size; omega
        have HWR3 : Hid (wr.heap.size ≤ w3.heap.size) := Nat.le_trans HZ01.out (Nat.le_trans HB12' HZ23.out)
        clear HM1 HM2 HA1 HB12 HB12' HM HZ23 HZ01
        go_loopw [12] (fun i wz => ∃ (z : Nat) (Y : List Rt), z ≤ L.length ∧ i = .int .i64 z ∧ Hid (Y.length = L.length ∧ RoRt wz wr.heap.size (.slice a1 L.length c1) Y ∧ RoRt wz w2.heap.size (.slice a3 L.length c3) L ∧ L2 X wz a b F G0 (o.line L) o) ∧ Hid (wr.heap.size ≤ wz.heap.size)) (fun i _ => L.length - (intOf i).toNat)
        case atStart => exact ⟨0, L, by omega, rfl, ⟨rfl, HA3.out, HC3.out, HM3.out⟩, HWR3.out⟩
        case round =>
          clear HA3 HC3 HM3
          obtain ⟨z, Y, hz, rfl, HY, HWZ⟩ := hrel
          rename World => wz
          by_cases hzt : z < L.length
          · have hztI : (z : Int) < L.length := by omega
            have hYz : z < Y.length := by have := HY.out.1; omega
            have HOR : Hid (wz.ownsRow wr.heap.size 45 7 (.slice a1 L.length c1) L.length (flatG rtC Y)) := by have h5 := HY.out.2.1; unfold RoRt at h5; rw [HY.out.1] at h5; exact h5
            obtain ⟨g, cap, ev, hg1, hg2, hcap, hcm, hat⟩ := own_atG rtC_len Rt.nil HY.out.2.1 (by omega)
            rw [HY.out.1] at ev
            simp only [Value.slice.injEq, true_and] at ev
            obtain ⟨rfl, rfl⟩ := ev
            have g0 := hat z hYz 0 (by omega)
            have g1 := hat z hYz 1 (by omega)
            have g2 := hat z hYz 2 (by omega)
            have g3 := hat z hYz 3 (by omega)
            have g4 := hat z hYz 4 (by omega)
            have g5 := hat z hYz 5 (by omega)
            have g6 := hat z hYz 6 (by omega)
            simp only [List.getElem?_cons_zero, List.getElem?_cons_succ, Nat.add_zero] at g0 g1 g2 g3 g4 g5 g6
            obtain ⟨g0, f0⟩ := g0
            obtain ⟨g1, f1⟩ := g1
            obtain ⟨g2, f2⟩ := g2
            obtain ⟨g3, f3⟩ := g3
            obtain ⟨g4, f4⟩ := g4
            obtain ⟨g5, f5⟩ := g5
            obtain ⟨g6, f6⟩ := g6
            obtain ⟨qz, HQZ⟩ : ∃ qz, Hid (Y.getD z Rt.nil = qz) := ⟨_, rfl⟩
            rw [HQZ.out] at g0 g1 g2 g3 g4 g5 g6
            have hpu := own_putG rtC_len HY.out.1 HOR.out hYz ⟨-9, 0, false, 0, 0, 0, 0⟩
            have hcs := Chg.sets wz g (z * 7) (rtC ⟨-9, 0, false, 0, 0, 0, 0⟩)
            have HYN : Hid ((Y.set z ⟨-9, 0, false, 0, 0, 0, 0⟩).length = L.length ∧ RoRt (wz.setCells g (z * 7) (rtC ⟨-9, 0, false, 0, 0, 0, 0⟩)) wr.heap.size (.slice (some ⟨g, 0, none⟩) L.length c1) (Y.set z ⟨-9, 0, false, 0, 0, 0, 0⟩) ∧ RoRt (wz.setCells g (z * 7) (rtC ⟨-9, 0, false, 0, 0, 0, 0⟩)) w2.heap.size (.slice a3 L.length c3) L ∧ L2 X (wz.setCells g (z * 7) (rtC ⟨-9, 0, false, 0, 0, 0, 0⟩)) a b F G0 (o.line L) o) := by
              have hl : (Y.set z ⟨-9, 0, false, 0, 0, 0, 0⟩).length = L.length := by rw [List.length_set]; exact HY.out.1
              refine ⟨hl, ?_, own_chg HY.out.2.2.1 hcs (fun k hk e => ?_), ⟨HY.out.2.2.2.la.keeps hcs (fun k e1 e2 => ?_) (fun k e1 => ?_), HY.out.2.2.2.lb.keeps hcs (fun k e1 e2 => ?_) (fun k e1 => ?_), HY.out.2.2.2.fg⟩⟩
              · unfold RoRt; rw [hl]; exact hpu
              · subst e; exact HAF.out.2.2.1 k rfl hk
              · subst e1; exact HAF.out.1 k rfl e2
              · subst e1; exact HAF.out.2.2.2 k rfl
              · subst e1; exact HAF.out.2.1 k rfl e2
              · subst e1; exact HAF.out.2.2.2 k rfl
            have HWZ2 := keepG (Nat.le_trans HWZ.out hcs.size)
            clear hat hpu hcs HY HOR
            go_wp2
            go_roundw
            case rel => exact ⟨z + 1, Y.set z ⟨-9, 0, false, 0, 0, 0, 0⟩, by omega, by go_num, HYN.out, HWZ2.out⟩
            case measure => simp [intOf]; omega
          · have hztI : ¬ (z : Int) < L.length := by omega
            have HOR : Hid (wz.ownsRow wr.heap.size 45 7 (.slice a1 L.length c1) L.length (flatG rtC Y)) := by have h5 := HY.out.2.1; unfold RoRt at h5; rw [HY.out.1] at h5; exact h5
            have HX3 := keepG HY.out.2.2.1
            have HMz := keepG HY.out.2.2.2
            have hBz : wr.heap.size ≤ wz.heap.size := HWZ.out
            clear HY
            go_wp2_with (first
              | (at_builtin; go_must (refine wpList_append_own_at _ rfl _ _ 34 rfl wr.heap.size 45 i0 _ 7 56 Try.underlying34 hi0 hz0 hzs hzb rfl (by decide) (.slice a1 L.length c1) L.length (flatG rtC Y) rfl (HOR.out.alloc _) ⟨_, 0, none⟩ 1 1 (rtC Rt.nil) rfl rfl (cells_new _ (rtC Rt.nil) _ _ rfl) (rt_one _) (by unfold maxLen; omega) (by omega) (by simp; omega) ?_); intro v9 w9 hown hgr _ _; go_must (obtain ⟨va9, vc9, ev⟩ := own_shape hown; subst ev; have hcg := chg_append hgr; have HM9 : Hid (L2 X w9 a b F G0 (o.line L) o) := ⟨HMz.out.la.keeps hcg (fun k e1 e2 => HAF.out.1 k e1 e2) HAF.out.2.2.2, HMz.out.lb.keeps hcg (fun k e1 e2 => HAF.out.2.1 k e1 e2) HAF.out.2.2.2, HMz.out.fg⟩; have HX9 := keepG (own_chg HX3.out hcg (fun k hk e => HAF.out.2.2.1 k e hk)); clear hown hgr hcg))
              | (go_at_call 21; go_must (refine (HM9.out.la.waiting HZW HLL).mono ?_); rintro e w10 ⟨a10, c10, rfl, hr10, hb10⟩; go_must (have HM10 := keepG (HM9.out.below hb10); have HX10 := keepG (RoRt.below HX9.out hb10); have HR10 := keepG hr10; clear hb10 hr10))
              | (go_at_call 12; go_must (refine (wlines HR10.out.sees (RoRt.sees HX10.out)).mono ?_); rintro e w11 ⟨rfl, hb11⟩; go_must (have HM11 := keepG (HM10.out.below hb11); clear hb11)))
            clear HM9 HX9 HM10 HX10 HR10 HX3 HMz HOR
            go_loopw [13] (fun i wy => ∃ y : Nat, y ≤ L.length ∧ i = .int .i64 y ∧ ∃ F c, Hid (L2 X wy a b F G0 c o ∧ c.ln = L.drop y ∧ c.st.length = es.length)) (fun i _ => L.length - (intOf i).toNat)
            case atStart => exact ⟨0, by omega, rfl, F, o.line L, HM11.out, rfl, HOS.out⟩
            case round =>
              clear HM11
              obtain ⟨y, hy, rfl, F2, c, HC⟩ := hrel
              rename World => wy
              by_cases hyt : y < L.length
              · have hytI : (y : Int) < L.length := by omega
                obtain ⟨p, c', e1, e2, -, e4⟩ := step_cons (HC.out.2.1.trans (drop_cons hyt))
                have HST := keepG e1
                have HLN := keepG e2
                have HSL : Hid (c'.st.length = es.length) := e4.trans HC.out.2.2
                have HZC : Hid (c.ln.length * 56 ≤ 140737488355328) := by show _ ≤ _; rw [HC.out.2.1, List.length_drop]; omega
                clear e1 e2 e4
                go_wp2_with (go_at_call 13; go_must (refine (HC.out.1.la.step HZC HST).mono ?_); rintro e w12 ⟨a12, c12, rfl, F12, hL12, hn12, -, -⟩; go_must (have HM12 := keepG (HC.out.1.goA hL12 hn12); clear hL12 hn12))
                go_roundw
                case rel => exact ⟨y + 1, by omega, by go_num, F12, c', HM12.out, HLN.out, HSL.out⟩
                case measure => simp [intOf]; omega
              · have hytI : ¬ (y : Int) < L.length := by omega
                have HMy := keepG HC.out.1
                have HSL := keepG HC.out.2.2
                clear HC
                go_wp2
                go_loopw [14] (fun i wm => ∃ m : Nat, m ≤ es.length ∧ i = .int .i64 m ∧ Hid (L2 X wm a b F2 G0 c o)) (fun i _ => es.length - (intOf i).toNat)
                case atStart => exact ⟨0, by omega, rfl, HMy.out⟩
                case round =>
                  clear HMy
                  obtain ⟨m, hm5, rfl, HMm⟩ := hrel
                  rename World => wm
                  obtain ⟨-, -, k2⟩ := HBC2.out wm HMm.out.la.be
                  by_cases hmt : m < es.length
                  · have hmtI : (m : Int) < es.length := by omega
                    have hha : c.hasM m = true := On.hasM_of (by rw [HSL.out]; exact hmt)
                    have hhb : o.hasM m = true := On.hasM_of (by rw [HOS.out]; exact hmt)
                    obtain ⟨P, HP⟩ : ∃ P, Hid ((c.sr m).1 = P) := ⟨_, rfl⟩
                    have HQA : Hid ((if c.hasM m = true then ((0 : Int), (c.sr m).1) else (2, [])) = (0, P)) := by show _ = _; rw [if_pos hha, HP.out]
                    have HQB : Hid ((if o.hasM m = true then ((0 : Int), (o.sr m).1) else (2, [])) = (0, [])) := by show _ = _; rw [if_pos hhb, HSR.out]
                    have hPl : P.length ≤ 16 := by
                      have h5 := HMm.out.la.ok
                      have h6 := (h5.inv m (by rw [← h5.len, HSL.out]; exact hmt))
                      have h7 := h6.1.len
                      rw [← HP.out]
                      show (c.st.getD (m : Int).toNat Sr.nil).1.length ≤ 16
                      have e : (m : Int).toNat = m := rfl
                      rw [e]
                      omega
                    clear hha hhb HP
                    go_wp2_with (first
                      | (have hq := HRa; clear hq; go_at_call 18; go_must (refine (HMa.out.la.pairs m HQA).mono ?_); rintro e wb ⟨ab, cb, rfl, hrb, hbb⟩; go_must (have HMb := keepG (HMa.out.below hbb); have HRa2 := keepG (HRa.out.below hbb); have HRb := keepG hrb; clear hbb hrb))
                      | (go_at_call 18; go_must (refine (HMm.out.la.pairs m HQA).mono ?_); rintro e wa ⟨aa, ca, rfl, hra, hba⟩; go_must (have HMa := keepG (HMm.out.below hba); have HRa := keepG hra; clear hba hra)))
                    have HAP : Hid (Apt (ftV (.slice aa P.length ca)) F2 ∧ Apt (ftV (.slice aa P.length ca)) G0 ∧ Apt (ftV (.slice aa P.length ca)) (ftV (.slice ab P.length cb)) ∧ Since X (ftV (.slice aa P.length ca))) := by
                      refine ⟨fun k e1 e2 => ?_, fun k e1 e2 => ?_, fun k e1 e2 => ?_, fun k e1 => ?_⟩
                      · have := (HRa.out.lt k e1).1; have := HMm.out.la.lies k e2; omega
                      · have := (HRa.out.lt k e1).1; have := HMm.out.lb.lies k e2; omega
                      · have := (HRa.out.lt k e1).2; have := (HRb.out.lt k e2).1; omega
                      · have := (HRa.out.lt k e1).1; have := HMm.out.la.be.size; omega
                    clear HRa HMa
                    go_loopw [19] (fun i wt => ∃ (t : Nat) (Y : List Pp), t ≤ P.length ∧ i = .int .i64 t ∧ Hid (Y.length = P.length ∧ RoPp wt wm.heap.size (.slice aa P.length ca) Y ∧ RoPp wt wa.heap.size (.slice ab P.length cb) P ∧ L2 X wt a b F2 G0 c o)) (fun i _ => P.length - (intOf i).toNat)
                    case atStart => exact ⟨0, P, by omega, rfl, rfl, HRa2.out, HRb.out, HMb.out⟩
                    case round =>
                      clear HRa2 HRb HMb
                      obtain ⟨t, Y, ht, rfl, HY⟩ := hrel
                      rename World => wt
                      by_cases htt : t < P.length
                      · have httI : (t : Int) < P.length := by omega
                        have hYt : t < Y.length := by have := HY.out.1; omega
                        have HOR : Hid (wt.ownsRow wm.heap.size 80 2 (.slice aa P.length ca) P.length (flatG ppC Y)) := by have h5 := HY.out.2.1; unfold RoPp at h5; rw [HY.out.1] at h5; exact h5
                        obtain ⟨g, cap, ev, hg1, hg2, hcap, hcm, hat⟩ := own_atG ppC_len Pp.nil HY.out.2.1 (by omega)
                        rw [HY.out.1] at ev
                        simp only [Value.slice.injEq, true_and] at ev
                        obtain ⟨rfl, rfl⟩ := ev
                        have g0 := hat t hYt 0 (by omega)
                        have g1 := hat t hYt 1 (by omega)
                        simp only [List.getElem?_cons_zero, List.getElem?_cons_succ, Nat.add_zero] at g0 g1
                        obtain ⟨g0, f0⟩ := g0
                        obtain ⟨g1, f1⟩ := g1
                        obtain ⟨qz, HQZ⟩ : ∃ qz, Hid (Y.getD t Pp.nil = qz) := ⟨_, rfl⟩
                        rw [HQZ.out] at g0 g1
                        have hpu := own_putG ppC_len HY.out.1 HOR.out hYt ⟨9999, 0⟩
                        have hcs := Chg.sets wt g (t * 2) (ppC ⟨9999, 0⟩)
                        have HYN : Hid ((Y.set t ⟨9999, 0⟩).length = P.length ∧ RoPp (wt.setCells g (t * 2) (ppC ⟨9999, 0⟩)) wm.heap.size (.slice (some ⟨g, 0, none⟩) P.length ca) (Y.set t ⟨9999, 0⟩) ∧ RoPp (wt.setCells g (t * 2) (ppC ⟨9999, 0⟩)) wa.heap.size (.slice ab P.length cb) P ∧ L2 X (wt.setCells g (t * 2) (ppC ⟨9999, 0⟩)) a b F2 G0 c o) := by
                          have hl : (Y.set t ⟨9999, 0⟩).length = P.length := by rw [List.length_set]; exact HY.out.1
                          refine ⟨hl, ?_, own_chg HY.out.2.2.1 hcs (fun k hk e => ?_), ⟨HY.out.2.2.2.la.keeps hcs (fun k e1 e2 => ?_) (fun k e1 => ?_), HY.out.2.2.2.lb.keeps hcs (fun k e1 e2 => ?_) (fun k e1 => ?_), HY.out.2.2.2.fg⟩⟩
                          · unfold RoPp; rw [hl]; exact hpu
                          · subst e; exact HAP.out.2.2.1 k rfl hk
                          · subst e1; exact HAP.out.1 k rfl e2
                          · subst e1; exact HAP.out.2.2.2 k rfl
                          · subst e1; exact HAP.out.2.1 k rfl e2
                          · subst e1; exact HAP.out.2.2.2 k rfl
                        clear hat hpu hcs HY HOR
                        go_wp2
                        go_roundw
                        case rel => exact ⟨t + 1, Y.set t ⟨9999, 0⟩, by omega, by go_num, HYN.out⟩
                        case measure => simp [intOf]; omega
                      · have httI : ¬ (t : Int) < P.length := by omega
                        have HRt := keepG HY.out.2.2.1
                        have HMt := keepG HY.out.2.2.2
                        clear HY
                        go_wp2_with (first
                          | (have hq := HMr; clear hq; go_at_call 18; go_must (refine (HMr.out.lb.pairs m HQB).mono ?_); rintro e wn ⟨an, cn, rfl, -, hbn⟩; go_must (have HMn := keepG (HMr.out.below hbn); have HQn := keepG (RoPp.below HRt2.out hbn); have HRn := keepG (RoPp.below HRr.out hbn); clear hbn))
                          | (go_at_call 18; go_must (refine (HMt.out.la.pairs m HQA).mono ?_); rintro e wq ⟨ar, cr, rfl, hrr, hbr⟩; go_must (have HMr := keepG (HMt.out.below hbr); have HRt2 := keepG (RoPp.below HRt.out hbr); have HRr := keepG hrr; clear hbr hrr))
                          | (go_at_call 19; go_must (refine (wpairs22 (own_seesG ppC_len Pp.nil HQn.out) (own_seesG ppC_len Pp.nil HRn.out)).mono ?_); rintro e wo ⟨rfl, hbo⟩; go_must (have HMo := keepG (HMn.out.below hbo); clear hbo)))
                        go_roundw
                        case rel => exact ⟨m + 1, by omega, by go_num, HMo.out⟩
                        case measure => simp [intOf]; omega
                  · have hmtI : ¬ (m : Int) < es.length := by omega
                    go_wp2
                    go_ret
                    exact ⟨rfl, HBX.out.trans (HMm.out.la.be.mono HBX.out.size)⟩
/-- OwnerFresh. -/
theorem ownerFresh_walk (s n : Int) (mv : Value) (es : List (Int × Int)) (qv : Value) (qs : List Rt) (w : World) (hm : SeesG dfC 2 (0, 0) w mv es) (_ : es.length * 16 ≤ 140737488351232) (hs : Rqs w qv qs) (hlen : qs.length * 56 ≤ 140737488351232 ∧ ∀ x ∈ qs, True) :
    Calls Try.prog 5 #[shV s n mv, qv] w fun e w' => e = .returned (.bool true) ∧ Below w.heap.size w w' := ownerFresh_ok s n mv es qv qs w hm hs.sees hs.wf hlen.1
end Go.Proofs.Ytpbfgebecgikjaa
