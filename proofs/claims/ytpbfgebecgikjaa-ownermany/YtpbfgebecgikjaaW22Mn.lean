
/-
  OwnerMany, walked. Condition: none but the arguments' reading.
-/
import Derived.Test.YtpbfgebecgikjaaW22Two
namespace Go.Proofs.Ytpbfgebecgikjaa
open Go.RowKit
set_option linter.unusedVariables false
set_option linter.unusedSimpArgs false
set_option maxRecDepth 100000
set_option maxHeartbeats 25600000 in
theorem ownerMany_ok (s n : Int) (mv : Value) (es : List (Int × Int)) (qv : Value) (qs : List Rt) (w : World) (hm : SeesG dfC 2 (0, 0) w mv es) (hs : SeesG rtC 7 Rt.nil w qv qs) (hwf : ∀ q ∈ qs, q.wf) (hlen : qs.length * 56 ≤ 140737488351232) :
    Calls Try.prog 6 #[shV s n mv, qv] w fun e w' => e = .returned (.bool true) ∧ Below w.heap.size w w' := by
  have HMV := keepG (fun (wx : World) (hb : Below w.heap.size w wx) => hm.below hb (Nat.le_refl _))
  have HQV := keepG (fun (wx : World) (hb : Below w.heap.size w wx) => hs.below hb (Nat.le_refl _))
  have HWF := keepG hwf
  obtain ⟨ma, mc, ev, hml, hmm⟩ := hm.shape
  subst ev
  obtain ⟨qa, qc, ev, hql, hqm⟩ := hs.shape
  subst ev
  obtain ⟨i0, hi0, hz0, hzs, hzb⟩ := info_parts infoRt
  obtain ⟨X, HX, HBX, HPX⟩ : ∃ X, Hid (w.alloc (.cells #[.int .i64 s, .int .i64 n, .slice ma es.length mc] 24) = X) ∧ Hid (Below w.heap.size w X) ∧ Hid (Hp X w.heap.size 24 [.int .i64 s, .int .i64 n, .slice ma es.length mc]) := ⟨_, rfl, below_allocG _ _, Hp.new w _ _⟩
  have HBC : Hid (∀ wx, Below X.heap.size X wx → wx.cell? ⟨w.heap.size, 0, none⟩ = some (.int .i64 s) ∧ wx.cell? ⟨w.heap.size, 1, none⟩ = some (.int .i64 n) ∧ wx.cell? ⟨w.heap.size, 2, none⟩ = some (.slice ma es.length mc)) := by
    intro wx hb
    have h := HPX.out.below hb HPX.out.lt
    exact ⟨h.cell (j := 0) rfl, h.cell (j := 1) rfl, h.cell (j := 2) rfl⟩
  obtain ⟨nb, HNB⟩ : ∃ nb, Hid (w.heap.size = nb) := ⟨_, rfl⟩
  have HBC2 : Hid (∀ wx, Below X.heap.size X wx → wx.cell? ⟨nb, 0, none⟩ = some (.int .i64 s) ∧ wx.cell? ⟨nb, 1, none⟩ = some (.int .i64 n) ∧ wx.cell? ⟨nb, 2, none⟩ = some (.slice ma es.length mc)) := by rw [← HNB.out]; exact HBC.out
  clear hm hs hwf HBC
  go_enter Try.func6, Try.ntmps6
  cases hn : newO s n es with
  | none =>
    have HN := keepG hn
    clear hn
    go_wp2_with (first
      | (go_at_call 7; rw [HX.out, HNB.out]; go_must (refine (awake22_any X).mono ?_); rintro e w1 ⟨rfl, hb1⟩; go_must (have HB1 := keepG hb1; have HBw1 := keepG (HBX.out.trans (hb1.mono HBX.out.size)); obtain ⟨c0, c1, c2⟩ := HBC2.out w1 hb1; clear hb1))
      | (have hq := HB2; clear hq; go_at_call 8; go_must (refine (lonew_no s n w2 (HMV.out w2 HBw2.out) HN).mono ?_); rintro e w3 ⟨rfl, hb3⟩; go_must (have HBw3 := keepG (HBw2.out.trans (hb3.mono HBw2.out.size)); clear hb3))
      | (go_at_call 8; go_must (refine (lonew_no s n w1 (HMV.out w1 HBw1.out) HN).mono ?_); rintro e w2 ⟨rfl, hb2⟩; go_must (have HB2 := keepG (HB1.out.trans (hb2.mono HB1.out.size)); have HBw2 := keepG (HBw1.out.trans (hb2.mono HBw1.out.size)); obtain ⟨c20, c21, c22⟩ := HBC2.out w2 HB2.out; clear hb2)))
    go_ret
    exact ⟨rfl, HBw3.out⟩
  | some o =>
    have HN := keepG hn
    obtain ⟨hol, hov, hon, hst⟩ := newO_line hn
    have HOL := keepG hol
    have HOV := keepG hov
    have HON := keepG hon
    clear hn hol hov hon hst
    go_wp2_with (first
      | (go_at_call 7; rw [HX.out, HNB.out]; go_must (refine (awake22_any X).mono ?_); rintro e w1 ⟨rfl, hb1⟩; go_must (have HB1 := keepG hb1; have HBw1 := keepG (HBX.out.trans (hb1.mono HBX.out.size)); obtain ⟨c0, c1, c2⟩ := HBC2.out w1 hb1; clear hb1))
      | (have hq := HL2; clear hq; go_at_call 8; go_must (refine (lznew_ok s n HL2.out.be (HMV.out w2 HL2.out.be) HN).mono ?_); rintro e w3 ⟨b, G0, rfl, hL, hS, hb⟩; go_must (have HL3 : Hid (L2 w w3 a b F0 G0 o o) := ⟨HL2.out.below hb, hL, Apt.made HL2.out.lies hS⟩; clear hL hS hb))
      | (go_at_call 8; go_must (refine (lznew_ok s n HBw1.out (HMV.out w1 HBw1.out) HN).mono ?_); rintro e w2 ⟨a, F0, rfl, hL, _, hb2⟩; go_must (have HL2 := keepG hL; obtain ⟨c20, c21, c22⟩ := HBC2.out w2 (HB1.out.trans (hb2.mono HB1.out.size)); clear hL hb2)))
    clear HL2 HB1 HBw1
    obtain ⟨T, HT⟩ : ∃ T, Hid (o.takes = T) := ⟨_, rfl⟩
    go_loopw [9, 10] (fun f i wr => ∃ (j : Nat) (al : Bool), j ≤ qs.length ∧ f = .bool al ∧ i = .int .i64 j ∧ ∃ G, Hid (L2 w wr a b F0 G o (o.line ((qs.take j).filter T)) ∧ (qs.take j).all T = al)) (fun _ i _ => qs.length - (intOf i).toNat)
    case atStart => exact ⟨0, true, by omega, rfl, rfl, G0, by rw [show o.line ((qs.take 0).filter T) = o from HOL.out]; exact HL3.out, rfl⟩
    case round =>
      clear HL3
      obtain ⟨j, al, hj, rfl, rfl, G, HM⟩ := hrel
      rename World => wr
      have hfl : ((qs.take j).filter T).length ≤ j := by have := List.length_filter_le T (qs.take j); simp at this; omega
      by_cases hlt : j < qs.length
      · have hltI : (j : Int) < qs.length := by omega
        obtain ⟨p, off, ev, hat⟩ := rtAt (HQV.out wr HM.out.1.la.be) hlt
        subst ev
        obtain ⟨q, HQ⟩ : ∃ q, Hid (qs.getD j Rt.nil = q) := ⟨_, rfl⟩
        obtain ⟨d0, d1, d2, d3, d4, d5, d6⟩ := hat j hlt q HQ.out
        have hqw := HWF.out _ (getD_memR2 qs j hlt)
        have hft := filter_take (T := T) hlt
        have hat2 := all_takeR (p := T) hlt
        rw [HQ.out] at hqw hft hat2
        rw [HM.out.2] at hat2
        obtain ⟨L, HL⟩ : ∃ L, Hid ((qs.take j).filter T = L) := ⟨_, rfl⟩
        rw [HL.out] at hft hfl
        have HM1 := HM.out.1
        rw [HL.out] at HM1
        have HM2 := keepG HM1
        have hso := send_one HOV.out L q
        rw [HT.out] at hso
        have HSO := keepG hso
        have HFT := keepG hft
        have HAT := keepG hat2
        have HZS : Hid (((o.line L).ln.length + [q].length) * 56 ≤ 140737488355328) := by show (L.length + 1) * 56 ≤ _; omega
        obtain ⟨Z, HZ, hbZ, HSZ⟩ : ∃ Z, Hid (wr.alloc (.cells #[.int .i64 q.f, .int .i64 q.t, .bool q.wk, .int .i64 q.m, .int .i64 q.op, .int .u64 q.k, .int .u64 q.v] 45) = Z) ∧ Below wr.heap.size wr Z ∧ Hid (SeesG rtC 7 Rt.nil Z (.slice (some ⟨wr.heap.size, 0, none⟩) 1 1) [q]) := ⟨_, rfl, below_allocG _ _, lit_rts wr [q] (by simp)⟩
        have HMZ := keepG (HM2.out.below hbZ)
        have HAZ := keepG (HM2.out.lb.aptN (α := Rt) (ws := [q]) (v := .slice (some ⟨wr.heap.size, 0, none⟩) 1 1) (fun k e => ft_litO e))
        have HW1 : Hid (∀ x ∈ [q], x.wf) := by intro x hx; rw [List.mem_singleton.1 hx]; exact hqw
        clear hat hft hat2 HM1 hso hbZ HM
        cases ht : T q with
        | true =>
          have HS1 : Hid ((o.line L).send [q] = (0, o.line (L ++ [q]))) := by show _ = _; rw [HSO.out, if_pos ht]
          have HF1 : Hid ((qs.take (j + 1)).filter T = L ++ [q]) := by show _ = _; rw [HFT.out, if_pos ht]
          have HA1 : Hid ((qs.take (j + 1)).all T = al) := by show _ = _; rw [HAT.out, ht, Bool.and_true]
          clear ht HSO HFT HAT
          go_wp2_with (go_at_call 10; rw [HZ.out]; go_must (refine (HMZ.out.lb.send HZS HSZ.out HW1.out HAZ.out HS1).mono ?_); rintro e w5 ⟨rfl, G5, hL5, hn5⟩; go_must (have HM5 := keepG (HMZ.out.goB hL5 hn5); clear hL5 hn5))
          go_roundw
          case rel => exact ⟨j + 1, al, by omega, by first | rfl | go_num, by go_num, G5, by rw [HF1.out]; exact HM5.out, HA1.out⟩
          case measure => simp [intOf]; omega
        | false =>
          have HS1 : Hid ((o.line L).send [q] = (2, o.line L)) := by show _ = _; rw [HSO.out, if_neg (by rw [ht]; decide)]
          have HF1 : Hid ((qs.take (j + 1)).filter T = L) := by show _ = _; rw [HFT.out, if_neg (by rw [ht]; decide)]
          have HA1 : Hid ((qs.take (j + 1)).all T = false) := by show _ = _; rw [HAT.out, ht, Bool.and_false]
          clear ht HSO HFT HAT
          go_wp2_with (go_at_call 10; rw [HZ.out]; go_must (refine (HMZ.out.lb.send HZS HSZ.out HW1.out HAZ.out HS1).mono ?_); rintro e w5 ⟨rfl, G5, hL5, hn5⟩; go_must (have HM5 := keepG (HMZ.out.goB hL5 hn5); clear hL5 hn5))
          go_roundw
          case rel => exact ⟨j + 1, false, by omega, by first | rfl | go_num, by go_num, G5, by rw [HF1.out]; exact HM5.out, HA1.out⟩
          case measure => simp [intOf]; omega
      · have hltI : ¬ (j : Int) < qs.length := by omega
        have htk : qs.take j = qs := List.take_of_length_le (by omega)
        have HM1 := HM.out
        rw [htk] at HM1
        have HM2 := keepG HM1.1
        have HAL := keepG HM1.2
        have hsa := send_all HOV.out HON.out qs
        rw [HT.out, HAL.out] at hsa
        have HSA := keepG hsa
        have HZS : Hid ((o.ln.length + qs.length) * 56 ≤ 140737488355328) := by show _ ≤ _; rw [HON.out]; simp; omega
        obtain ⟨Z, HZ, HBZ⟩ : ∃ Z, Hid (wr.alloc (.cells #[] 45) = Z) ∧ Hid (Below wr.heap.size wr Z) := ⟨_, rfl, below_allocG _ _⟩
        obtain ⟨v3, w3, hr3, ho3, hg3, _⟩ := run_append_seesG (f := rtC) (d := Rt.nil) (P := Try.prog) Z wr.heap.size 34 34 45 i0 _ 7 56 Try.underlying34 hi0 hz0 hzs hzb rfl (by decide) (.slice (some ⟨wr.heap.size, 0, none⟩) 0 0) 0 [] (by rw [← HZ.out]; exact own_of (cs := []) (Nat.le_refl _) (heap_alloc_new wr _) (Nat.le_refl _) (by simp [maxLen]) (by simp) (by simp)) rtC_len (HQV.out Z (HM2.out.la.be.trans (HBZ.out.mono HM2.out.la.be.size))) (rt_flat qs) (by unfold maxLen; omega) (by omega) HBZ.out.size
        rw [Nat.zero_add, List.nil_append] at ho3
        have hb3 : Below wr.heap.size wr w3 := HBZ.out.trans ((Chg.of_grown' hg3 (S := fun k => k = wr.heap.size) (fun k e => (Option.some.inj e).symm)).below (fun k e => by omega) HBZ.out.size)
        have HS3 := keepG (own_seesG rtC_len Rt.nil ho3)
        have HM3 := keepG (HM2.out.below hb3)
        have HAP3 : Hid (qs ≠ [] → Apt F0 (ftV v3)) := fun _ => Apt.made HM2.out.la.lies (own_since ho3 (Nat.le_refl _))
        have HR3 := keepG hr3
        obtain ⟨va3, vc3, ev⟩ := own_shape ho3
        subst ev
        clear hr3 ho3 hg3 hb3 HM1 HM hsa htk
        cases al with
        | false =>
          have HS1 : Hid (o.send qs = (2, o)) := by show _ = _; rw [HSA.out, if_neg (by decide)]
          have HZW : Hid (o.ln.length * 56 ≤ 140737488355328) := by show _ ≤ _; rw [HON.out]; simp
          go_wp2_with (first
            | (rw [HZ.out])
            | (at_builtin; go_must (refine wpList_appG _ rfl (.tmp 77) (.tmp 78) 34 34 rfl _ _ rfl rfl HR3.out ?_))
            | (go_at_call 10; go_must (refine (HM3.out.la.send HZS HS3.out HWF.out HAP3.out HS1).mono ?_); rintro e w5 ⟨rfl, F5, hL5, hn5⟩; go_must (have HL5 := keepG hL5; clear hL5 hn5))
            | (go_at_call 21; go_must (refine (HL5.out.waiting HZW HON).mono ?_); rintro e w6 ⟨a6, c6, rfl, _, hb6⟩; go_must (have HL6 := keepG (HL5.out.below hb6); clear hb6)))
          go_ret
          exact ⟨rfl, HL6.out.be⟩
        | true =>
          have HS1 : Hid (o.send qs = (0, o.line qs)) := by show _ = _; rw [HSA.out, if_pos rfl]
          have HFQ : Hid (qs.filter T = qs) := by
            show _ = _
            refine List.filter_eq_self.2 (fun x hx => ?_)
            exact (List.all_eq_true.1 HAL.out) x hx
          have HZW : Hid ((o.line qs).ln.length * 56 ≤ 140737488355328) := by show qs.length * 56 ≤ _; omega
          rw [HFQ.out] at HM3
          have HLQ : Hid ((o.line qs).ln = qs) := rfl
          have hqq : ((qs.length : Int) != qs.length) = false := by simp
          go_wp2_with (first
            | (rw [HZ.out])
            | (at_builtin; go_must (refine wpList_appG _ rfl (.tmp 77) (.tmp 78) 34 34 rfl _ _ rfl rfl HR3.out ?_))
            | (go_at_call 10; go_must (refine (HM3.out.la.send HZS HS3.out HWF.out HAP3.out HS1).mono ?_); rintro e w5 ⟨rfl, F5, hL5, hn5⟩; go_must (have HM5 := keepG (HM3.out.goA hL5 hn5); clear hL5 hn5))
            | (have hq := HR7; clear hq; go_at_call 21; go_must (refine (HM8.out.la.waiting HZW HLQ).mono ?_); rintro e w9 ⟨a9, c9, rfl, _, hb9⟩; go_must (have HM9 := keepG (HM8.out.below hb9); clear hb9))
            | (have hq := HR6; clear hq; go_at_call 21; go_must (refine (HM6.out.lb.waiting HZW HLQ).mono ?_); rintro e w7 ⟨a7, c7, rfl, hr7, hb7⟩; go_must (have HM7 := keepG (HM6.out.below hb7); have HR6b := keepG (HR6.out.below hb7); have HR7 := keepG hr7; clear hb7 hr7))
            | (go_at_call 21; go_must (refine (HM5.out.la.waiting HZW HLQ).mono ?_); rintro e w6 ⟨a6, c6, rfl, hr6, hb6⟩; go_must (have HM6 := keepG (HM5.out.below hb6); have HR6 := keepG hr6; clear hb6 hr6))
            | (go_at_call 12; go_must (refine (wlines HR6b.out.sees HR7.out.sees).mono ?_); rintro e w8 ⟨rfl, hb8⟩; go_must (have HM8 := keepG (HM7.out.below hb8); clear hb8)))
          clear HM5 HM6 HM7 HM8 HR6 HR6b HR7 HM3 HS3 HR3 HAP3
          go_loopw [12] (fun i wz => ∃ z : Nat, z ≤ qs.length ∧ i = .int .i64 z ∧ ∃ F G c, Hid (L2 w wz a b F G c c ∧ c.ln = qs.drop z)) (fun i _ => qs.length - (intOf i).toNat)
          case atStart => exact ⟨0, by omega, rfl, F5, G, o.line qs, HM9.out, rfl⟩
          case round =>
            clear HM9
            obtain ⟨z, hz, rfl, F, G, c, HC⟩ := hrel
            rename World => wz
            by_cases hzt : z < qs.length
            · have hztI : (z : Int) < qs.length := by omega
              obtain ⟨p, c', e1, e2, -, -⟩ := step_cons (HC.out.2.trans (drop_cons hzt))
              have HST := keepG e1
              have HLN := keepG e2
              have HZC : Hid (c.ln.length * 56 ≤ 140737488355328) := by show _ ≤ _; rw [HC.out.2, List.length_drop]; omega
              obtain ⟨q, x, ps⟩ := p
              obtain ⟨qf, qt, qw, qm, qo, qk, qv⟩ := q
              obtain ⟨xE, xf, xv, xo, xk, xu⟩ := x
              clear e1 e2
              go_wp2_with (first
                | (have hq := HPX6; clear hq; go_at_call 13; go_must (refine (HM7.out.lb.step HZC HST).mono ?_); rintro e w8 ⟨a8, c8, rfl, G8, hL8, hn8, hr8, _⟩; go_must (unfold rpV; have HM8 := keepG (HM7.out.goB hL8 hn8); have HPX8 := keepG (HPX6.out.chg hn8.chg (fun e => HNG.out e)); have HR8 := keepG (own_keeps HR6.out hn8.chg HGR.out); obtain ⟨W9, HW9, hb9, HPY9⟩ : ∃ W9, Hid (w8.alloc (.cells (rpC ⟨⟨qf, qt, qw, qm, qo, qk, qv⟩, ⟨xE, xf, xv, xo, xk, xu⟩, ps⟩ (.slice a8 ps.length c8)).toArray 50) = W9) ∧ Below w8.heap.size w8 W9 ∧ Hid (Hp W9 w8.heap.size 50 (rpC ⟨⟨qf, qt, qw, qm, qo, qk, qv⟩, ⟨xE, xf, xv, xo, xk, xu⟩, ps⟩ (.slice a8 ps.length c8))) := ⟨_, rfl, below_allocG _ _, Hp.new w8 _ _⟩; have HPX9 := keepG (HPX8.out.below hb9 HPX8.out.lt); have HM9 := keepG (HM8.out.below hb9); have HS8 := keepG ((own_seesG ppC_len Pp.nil HR8.out).below hb9 (Nat.le_refl _)); have HS9 := keepG ((own_seesG ppC_len Pp.nil hr8).below hb9 (Nat.le_refl _)); obtain ⟨⟨x0, x1, x2, x3, x4, x5, x6⟩, x7, x8, x9, x10, x11, x12, x13⟩ := rp_cells HPX9.out; obtain ⟨⟨y0, y1, y2, y3, y4, y5, y6⟩, y7, y8, y9, y10, y11, y12, y13⟩ := rp_cells HPY9.out; clear hL8 hn8 hr8 hb9))
                | (go_at_call 13; go_must (refine (HC.out.1.la.step HZC HST).mono ?_); rintro e w6 ⟨a6, c6, rfl, F6, hL6, hn6, hr6, _⟩; go_must (unfold rpV; have HM6 := keepG (HC.out.1.goA hL6 hn6); obtain ⟨W7, HW7, hb7, HPX6⟩ : ∃ W7, Hid (w6.alloc (.cells (rpC ⟨⟨qf, qt, qw, qm, qo, qk, qv⟩, ⟨xE, xf, xv, xo, xk, xu⟩, ps⟩ (.slice a6 ps.length c6)).toArray 50) = W7) ∧ Below w6.heap.size w6 W7 ∧ Hid (Hp W7 w6.heap.size 50 (rpC ⟨⟨qf, qt, qw, qm, qo, qk, qv⟩, ⟨xE, xf, xv, xo, xk, xu⟩, ps⟩ (.slice a6 ps.length c6))) := ⟨_, rfl, below_allocG _ _, Hp.new w6 _ _⟩; have HM7 := keepG (HM6.out.below hb7); have HR6 := keepG (own_below hr6 hb7 (Nat.le_refl _)); have HNG : Hid (¬ G w6.heap.size) := (fun e => by have := HM6.out.lb.lies _ e; omega); have HGR : Hid (Apt G (ftV (.slice a6 ps.length c6))) := (fun k e1 e2 => by have := HC.out.1.lb.lies k e1; have := (hr6.lt k e2).1; omega); clear hL6 hn6 hr6 hb7))
                | (rw [HW9.out])
                | (rw [HW7.out])
                | (go_at_call 15; go_must (refine (walike (p := ⟨⟨qf, qt, qw, qm, qo, qk, qv⟩, ⟨xE, xf, xv, xo, xk, xu⟩, ps⟩) HS8.out HS9.out).mono ?_); rintro e w10 ⟨rfl, hb10⟩; go_must (have HM10 := keepG (HM9.out.below hb10); clear hb10)))
              go_roundw
              case rel => exact ⟨z + 1, by omega, by go_num, F6, G8, c', HM10.out, HLN.out⟩
              case measure => simp [intOf]; omega
            · have hztI : ¬ (z : Int) < qs.length := by omega
              go_wp2
              go_ret
              exact ⟨rfl, HC.out.1.la.be⟩
/-- OwnerMany. -/
theorem ownerMany_walk (s n : Int) (mv : Value) (es : List (Int × Int)) (qv : Value) (qs : List Rt) (w : World) (hm : SeesG dfC 2 (0, 0) w mv es) (_ : es.length * 16 ≤ 140737488351232) (hs : Rqs w qv qs) (hlen : qs.length * 56 ≤ 140737488351232 ∧ ∀ x ∈ qs, True) :
    Calls Try.prog 6 #[shV s n mv, qv] w fun e w' => e = .returned (.bool true) ∧ Below w.heap.size w w' := ownerMany_ok s n mv es qv qs w hm hs.sees hs.wf hlen.1
end Go.Proofs.Ytpbfgebecgikjaa
