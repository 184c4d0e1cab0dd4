
/-
  HooksVersions, walked. Condition: none but the arguments' reading.
-/
import Derived.Test.YtknijloificpmaaW19V
namespace Go.Proofs.Ytknijloificpmaa
open Go.RowKit
set_option linter.unusedVariables false
set_option linter.unusedSimpArgs false
set_option maxRecDepth 100000
theorem hooksVersions_no (n : Int) (sv : Value) (w : World) (h : n < 1 ∨ 4 < n) :
    Calls Try.prog 4 #[.int .i64 n, sv] w fun e w' => e = .returned (.bool true) ∧ Below w.heap.size w w' := by
  go_enter Try.func4, Try.ntmps4
  go_wp2_with (first
    | (go_at_call 7; go_must (refine (awake19_any w).mono ?_); rintro e w1 ⟨rfl, hb1⟩)
    | (go_at_call 8; go_must (refine (ltnew_no n h _).mono ?_); rintro e w2 ⟨rfl, rfl⟩))
  go_ret
  exact ⟨rfl, hb1⟩
set_option maxHeartbeats 25600000 in
theorem hooksVersions_ok (n : Nat) (hn1 : 1 ≤ n) (h4 : n ≤ 4) (sv : Value) (is : List Ow) (w : World) (hs : Scr w sv is) (hlen : is.length * 48 ≤ 140737488351232) :
    Calls Try.prog 4 #[.int .i64 n, sv] w fun e w' => e = .returned (.bool true) ∧ Below w.heap.size w w' := by
  have HSC := keepG hs
  obtain ⟨a, c, rfl, hc, hm, _, _⟩ := hs.sees
  have hm' : c ≤ 9223372036854775807 := by unfold maxLen at hm; omega
  clear hs hm
  go_enter Try.func4, Try.ntmps4
  go_wp2_with (first
    | (go_at_call 7; go_must (refine (awake19_any w).mono ?_); rintro e w1 ⟨rfl, hb1⟩; go_must (have HB1 := keepG hb1; clear hb1))
    | (go_at_call 8; go_must (refine (lznew_ok n hn1 h4 HB1.out).mono ?_); rintro e w2 ⟨b, F0, rfl, hL, _, _⟩; go_must (have HL0 := keepG hL; clear hL; have hmk1 := run_makeV19 n h4 w2; obtain ⟨V1, HV1, HP1, hbV1⟩ : ∃ V1, Hid (w2.alloc (.cells (vC (Tb.new n).at').toArray 3) = V1) ∧ Hid (Hp V1 w2.heap.size 3 (vC (Tb.new n).at')) ∧ Below w2.heap.size w2 V1 := ⟨_, rfl, Hp.new w2 _ _, below_allocG _ _⟩; rw [HV1.out] at hmk1; have hmk2 := run_makeV19 n h4 V1; obtain ⟨V2, HV2, HP2, hbV2⟩ : ∃ V2, Hid (V1.alloc (.cells (vC (Tb.new n).at').toArray 3) = V2) ∧ Hid (Hp V2 V1.heap.size 3 (vC (Tb.new n).at')) ∧ Below V1.heap.size V1 V2 := ⟨_, rfl, Hp.new V1 _ _, below_allocG _ _⟩; rw [HV2.out] at hmk2)))
  have HLV : Hid (Lv w V2 b F0 (Tb.new n) w2.heap.size V1.heap.size (Tb.new n).at') := by
    have hp1l := HP1.out.lt
    have hz1 := hbV1.size
    have hz0 := HL0.out.be.size
    refine ⟨(HL0.out.below hbV1).below hbV2, HP1.out.below hbV2 hp1l, by rw [← vp_new]; exact HP2.out, fun e => ?_, fun e => ?_, by omega, hz0, by omega⟩
    · have := HL0.out.lies _ e; omega
    · have := HL0.out.lies _ e; omega
  obtain ⟨gv, HGV⟩ : ∃ gv, Hid (w2.heap.size = gv) := ⟨_, rfl⟩
  obtain ⟨gp, HGP⟩ : ∃ gp, Hid (V1.heap.size = gp) := ⟨_, rfl⟩
  rw [HGV.out, HGP.out] at HLV
  rw [HGV.out, HGP.out]
  have hlN : (Tb.new n).at'.length = n := by simp [Tb.new]
  have HLN := keepG hlN
  clear hlN hmk1 hmk2 HV1 HP1 hbV1 HV2 HP2 hbV2 HGV HGP
  go_loopw [7, 10] (fun vl i wr => ∃ j : Nat, j ≤ is.length ∧ i = .int .i64 j ∧ ∃ F t la, vl = .int .i64 la ∧ Hid (la = t.last ∧ Lv w wr b F t gv gp t.at' ∧ t.last ≤ j ∧ t.at'.length = n)) (fun _ i _ => is.length - (intOf i).toNat)
  case atStart => exact ⟨0, by omega, rfl, F0, _, 0, rfl, rfl, HLV.out, by show (0 : Int) ≤ _; omega, HLN.out⟩
  case round =>
    obtain ⟨j, hj, rfl, F, t, la, rfl, HM⟩ := hrel
    rename World => wr
    obtain rfl : la = t.last := HM.out.1
    by_cases hlt : j < is.length
    · have hltI : (j : Int) < is.length := by omega
      obtain ⟨o, HO⟩ : ∃ o, Hid (is.getD j Ow.nil = o) := ⟨_, rfl⟩
      obtain ⟨p, off, cap, ev, _, _, ⟨d0, d1, d2, d3⟩, hsu, _, hwf⟩ := HSC.out.at HM.out.2.1.lz.be hlt HO.out
      simp only [Value.slice.injEq, true_and] at ev
      obtain ⟨rfl, rfl⟩ := ev
      obtain ⟨X, HX, hbX, HPX⟩ := op_box19 wr o
      have HVB := keepG (HM.out.2.1.box hbX HPX.out)
      obtain ⟨bx, HBX⟩ : ∃ bx, Hid (wr.heap.size = bx) := ⟨_, rfl⟩
      obtain ⟨ok, ox, op, ou, ow⟩ := o
      simp only at d0 d1 d2 d3 HX hwf
      obtain ⟨oa, oc, ev⟩ := (show Sees .i64 wr ou ow from hsu).shape
      subst ev
      have q0 := HVB.out.cells.1
      have q1 := HVB.out.cells.2.1
      have q2 := HVB.out.cells.2.2
      simp only at q0 q1 q2
      have HWF := keepG hwf
      have hla := HM.out.2.2.1
      have hlen1 := HM.out.2.2.2
      have HL1 := keepG hlen1
      have hl0 := HM.out.2.1.lz.ok.last
      have hw1 : IntKind.i64.wrap (t.last + 1) = t.last + 1 := by rw [IntKind.wrap_i64]; omega
      have hLL : (t.last != t.last) = false := by simp
      have hL1 : (t.last + 1 != t.last + 1) = false := by simp
      clear hsu hwf hlen1 HM hbX HPX
      by_cases hk0 : ok = 0
      · subst hk0
        obtain ⟨v, E, t6, HQ⟩ : ∃ v E t6, Hid (t.put false ox op = (v, E, t6)) := ⟨_, _, _, rfl⟩
        rcases put_cases HQ.out with ⟨rfl, hE, ht⟩ | ⟨k, rfl, hk, hv, rfl, ht⟩
        · subst ht
          have HLT := HL1
          have HLS : Hid (t.last ≤ (j : Int)) := hla
          go_wp2_with (first
            | (rw [HX.out])
            | (go_at_call 13; go_must (refine (HVB.out.lv.lz.attach (by omega) ox op HQ).mono ?_); rintro e w6 ⟨rfl, F6, hl6, hn6⟩; go_must (have HV6 := keepG (HVB.out.step hl6 hn6); clear hl6 hn6))
            | (go_at_call 10; go_must (refine (HV6.out.lv.lz.last).mono ?_); rintro e wl ⟨rfl, rfl⟩))
          go_loopw [14] (fun i wz => ∃ z : Nat, z ≤ n ∧ i = .int .i64 z ∧ Hid (Lv w wz b F6 t gv gp t.at')) (fun i _ => n - (intOf i).toNat)
          case atStart => exact ⟨0, by omega, rfl, HV6.out.lv⟩
          case round =>
            obtain ⟨z, hz, rfl, HZ⟩ := hrel
            rename World => wz
            by_cases hzn : z < n
            · have hznI : (z : Int) < n := by omega
              obtain ⟨s, HS⟩ : ∃ s, Hid (t.at'.getD z Sl.nil = s) := ⟨_, rfl⟩
              have HC : Hid (t.cur z = (s.v, s.p, decide (s.v > 0))) := by
                show _ = _
                have h5 := (HZ.out.lz.ok.slot z).1
                unfold Tb.cur Tb.taken
                rw [Tb.slot_nat, HS.out] at h5 ⊢
                by_cases h0 : s.v = 0
                · rw [h0]; rfl
                · have : 0 < s.v := by omega
                  simp [h0, this]
              have hLt : z < t.at'.length := by rw [HLT.out]; exact hzn
              have HA := keepG (fun (wx : World) (hb : Below wz.heap.size wz wx) => (HZ.out.below hb))
              obtain ⟨sv, sp⟩ := s
              simp only at HC
              have g1 : (sv != sv) = false := by simp
              have g2 : (sp != sp) = false := by simp
              obtain ⟨r, HR⟩ : ∃ r, Hid (decide (sv > 0) = r) := ⟨_, rfl⟩
              have hr := HR.out
              have g3 : (r != r) = false := by cases r <;> rfl
              rw [HR.out] at HC
              go_wp2_with (go_at_call 11; go_must (refine (HZ.out.lz.current z HC).mono ?_); rintro e w8 ⟨rfl, hb8⟩; go_must (have HZ8 := keepG (HA.out w8 hb8); have cv := (HZ8.out.atV hLt).1; have cp := (HZ8.out.atP hLt).1; rw [HS.out] at cv cp; clear hb8; simp only at cv cp))
              go_roundw
              case rel => exact ⟨z + 1, by omega, by go_num, HZ8.out⟩
              case measure => simp [intOf]; omega
            · have hznI : ¬ (z : Int) < n := by omega
              go_wp2
              go_roundw
              case rel => exact ⟨j + 1, by omega, by go_num, F6, t, _, rfl, rfl, HZ.out, by have := HLS.out; omega, HLT.out⟩
              case measure => simp [intOf]; omega
        · have HT6 := keepG ht
          have HVE := keepG hv
          have hw2 : IntKind.i64.wrap (t.last + 1) = v := by rw [hw1, hv]
          have hvv : (v != v) = false := by simp
          clear hw1 hL1 hv
          have HLT : Hid (t6.at'.length = n) := by
            show _ = _
            rw [← ht]
            have := HL1.out
            simpa [Tb.pub] using this
          have HLS : Hid (t6.last ≤ (j : Int) + 1) := by
            show _ ≤ _
            rw [← ht]
            show t.last + 1 ≤ _
            omega
          have hkn : k < n := by have := HL1.out; omega
          have hknI : (k : Int) < n := by omega
          have h0I : ¬ (k : Int) < 0 := by omega
          have h1I : ¬ (n : Int) ≤ k := by omega
          have hge : decide ((k : Int) ≥ n) = false := by simpa using hknI
          have hnkb : decide (n ≤ k) = false := decide_eq_false (by omega)
          have hk0b : decide ((k : Int) < 0) = false := decide_eq_false h0I
          have hnk : ¬ n ≤ k := by omega
          clear ht
          go_wp2_with (first
            | (rw [HX.out])
            | (go_at_call 13; go_must (refine (HVB.out.lv.lz.attach (by omega) k op HQ).mono ?_); rintro e w6 ⟨rfl, F6, hl6, hn6⟩; go_must (have HV6 := keepG (HVB.out.step hl6 hn6); clear hl6 hn6; have r0 := HV6.out.cells.1; have r1 := HV6.out.cells.2.1; have r2 := HV6.out.cells.2.2; simp only at r0 r1 r2; have cv := HV6.out.lv.atV hk; have cv0 := cv.1; have cv1 := cv.2; obtain ⟨W1, HW1⟩ : ∃ W1, Hid (w6.setCell ⟨gv, k, none⟩ (.int .i64 v) = W1) := ⟨_, rfl⟩; have HV7 := keepG (HV6.out.setV k v); rw [HW1.out] at HV7; have s1 := HV7.out.cells.2.1; have s2 := HV7.out.cells.2.2; simp only at s1 s2; have cp := HV7.out.lv.atP (k := k) (by simpa using hk); have cp0 := cp.1; have cp1 := cp.2; clear cv cp))
            | (rw [HW1.out]))
          have HV8 := keepG (HV7.out.setP k op)
          have he := set_both hk v op
          rw [he] at HV8
          have he2 : t.at'.set k ⟨v, op⟩ = t6.at' := by rw [← HT6.out, HVE.out]; rfl
          rw [he2] at HV8
          clear he he2
          go_loopw [14] (fun i wz => ∃ z : Nat, z ≤ n ∧ i = .int .i64 z ∧ Hid (Lv w wz b F6 t6 gv gp t6.at')) (fun i _ => n - (intOf i).toNat)
          case atStart => exact ⟨0, by omega, rfl, HV8.out.lv⟩
          case round =>
            obtain ⟨z, hz, rfl, HZ⟩ := hrel
            rename World => wz
            by_cases hzn : z < n
            · have hznI : (z : Int) < n := by omega
              obtain ⟨s, HS⟩ : ∃ s, Hid (t6.at'.getD z Sl.nil = s) := ⟨_, rfl⟩
              have HC : Hid (t6.cur z = (s.v, s.p, decide (s.v > 0))) := by
                show _ = _
                have h5 := (HZ.out.lz.ok.slot z).1
                unfold Tb.cur Tb.taken
                rw [Tb.slot_nat, HS.out] at h5 ⊢
                by_cases h0 : s.v = 0
                · rw [h0]; rfl
                · have : 0 < s.v := by omega
                  simp [h0, this]
              have hLt : z < t6.at'.length := by rw [HLT.out]; exact hzn
              have HA := keepG (fun (wx : World) (hb : Below wz.heap.size wz wx) => (HZ.out.below hb))
              obtain ⟨sv, sp⟩ := s
              simp only at HC
              have g1 : (sv != sv) = false := by simp
              have g2 : (sp != sp) = false := by simp
              obtain ⟨r, HR⟩ : ∃ r, Hid (decide (sv > 0) = r) := ⟨_, rfl⟩
              have hr := HR.out
              have g3 : (r != r) = false := by cases r <;> rfl
              rw [HR.out] at HC
              go_wp2_with (go_at_call 11; go_must (refine (HZ.out.lz.current z HC).mono ?_); rintro e w8 ⟨rfl, hb8⟩; go_must (have HZ8 := keepG (HA.out w8 hb8); have cv := (HZ8.out.atV hLt).1; have cp := (HZ8.out.atP hLt).1; rw [HS.out] at cv cp; clear hb8; simp only at cv cp))
              go_roundw
              case rel => exact ⟨z + 1, by omega, by go_num, HZ8.out⟩
              case measure => simp [intOf]; omega
            · have hznI : ¬ (z : Int) < n := by omega
              go_wp2
              go_roundw
              case rel => exact ⟨j + 1, by omega, by go_num, F6, t6, _, rfl, (by rw [HVE.out, ← HT6.out]; rfl), HZ.out, by have := HLS.out; omega, HLT.out⟩
              case measure => simp [intOf]; omega
      · have hk0b : (ok == 0) = false := by simpa using hk0
        by_cases hk1 : ok = 1
        · subst hk1
          clear hk0
          obtain ⟨v, E, t6, HQ⟩ : ∃ v E t6, Hid (t.put true ox op = (v, E, t6)) := ⟨_, _, _, rfl⟩
          rcases put_cases HQ.out with ⟨rfl, hE, ht⟩ | ⟨k, rfl, hk, hv, rfl, ht⟩
          · subst ht
            have HLT := HL1
            have HLS : Hid (t.last ≤ (j : Int)) := hla
            go_wp2_with (first
              | (rw [HX.out])
              | (go_at_call 14; go_must (refine (HVB.out.lv.lz.swap (by omega) ox op HQ).mono ?_); rintro e w6 ⟨rfl, F6, hl6, hn6⟩; go_must (have HV6 := keepG (HVB.out.step hl6 hn6); clear hl6 hn6))
              | (go_at_call 10; go_must (refine (HV6.out.lv.lz.last).mono ?_); rintro e wl ⟨rfl, rfl⟩))
            go_loopw [14] (fun i wz => ∃ z : Nat, z ≤ n ∧ i = .int .i64 z ∧ Hid (Lv w wz b F6 t gv gp t.at')) (fun i _ => n - (intOf i).toNat)
            case atStart => exact ⟨0, by omega, rfl, HV6.out.lv⟩
            case round =>
              obtain ⟨z, hz, rfl, HZ⟩ := hrel
              rename World => wz
              by_cases hzn : z < n
              · have hznI : (z : Int) < n := by omega
                obtain ⟨s, HS⟩ : ∃ s, Hid (t.at'.getD z Sl.nil = s) := ⟨_, rfl⟩
                have HC : Hid (t.cur z = (s.v, s.p, decide (s.v > 0))) := by
                  show _ = _
                  have h5 := (HZ.out.lz.ok.slot z).1
                  unfold Tb.cur Tb.taken
                  rw [Tb.slot_nat, HS.out] at h5 ⊢
                  by_cases h0 : s.v = 0
                  · rw [h0]; rfl
                  · have : 0 < s.v := by omega
                    simp [h0, this]
                have hLt : z < t.at'.length := by rw [HLT.out]; exact hzn
                have HA := keepG (fun (wx : World) (hb : Below wz.heap.size wz wx) => (HZ.out.below hb))
                obtain ⟨sv, sp⟩ := s
                simp only at HC
                have g1 : (sv != sv) = false := by simp
                have g2 : (sp != sp) = false := by simp
                obtain ⟨r, HR⟩ : ∃ r, Hid (decide (sv > 0) = r) := ⟨_, rfl⟩
                have hr := HR.out
                have g3 : (r != r) = false := by cases r <;> rfl
                rw [HR.out] at HC
                go_wp2_with (go_at_call 11; go_must (refine (HZ.out.lz.current z HC).mono ?_); rintro e w8 ⟨rfl, hb8⟩; go_must (have HZ8 := keepG (HA.out w8 hb8); have cv := (HZ8.out.atV hLt).1; have cp := (HZ8.out.atP hLt).1; rw [HS.out] at cv cp; clear hb8; simp only at cv cp))
                go_roundw
                case rel => exact ⟨z + 1, by omega, by go_num, HZ8.out⟩
                case measure => simp [intOf]; omega
              · have hznI : ¬ (z : Int) < n := by omega
                go_wp2
                go_roundw
                case rel => exact ⟨j + 1, by omega, by go_num, F6, t, _, rfl, rfl, HZ.out, by have := HLS.out; omega, HLT.out⟩
                case measure => simp [intOf]; omega
          · have HT6 := keepG ht
            have HVE := keepG hv
            have hw2 : IntKind.i64.wrap (t.last + 1) = v := by rw [hw1, hv]
            have hvv : (v != v) = false := by simp
            clear hw1 hL1 hv
            have HLT : Hid (t6.at'.length = n) := by
              show _ = _
              rw [← ht]
              have := HL1.out
              simpa [Tb.pub] using this
            have HLS : Hid (t6.last ≤ (j : Int) + 1) := by
              show _ ≤ _
              rw [← ht]
              show t.last + 1 ≤ _
              omega
            have hkn : k < n := by have := HL1.out; omega
            have hknI : (k : Int) < n := by omega
            have h0I : ¬ (k : Int) < 0 := by omega
            have h1I : ¬ (n : Int) ≤ k := by omega
            have hge : decide ((k : Int) ≥ n) = false := by simpa using hknI
            have hnkb : decide (n ≤ k) = false := decide_eq_false (by omega)
            have hk0b : decide ((k : Int) < 0) = false := decide_eq_false h0I
            have hnk : ¬ n ≤ k := by omega
            clear ht
            go_wp2_with (first
              | (rw [HX.out])
              | (go_at_call 14; go_must (refine (HVB.out.lv.lz.swap (by omega) k op HQ).mono ?_); rintro e w6 ⟨rfl, F6, hl6, hn6⟩; go_must (have HV6 := keepG (HVB.out.step hl6 hn6); clear hl6 hn6; have r0 := HV6.out.cells.1; have r1 := HV6.out.cells.2.1; have r2 := HV6.out.cells.2.2; simp only at r0 r1 r2; have cv := HV6.out.lv.atV hk; have cv0 := cv.1; have cv1 := cv.2; obtain ⟨W1, HW1⟩ : ∃ W1, Hid (w6.setCell ⟨gv, k, none⟩ (.int .i64 v) = W1) := ⟨_, rfl⟩; have HV7 := keepG (HV6.out.setV k v); rw [HW1.out] at HV7; have s1 := HV7.out.cells.2.1; have s2 := HV7.out.cells.2.2; simp only at s1 s2; have cp := HV7.out.lv.atP (k := k) (by simpa using hk); have cp0 := cp.1; have cp1 := cp.2; clear cv cp))
              | (rw [HW1.out]))
            have HV8 := keepG (HV7.out.setP k op)
            have he := set_both hk v op
            rw [he] at HV8
            have he2 : t.at'.set k ⟨v, op⟩ = t6.at' := by rw [← HT6.out, HVE.out]; rfl
            rw [he2] at HV8
            clear he he2
            go_loopw [14] (fun i wz => ∃ z : Nat, z ≤ n ∧ i = .int .i64 z ∧ Hid (Lv w wz b F6 t6 gv gp t6.at')) (fun i _ => n - (intOf i).toNat)
            case atStart => exact ⟨0, by omega, rfl, HV8.out.lv⟩
            case round =>
              obtain ⟨z, hz, rfl, HZ⟩ := hrel
              rename World => wz
              by_cases hzn : z < n
              · have hznI : (z : Int) < n := by omega
                obtain ⟨s, HS⟩ : ∃ s, Hid (t6.at'.getD z Sl.nil = s) := ⟨_, rfl⟩
                have HC : Hid (t6.cur z = (s.v, s.p, decide (s.v > 0))) := by
                  show _ = _
                  have h5 := (HZ.out.lz.ok.slot z).1
                  unfold Tb.cur Tb.taken
                  rw [Tb.slot_nat, HS.out] at h5 ⊢
                  by_cases h0 : s.v = 0
                  · rw [h0]; rfl
                  · have : 0 < s.v := by omega
                    simp [h0, this]
                have hLt : z < t6.at'.length := by rw [HLT.out]; exact hzn
                have HA := keepG (fun (wx : World) (hb : Below wz.heap.size wz wx) => (HZ.out.below hb))
                obtain ⟨sv, sp⟩ := s
                simp only at HC
                have g1 : (sv != sv) = false := by simp
                have g2 : (sp != sp) = false := by simp
                obtain ⟨r, HR⟩ : ∃ r, Hid (decide (sv > 0) = r) := ⟨_, rfl⟩
                have hr := HR.out
                have g3 : (r != r) = false := by cases r <;> rfl
                rw [HR.out] at HC
                go_wp2_with (go_at_call 11; go_must (refine (HZ.out.lz.current z HC).mono ?_); rintro e w8 ⟨rfl, hb8⟩; go_must (have HZ8 := keepG (HA.out w8 hb8); have cv := (HZ8.out.atV hLt).1; have cp := (HZ8.out.atP hLt).1; rw [HS.out] at cv cp; clear hb8; simp only at cv cp))
                go_roundw
                case rel => exact ⟨z + 1, by omega, by go_num, HZ8.out⟩
                case measure => simp [intOf]; omega
              · have hznI : ¬ (z : Int) < n := by omega
                go_wp2
                go_roundw
                case rel => exact ⟨j + 1, by omega, by go_num, F6, t6, _, rfl, (by rw [HVE.out, ← HT6.out]; rfl), HZ.out, by have := HLS.out; omega, HLT.out⟩
                case measure => simp [intOf]; omega
        · have hk1b : (ok == 1) = false := by simpa using hk1
          by_cases hk2 : ok = 2
          · subst hk2
            clear hk0 hk1
            obtain ⟨E, t6, HQ⟩ : ∃ E t6, Hid (t.det [ox] = (E, t6)) := ⟨_, _, rfl⟩
            obtain ⟨Z, HZZ, hbZ, HSZ⟩ := lit_one X ox HWF.out
            have HVZ := keepG (HVB.out.below hbZ)
            rcases det_cases HQ.out with ⟨hE, ht⟩ | ⟨k, rfl, hk, rfl, ht⟩
            · subst ht
              have HLT := HL1
              have HLS : Hid (t.last ≤ (j : Int)) := hla
              go_wp2_with (first
                | (rw [HX.out])
                | (go_at_call 15; rw [HZZ.out]; go_must (refine (HVZ.out.lv.lz.detach HSZ.out (fun _ k hk e => by have h5 := HVB.out.lv.lz.lies k hk; have h6 := ft_lit e; omega) HQ).mono ?_); rintro e w6 ⟨rfl, F6, hl6, hn6⟩; go_must (have HV6 := keepG (HVZ.out.step hl6 hn6); clear hl6 hn6))
                | (go_at_call 10; go_must (refine (HV6.out.lv.lz.last).mono ?_); rintro e wl ⟨rfl, rfl⟩))
              go_loopw [14] (fun i wz => ∃ z : Nat, z ≤ n ∧ i = .int .i64 z ∧ Hid (Lv w wz b F6 t gv gp t.at')) (fun i _ => n - (intOf i).toNat)
              case atStart => exact ⟨0, by omega, rfl, HV6.out.lv⟩
              case round =>
                obtain ⟨z, hz, rfl, HZ⟩ := hrel
                rename World => wz
                by_cases hzn : z < n
                · have hznI : (z : Int) < n := by omega
                  obtain ⟨s, HS⟩ : ∃ s, Hid (t.at'.getD z Sl.nil = s) := ⟨_, rfl⟩
                  have HC : Hid (t.cur z = (s.v, s.p, decide (s.v > 0))) := by
                    show _ = _
                    have h5 := (HZ.out.lz.ok.slot z).1
                    unfold Tb.cur Tb.taken
                    rw [Tb.slot_nat, HS.out] at h5 ⊢
                    by_cases h0 : s.v = 0
                    · rw [h0]; rfl
                    · have : 0 < s.v := by omega
                      simp [h0, this]
                  have hLt : z < t.at'.length := by rw [HLT.out]; exact hzn
                  have HA := keepG (fun (wx : World) (hb : Below wz.heap.size wz wx) => (HZ.out.below hb))
                  obtain ⟨sv, sp⟩ := s
                  simp only at HC
                  have g1 : (sv != sv) = false := by simp
                  have g2 : (sp != sp) = false := by simp
                  obtain ⟨r, HR⟩ : ∃ r, Hid (decide (sv > 0) = r) := ⟨_, rfl⟩
                  have hr := HR.out
                  have g3 : (r != r) = false := by cases r <;> rfl
                  rw [HR.out] at HC
                  go_wp2_with (go_at_call 11; go_must (refine (HZ.out.lz.current z HC).mono ?_); rintro e w8 ⟨rfl, hb8⟩; go_must (have HZ8 := keepG (HA.out w8 hb8); have cv := (HZ8.out.atV hLt).1; have cp := (HZ8.out.atP hLt).1; rw [HS.out] at cv cp; clear hb8; simp only at cv cp))
                  go_roundw
                  case rel => exact ⟨z + 1, by omega, by go_num, HZ8.out⟩
                  case measure => simp [intOf]; omega
                · have hznI : ¬ (z : Int) < n := by omega
                  go_wp2
                  go_roundw
                  case rel => exact ⟨j + 1, by omega, by go_num, F6, t, _, rfl, rfl, HZ.out, by have := HLS.out; omega, HLT.out⟩
                  case measure => simp [intOf]; omega
            · have HT6 := keepG ht
              have HLT : Hid (t6.at'.length = n) := by
                show _ = _
                rw [← ht]
                have := HL1.out
                simpa using this
              have HLS : Hid (t6.last ≤ (j : Int)) := by
                show _ ≤ _
                rw [← ht]
                exact hla
              have hkn : k < n := by have := HL1.out; omega
              have hknI : (k : Int) < n := by omega
              have h0I : ¬ (k : Int) < 0 := by omega
              have h1I : ¬ (n : Int) ≤ k := by omega
              have hge : decide ((k : Int) ≥ n) = false := by simpa using hknI
              have hnkb : decide (n ≤ k) = false := decide_eq_false (by omega)
              have hk0b : decide ((k : Int) < 0) = false := decide_eq_false h0I
              have hnk : ¬ n ≤ k := by omega
              clear ht
              go_wp2_with (first
                | (rw [HX.out])
                | (go_at_call 15; rw [HZZ.out]; go_must (refine (HVZ.out.lv.lz.detach HSZ.out (fun _ k hk e => by have h5 := HVB.out.lv.lz.lies k hk; have h6 := ft_lit e; omega) HQ).mono ?_); rintro e w6 ⟨rfl, F6, hl6, hn6⟩; go_must (have HV6 := keepG (HVZ.out.step hl6 hn6); clear hl6 hn6; have r0 := HV6.out.cells.1; have r1 := HV6.out.cells.2.1; simp only at r0 r1; have cv := HV6.out.lv.atV hk; have cv0 := cv.1; have cv1 := cv.2; obtain ⟨W1, HW1⟩ : ∃ W1, Hid (w6.setCell ⟨gv, k, none⟩ (.int .i64 0) = W1) := ⟨_, rfl⟩; have HV7 := keepG (HV6.out.setV k 0); rw [HW1.out] at HV7; have s1 := HV7.out.cells.2.1; simp only at s1; have cp := HV7.out.lv.atP (k := k) (by simpa using hk); have cp0 := cp.1; have cp1 := cp.2; clear cv cp))
                | (rw [HW1.out]))
              have HV8 := keepG (HV7.out.setP k 0)
              have he := set_both hk 0 0
              rw [he] at HV8
              have he2 : t.at'.set k ⟨0, 0⟩ = t6.at' := by rw [← HT6.out]; rfl
              rw [he2] at HV8
              clear he he2
              go_loopw [14] (fun i wz => ∃ z : Nat, z ≤ n ∧ i = .int .i64 z ∧ Hid (Lv w wz b F6 t6 gv gp t6.at')) (fun i _ => n - (intOf i).toNat)
              case atStart => exact ⟨0, by omega, rfl, HV8.out.lv⟩
              case round =>
                obtain ⟨z, hz, rfl, HZ⟩ := hrel
                rename World => wz
                by_cases hzn : z < n
                · have hznI : (z : Int) < n := by omega
                  obtain ⟨s, HS⟩ : ∃ s, Hid (t6.at'.getD z Sl.nil = s) := ⟨_, rfl⟩
                  have HC : Hid (t6.cur z = (s.v, s.p, decide (s.v > 0))) := by
                    show _ = _
                    have h5 := (HZ.out.lz.ok.slot z).1
                    unfold Tb.cur Tb.taken
                    rw [Tb.slot_nat, HS.out] at h5 ⊢
                    by_cases h0 : s.v = 0
                    · rw [h0]; rfl
                    · have : 0 < s.v := by omega
                      simp [h0, this]
                  have hLt : z < t6.at'.length := by rw [HLT.out]; exact hzn
                  have HA := keepG (fun (wx : World) (hb : Below wz.heap.size wz wx) => (HZ.out.below hb))
                  obtain ⟨sv, sp⟩ := s
                  simp only at HC
                  have g1 : (sv != sv) = false := by simp
                  have g2 : (sp != sp) = false := by simp
                  obtain ⟨r, HR⟩ : ∃ r, Hid (decide (sv > 0) = r) := ⟨_, rfl⟩
                  have hr := HR.out
                  have g3 : (r != r) = false := by cases r <;> rfl
                  rw [HR.out] at HC
                  go_wp2_with (go_at_call 11; go_must (refine (HZ.out.lz.current z HC).mono ?_); rintro e w8 ⟨rfl, hb8⟩; go_must (have HZ8 := keepG (HA.out w8 hb8); have cv := (HZ8.out.atV hLt).1; have cp := (HZ8.out.atP hLt).1; rw [HS.out] at cv cp; clear hb8; simp only at cv cp))
                  go_roundw
                  case rel => exact ⟨z + 1, by omega, by go_num, HZ8.out⟩
                  case measure => simp [intOf]; omega
                · have hznI : ¬ (z : Int) < n := by omega
                  go_wp2
                  go_roundw
                  case rel => exact ⟨j + 1, by omega, by go_num, F6, t6, _, rfl, (by rw [← HT6.out]), HZ.out, by have := HLS.out; omega, HLT.out⟩
                  case measure => simp [intOf]; omega
          · have hk2b : (ok == 2) = false := by simpa using hk2
            have HLT := HL1
            have HLS : Hid (t.last ≤ (j : Int)) := hla
            go_wp2_with (first
              | (rw [HX.out])
              | (go_at_call 10; go_must (refine (HVB.out.lv.lz.last).mono ?_); rintro e wl ⟨rfl, rfl⟩))
            go_loopw [14] (fun i wz => ∃ z : Nat, z ≤ n ∧ i = .int .i64 z ∧ Hid (Lv w wz b F t gv gp t.at')) (fun i _ => n - (intOf i).toNat)
            case atStart => exact ⟨0, by omega, rfl, HVB.out.lv⟩
            case round =>
              obtain ⟨z, hz, rfl, HZ⟩ := hrel
              rename World => wz
              by_cases hzn : z < n
              · have hznI : (z : Int) < n := by omega
                obtain ⟨s, HS⟩ : ∃ s, Hid (t.at'.getD z Sl.nil = s) := ⟨_, rfl⟩
                have HC : Hid (t.cur z = (s.v, s.p, decide (s.v > 0))) := by
                  show _ = _
                  have h5 := (HZ.out.lz.ok.slot z).1
                  unfold Tb.cur Tb.taken
                  rw [Tb.slot_nat, HS.out] at h5 ⊢
                  by_cases h0 : s.v = 0
                  · rw [h0]; rfl
                  · have : 0 < s.v := by omega
                    simp [h0, this]
                have hLt : z < t.at'.length := by rw [HLT.out]; exact hzn
                have HA := keepG (fun (wx : World) (hb : Below wz.heap.size wz wx) => (HZ.out.below hb))
                obtain ⟨sv, sp⟩ := s
                simp only at HC
                have g1 : (sv != sv) = false := by simp
                have g2 : (sp != sp) = false := by simp
                obtain ⟨r, HR⟩ : ∃ r, Hid (decide (sv > 0) = r) := ⟨_, rfl⟩
                have hr := HR.out
                have g3 : (r != r) = false := by cases r <;> rfl
                rw [HR.out] at HC
                go_wp2_with (go_at_call 11; go_must (refine (HZ.out.lz.current z HC).mono ?_); rintro e w8 ⟨rfl, hb8⟩; go_must (have HZ8 := keepG (HA.out w8 hb8); have cv := (HZ8.out.atV hLt).1; have cp := (HZ8.out.atP hLt).1; rw [HS.out] at cv cp; clear hb8; simp only at cv cp))
                go_roundw
                case rel => exact ⟨z + 1, by omega, by go_num, HZ8.out⟩
                case measure => simp [intOf]; omega
              · have hznI : ¬ (z : Int) < n := by omega
                go_wp2
                go_roundw
                case rel => exact ⟨j + 1, by omega, by go_num, F, t, _, rfl, rfl, HZ.out, by have := HLS.out; omega, HLT.out⟩
                case measure => simp [intOf]; omega
    · have hltI : ¬ (j : Int) < is.length := by omega
      have HBE := keepG HM.out.2.1.lz.be
      go_wp2
      go_ret
      exact ⟨rfl, HBE.out⟩
/-- HooksVersions. -/
theorem hooksVersions_walk (n : Int) (sv : Value) (is : List Ow) (w : World) {P0 : Prop} (_ : P0) (hs : Scr w sv is) (hlen : is.length * 48 ≤ 140737488351232 ∧ ∀ x ∈ is, x.ws.length * 8 ≤ 140737488351232) :
    Calls Try.prog 4 #[.int .i64 n, sv] w fun e w' => e = .returned (.bool true) ∧ Below w.heap.size w w' := by
  by_cases h : n < 1 ∨ 4 < n
  · exact hooksVersions_no n sv w h
  · obtain ⟨m, rfl⟩ : ∃ m : Nat, n = m := ⟨n.toNat, by omega⟩
    exact hooksVersions_ok m (by omega) (by omega) sv is w hs hlen.1
end Go.Proofs.Ytknijloificpmaa
