
/-
  RefsMany, walked: scripts of at most 300 calls. Condition: none but the arguments' reading.
-/
import Derived.Test.YtonbaklbbmmljaaTk
import Derived.Test.YtonbaklbbmmljaaW18M2
namespace Go.Proofs.Ytonbaklbbmmljaa
open Go.RowKit
set_option linter.unusedVariables false
set_option linter.unusedSimpArgs false
set_option maxRecDepth 100000
set_option maxHeartbeats 25600000 in
theorem refsMany_a (sv pv : Value) (is : List Ow) (ps : List Int) (w : World) (hs : Scr w sv is) (hp : Sees .i64 w pv ps) (hlen : is.length * 40 ≤ 140737488351232) (hsz : ∀ x ∈ is, x.ws.length * 8 ≤ 140737488351232) (hpl : ps.length * 8 ≤ 140737488351232) (hlong : is.length ≤ 300) :
    Calls Try.prog 5 #[sv, pv] w fun e w' => e = .returned (.bool true) ∧ Below w.heap.size w w' := by
  have HSC := keepG hs
  have HPS := keepG (fun (wx : World) (hb : Below w.heap.size w wx) => hp.below hb (Nat.le_refl _))
  have HPW := keepG hp.wf
  have HPL := keepG (fun (hne : ps ≠ []) (k : Nat) (hk : pv.ownBlock = some k) => hp.lieE hne hk)
  obtain ⟨a, c, rfl, hc, hm, _, _⟩ := hs.sees
  obtain ⟨pa, pc, rfl, hpc, hpm, _⟩ := hp
  have hm' : c ≤ 9223372036854775807 := by unfold maxLen at hm; omega
  have hpm' : pc ≤ 9223372036854775807 := by unfold maxLen at hpm; omega
  obtain ⟨i0, hi0, hz0, hzs, hzb⟩ := info_parts infoIntM
  have HSZI := keepG hsz
  have HZP : Hid (ps.length * 8 ≤ 140737488355328) := Nat.le_trans hpl (by decide)
  clear hs hm hpm hsz
  go_enter Try.func5, Try.ntmps5
  go_wp2_with (first
    | (go_at_call 6; go_must (refine (awake18_any w).mono ?_); rintro e w1 ⟨rfl, hb1⟩; go_must (have HB1 := keepG hb1; clear hb1))
    | (go_at_call 7; have hq := HB1; clear hq; go_must (refine (lznew_ok 4 (by omega) HB1.out).mono ?_); rintro e w2 ⟨ra, F0, rfl, hL, _, _⟩; go_must (have HL0 := keepG hL; clear hL HB1))
    | (go_at_call 7; go_must (refine (lznew_ok 4 (by omega) HL0.out.be).mono ?_); rintro e w3 ⟨rb, G0, rfl, hL, hS, hb3⟩; go_must (have HT0 : Hid (L2z w w3 ra rb F0 G0 4 [] [] 0) := ⟨HL0.out.below hb3, hL, Apt.made HL0.out.lies hS⟩; clear hL hS hb3)))
  go_loopw [9] (fun i wr => ∃ j : Nat, j ≤ is.length ∧ j ≤ 300 ∧ i = .int .i64 j ∧ ∃ F G P, Hid (L2z w wr ra rb F G 4 P P j)) (fun i _ => is.length - (intOf i).toNat)
  case atStart => exact ⟨0, by omega, by omega, rfl, F0, G0, [], HT0.out⟩
  case round =>
    obtain ⟨j, hj, hj2, rfl, F, G, P, HM⟩ := hrel
    rename World => wr
    by_cases hgo : j < is.length ∧ j < 300
    · obtain ⟨hlt, hj3⟩ := hgo
      have hltI : (j : Int) < is.length := by omega
      have hj3I : (j : Int) < 300 := by omega
      obtain ⟨o, HO⟩ : ∃ o, Hid (is.getD j Ow.nil = o) := ⟨_, rfl⟩
      have HAT := keepG (fun (wx : World) (hb : Below w.heap.size w wx) => HSC.out.at hb hlt HO.out)
      have hzw := HSZI.out _ (getD_memW is j hlt)
      rw [HO.out] at hzw
      obtain ⟨p, off, cap, ev, _, _, d0, d1, d2, hsu, hlu, hwf⟩ := HSC.out.at HM.out.la.be hlt HO.out
      simp only [Value.slice.injEq, true_and] at ev
      obtain ⟨rfl, rfl⟩ := ev
      obtain ⟨ok, ox, ou, ow⟩ := o
      simp only at d0 d1 d2 hsu hlu hwf hzw
      have HZW : Hid (ow.length * 8 ≤ 140737488355328) := Nat.le_trans hzw (by decide)
      have HWF := keepG hwf
      obtain ⟨oa, oc, ev⟩ := hsu.shape
      subst ev
      have HLU := keepG hlu
      have HCE : Hid (∀ wx : World, Below w.heap.size w wx → (wx.cell? ⟨p, off + j * 3 + 1, none⟩ = some (.int .i64 ox) ∧ wx.cell? ⟨p, off + j * 3 + 2, none⟩ = some (.slice oa ow.length oc)) ∧ Sees .i64 wx (.slice oa ow.length oc) ow) := by
        intro wx hb
        obtain ⟨p2, off2, cap2, ev2, _, _, _, e1, e2, e3, _⟩ := HAT.out wx hb
        simp only [Value.slice.injEq, Option.some.injEq, Addr.mk.injEq, and_true, true_and] at ev2
        obtain ⟨⟨rfl, rfl⟩, rfl⟩ := ev2
        exact ⟨⟨e1, e2⟩, e3⟩
      clear hsu hlu hwf HAT hzw
      obtain ⟨E, P6, HQ⟩ : ∃ E P6, Hid (Rs.hold 4 P ox ow = (E, P6)) := ⟨_, _, rfl⟩
      have HMd := keepG (HM.out.drewN 1)
      have hEE : (E != E) = false := by simp
      go_wp2
      refine wp_region_held_drew (S := fun w' => w'.cell? ⟨p, off + j * 3 + 1, none⟩ = some (.int .i64 ox) ∧ w'.cell? ⟨p, off + j * 3 + 2, none⟩ = some (.slice oa ow.length oc)) (by kernel_rfl) ⟨d1, d2⟩ (fun hHeld => ?_)
      refine tkGo [0, 1, 2, 3, 4, 5, 6, 7, 8, 9, 10, 12, 13, 14, 15, 16, 17, 18, 19, 20, 21, 22] ?_
      repeat (refine tkOne (v := ?_) rfl (by kernel_rfl) (by kernel_rfl) (by kernel_rfl) (fun _ _ _ h => h) (by assumption) (by rfl) ?_ ?_; rotate_left; (intro wy hSw; (try dsimp only at hSw); go_simp; (first | done | with_reducible rfl)); try simp only [Act.put, List.getElem_toArray, List.getElem_cons_zero, List.getElem_cons_succ, List.setIfInBounds_toArray, List.set_cons_zero, List.set_cons_succ])
      refine tkEnd ?_
      refine wpAnyH_ready (rs := [11]) (by kernel_rfl) (by simp) ?_
      refine AllReadyH.cons rfl (fun KK hK => ?_) AllReadyH.nil
      rw [if_pos (by rfl)]
      go_simp
      go_at_call 8
      refine (HMd.out.la.hold (by omega) ox (HCE.out _ HMd.out.la.be).2 (HMd.out.la.apt (fun hne k hk => HLU.out hne k hk)) HQ).mono ?_
      rintro e w6 ⟨rfl, F6, hl6, hn6⟩
      have HM6 := keepG (HMd.out.stepA hl6 hn6 (by omega))
      go_simp
      refine hK.out _ _ (HCE.out _ HM6.out.la.be).1 (fun hHeld => ?_)
      clear hK KK hl6 hn6
      try simp only [Act.put, List.getElem_toArray, List.getElem_cons_zero, List.getElem_cons_succ, List.setIfInBounds_toArray, List.set_cons_zero, List.set_cons_succ]
      refine wpAnyH_ready (rs := [23]) (by kernel_rfl) (by simp) ?_
      refine AllReadyH.cons rfl (fun KK hK => ?_) AllReadyH.nil
      rw [if_pos (by rfl)]
      go_simp
      go_at_call 8
      refine (HM6.out.lb.hold (by omega) ox (HCE.out _ HM6.out.la.be).2 (HM6.out.lb.apt (fun hne k hk => HLU.out hne k hk)) HQ).mono ?_
      rintro e w7 ⟨rfl, G7, hl7, hn7⟩
      have HM7 := keepG (HM6.out.swap.stepA hl7 hn7 (by omega)).swap
      go_simp
      refine hK.out _ _ (HCE.out _ HM7.out.la.be).1 (fun hHeld => ?_)
      clear hK KK hl7 hn7
      try simp only [Act.put, List.getElem_toArray, List.getElem_cons_zero, List.getElem_cons_succ, List.setIfInBounds_toArray, List.set_cons_zero, List.set_cons_succ]
      refine tkGo [24] ?_
      repeat (refine tkOne (v := ?_) rfl (by kernel_rfl) (by kernel_rfl) (by kernel_rfl) (fun _ _ _ h => h) (by assumption) (by rfl) ?_ ?_; rotate_left; (intro wy hSw; (try dsimp only at hSw); go_simp; (first | done | with_reducible rfl)); try simp only [Act.put, List.getElem_toArray, List.getElem_cons_zero, List.getElem_cons_succ, List.setIfInBounds_toArray, List.set_cons_zero, List.set_cons_succ])
      refine tkEnd ?_
      refine wpAnyH_done (by kernel_rfl) ?_ _
      clear hHeld
      go_wp2
      go_roundw
      case rel => exact ⟨j + 1, by omega, by omega, by go_num, F6, G7, P6, by
        obtain ⟨h1, h2, h3⟩ := HM7.out
        have h4 := Rs.hold_len HQ.out
        have h5 := HM.out.la.len
        exact ⟨⟨h1.ex, h1.since, h1.ok, h1.n4, by omega, h1.be⟩, ⟨h2.ex, h2.since, h2.ok, h2.n4, by omega, h2.be⟩, h3⟩⟩
      case measure => simp [intOf]; omega
    · have hltI : ¬ (j : Int) < is.length := by omega
      have HM3 := keepG (HM.out.mono (m' := 300) (by omega))
      clear HM
      go_wp2
      go_loopw [10, 11] (fun vm i wq => ∃ q : Nat, q ≤ ps.length ∧ q ≤ 100 ∧ vm = .bool (mayB P (ps.take q)) ∧ i = .int .i64 q ∧ Hid (L2z w wq ra rb F G 4 P P 300)) (fun _ i _ => ps.length - (intOf i).toNat)
      case atStart => exact ⟨0, by omega, by omega, rfl, rfl, HM3.out⟩
      case round =>
        rename World => wq
        obtain ⟨q, hq, hq1, rfl, rfl, HMq⟩ := hrel
        by_cases hqt : q < ps.length
        · have hqtI : (q : Int) < ps.length := by omega
          by_cases hq2 : q < 100
          · have hq2I : (q : Int) < 100 := by omega
            obtain ⟨g, off, ev, hat⟩ := (HPS.out wq HMq.out.la.be).atE hqt
            subst ev
            have HPA : Hid (∀ wx : World, Below w.heap.size w wx → ∀ i, i < ps.length → wx.cell? ⟨g, off + i, none⟩ = some (.int .i64 (ps.getD i 0))) := by
              intro wx hb
              obtain ⟨g2, off2, ev2, hat2⟩ := (HPS.out wx hb).atE hqt
              simp only [Option.some.injEq, Addr.mk.injEq, and_true] at ev2
              obtain ⟨rfl, rfl⟩ := ev2
              exact hat2
            have d0 := hat q hqt
            have HT := keepG (may_take (P := P) hqt)
            have HWX := keepG (HPW.out _ (getD_mem ps q hqt))
            obtain ⟨x, HX⟩ : ∃ x, Hid (ps.getD q 0 = x) := ⟨_, rfl⟩
            rw [HX.out] at d0 HT HWX
            obtain ⟨hA, r, HHD⟩ : ∃ hA r, Hid (heldL P x = (hA, r)) := ⟨_, _, rfl⟩
            rw [← held_has HHD.out] at HT
            obtain ⟨M, HMM⟩ : ∃ M, Hid (mayB P (ps.take q) = M) := ⟨_, rfl⟩
            rw [HMM.out] at HT ⊢
            obtain ⟨M1, HM1⟩ : ∃ M1, Hid ((M && r) = M1) := ⟨_, rfl⟩
            rw [HM1.out] at HT
            clear hat
            cases hM : M with
            | false =>
              rw [hM] at HM1
              rw [← HM1.out, Bool.false_and] at HT
              clear HM1
              go_wp2_with (go_at_call 14; go_must (refine (HMq.out.la.held (by omega) x HHD).mono ?_); rintro e w5 ⟨u5, rfl, hu5, hb5⟩; go_must (have HM5 := keepG (HMq.out.below hb5); obtain ⟨ua5, uc5, rfl⟩ := own_shape hu5; clear hb5 hu5))
              go_loopw [10, 14] (fun v10 i wz => ∃ k : Nat, k ≤ q ∧ v10 = .bool (false && !decide (x ∈ ps.take k)) ∧ i = .int .i64 k ∧ Hid (L2z w wz ra rb F G 4 P P 300)) (fun _ i _ => q - (intOf i).toNat)
              case atStart => exact ⟨0, by omega, by simp, rfl, HM5.out⟩
              case round =>
                rename World => wz
                obtain ⟨k, hk, rfl, rfl, HMz⟩ := hrel
                by_cases hkq : k < q
                · have hkqI : (k : Int) < q := by omega
                  have hkl : k < ps.length := by omega
                  have hklI : (k : Int) < ps.length := by omega
                  have f0 := HPA.out _ HMz.out.la.be k hkl
                  have f1 := HPA.out _ HMz.out.la.be q hqt
                  have hTk := take_at ps k hkl
                  obtain ⟨y, HY⟩ : ∃ y, Hid (ps.getD k 0 = y) := ⟨_, rfl⟩
                  rw [HX.out] at f1
                  rw [HY.out] at f0 hTk
                  have HBd := keepG (HMz.out.drewN 1)
                  cases hv : (false && !decide (x ∈ ps.take k)) with
                  | true =>
                    have hm1 : false = true := by revert hv; cases false <;> simp
                    have hnk : ¬ x ∈ ps.take k := by revert hv; simp
                    by_cases hyx : y = x
                    · have HV2 : Hid ((false && !decide (x ∈ ps.take (k + 1))) = false) := by show _ = _; rw [hTk]; simp [hyx]
                      have hyb : (y != x) = false := by simpa using hyx
                      clear hTk hv hnk hyx hm1
                      go_wp2
                      refine wp_region_held_drew (S := fun w' => w'.cell? ⟨g, off + k, none⟩ = some (.int .i64 y) ∧ w'.cell? ⟨g, off + q, none⟩ = some (.int .i64 x)) (by kernel_rfl) ⟨f0, f1⟩ (fun hHeld => ?_)
                      refine tkGo [0, 1, 2, 3, 4, 5, 6, 7, 8, 9, 10, 11, 12] ?_
                      repeat (refine tkOne (v := ?_) rfl (by kernel_rfl) (by kernel_rfl) (by kernel_rfl) (fun _ _ _ h => h) (by assumption) (by rfl) ?_ ?_; rotate_left; (intro wy hSw; (try dsimp only at hSw); go_simp; (first | done | with_reducible rfl)); try simp only [Act.put, List.getElem_toArray, List.getElem_cons_zero, List.getElem_cons_succ, List.setIfInBounds_toArray, List.set_cons_zero, List.set_cons_succ])
                      refine tkEnd ?_
                      refine wpAnyH_done (by kernel_rfl) ?_ _
                      clear hHeld
                      go_wp2
                      go_roundw
                      case rel => exact ⟨k + 1, by omega, by rw [HV2.out], by go_num, HBd.out⟩
                      case measure => simp [intOf]; omega
                    · have HV2 : Hid ((false && !decide (x ∈ ps.take (k + 1))) = true) := by show _ = _; rw [hTk, hm1]; simp [hnk]; exact fun e => hyx e.symm
                      have hyb : (y != x) = true := by simpa using hyx
                      clear hTk hv hnk hm1
                      go_wp2
                      refine wp_region_held_drew (S := fun w' => w'.cell? ⟨g, off + k, none⟩ = some (.int .i64 y) ∧ w'.cell? ⟨g, off + q, none⟩ = some (.int .i64 x)) (by kernel_rfl) ⟨f0, f1⟩ (fun hHeld => ?_)
                      refine tkGo [0, 1, 2, 3, 4, 5, 6, 7, 8, 9, 10, 11, 12] ?_
                      repeat (refine tkOne (v := ?_) rfl (by kernel_rfl) (by kernel_rfl) (by kernel_rfl) (fun _ _ _ h => h) (by assumption) (by rfl) ?_ ?_; rotate_left; (intro wy hSw; (try dsimp only at hSw); go_simp; (first | done | with_reducible rfl)); try simp only [Act.put, List.getElem_toArray, List.getElem_cons_zero, List.getElem_cons_succ, List.setIfInBounds_toArray, List.set_cons_zero, List.set_cons_succ])
                      refine tkEnd ?_
                      refine wpAnyH_done (by kernel_rfl) ?_ _
                      clear hHeld
                      go_wp2
                      go_roundw
                      case rel => exact ⟨k + 1, by omega, by rw [HV2.out], by go_num, HBd.out⟩
                      case measure => simp [intOf]; omega
                  | false =>
                    have HV2 : Hid ((false && !decide (x ∈ ps.take (k + 1))) = false) := by
                      show _ = _
                      rw [hTk]
                      simp
                    clear hTk hv
                    go_wp2
                    refine wp_region_held_drew (S := fun _ => True) (by kernel_rfl) trivial (fun hHeld => ?_)
                    refine tkGo [0, 1] ?_
                    repeat (refine tkOne (v := ?_) rfl (by kernel_rfl) (by kernel_rfl) (by kernel_rfl) (fun _ _ _ h => h) (by assumption) (by rfl) ?_ ?_; rotate_left; (intro wy hSw; (try dsimp only at hSw); go_simp; (first | done | with_reducible rfl)); try simp only [Act.put, List.getElem_toArray, List.getElem_cons_zero, List.getElem_cons_succ, List.setIfInBounds_toArray, List.set_cons_zero, List.set_cons_succ])
                    refine tkEnd ?_
                    refine wpAnyH_take (i := 2) (v := undef) rfl (by kernel_rfl) (by kernel_rfl) (by kernel_rfl) (fun _ _ _ h => h) (Or.inr ⟨by rfl, rfl⟩) (by assumption) ?_
                    try simp only [Act.put, List.getElem_toArray, List.getElem_cons_zero, List.getElem_cons_succ, List.setIfInBounds_toArray, List.set_cons_zero, List.set_cons_succ]
                    refine wpAnyH_take (i := 3) (v := undef) rfl (by kernel_rfl) (by kernel_rfl) (by kernel_rfl) (fun _ _ _ h => h) (Or.inr ⟨by rfl, rfl⟩) (by assumption) ?_
                    try simp only [Act.put, List.getElem_toArray, List.getElem_cons_zero, List.getElem_cons_succ, List.setIfInBounds_toArray, List.set_cons_zero, List.set_cons_succ]
                    refine wpAnyH_take (i := 4) (v := undef) rfl (by kernel_rfl) (by kernel_rfl) (by kernel_rfl) (fun _ _ _ h => h) (Or.inr ⟨by rfl, rfl⟩) (by assumption) ?_
                    try simp only [Act.put, List.getElem_toArray, List.getElem_cons_zero, List.getElem_cons_succ, List.setIfInBounds_toArray, List.set_cons_zero, List.set_cons_succ]
                    refine wpAnyH_take (i := 5) (v := undef) rfl (by kernel_rfl) (by kernel_rfl) (by kernel_rfl) (fun _ _ _ h => h) (Or.inr ⟨by rfl, rfl⟩) (by assumption) ?_
                    try simp only [Act.put, List.getElem_toArray, List.getElem_cons_zero, List.getElem_cons_succ, List.setIfInBounds_toArray, List.set_cons_zero, List.set_cons_succ]
                    refine wpAnyH_take (i := 6) (v := undef) rfl (by kernel_rfl) (by kernel_rfl) (by kernel_rfl) (fun _ _ _ h => h) (Or.inr ⟨by rfl, rfl⟩) (by assumption) ?_
                    try simp only [Act.put, List.getElem_toArray, List.getElem_cons_zero, List.getElem_cons_succ, List.setIfInBounds_toArray, List.set_cons_zero, List.set_cons_succ]
                    refine wpAnyH_take (i := 7) (v := undef) rfl (by kernel_rfl) (by kernel_rfl) (by kernel_rfl) (fun _ _ _ h => h) (Or.inr ⟨by rfl, rfl⟩) (by assumption) ?_
                    try simp only [Act.put, List.getElem_toArray, List.getElem_cons_zero, List.getElem_cons_succ, List.setIfInBounds_toArray, List.set_cons_zero, List.set_cons_succ]
                    refine wpAnyH_take (i := 8) (v := undef) rfl (by kernel_rfl) (by kernel_rfl) (by kernel_rfl) (fun _ _ _ h => h) (Or.inr ⟨by rfl, rfl⟩) (by assumption) ?_
                    try simp only [Act.put, List.getElem_toArray, List.getElem_cons_zero, List.getElem_cons_succ, List.setIfInBounds_toArray, List.set_cons_zero, List.set_cons_succ]
                    refine wpAnyH_take (i := 9) (v := undef) rfl (by kernel_rfl) (by kernel_rfl) (by kernel_rfl) (fun _ _ _ h => h) (Or.inr ⟨by rfl, rfl⟩) (by assumption) ?_
                    try simp only [Act.put, List.getElem_toArray, List.getElem_cons_zero, List.getElem_cons_succ, List.setIfInBounds_toArray, List.set_cons_zero, List.set_cons_succ]
                    refine wpAnyH_take (i := 10) (v := undef) rfl (by kernel_rfl) (by kernel_rfl) (by kernel_rfl) (fun _ _ _ h => h) (Or.inr ⟨by rfl, rfl⟩) (by assumption) ?_
                    try simp only [Act.put, List.getElem_toArray, List.getElem_cons_zero, List.getElem_cons_succ, List.setIfInBounds_toArray, List.set_cons_zero, List.set_cons_succ]
                    refine tkGo [11, 12] ?_
                    repeat (refine tkOne (v := ?_) rfl (by kernel_rfl) (by kernel_rfl) (by kernel_rfl) (fun _ _ _ h => h) (by assumption) (by rfl) ?_ ?_; rotate_left; (intro wy hSw; (try dsimp only at hSw); go_simp; (first | done | with_reducible rfl)); try simp only [Act.put, List.getElem_toArray, List.getElem_cons_zero, List.getElem_cons_succ, List.setIfInBounds_toArray, List.set_cons_zero, List.set_cons_succ])
                    refine tkEnd ?_
                    refine wpAnyH_done (by kernel_rfl) ?_ _
                    clear hHeld
                    go_wp2
                    go_roundw
                    case rel => exact ⟨k + 1, by omega, by rw [HV2.out], by go_num, HBd.out⟩
                    case measure => simp [intOf]; omega
                · have hkqI : ¬ (k : Int) < q := by omega
                  obtain rfl : q = k := by omega
                  have HT3 : Hid (mayB P (ps.take (q + 1)) = (false && !decide (x ∈ ps.take q))) := HT.out
                  rw [← HT3.out]
                  go_wp2
                  go_roundw
                  case rel => exact ⟨q + 1, by omega, by omega, rfl, by go_num, HMz.out⟩
                  case measure => simp [intOf]; omega
            | true =>
              rw [hM] at HM1
              rw [← HM1.out, Bool.true_and] at HT
              clear HM1
              cases hr : r with
              | false =>
                rw [hr] at HT HHD
                go_wp2_with (go_at_call 14; go_must (refine (HMq.out.la.held (by omega) x HHD).mono ?_); rintro e w5 ⟨u5, rfl, hu5, hb5⟩; go_must (have HM5 := keepG (HMq.out.below hb5); obtain ⟨ua5, uc5, rfl⟩ := own_shape hu5; clear hb5 hu5))
                go_loopw [10, 14] (fun v10 i wz => ∃ k : Nat, k ≤ q ∧ v10 = .bool (false && !decide (x ∈ ps.take k)) ∧ i = .int .i64 k ∧ Hid (L2z w wz ra rb F G 4 P P 300)) (fun _ i _ => q - (intOf i).toNat)
                case atStart => exact ⟨0, by omega, by simp, rfl, HM5.out⟩
                case round =>
                  rename World => wz
                  obtain ⟨k, hk, rfl, rfl, HMz⟩ := hrel
                  by_cases hkq : k < q
                  · have hkqI : (k : Int) < q := by omega
                    have hkl : k < ps.length := by omega
                    have hklI : (k : Int) < ps.length := by omega
                    have f0 := HPA.out _ HMz.out.la.be k hkl
                    have f1 := HPA.out _ HMz.out.la.be q hqt
                    have hTk := take_at ps k hkl
                    obtain ⟨y, HY⟩ : ∃ y, Hid (ps.getD k 0 = y) := ⟨_, rfl⟩
                    rw [HX.out] at f1
                    rw [HY.out] at f0 hTk
                    have HBd := keepG (HMz.out.drewN 1)
                    cases hv : (false && !decide (x ∈ ps.take k)) with
                    | true =>
                      have hm1 : false = true := by revert hv; cases false <;> simp
                      have hnk : ¬ x ∈ ps.take k := by revert hv; simp
                      by_cases hyx : y = x
                      · have HV2 : Hid ((false && !decide (x ∈ ps.take (k + 1))) = false) := by show _ = _; rw [hTk]; simp [hyx]
                        have hyb : (y != x) = false := by simpa using hyx
                        clear hTk hv hnk hyx hm1
                        go_wp2
                        refine wp_region_held_drew (S := fun w' => w'.cell? ⟨g, off + k, none⟩ = some (.int .i64 y) ∧ w'.cell? ⟨g, off + q, none⟩ = some (.int .i64 x)) (by kernel_rfl) ⟨f0, f1⟩ (fun hHeld => ?_)
                        refine tkGo [0, 1, 2, 3, 4, 5, 6, 7, 8, 9, 10, 11, 12] ?_
                        repeat (refine tkOne (v := ?_) rfl (by kernel_rfl) (by kernel_rfl) (by kernel_rfl) (fun _ _ _ h => h) (by assumption) (by rfl) ?_ ?_; rotate_left; (intro wy hSw; (try dsimp only at hSw); go_simp; (first | done | with_reducible rfl)); try simp only [Act.put, List.getElem_toArray, List.getElem_cons_zero, List.getElem_cons_succ, List.setIfInBounds_toArray, List.set_cons_zero, List.set_cons_succ])
                        refine tkEnd ?_
                        refine wpAnyH_done (by kernel_rfl) ?_ _
                        clear hHeld
                        go_wp2
                        go_roundw
                        case rel => exact ⟨k + 1, by omega, by rw [HV2.out], by go_num, HBd.out⟩
                        case measure => simp [intOf]; omega
                      · have HV2 : Hid ((false && !decide (x ∈ ps.take (k + 1))) = true) := by show _ = _; rw [hTk, hm1]; simp [hnk]; exact fun e => hyx e.symm
                        have hyb : (y != x) = true := by simpa using hyx
                        clear hTk hv hnk hm1
                        go_wp2
                        refine wp_region_held_drew (S := fun w' => w'.cell? ⟨g, off + k, none⟩ = some (.int .i64 y) ∧ w'.cell? ⟨g, off + q, none⟩ = some (.int .i64 x)) (by kernel_rfl) ⟨f0, f1⟩ (fun hHeld => ?_)
                        refine tkGo [0, 1, 2, 3, 4, 5, 6, 7, 8, 9, 10, 11, 12] ?_
                        repeat (refine tkOne (v := ?_) rfl (by kernel_rfl) (by kernel_rfl) (by kernel_rfl) (fun _ _ _ h => h) (by assumption) (by rfl) ?_ ?_; rotate_left; (intro wy hSw; (try dsimp only at hSw); go_simp; (first | done | with_reducible rfl)); try simp only [Act.put, List.getElem_toArray, List.getElem_cons_zero, List.getElem_cons_succ, List.setIfInBounds_toArray, List.set_cons_zero, List.set_cons_succ])
                        refine tkEnd ?_
                        refine wpAnyH_done (by kernel_rfl) ?_ _
                        clear hHeld
                        go_wp2
                        go_roundw
                        case rel => exact ⟨k + 1, by omega, by rw [HV2.out], by go_num, HBd.out⟩
                        case measure => simp [intOf]; omega
                    | false =>
                      have HV2 : Hid ((false && !decide (x ∈ ps.take (k + 1))) = false) := by
                        show _ = _
                        rw [hTk]
                        simp
                      clear hTk hv
                      go_wp2
                      refine wp_region_held_drew (S := fun _ => True) (by kernel_rfl) trivial (fun hHeld => ?_)
                      refine tkGo [0, 1] ?_
                      repeat (refine tkOne (v := ?_) rfl (by kernel_rfl) (by kernel_rfl) (by kernel_rfl) (fun _ _ _ h => h) (by assumption) (by rfl) ?_ ?_; rotate_left; (intro wy hSw; (try dsimp only at hSw); go_simp; (first | done | with_reducible rfl)); try simp only [Act.put, List.getElem_toArray, List.getElem_cons_zero, List.getElem_cons_succ, List.setIfInBounds_toArray, List.set_cons_zero, List.set_cons_succ])
                      refine tkEnd ?_
                      refine wpAnyH_take (i := 2) (v := undef) rfl (by kernel_rfl) (by kernel_rfl) (by kernel_rfl) (fun _ _ _ h => h) (Or.inr ⟨by rfl, rfl⟩) (by assumption) ?_
                      try simp only [Act.put, List.getElem_toArray, List.getElem_cons_zero, List.getElem_cons_succ, List.setIfInBounds_toArray, List.set_cons_zero, List.set_cons_succ]
                      refine wpAnyH_take (i := 3) (v := undef) rfl (by kernel_rfl) (by kernel_rfl) (by kernel_rfl) (fun _ _ _ h => h) (Or.inr ⟨by rfl, rfl⟩) (by assumption) ?_
                      try simp only [Act.put, List.getElem_toArray, List.getElem_cons_zero, List.getElem_cons_succ, List.setIfInBounds_toArray, List.set_cons_zero, List.set_cons_succ]
                      refine wpAnyH_take (i := 4) (v := undef) rfl (by kernel_rfl) (by kernel_rfl) (by kernel_rfl) (fun _ _ _ h => h) (Or.inr ⟨by rfl, rfl⟩) (by assumption) ?_
                      try simp only [Act.put, List.getElem_toArray, List.getElem_cons_zero, List.getElem_cons_succ, List.setIfInBounds_toArray, List.set_cons_zero, List.set_cons_succ]
                      refine wpAnyH_take (i := 5) (v := undef) rfl (by kernel_rfl) (by kernel_rfl) (by kernel_rfl) (fun _ _ _ h => h) (Or.inr ⟨by rfl, rfl⟩) (by assumption) ?_
                      try simp only [Act.put, List.getElem_toArray, List.getElem_cons_zero, List.getElem_cons_succ, List.setIfInBounds_toArray, List.set_cons_zero, List.set_cons_succ]
                      refine wpAnyH_take (i := 6) (v := undef) rfl (by kernel_rfl) (by kernel_rfl) (by kernel_rfl) (fun _ _ _ h => h) (Or.inr ⟨by rfl, rfl⟩) (by assumption) ?_
                      try simp only [Act.put, List.getElem_toArray, List.getElem_cons_zero, List.getElem_cons_succ, List.setIfInBounds_toArray, List.set_cons_zero, List.set_cons_succ]
                      refine wpAnyH_take (i := 7) (v := undef) rfl (by kernel_rfl) (by kernel_rfl) (by kernel_rfl) (fun _ _ _ h => h) (Or.inr ⟨by rfl, rfl⟩) (by assumption) ?_
                      try simp only [Act.put, List.getElem_toArray, List.getElem_cons_zero, List.getElem_cons_succ, List.setIfInBounds_toArray, List.set_cons_zero, List.set_cons_succ]
                      refine wpAnyH_take (i := 8) (v := undef) rfl (by kernel_rfl) (by kernel_rfl) (by kernel_rfl) (fun _ _ _ h => h) (Or.inr ⟨by rfl, rfl⟩) (by assumption) ?_
                      try simp only [Act.put, List.getElem_toArray, List.getElem_cons_zero, List.getElem_cons_succ, List.setIfInBounds_toArray, List.set_cons_zero, List.set_cons_succ]
                      refine wpAnyH_take (i := 9) (v := undef) rfl (by kernel_rfl) (by kernel_rfl) (by kernel_rfl) (fun _ _ _ h => h) (Or.inr ⟨by rfl, rfl⟩) (by assumption) ?_
                      try simp only [Act.put, List.getElem_toArray, List.getElem_cons_zero, List.getElem_cons_succ, List.setIfInBounds_toArray, List.set_cons_zero, List.set_cons_succ]
                      refine wpAnyH_take (i := 10) (v := undef) rfl (by kernel_rfl) (by kernel_rfl) (by kernel_rfl) (fun _ _ _ h => h) (Or.inr ⟨by rfl, rfl⟩) (by assumption) ?_
                      try simp only [Act.put, List.getElem_toArray, List.getElem_cons_zero, List.getElem_cons_succ, List.setIfInBounds_toArray, List.set_cons_zero, List.set_cons_succ]
                      refine tkGo [11, 12] ?_
                      repeat (refine tkOne (v := ?_) rfl (by kernel_rfl) (by kernel_rfl) (by kernel_rfl) (fun _ _ _ h => h) (by assumption) (by rfl) ?_ ?_; rotate_left; (intro wy hSw; (try dsimp only at hSw); go_simp; (first | done | with_reducible rfl)); try simp only [Act.put, List.getElem_toArray, List.getElem_cons_zero, List.getElem_cons_succ, List.setIfInBounds_toArray, List.set_cons_zero, List.set_cons_succ])
                      refine tkEnd ?_
                      refine wpAnyH_done (by kernel_rfl) ?_ _
                      clear hHeld
                      go_wp2
                      go_roundw
                      case rel => exact ⟨k + 1, by omega, by rw [HV2.out], by go_num, HBd.out⟩
                      case measure => simp [intOf]; omega
                  · have hkqI : ¬ (k : Int) < q := by omega
                    obtain rfl : q = k := by omega
                    have HT3 : Hid (mayB P (ps.take (q + 1)) = (false && !decide (x ∈ ps.take q))) := HT.out
                    rw [← HT3.out]
                    go_wp2
                    go_roundw
                    case rel => exact ⟨q + 1, by omega, by omega, rfl, by go_num, HMz.out⟩
                    case measure => simp [intOf]; omega
              | true =>
                rw [hr] at HT HHD
                go_wp2_with (go_at_call 14; go_must (refine (HMq.out.la.held (by omega) x HHD).mono ?_); rintro e w5 ⟨u5, rfl, hu5, hb5⟩; go_must (have HM5 := keepG (HMq.out.below hb5); obtain ⟨ua5, uc5, rfl⟩ := own_shape hu5; clear hb5 hu5))
                go_loopw [10, 14] (fun v10 i wz => ∃ k : Nat, k ≤ q ∧ v10 = .bool (true && !decide (x ∈ ps.take k)) ∧ i = .int .i64 k ∧ Hid (L2z w wz ra rb F G 4 P P 300)) (fun _ i _ => q - (intOf i).toNat)
                case atStart => exact ⟨0, by omega, by simp, rfl, HM5.out⟩
                case round =>
                  rename World => wz
                  obtain ⟨k, hk, rfl, rfl, HMz⟩ := hrel
                  by_cases hkq : k < q
                  · have hkqI : (k : Int) < q := by omega
                    have hkl : k < ps.length := by omega
                    have hklI : (k : Int) < ps.length := by omega
                    have f0 := HPA.out _ HMz.out.la.be k hkl
                    have f1 := HPA.out _ HMz.out.la.be q hqt
                    have hTk := take_at ps k hkl
                    obtain ⟨y, HY⟩ : ∃ y, Hid (ps.getD k 0 = y) := ⟨_, rfl⟩
                    rw [HX.out] at f1
                    rw [HY.out] at f0 hTk
                    have HBd := keepG (HMz.out.drewN 1)
                    cases hv : (true && !decide (x ∈ ps.take k)) with
                    | true =>
                      have hm1 : true = true := by revert hv; cases true <;> simp
                      have hnk : ¬ x ∈ ps.take k := by revert hv; simp
                      by_cases hyx : y = x
                      · have HV2 : Hid ((true && !decide (x ∈ ps.take (k + 1))) = false) := by show _ = _; rw [hTk]; simp [hyx]
                        have hyb : (y != x) = false := by simpa using hyx
                        clear hTk hv hnk hyx hm1
                        go_wp2
                        refine wp_region_held_drew (S := fun w' => w'.cell? ⟨g, off + k, none⟩ = some (.int .i64 y) ∧ w'.cell? ⟨g, off + q, none⟩ = some (.int .i64 x)) (by kernel_rfl) ⟨f0, f1⟩ (fun hHeld => ?_)
                        refine tkGo [0, 1, 2, 3, 4, 5, 6, 7, 8, 9, 10, 11, 12] ?_
                        repeat (refine tkOne (v := ?_) rfl (by kernel_rfl) (by kernel_rfl) (by kernel_rfl) (fun _ _ _ h => h) (by assumption) (by rfl) ?_ ?_; rotate_left; (intro wy hSw; (try dsimp only at hSw); go_simp; (first | done | with_reducible rfl)); try simp only [Act.put, List.getElem_toArray, List.getElem_cons_zero, List.getElem_cons_succ, List.setIfInBounds_toArray, List.set_cons_zero, List.set_cons_succ])
                        refine tkEnd ?_
                        refine wpAnyH_done (by kernel_rfl) ?_ _
                        clear hHeld
                        go_wp2
                        go_roundw
                        case rel => exact ⟨k + 1, by omega, by rw [HV2.out], by go_num, HBd.out⟩
                        case measure => simp [intOf]; omega
                      · have HV2 : Hid ((true && !decide (x ∈ ps.take (k + 1))) = true) := by show _ = _; rw [hTk, hm1]; simp [hnk]; exact fun e => hyx e.symm
                        have hyb : (y != x) = true := by simpa using hyx
                        clear hTk hv hnk hm1
                        go_wp2
                        refine wp_region_held_drew (S := fun w' => w'.cell? ⟨g, off + k, none⟩ = some (.int .i64 y) ∧ w'.cell? ⟨g, off + q, none⟩ = some (.int .i64 x)) (by kernel_rfl) ⟨f0, f1⟩ (fun hHeld => ?_)
                        refine tkGo [0, 1, 2, 3, 4, 5, 6, 7, 8, 9, 10, 11, 12] ?_
                        repeat (refine tkOne (v := ?_) rfl (by kernel_rfl) (by kernel_rfl) (by kernel_rfl) (fun _ _ _ h => h) (by assumption) (by rfl) ?_ ?_; rotate_left; (intro wy hSw; (try dsimp only at hSw); go_simp; (first | done | with_reducible rfl)); try simp only [Act.put, List.getElem_toArray, List.getElem_cons_zero, List.getElem_cons_succ, List.setIfInBounds_toArray, List.set_cons_zero, List.set_cons_succ])
                        refine tkEnd ?_
                        refine wpAnyH_done (by kernel_rfl) ?_ _
                        clear hHeld
                        go_wp2
                        go_roundw
                        case rel => exact ⟨k + 1, by omega, by rw [HV2.out], by go_num, HBd.out⟩
                        case measure => simp [intOf]; omega
                    | false =>
                      have HV2 : Hid ((true && !decide (x ∈ ps.take (k + 1))) = false) := by
                        show _ = _
                        rw [hTk]
                        have h5 : x ∈ ps.take k := by simpa using hv
                        simp [h5]
                      clear hTk hv
                      go_wp2
                      refine wp_region_held_drew (S := fun _ => True) (by kernel_rfl) trivial (fun hHeld => ?_)
                      refine tkGo [0, 1] ?_
                      repeat (refine tkOne (v := ?_) rfl (by kernel_rfl) (by kernel_rfl) (by kernel_rfl) (fun _ _ _ h => h) (by assumption) (by rfl) ?_ ?_; rotate_left; (intro wy hSw; (try dsimp only at hSw); go_simp; (first | done | with_reducible rfl)); try simp only [Act.put, List.getElem_toArray, List.getElem_cons_zero, List.getElem_cons_succ, List.setIfInBounds_toArray, List.set_cons_zero, List.set_cons_succ])
                      refine tkEnd ?_
                      refine wpAnyH_take (i := 2) (v := undef) rfl (by kernel_rfl) (by kernel_rfl) (by kernel_rfl) (fun _ _ _ h => h) (Or.inr ⟨by rfl, rfl⟩) (by assumption) ?_
                      try simp only [Act.put, List.getElem_toArray, List.getElem_cons_zero, List.getElem_cons_succ, List.setIfInBounds_toArray, List.set_cons_zero, List.set_cons_succ]
                      refine wpAnyH_take (i := 3) (v := undef) rfl (by kernel_rfl) (by kernel_rfl) (by kernel_rfl) (fun _ _ _ h => h) (Or.inr ⟨by rfl, rfl⟩) (by assumption) ?_
                      try simp only [Act.put, List.getElem_toArray, List.getElem_cons_zero, List.getElem_cons_succ, List.setIfInBounds_toArray, List.set_cons_zero, List.set_cons_succ]
                      refine wpAnyH_take (i := 4) (v := undef) rfl (by kernel_rfl) (by kernel_rfl) (by kernel_rfl) (fun _ _ _ h => h) (Or.inr ⟨by rfl, rfl⟩) (by assumption) ?_
                      try simp only [Act.put, List.getElem_toArray, List.getElem_cons_zero, List.getElem_cons_succ, List.setIfInBounds_toArray, List.set_cons_zero, List.set_cons_succ]
                      refine wpAnyH_take (i := 5) (v := undef) rfl (by kernel_rfl) (by kernel_rfl) (by kernel_rfl) (fun _ _ _ h => h) (Or.inr ⟨by rfl, rfl⟩) (by assumption) ?_
                      try simp only [Act.put, List.getElem_toArray, List.getElem_cons_zero, List.getElem_cons_succ, List.setIfInBounds_toArray, List.set_cons_zero, List.set_cons_succ]
                      refine wpAnyH_take (i := 6) (v := undef) rfl (by kernel_rfl) (by kernel_rfl) (by kernel_rfl) (fun _ _ _ h => h) (Or.inr ⟨by rfl, rfl⟩) (by assumption) ?_
                      try simp only [Act.put, List.getElem_toArray, List.getElem_cons_zero, List.getElem_cons_succ, List.setIfInBounds_toArray, List.set_cons_zero, List.set_cons_succ]
                      refine wpAnyH_take (i := 7) (v := undef) rfl (by kernel_rfl) (by kernel_rfl) (by kernel_rfl) (fun _ _ _ h => h) (Or.inr ⟨by rfl, rfl⟩) (by assumption) ?_
                      try simp only [Act.put, List.getElem_toArray, List.getElem_cons_zero, List.getElem_cons_succ, List.setIfInBounds_toArray, List.set_cons_zero, List.set_cons_succ]
                      refine wpAnyH_take (i := 8) (v := undef) rfl (by kernel_rfl) (by kernel_rfl) (by kernel_rfl) (fun _ _ _ h => h) (Or.inr ⟨by rfl, rfl⟩) (by assumption) ?_
                      try simp only [Act.put, List.getElem_toArray, List.getElem_cons_zero, List.getElem_cons_succ, List.setIfInBounds_toArray, List.set_cons_zero, List.set_cons_succ]
                      refine wpAnyH_take (i := 9) (v := undef) rfl (by kernel_rfl) (by kernel_rfl) (by kernel_rfl) (fun _ _ _ h => h) (Or.inr ⟨by rfl, rfl⟩) (by assumption) ?_
                      try simp only [Act.put, List.getElem_toArray, List.getElem_cons_zero, List.getElem_cons_succ, List.setIfInBounds_toArray, List.set_cons_zero, List.set_cons_succ]
                      refine wpAnyH_take (i := 10) (v := undef) rfl (by kernel_rfl) (by kernel_rfl) (by kernel_rfl) (fun _ _ _ h => h) (Or.inr ⟨by rfl, rfl⟩) (by assumption) ?_
                      try simp only [Act.put, List.getElem_toArray, List.getElem_cons_zero, List.getElem_cons_succ, List.setIfInBounds_toArray, List.set_cons_zero, List.set_cons_succ]
                      refine tkGo [11, 12] ?_
                      repeat (refine tkOne (v := ?_) rfl (by kernel_rfl) (by kernel_rfl) (by kernel_rfl) (fun _ _ _ h => h) (by assumption) (by rfl) ?_ ?_; rotate_left; (intro wy hSw; (try dsimp only at hSw); go_simp; (first | done | with_reducible rfl)); try simp only [Act.put, List.getElem_toArray, List.getElem_cons_zero, List.getElem_cons_succ, List.setIfInBounds_toArray, List.set_cons_zero, List.set_cons_succ])
                      refine tkEnd ?_
                      refine wpAnyH_done (by kernel_rfl) ?_ _
                      clear hHeld
                      go_wp2
                      go_roundw
                      case rel => exact ⟨k + 1, by omega, by rw [HV2.out], by go_num, HBd.out⟩
                      case measure => simp [intOf]; omega
                  · have hkqI : ¬ (k : Int) < q := by omega
                    obtain rfl : q = k := by omega
                    have HT3 : Hid (mayB P (ps.take (q + 1)) = (true && !decide (x ∈ ps.take q))) := HT.out
                    rw [← HT3.out]
                    go_wp2
                    go_roundw
                    case rel => exact ⟨q + 1, by omega, by omega, rfl, by go_num, HMz.out⟩
                    case measure => simp [intOf]; omega
          · have hq2I : ¬ (q : Int) < 100 := by omega
            have h100 : (100 : Int) < ps.length := by omega
            have HBE := keepG HMq.out.la.be
            go_wp2
            go_ret
            exact ⟨rfl, HBE.out⟩
        · have hqtI : ¬ (q : Int) < ps.length := by omega
          have h100 : ¬ (100 : Int) < ps.length := by omega
          have hT : ps.take q = ps := List.take_of_length_le (by omega)
          rw [hT]
          obtain ⟨E5, P5, HQ5⟩ : ∃ E5 P5, Hid (Rs.drop P ps = (E5, P5)) := ⟨_, _, rfl⟩
          have HDM := keepG (drop_may HQ5.out)
          have hpl100 : ps.length ≤ 100 := by omega
          obtain ⟨Z, HZ, hbZ, HOZ⟩ : ∃ Z, Hid (wq.alloc (.cells #[] 3) = Z) ∧ Below wq.heap.size wq Z ∧ Hid (Z.ownsRow wq.heap.size 3 1 (.slice (some ⟨wq.heap.size, 0, none⟩) 0 0) ([] : List Int).length (([] : List Int).map (Value.int .i64))) := ⟨_, rfl, below_allocG _ _, own_emptyM wq _ _⟩
          have HSZ := keepG (HPS.out Z ((HMq.out.below hbZ).la.be))
          have hzZ := hbZ.size
          clear hT
          cases hM5 : mayB P ps with
          | true =>
            have hE5 : (E5 == 0) = true := by rw [HDM.out.1]; exact hM5
            have HP5 := keepG (HDM.out.2.1 hM5)
            have HEA := keepG (fun (k : Nat) (hk : k < ps.length) => drop_each hM5 hk)
            go_wp2_with (first
              | (at_builtin; rw [HZ.out]; go_must (refine wpList_append_sees rfl _ _ 32 rfl wq.heap.size 3 i0 _ 8 Try.underlying32 hi0 hz0 hzs hzb rfl .i64 (.slice (some ⟨wq.heap.size, 0, none⟩) 0 0) [] rfl HOZ.out _ ps rfl HSZ.out (by unfold maxLen; simp; omega) (by simp; omega) hzZ ?_); intro v8 w8 hown8 hgr8; go_must (rw [List.nil_append] at hown8; have hb8 : Below wq.heap.size wq w8 := hbZ.trans ((Below.refl _ _).grown hgr8 hzZ (fun k hk => by { have : wq.heap.size = k := Option.some.inj hk; omega })); have HM8 := keepG (HMq.out.below hb8); have HO8 := keepG hown8; have HS8 := keepG (Sees.own hown8 HPW.out); clear hgr8 hb8; obtain ⟨v8a, v8c, rfl⟩ := own_shape hown8; clear hown8))
              | (go_at_call 10; go_must (refine (HM8.out.la.drop (by omega) HS8.out (fun _ k hk e => by have h5 := HMq.out.la.lies k hk; have h6 := (HO8.out.lt k e).1; omega) HQ5).mono ?_); rintro e w9 ⟨rfl, F9, hl9, hn9⟩; go_must (have HM9 := keepG (HM8.out.stepA hl9 hn9 (Nat.le_refl _)); clear hl9 hn9)))
            go_loopw [15] (fun i wz => ∃ z : Nat, z ≤ ps.length ∧ i = .int .i64 z ∧ ∃ G1, Hid (L2z w wz ra rb F9 G1 4 P5 (P.filter (outP (ps.take z))) 300)) (fun i _ => ps.length - (intOf i).toNat)
            case atStart => exact ⟨0, by omega, rfl, G, by
              have e : P.filter (outP (ps.take 0)) = P := by
                rw [List.filter_eq_self]
                intro x hx
                simp [outP]
              rw [e]
              exact HM9.out⟩
            case round =>
              rename World => wz
              obtain ⟨z, hz, rfl, G1, HMz⟩ := hrel
              by_cases hzt : z < ps.length
              · have hztI : (z : Int) < ps.length := by omega
                obtain ⟨g, off, ev, hat⟩ := (HPS.out wz HMz.out.la.be).atE hzt
                subst ev
                have d0 := hat z hzt
                have hea := HEA.out z hzt
                have hwf := HPW.out _ (getD_mem ps z hzt)
                obtain ⟨x, HX⟩ : ∃ x, Hid (ps.getD z 0 = x) := ⟨_, rfl⟩
                rw [HX.out] at d0 hea hwf
                have HQZ := keepG hea
                obtain ⟨Y, HY, hbY, HSY⟩ := lit_one wz x hwf
                have HMY := keepG (HMz.out.below hbY)
                clear hat hea hwf
                go_wp2_with (first
                  | (rw [HY.out])
                  | (go_at_call 10; go_must (refine (HMY.out.lb.drop (by omega) HSY.out (fun _ k hk e => by have h5 := HMz.out.lb.lies k hk; have h6 := ft_lit e; omega) HQZ).mono ?_); rintro e w10 ⟨rfl, G10, hl10, hn10⟩; go_must (have HM10 := keepG (HMY.out.swap.stepA hl10 hn10 (Nat.le_refl _)).swap; clear hl10 hn10)))
                go_roundw
                case rel => exact ⟨z + 1, by omega, by go_num, G10, HM10.out⟩
                case measure => simp [intOf]; omega
              · have hztI : ¬ (z : Int) < ps.length := by omega
                have hMt := HMz.out
                rw [List.take_of_length_le (by omega), ← HP5.out] at hMt
                have HMT := keepG hMt
                clear hMt HMz
                go_wp2
                go_loopw [16] (fun i wy => ∃ y : Nat, y ≤ 4 ∧ i = .int .i64 y ∧ Hid (L2z w wy ra rb F9 G1 4 P5 P5 300)) (fun i _ => 4 - (intOf i).toNat)
                case atStart => exact ⟨0, by omega, rfl, HMT.out⟩
                case round =>
                  rename World => wy
                  obtain ⟨y, hy, rfl, HMy⟩ := hrel
                  by_cases hy4 : y < 4
                  · have hy4I : (y : Int) < 4 := by omega
                    obtain ⟨A, HA⟩ : ∃ A, Hid (Rs.holders P5 y = A) := ⟨_, rfl⟩
                    have HUP : Hid (A.Pairwise (· < ·)) := by rw [← HA.out]; exact HMy.out.la.ok.holders_up y
                    have HMEM : Hid (∀ p ∈ A, ∃ ms, heldL P5 p = (ms, true) ∧ (y : Int) ∈ ms) := fun p hp => holders_at HMy.out.la.ok (by rw [HA.out]; exact hp)
                    have HAl : Hid (A.length ≤ 300) := by
                      show _ ≤ _
                      rw [← HA.out]
                      unfold Rs.holders
                      rw [List.length_map]
                      exact Nat.le_trans (List.length_filter_le _ _) HMy.out.la.len
                    go_wp2_with (first
                      | (go_at_call 16; have hq := HMEM1; clear hq; go_must (refine (HM11.out.lb.holders (by omega) y HA).mono ?_); rintro e w12 ⟨u12, rfl, hu12, hb12⟩; go_must (have HM12 := keepG (HM11.out.below hb12); have HU11b := keepG (HU11.out.below hb12); have HU12 := keepG hu12; clear hb12 hu12 HMEM1; obtain ⟨a12, c12, rfl⟩ := own_shape HU12.out))
                      | (go_at_call 16; go_must (refine (HMy.out.la.holders (by omega) y HA).mono ?_); rintro e w11 ⟨u11, rfl, hu11, hb11⟩; go_must (have HM11 := keepG (HMy.out.below hb11); have HU11 := keepG hu11; have HMEM1 : Hid True := trivial; clear hb11 hu11; obtain ⟨a11, c11, rfl⟩ := own_shape HU11.out))
                      | (go_at_call 12; go_must (refine (wints18 HU11b.out.rdn HU12.out.rdn).mono ?_); rintro e w13 ⟨rfl, hb13⟩; go_must (have HM13 := keepG (HM12.out.below hb13); have HU13 := keepG (HU11b.out.below hb13); clear hb13)))
                    go_loopw [19] (fun i wv => ∃ v : Nat, v ≤ A.length ∧ i = .int .i64 v ∧ Hid (L2z w wv ra rb F9 G1 4 P5 P5 300 ∧ RoI wv wy.heap.size (.slice a11 A.length c11) A)) (fun i _ => A.length - (intOf i).toNat)
                    case atStart => exact ⟨0, by omega, rfl, HM13.out, HU13.out⟩
                    case round =>
                      rename World => wv
                      obtain ⟨v, hv, rfl, HMv⟩ := hrel
                      by_cases hvl : v < A.length
                      · have hvlI : (v : Int) < A.length := by omega
                        obtain ⟨g, cap, ev, _, _, hcap, _, hcl, _⟩ := HMv.out.2.cells (by omega)
                        simp only [Value.slice.injEq, true_and] at ev
                        obtain ⟨hga, hgc⟩ := ev
                        subst hga hgc
                        have HCE : Hid (∀ wx : World, RoI wx wy.heap.size (.slice (some ⟨g, 0, none⟩) A.length c11) A → ∀ k, k < A.length → wx.cell? ⟨g, k, none⟩ = some (.int .i64 (A.getD k 0))) := by
                          intro wx hx k hk
                          obtain ⟨g2, cap2, ev2, _, _, _, _, hcl2, _⟩ := hx.cells (by omega)
                          simp only [Value.slice.injEq, Option.some.injEq, Addr.mk.injEq, and_true, true_and] at ev2
                          obtain ⟨rfl, _⟩ := ev2
                          exact (hcl2 k hk).1
                        have f0 := (hcl v hvl).1
                        obtain ⟨ms, hms, hmem⟩ := HMEM.out _ (getD_mem A v hvl)
                        have hup := List.pairwise_iff_getElem.1 HUP.out
                        obtain ⟨x, HX⟩ : ∃ x, Hid (A.getD v 0 = x) := ⟨_, rfl⟩
                        rw [HX.out] at f0 hms
                        have HHD := keepG hms
                        have HIN := keepG hmem
                        have HRISE : Hid (0 < v → A.getD (v - 1) 0 < x) := by
                          intro h0
                          have := hup (v - 1) v (by omega) hvl (by omega)
                          rw [← HX.out]
                          have hv1 : v - 1 < A.length := by omega
                          simpa [List.getD, hvl, hv1] using this
                        clear hcl hms hmem hup
                        go_wp2_with (go_at_call 14; go_must (refine (HMv.out.1.la.held (by omega) x HHD).mono ?_); rintro e w14 ⟨u14, rfl, hu14, hb14⟩; go_must (have HM14 := keepG (HMv.out.1.below hb14); have HU14 := keepG (HMv.out.2.below hb14); have HH14 := keepG hu14; clear hb14 hu14; obtain ⟨a14, c14, rfl⟩ := own_shape HH14.out))
                        go_loopw [22, 23] (fun vt i wt => ∃ t : Nat, t ≤ ms.length ∧ vt = .bool (decide ((y : Int) ∈ ms.take t)) ∧ i = .int .i64 t ∧ w14 = wt) (fun _ i _ => ms.length - (intOf i).toNat)
                        case atStart => exact ⟨0, by omega, by simp, rfl, rfl⟩
                        case round =>
                          obtain ⟨t, ht, rfl, rfl, rfl⟩ := hrel
                          by_cases htl : t < ms.length
                          · have htlI : (t : Int) < ms.length := by omega
                            obtain ⟨g3, cap3, ev3, _, _, hcap3, _, hcl3, _⟩ := HH14.out.cells (by omega)
                            simp only [Value.slice.injEq, true_and] at ev3
                            obtain ⟨hg3, hc3⟩ := ev3
                            subst hg3 hc3
                            have k0 := (hcl3 t htl).1
                            have hTt := take_at ms t htl
                            obtain ⟨z3, HZ3⟩ : ∃ z3, Hid (ms.getD t 0 = z3) := ⟨_, rfl⟩
                            rw [HZ3.out] at k0 hTt
                            clear hcl3
                            cases hd : decide ((y : Int) ∈ ms.take t) with
                            | true =>
                              have HV2 : Hid (decide ((y : Int) ∈ ms.take (t + 1)) = true) := by
                                show _ = _
                                rw [hTt]
                                have := of_decide_eq_true hd
                                simp [this]
                              clear hTt hd
                              go_wp2
                              go_roundw
                              case rel => exact ⟨t + 1, by omega, by rw [HV2.out], by go_num, by first | rfl | trivial⟩
                              case measure => simp [intOf]; omega
                            | false =>
                              have hnd := of_decide_eq_false hd
                              have HV2 : Hid (decide ((y : Int) ∈ ms.take (t + 1)) = (z3 == (y : Int))) := by
                                show _ = _
                                rw [hTt, Bool.eq_iff_iff]
                                simp only [decide_eq_true_eq, List.mem_append, List.mem_singleton, beq_iff_eq]
                                constructor
                                · rintro (e | e)
                                  · exact absurd e hnd
                                  · exact e.symm
                                · intro e; exact .inr e.symm
                              clear hTt hd hnd
                              go_wp2
                              go_roundw
                              case rel => exact ⟨t + 1, by omega, by rw [HV2.out], by go_num, by first | rfl | trivial⟩
                              case measure => simp [intOf]; omega
                          · have htlI : ¬ (t : Int) < ms.length := by omega
                            have hTT : decide ((y : Int) ∈ ms.take t) = true := by rw [List.take_of_length_le (by omega)]; exact decide_eq_true HIN.out
                            rw [hTT]
                            clear hTT
                            have f2 := HCE.out _ HU14.out v hvl
                            rw [HX.out] at f2
                            by_cases hv0 : v = 0
                            · have hv0b : ¬ (v : Int) > 0 := by omega
                              have hv0c : ¬ (0 : Int) < v := by omega
                              have hv0d : decide (0 < v) = false := by simp; omega
                              have HMd := keepG (HM14.out.drewN 1)
                              have HUd : Hid (RoI (w14.drewN 1) wy.heap.size (.slice (some ⟨g, 0, none⟩) A.length c11) A) := HU14.out
                              go_wp2
                              refine wp_region_held_drew (S := fun _ => True) (by kernel_rfl) trivial (fun hHeld => ?_)
                              refine tkGo [0, 1, 2, 3, 4, 5, 6, 7, 8, 9] ?_
                              repeat (refine tkOne (v := ?_) rfl (by kernel_rfl) (by kernel_rfl) (by kernel_rfl) (fun _ _ _ h => h) (by assumption) (by rfl) ?_ ?_; rotate_left; (intro wy hSw; (try dsimp only at hSw); go_simp; (first | done | with_reducible rfl)); try simp only [Act.put, List.getElem_toArray, List.getElem_cons_zero, List.getElem_cons_succ, List.setIfInBounds_toArray, List.set_cons_zero, List.set_cons_succ])
                              refine tkEnd ?_
                              refine wpAnyH_take (i := 10) (v := undef) rfl (by kernel_rfl) (by kernel_rfl) (by kernel_rfl) (fun _ _ _ h => h) (Or.inr ⟨by rfl, rfl⟩) (by assumption) ?_
                              try simp only [Act.put, List.getElem_toArray, List.getElem_cons_zero, List.getElem_cons_succ, List.setIfInBounds_toArray, List.set_cons_zero, List.set_cons_succ]
                              refine wpAnyH_take (i := 11) (v := undef) rfl (by kernel_rfl) (by kernel_rfl) (by kernel_rfl) (fun _ _ _ h => h) (Or.inr ⟨by rfl, rfl⟩) (by assumption) ?_
                              try simp only [Act.put, List.getElem_toArray, List.getElem_cons_zero, List.getElem_cons_succ, List.setIfInBounds_toArray, List.set_cons_zero, List.set_cons_succ]
                              refine wpAnyH_take (i := 12) (v := undef) rfl (by kernel_rfl) (by kernel_rfl) (by kernel_rfl) (fun _ _ _ h => h) (Or.inr ⟨by rfl, rfl⟩) (by assumption) ?_
                              try simp only [Act.put, List.getElem_toArray, List.getElem_cons_zero, List.getElem_cons_succ, List.setIfInBounds_toArray, List.set_cons_zero, List.set_cons_succ]
                              refine wpAnyH_take (i := 13) (v := undef) rfl (by kernel_rfl) (by kernel_rfl) (by kernel_rfl) (fun _ _ _ h => h) (Or.inr ⟨by rfl, rfl⟩) (by assumption) ?_
                              try simp only [Act.put, List.getElem_toArray, List.getElem_cons_zero, List.getElem_cons_succ, List.setIfInBounds_toArray, List.set_cons_zero, List.set_cons_succ]
                              refine wpAnyH_take (i := 14) (v := undef) rfl (by kernel_rfl) (by kernel_rfl) (by kernel_rfl) (fun _ _ _ h => h) (Or.inr ⟨by rfl, rfl⟩) (by assumption) ?_
                              try simp only [Act.put, List.getElem_toArray, List.getElem_cons_zero, List.getElem_cons_succ, List.setIfInBounds_toArray, List.set_cons_zero, List.set_cons_succ]
                              refine wpAnyH_take (i := 15) (v := undef) rfl (by kernel_rfl) (by kernel_rfl) (by kernel_rfl) (fun _ _ _ h => h) (Or.inr ⟨by rfl, rfl⟩) (by assumption) ?_
                              try simp only [Act.put, List.getElem_toArray, List.getElem_cons_zero, List.getElem_cons_succ, List.setIfInBounds_toArray, List.set_cons_zero, List.set_cons_succ]
                              refine wpAnyH_take (i := 16) (v := undef) rfl (by kernel_rfl) (by kernel_rfl) (by kernel_rfl) (fun _ _ _ h => h) (Or.inr ⟨by rfl, rfl⟩) (by assumption) ?_
                              try simp only [Act.put, List.getElem_toArray, List.getElem_cons_zero, List.getElem_cons_succ, List.setIfInBounds_toArray, List.set_cons_zero, List.set_cons_succ]
                              refine wpAnyH_take (i := 17) (v := undef) rfl (by kernel_rfl) (by kernel_rfl) (by kernel_rfl) (fun _ _ _ h => h) (Or.inr ⟨by rfl, rfl⟩) (by assumption) ?_
                              try simp only [Act.put, List.getElem_toArray, List.getElem_cons_zero, List.getElem_cons_succ, List.setIfInBounds_toArray, List.set_cons_zero, List.set_cons_succ]
                              refine wpAnyH_take (i := 18) (v := undef) rfl (by kernel_rfl) (by kernel_rfl) (by kernel_rfl) (fun _ _ _ h => h) (Or.inr ⟨by rfl, rfl⟩) (by assumption) ?_
                              try simp only [Act.put, List.getElem_toArray, List.getElem_cons_zero, List.getElem_cons_succ, List.setIfInBounds_toArray, List.set_cons_zero, List.set_cons_succ]
                              refine wpAnyH_take (i := 19) (v := undef) rfl (by kernel_rfl) (by kernel_rfl) (by kernel_rfl) (fun _ _ _ h => h) (Or.inr ⟨by rfl, rfl⟩) (by assumption) ?_
                              try simp only [Act.put, List.getElem_toArray, List.getElem_cons_zero, List.getElem_cons_succ, List.setIfInBounds_toArray, List.set_cons_zero, List.set_cons_succ]
                              refine tkGo [20, 21] ?_
                              repeat (refine tkOne (v := ?_) rfl (by kernel_rfl) (by kernel_rfl) (by kernel_rfl) (fun _ _ _ h => h) (by assumption) (by rfl) ?_ ?_; rotate_left; (intro wy hSw; (try dsimp only at hSw); go_simp; (first | done | with_reducible rfl)); try simp only [Act.put, List.getElem_toArray, List.getElem_cons_zero, List.getElem_cons_succ, List.setIfInBounds_toArray, List.set_cons_zero, List.set_cons_succ])
                              refine tkEnd ?_
                              refine wpAnyH_done (by kernel_rfl) ?_ _
                              clear hHeld
                              go_wp2
                              go_roundw
                              case rel => exact ⟨v + 1, by omega, by go_num, HMd.out, HUd.out⟩
                              case measure => simp [intOf]; omega
                            · obtain ⟨v0, hv0e⟩ : ∃ v0 : Nat, v0 = v - 1 := ⟨_, rfl⟩
                              have hris := HRISE.out (by omega)
                              rw [← hv0e] at hris
                              have f3 := HCE.out _ HU14.out v0 (by omega)
                              obtain ⟨x0, HX0⟩ : ∃ x0, Hid (A.getD v0 0 = x0) := ⟨_, rfl⟩
                              rw [HX0.out] at f3 hris
                              have hv0b : (v : Int) > 0 := by omega
                              have hv0c : (0 : Int) < v := by omega
                              have hv0n : 0 < v := by omega
                              have hv0d : decide (0 < v) = true := by simpa using hv0n
                              have hw1 : IntKind.i64.wrap ((v : Int) - 1) = v0 := by rw [IntKind.wrap_i64]; omega
                              have hv0I : (v0 : Int) < A.length := by omega
                              have hge : ¬ x ≤ x0 := by omega
                              have hgeb : decide (x ≤ x0) = false := by simpa using hge
                              have HVE := keepG hv0e
                              have HMd := keepG (HM14.out.drewN 1)
                              have HUd : Hid (RoI (w14.drewN 1) wy.heap.size (.slice (some ⟨g, 0, none⟩) A.length c11) A) := HU14.out
                              clear hv0e hris
                              go_wp2
                              refine wp_region_held_drew (S := fun w' => w'.cell? ⟨g, v, none⟩ = some (.int .i64 x) ∧ w'.cell? ⟨g, v0, none⟩ = some (.int .i64 x0)) (by kernel_rfl) ⟨f2, f3⟩ (fun hHeld => ?_)
                              refine tkGo [0, 1, 2, 3, 4, 5, 6, 7, 8, 9, 10, 11, 12, 13, 14, 15, 16, 17, 18, 19, 20, 21] ?_
                              repeat (refine tkOne (v := ?_) rfl (by kernel_rfl) (by kernel_rfl) (by kernel_rfl) (fun _ _ _ h => h) (by assumption) (by rfl) ?_ ?_; rotate_left; (intro wy hSw; (try dsimp only at hSw); go_simp; (first | done | with_reducible rfl)); try simp only [Act.put, List.getElem_toArray, List.getElem_cons_zero, List.getElem_cons_succ, List.setIfInBounds_toArray, List.set_cons_zero, List.set_cons_succ])
                              refine tkEnd ?_
                              refine wpAnyH_done (by kernel_rfl) ?_ _
                              clear hHeld
                              go_wp2
                              go_roundw
                              case rel => exact ⟨v + 1, by omega, by go_num, HMd.out, HUd.out⟩
                              case measure => simp [intOf]; omega
                      · have hvlI : ¬ (v : Int) < A.length := by omega
                        go_wp2
                        go_roundw
                        case rel => exact ⟨y + 1, by omega, by go_num, HMv.out.1⟩
                        case measure => simp [intOf]; omega
                  · have hy4I : ¬ (y : Int) < 4 := by omega
                    have HBE := keepG HMy.out.la.be
                    go_wp2
                    go_ret
                    exact ⟨rfl, HBE.out⟩
          | false =>
            have hE5 : (E5 == 0) = false := by rw [HDM.out.1]; exact hM5
            obtain rfl : P = P5 := (HDM.out.2.2 hM5).symm
            have hpos : 0 < ps.length := by
              refine Nat.pos_of_ne_zero fun e => ?_
              have : ps = [] := List.eq_nil_of_length_eq_zero e
              rw [this] at hM5
              simp [mayB] at hM5
            have hposI : (0 : Int) < ps.length := by omega
            go_wp2_with (first
              | (at_builtin; rw [HZ.out]; go_must (refine wpList_append_sees rfl _ _ 32 rfl wq.heap.size 3 i0 _ 8 Try.underlying32 hi0 hz0 hzs hzb rfl .i64 (.slice (some ⟨wq.heap.size, 0, none⟩) 0 0) [] rfl HOZ.out _ ps rfl HSZ.out (by unfold maxLen; simp; omega) (by simp; omega) hzZ ?_); intro v8 w8 hown8 hgr8; go_must (rw [List.nil_append] at hown8; have hb8 : Below wq.heap.size wq w8 := hbZ.trans ((Below.refl _ _).grown hgr8 hzZ (fun k hk => by { have : wq.heap.size = k := Option.some.inj hk; omega })); have HM8 := keepG (HMq.out.below hb8); have HO8 := keepG hown8; have HS8 := keepG (Sees.own hown8 HPW.out); clear hgr8 hb8; obtain ⟨v8a, v8c, rfl⟩ := own_shape hown8; clear hown8))
              | (go_at_call 10; go_must (refine (HM8.out.la.drop (by omega) HS8.out (fun _ k hk e => by have h5 := HMq.out.la.lies k hk; have h6 := (HO8.out.lt k e).1; omega) HQ5).mono ?_); rintro e w9 ⟨rfl, F9, hl9, hn9⟩; go_must (have HM9 := keepG (HM8.out.stepA hl9 hn9 (Nat.le_refl _)); clear hl9 hn9)))
            go_loopw [15] (fun i wz => i = .int .i64 0 ∧ w9 = wz) (fun _ _ => 0)
            case atStart => exact ⟨rfl, rfl⟩
            case round =>
              obtain ⟨rfl, rfl⟩ := hrel
              have HMT : Hid (L2z w w9 ra rb F9 G 4 P P 300) := HM9
              obtain ⟨G1, HG1⟩ : ∃ G1, Hid (G = G1) := ⟨_, rfl⟩
              rw [HG1.out] at HMT
              go_wp2
              go_loopw [16] (fun i wy => ∃ y : Nat, y ≤ 4 ∧ i = .int .i64 y ∧ Hid (L2z w wy ra rb F9 G1 4 P P 300)) (fun i _ => 4 - (intOf i).toNat)
              case atStart => exact ⟨0, by omega, rfl, HMT.out⟩
              case round =>
                rename World => wy
                obtain ⟨y, hy, rfl, HMy⟩ := hrel
                by_cases hy4 : y < 4
                · have hy4I : (y : Int) < 4 := by omega
                  obtain ⟨A, HA⟩ : ∃ A, Hid (Rs.holders P y = A) := ⟨_, rfl⟩
                  have HUP : Hid (A.Pairwise (· < ·)) := by rw [← HA.out]; exact HMy.out.la.ok.holders_up y
                  have HMEM : Hid (∀ p ∈ A, ∃ ms, heldL P p = (ms, true) ∧ (y : Int) ∈ ms) := fun p hp => holders_at HMy.out.la.ok (by rw [HA.out]; exact hp)
                  have HAl : Hid (A.length ≤ 300) := by
                    show _ ≤ _
                    rw [← HA.out]
                    unfold Rs.holders
                    rw [List.length_map]
                    exact Nat.le_trans (List.length_filter_le _ _) HMy.out.la.len
                  go_wp2_with (first
                    | (go_at_call 16; have hq := HMEM1; clear hq; go_must (refine (HM11.out.lb.holders (by omega) y HA).mono ?_); rintro e w12 ⟨u12, rfl, hu12, hb12⟩; go_must (have HM12 := keepG (HM11.out.below hb12); have HU11b := keepG (HU11.out.below hb12); have HU12 := keepG hu12; clear hb12 hu12 HMEM1; obtain ⟨a12, c12, rfl⟩ := own_shape HU12.out))
                    | (go_at_call 16; go_must (refine (HMy.out.la.holders (by omega) y HA).mono ?_); rintro e w11 ⟨u11, rfl, hu11, hb11⟩; go_must (have HM11 := keepG (HMy.out.below hb11); have HU11 := keepG hu11; have HMEM1 : Hid True := trivial; clear hb11 hu11; obtain ⟨a11, c11, rfl⟩ := own_shape HU11.out))
                    | (go_at_call 12; go_must (refine (wints18 HU11b.out.rdn HU12.out.rdn).mono ?_); rintro e w13 ⟨rfl, hb13⟩; go_must (have HM13 := keepG (HM12.out.below hb13); have HU13 := keepG (HU11b.out.below hb13); clear hb13)))
                  go_loopw [19] (fun i wv => ∃ v : Nat, v ≤ A.length ∧ i = .int .i64 v ∧ Hid (L2z w wv ra rb F9 G1 4 P P 300 ∧ RoI wv wy.heap.size (.slice a11 A.length c11) A)) (fun i _ => A.length - (intOf i).toNat)
                  case atStart => exact ⟨0, by omega, rfl, HM13.out, HU13.out⟩
                  case round =>
                    rename World => wv
                    obtain ⟨v, hv, rfl, HMv⟩ := hrel
                    by_cases hvl : v < A.length
                    · have hvlI : (v : Int) < A.length := by omega
                      obtain ⟨g, cap, ev, _, _, hcap, _, hcl, _⟩ := HMv.out.2.cells (by omega)
                      simp only [Value.slice.injEq, true_and] at ev
                      obtain ⟨hga, hgc⟩ := ev
                      subst hga hgc
                      have HCE : Hid (∀ wx : World, RoI wx wy.heap.size (.slice (some ⟨g, 0, none⟩) A.length c11) A → ∀ k, k < A.length → wx.cell? ⟨g, k, none⟩ = some (.int .i64 (A.getD k 0))) := by
                        intro wx hx k hk
                        obtain ⟨g2, cap2, ev2, _, _, _, _, hcl2, _⟩ := hx.cells (by omega)
                        simp only [Value.slice.injEq, Option.some.injEq, Addr.mk.injEq, and_true, true_and] at ev2
                        obtain ⟨rfl, _⟩ := ev2
                        exact (hcl2 k hk).1
                      have f0 := (hcl v hvl).1
                      obtain ⟨ms, hms, hmem⟩ := HMEM.out _ (getD_mem A v hvl)
                      have hup := List.pairwise_iff_getElem.1 HUP.out
                      obtain ⟨x, HX⟩ : ∃ x, Hid (A.getD v 0 = x) := ⟨_, rfl⟩
                      rw [HX.out] at f0 hms
                      have HHD := keepG hms
                      have HIN := keepG hmem
                      have HRISE : Hid (0 < v → A.getD (v - 1) 0 < x) := by
                        intro h0
                        have := hup (v - 1) v (by omega) hvl (by omega)
                        rw [← HX.out]
                        have hv1 : v - 1 < A.length := by omega
                        simpa [List.getD, hvl, hv1] using this
                      clear hcl hms hmem hup
                      go_wp2_with (go_at_call 14; go_must (refine (HMv.out.1.la.held (by omega) x HHD).mono ?_); rintro e w14 ⟨u14, rfl, hu14, hb14⟩; go_must (have HM14 := keepG (HMv.out.1.below hb14); have HU14 := keepG (HMv.out.2.below hb14); have HH14 := keepG hu14; clear hb14 hu14; obtain ⟨a14, c14, rfl⟩ := own_shape HH14.out))
                      go_loopw [22, 23] (fun vt i wt => ∃ t : Nat, t ≤ ms.length ∧ vt = .bool (decide ((y : Int) ∈ ms.take t)) ∧ i = .int .i64 t ∧ w14 = wt) (fun _ i _ => ms.length - (intOf i).toNat)
                      case atStart => exact ⟨0, by omega, by simp, rfl, rfl⟩
                      case round =>
                        obtain ⟨t, ht, rfl, rfl, rfl⟩ := hrel
                        by_cases htl : t < ms.length
                        · have htlI : (t : Int) < ms.length := by omega
                          obtain ⟨g3, cap3, ev3, _, _, hcap3, _, hcl3, _⟩ := HH14.out.cells (by omega)
                          simp only [Value.slice.injEq, true_and] at ev3
                          obtain ⟨hg3, hc3⟩ := ev3
                          subst hg3 hc3
                          have k0 := (hcl3 t htl).1
                          have hTt := take_at ms t htl
                          obtain ⟨z3, HZ3⟩ : ∃ z3, Hid (ms.getD t 0 = z3) := ⟨_, rfl⟩
                          rw [HZ3.out] at k0 hTt
                          clear hcl3
                          cases hd : decide ((y : Int) ∈ ms.take t) with
                          | true =>
                            have HV2 : Hid (decide ((y : Int) ∈ ms.take (t + 1)) = true) := by
                              show _ = _
                              rw [hTt]
                              have := of_decide_eq_true hd
                              simp [this]
                            clear hTt hd
                            go_wp2
                            go_roundw
                            case rel => exact ⟨t + 1, by omega, by rw [HV2.out], by go_num, by first | rfl | trivial⟩
                            case measure => simp [intOf]; omega
                          | false =>
                            have hnd := of_decide_eq_false hd
                            have HV2 : Hid (decide ((y : Int) ∈ ms.take (t + 1)) = (z3 == (y : Int))) := by
                              show _ = _
                              rw [hTt, Bool.eq_iff_iff]
                              simp only [decide_eq_true_eq, List.mem_append, List.mem_singleton, beq_iff_eq]
                              constructor
                              · rintro (e | e)
                                · exact absurd e hnd
                                · exact e.symm
                              · intro e; exact .inr e.symm
                            clear hTt hd hnd
                            go_wp2
                            go_roundw
                            case rel => exact ⟨t + 1, by omega, by rw [HV2.out], by go_num, by first | rfl | trivial⟩
                            case measure => simp [intOf]; omega
                        · have htlI : ¬ (t : Int) < ms.length := by omega
                          have hTT : decide ((y : Int) ∈ ms.take t) = true := by rw [List.take_of_length_le (by omega)]; exact decide_eq_true HIN.out
                          rw [hTT]
                          clear hTT
                          have f2 := HCE.out _ HU14.out v hvl
                          rw [HX.out] at f2
                          by_cases hv0 : v = 0
                          · have hv0b : ¬ (v : Int) > 0 := by omega
                            have hv0c : ¬ (0 : Int) < v := by omega
                            have hv0d : decide (0 < v) = false := by simp; omega
                            have HMd := keepG (HM14.out.drewN 1)
                            have HUd : Hid (RoI (w14.drewN 1) wy.heap.size (.slice (some ⟨g, 0, none⟩) A.length c11) A) := HU14.out
                            go_wp2
                            refine wp_region_held_drew (S := fun _ => True) (by kernel_rfl) trivial (fun hHeld => ?_)
                            refine tkGo [0, 1, 2, 3, 4, 5, 6, 7, 8, 9] ?_
                            repeat (refine tkOne (v := ?_) rfl (by kernel_rfl) (by kernel_rfl) (by kernel_rfl) (fun _ _ _ h => h) (by assumption) (by rfl) ?_ ?_; rotate_left; (intro wy hSw; (try dsimp only at hSw); go_simp; (first | done | with_reducible rfl)); try simp only [Act.put, List.getElem_toArray, List.getElem_cons_zero, List.getElem_cons_succ, List.setIfInBounds_toArray, List.set_cons_zero, List.set_cons_succ])
                            refine tkEnd ?_
                            refine wpAnyH_take (i := 10) (v := undef) rfl (by kernel_rfl) (by kernel_rfl) (by kernel_rfl) (fun _ _ _ h => h) (Or.inr ⟨by rfl, rfl⟩) (by assumption) ?_
                            try simp only [Act.put, List.getElem_toArray, List.getElem_cons_zero, List.getElem_cons_succ, List.setIfInBounds_toArray, List.set_cons_zero, List.set_cons_succ]
                            refine wpAnyH_take (i := 11) (v := undef) rfl (by kernel_rfl) (by kernel_rfl) (by kernel_rfl) (fun _ _ _ h => h) (Or.inr ⟨by rfl, rfl⟩) (by assumption) ?_
                            try simp only [Act.put, List.getElem_toArray, List.getElem_cons_zero, List.getElem_cons_succ, List.setIfInBounds_toArray, List.set_cons_zero, List.set_cons_succ]
                            refine wpAnyH_take (i := 12) (v := undef) rfl (by kernel_rfl) (by kernel_rfl) (by kernel_rfl) (fun _ _ _ h => h) (Or.inr ⟨by rfl, rfl⟩) (by assumption) ?_
                            try simp only [Act.put, List.getElem_toArray, List.getElem_cons_zero, List.getElem_cons_succ, List.setIfInBounds_toArray, List.set_cons_zero, List.set_cons_succ]
                            refine wpAnyH_take (i := 13) (v := undef) rfl (by kernel_rfl) (by kernel_rfl) (by kernel_rfl) (fun _ _ _ h => h) (Or.inr ⟨by rfl, rfl⟩) (by assumption) ?_
                            try simp only [Act.put, List.getElem_toArray, List.getElem_cons_zero, List.getElem_cons_succ, List.setIfInBounds_toArray, List.set_cons_zero, List.set_cons_succ]
                            refine wpAnyH_take (i := 14) (v := undef) rfl (by kernel_rfl) (by kernel_rfl) (by kernel_rfl) (fun _ _ _ h => h) (Or.inr ⟨by rfl, rfl⟩) (by assumption) ?_
                            try simp only [Act.put, List.getElem_toArray, List.getElem_cons_zero, List.getElem_cons_succ, List.setIfInBounds_toArray, List.set_cons_zero, List.set_cons_succ]
                            refine wpAnyH_take (i := 15) (v := undef) rfl (by kernel_rfl) (by kernel_rfl) (by kernel_rfl) (fun _ _ _ h => h) (Or.inr ⟨by rfl, rfl⟩) (by assumption) ?_
                            try simp only [Act.put, List.getElem_toArray, List.getElem_cons_zero, List.getElem_cons_succ, List.setIfInBounds_toArray, List.set_cons_zero, List.set_cons_succ]
                            refine wpAnyH_take (i := 16) (v := undef) rfl (by kernel_rfl) (by kernel_rfl) (by kernel_rfl) (fun _ _ _ h => h) (Or.inr ⟨by rfl, rfl⟩) (by assumption) ?_
                            try simp only [Act.put, List.getElem_toArray, List.getElem_cons_zero, List.getElem_cons_succ, List.setIfInBounds_toArray, List.set_cons_zero, List.set_cons_succ]
                            refine wpAnyH_take (i := 17) (v := undef) rfl (by kernel_rfl) (by kernel_rfl) (by kernel_rfl) (fun _ _ _ h => h) (Or.inr ⟨by rfl, rfl⟩) (by assumption) ?_
                            try simp only [Act.put, List.getElem_toArray, List.getElem_cons_zero, List.getElem_cons_succ, List.setIfInBounds_toArray, List.set_cons_zero, List.set_cons_succ]
                            refine wpAnyH_take (i := 18) (v := undef) rfl (by kernel_rfl) (by kernel_rfl) (by kernel_rfl) (fun _ _ _ h => h) (Or.inr ⟨by rfl, rfl⟩) (by assumption) ?_
                            try simp only [Act.put, List.getElem_toArray, List.getElem_cons_zero, List.getElem_cons_succ, List.setIfInBounds_toArray, List.set_cons_zero, List.set_cons_succ]
                            refine wpAnyH_take (i := 19) (v := undef) rfl (by kernel_rfl) (by kernel_rfl) (by kernel_rfl) (fun _ _ _ h => h) (Or.inr ⟨by rfl, rfl⟩) (by assumption) ?_
                            try simp only [Act.put, List.getElem_toArray, List.getElem_cons_zero, List.getElem_cons_succ, List.setIfInBounds_toArray, List.set_cons_zero, List.set_cons_succ]
                            refine tkGo [20, 21] ?_
                            repeat (refine tkOne (v := ?_) rfl (by kernel_rfl) (by kernel_rfl) (by kernel_rfl) (fun _ _ _ h => h) (by assumption) (by rfl) ?_ ?_; rotate_left; (intro wy hSw; (try dsimp only at hSw); go_simp; (first | done | with_reducible rfl)); try simp only [Act.put, List.getElem_toArray, List.getElem_cons_zero, List.getElem_cons_succ, List.setIfInBounds_toArray, List.set_cons_zero, List.set_cons_succ])
                            refine tkEnd ?_
                            refine wpAnyH_done (by kernel_rfl) ?_ _
                            clear hHeld
                            go_wp2
                            go_roundw
                            case rel => exact ⟨v + 1, by omega, by go_num, HMd.out, HUd.out⟩
                            case measure => simp [intOf]; omega
                          · obtain ⟨v0, hv0e⟩ : ∃ v0 : Nat, v0 = v - 1 := ⟨_, rfl⟩
                            have hris := HRISE.out (by omega)
                            rw [← hv0e] at hris
                            have f3 := HCE.out _ HU14.out v0 (by omega)
                            obtain ⟨x0, HX0⟩ : ∃ x0, Hid (A.getD v0 0 = x0) := ⟨_, rfl⟩
                            rw [HX0.out] at f3 hris
                            have hv0b : (v : Int) > 0 := by omega
                            have hv0c : (0 : Int) < v := by omega
                            have hv0n : 0 < v := by omega
                            have hv0d : decide (0 < v) = true := by simpa using hv0n
                            have hw1 : IntKind.i64.wrap ((v : Int) - 1) = v0 := by rw [IntKind.wrap_i64]; omega
                            have hv0I : (v0 : Int) < A.length := by omega
                            have hge : ¬ x ≤ x0 := by omega
                            have hgeb : decide (x ≤ x0) = false := by simpa using hge
                            have HVE := keepG hv0e
                            have HMd := keepG (HM14.out.drewN 1)
                            have HUd : Hid (RoI (w14.drewN 1) wy.heap.size (.slice (some ⟨g, 0, none⟩) A.length c11) A) := HU14.out
                            clear hv0e hris
                            go_wp2
                            refine wp_region_held_drew (S := fun w' => w'.cell? ⟨g, v, none⟩ = some (.int .i64 x) ∧ w'.cell? ⟨g, v0, none⟩ = some (.int .i64 x0)) (by kernel_rfl) ⟨f2, f3⟩ (fun hHeld => ?_)
                            refine tkGo [0, 1, 2, 3, 4, 5, 6, 7, 8, 9, 10, 11, 12, 13, 14, 15, 16, 17, 18, 19, 20, 21] ?_
                            repeat (refine tkOne (v := ?_) rfl (by kernel_rfl) (by kernel_rfl) (by kernel_rfl) (fun _ _ _ h => h) (by assumption) (by rfl) ?_ ?_; rotate_left; (intro wy hSw; (try dsimp only at hSw); go_simp; (first | done | with_reducible rfl)); try simp only [Act.put, List.getElem_toArray, List.getElem_cons_zero, List.getElem_cons_succ, List.setIfInBounds_toArray, List.set_cons_zero, List.set_cons_succ])
                            refine tkEnd ?_
                            refine wpAnyH_done (by kernel_rfl) ?_ _
                            clear hHeld
                            go_wp2
                            go_roundw
                            case rel => exact ⟨v + 1, by omega, by go_num, HMd.out, HUd.out⟩
                            case measure => simp [intOf]; omega
                    · have hvlI : ¬ (v : Int) < A.length := by omega
                      go_wp2
                      go_roundw
                      case rel => exact ⟨y + 1, by omega, by go_num, HMv.out.1⟩
                      case measure => simp [intOf]; omega
                · have hy4I : ¬ (y : Int) < 4 := by omega
                  have HBE := keepG HMy.out.la.be
                  go_wp2
                  go_ret
                  exact ⟨rfl, HBE.out⟩
end Go.Proofs.Ytonbaklbbmmljaa
