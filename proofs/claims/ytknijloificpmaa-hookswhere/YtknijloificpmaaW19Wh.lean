
/-
  HooksWhere, walked. Condition: none but the arguments' reading.
-/
import Derived.Test.YtknijloificpmaaW19W
namespace Go.Proofs.Ytknijloificpmaa
open Go.RowKit
set_option linter.unusedVariables false
set_option linter.unusedSimpArgs false
set_option maxRecDepth 100000
theorem hooksWhere_no (n : Int) (sv pv : Value) (w : World) (h : n < 1 ∨ 4 < n) :
    Calls Try.prog 5 #[.int .i64 n, sv, pv] w fun e w' => e = .returned (.bool true) ∧ Below w.heap.size w w' := by
  go_enter Try.func5, Try.ntmps5
  go_wp2_with (first
    | (go_at_call 7; go_must (refine (awake19_any w).mono ?_); rintro e w1 ⟨rfl, hb1⟩)
    | (go_at_call 8; go_must (refine (ltnew_no n h _).mono ?_); rintro e w2 ⟨rfl, rfl⟩))
  go_ret
  exact ⟨rfl, hb1⟩
set_option maxHeartbeats 25600000 in
theorem hooksWhere_ok (n : Nat) (hn1 : 1 ≤ n) (h4 : n ≤ 4) (sv pv : Value) (is : List Ow) (ps : List Int) (w : World) (hs : Scr w sv is) (hp : Sees .i64 w pv ps) (hlen : is.length * 48 ≤ 140737488351232) (hpl : ps.length * 8 ≤ 140737488351232) :
    Calls Try.prog 5 #[.int .i64 n, sv, pv] w fun e w' => e = .returned (.bool true) ∧ Below w.heap.size w w' := by
  have HSC := keepG hs
  have HPS := keepG (fun (wx : World) (hb : Below w.heap.size w wx) => hp.below hb (Nat.le_refl _))
  obtain ⟨a, c, rfl, hc, hm, _, _⟩ := hs.sees
  obtain ⟨pa, pc, rfl, hpc, hpm, _⟩ := hp
  have hm' : c ≤ 9223372036854775807 := by unfold maxLen at hm; omega
  have hpm' : pc ≤ 9223372036854775807 := by unfold maxLen at hpm; omega
  obtain ⟨i0, hi0, hz0, hzs, hzb⟩ := info_parts infoIntN
  have HZP : Hid (ps.length * 8 ≤ 140737488355328) := Nat.le_trans hpl (by decide)
  clear hs hm hpm
  go_enter Try.func5, Try.ntmps5
  go_wp2_with (first
    | (go_at_call 7; go_must (refine (awake19_any w).mono ?_); rintro e w1 ⟨rfl, hb1⟩; go_must (have HB1 := keepG hb1; clear hb1))
    | (go_at_call 8; go_must (refine (lznew_ok n hn1 h4 HB1.out).mono ?_); rintro e w2 ⟨b, F0, rfl, hL, _, _⟩; go_must (have HL0 := keepG hL; clear hL)))
  have hlN : (Tb.new n).at'.length = n := by simp [Tb.new]
  have HLN := keepG hlN
  clear hlN
  go_loopw [9] (fun i wr => ∃ j : Nat, j ≤ is.length ∧ i = .int .i64 j ∧ ∃ F t, Hid (Lz w wr b F t ∧ t.last ≤ j ∧ t.at'.length = n)) (fun i _ => is.length - (intOf i).toNat)
  case atStart => exact ⟨0, by omega, rfl, F0, _, HL0.out, by show (0 : Int) ≤ _; omega, HLN.out⟩
  case round =>
    obtain ⟨j, hj, rfl, F, t, HM⟩ := hrel
    rename World => wr
    by_cases hlt : j < is.length
    · have hltI : (j : Int) < is.length := by omega
      obtain ⟨o, HO⟩ : ∃ o, Hid (is.getD j Ow.nil = o) := ⟨_, rfl⟩
      have HAT := keepG (fun (wx : World) (hb : Below w.heap.size w wx) => HSC.out.at hb hlt HO.out)
      obtain ⟨p, off, cap, ev, _, _, ⟨d0, d1, d2, d3⟩, _, _, _⟩ := HSC.out.at HM.out.1.be hlt HO.out
      simp only [Value.slice.injEq, true_and] at ev
      obtain ⟨rfl, rfl⟩ := ev
      obtain ⟨ok, ox, op, ou, ow⟩ := o
      simp only at d0 d1 d2 d3
      have HCE : Hid (∀ wx : World, Below w.heap.size w wx → wx.cell? ⟨p, off + j * 4 + 1, none⟩ = some (.int .i64 ox) ∧ wx.cell? ⟨p, off + j * 4 + 2, none⟩ = some (.int .i64 op)) := by
        intro wx hb
        obtain ⟨p2, off2, cap2, ev2, _, _, ⟨_, e1, e2, _⟩, _⟩ := HAT.out wx hb
        simp only [Value.slice.injEq, Option.some.injEq, Addr.mk.injEq, and_true, true_and] at ev2
        obtain ⟨⟨rfl, rfl⟩, rfl⟩ := ev2
        exact ⟨e1, e2⟩
      have HMd := keepG (HM.out.1.drewN 1)
      have hla := HM.out.2.1
      clear HAT
      by_cases hk1 : ok = 1
      · subst hk1
        obtain ⟨v, E, t6, HQ⟩ : ∃ v E t6, Hid (t.put true ox op = (v, E, t6)) := ⟨_, _, _, rfl⟩
        go_wp2
        refine wp_region_held_drew (S := fun w' => w'.cell? ⟨p, off + j * 4 + 1, none⟩ = some (.int .i64 ox) ∧ w'.cell? ⟨p, off + j * 4 + 2, none⟩ = some (.int .i64 op)) (by kernel_rfl) ⟨d1, d2⟩ (fun hHeld => ?_)
        refine wpAnyH_take (i := 0) (v := ?v1) rfl (by kernel_rfl) (by kernel_rfl) (by kernel_rfl) (fun _ _ _ h => h) (Or.inl ⟨by rfl, ?hy1⟩) (by assumption) ?rest1
        case hy1 => (intro wy hSw; (try dsimp only at hSw); go_simp; (first | done | with_reducible rfl))
        try simp only [Act.put, List.getElem_toArray, List.getElem_cons_zero, List.getElem_cons_succ, List.setIfInBounds_toArray, List.set_cons_zero, List.set_cons_succ]
        refine wpAnyH_take (i := 1) (v := ?v2) rfl (by kernel_rfl) (by kernel_rfl) (by kernel_rfl) (fun _ _ _ h => h) (Or.inl ⟨by rfl, ?hy2⟩) (by assumption) ?rest2
        case hy2 => (intro wy hSw; (try dsimp only at hSw); go_simp; (first | done | with_reducible rfl))
        try simp only [Act.put, List.getElem_toArray, List.getElem_cons_zero, List.getElem_cons_succ, List.setIfInBounds_toArray, List.set_cons_zero, List.set_cons_succ]
        refine wpAnyH_take (i := 2) (v := ?v3) rfl (by kernel_rfl) (by kernel_rfl) (by kernel_rfl) (fun _ _ _ h => h) (Or.inl ⟨by rfl, ?hy3⟩) (by assumption) ?rest3
        case hy3 => (intro wy hSw; (try dsimp only at hSw); go_simp; (first | done | with_reducible rfl))
        try simp only [Act.put, List.getElem_toArray, List.getElem_cons_zero, List.getElem_cons_succ, List.setIfInBounds_toArray, List.set_cons_zero, List.set_cons_succ]
        refine wpAnyH_take (i := 3) (v := ?v4) rfl (by kernel_rfl) (by kernel_rfl) (by kernel_rfl) (fun _ _ _ h => h) (Or.inl ⟨by rfl, ?hy4⟩) (by assumption) ?rest4
        case hy4 => (intro wy hSw; (try dsimp only at hSw); go_simp; (first | done | with_reducible rfl))
        try simp only [Act.put, List.getElem_toArray, List.getElem_cons_zero, List.getElem_cons_succ, List.setIfInBounds_toArray, List.set_cons_zero, List.set_cons_succ]
        refine wpAnyH_take (i := 4) (v := ?v5) rfl (by kernel_rfl) (by kernel_rfl) (by kernel_rfl) (fun _ _ _ h => h) (Or.inl ⟨by rfl, ?hy5⟩) (by assumption) ?rest5
        case hy5 => (intro wy hSw; (try dsimp only at hSw); go_simp; (first | done | with_reducible rfl))
        try simp only [Act.put, List.getElem_toArray, List.getElem_cons_zero, List.getElem_cons_succ, List.setIfInBounds_toArray, List.set_cons_zero, List.set_cons_succ]
        refine wpAnyH_take (i := 5) (v := ?v6) rfl (by kernel_rfl) (by kernel_rfl) (by kernel_rfl) (fun _ _ _ h => h) (Or.inl ⟨by rfl, ?hy6⟩) (by assumption) ?rest6
        case hy6 => (intro wy hSw; (try dsimp only at hSw); go_simp; (first | done | with_reducible rfl))
        try simp only [Act.put, List.getElem_toArray, List.getElem_cons_zero, List.getElem_cons_succ, List.setIfInBounds_toArray, List.set_cons_zero, List.set_cons_succ]
        refine wpAnyH_take (i := 6) (v := ?v7) rfl (by kernel_rfl) (by kernel_rfl) (by kernel_rfl) (fun _ _ _ h => h) (Or.inl ⟨by rfl, ?hy7⟩) (by assumption) ?rest7
        case hy7 => (intro wy hSw; (try dsimp only at hSw); go_simp; (first | done | with_reducible rfl))
        try simp only [Act.put, List.getElem_toArray, List.getElem_cons_zero, List.getElem_cons_succ, List.setIfInBounds_toArray, List.set_cons_zero, List.set_cons_succ]
        refine wpAnyH_take (i := 7) (v := ?v8) rfl (by kernel_rfl) (by kernel_rfl) (by kernel_rfl) (fun _ _ _ h => h) (Or.inl ⟨by rfl, ?hy8⟩) (by assumption) ?rest8
        case hy8 => (intro wy hSw; (try dsimp only at hSw); go_simp; (first | done | with_reducible rfl))
        try simp only [Act.put, List.getElem_toArray, List.getElem_cons_zero, List.getElem_cons_succ, List.setIfInBounds_toArray, List.set_cons_zero, List.set_cons_succ]
        refine wpAnyH_take (i := 8) (v := ?v9) rfl (by kernel_rfl) (by kernel_rfl) (by kernel_rfl) (fun _ _ _ h => h) (Or.inl ⟨by rfl, ?hy9⟩) (by assumption) ?rest9
        case hy9 => (intro wy hSw; (try dsimp only at hSw); go_simp; (first | done | with_reducible rfl))
        try simp only [Act.put, List.getElem_toArray, List.getElem_cons_zero, List.getElem_cons_succ, List.setIfInBounds_toArray, List.set_cons_zero, List.set_cons_succ]
        refine wpAnyH_take (i := 9) (v := ?v10) rfl (by kernel_rfl) (by kernel_rfl) (by kernel_rfl) (fun _ _ _ h => h) (Or.inl ⟨by rfl, ?hy10⟩) (by assumption) ?rest10
        case hy10 => (intro wy hSw; (try dsimp only at hSw); go_simp; (first | done | with_reducible rfl))
        try simp only [Act.put, List.getElem_toArray, List.getElem_cons_zero, List.getElem_cons_succ, List.setIfInBounds_toArray, List.set_cons_zero, List.set_cons_succ]
        refine wpAnyH_take (i := 10) (v := ?v11) rfl (by kernel_rfl) (by kernel_rfl) (by kernel_rfl) (fun _ _ _ h => h) (Or.inl ⟨by rfl, ?hy11⟩) (by assumption) ?rest11
        case hy11 => (intro wy hSw; (try dsimp only at hSw); go_simp; (first | done | with_reducible rfl))
        try simp only [Act.put, List.getElem_toArray, List.getElem_cons_zero, List.getElem_cons_succ, List.setIfInBounds_toArray, List.set_cons_zero, List.set_cons_succ]
        refine wpAnyH_ready (rs := [11]) (by kernel_rfl) (by simp) ?_
        refine AllReadyH.cons rfl (fun KK hK => ?_) AllReadyH.nil
        rw [if_pos (by rfl)]
        go_simp
        go_at_call 14
        refine (HMd.out.swap (by omega) ox op HQ).mono ?_
        rintro e w6 ⟨rfl, F6, hl6, hn6⟩
        have HL6 := keepG hl6
        have HLA : Hid (t6.last ≤ (j : Int) + 1 ∧ t6.at'.length = n) := by
          have h5 := Tb.put_last HQ.out
          have h6 := HM.out.2.2
          exact ⟨by omega, by omega⟩
        go_simp
        refine hK.out _ _ (HCE.out _ HL6.out.be) (fun hHeld => ?_)
        clear hK KK hl6 hn6
        try simp only [Act.put, List.getElem_toArray, List.getElem_cons_zero, List.getElem_cons_succ, List.setIfInBounds_toArray, List.set_cons_zero, List.set_cons_succ]
        refine wpAnyH_done (by kernel_rfl) ?_ _
        clear hHeld
        go_wp2
        go_roundw
        case rel => exact ⟨j + 1, by omega, by go_num, F6, t6, HL6.out, by have := HLA.out.1; omega, HLA.out.2⟩
        case measure => simp [intOf]; omega
      · have hk1b : (ok == 1) = false := by simpa using hk1
        obtain ⟨v, E, t6, HQ⟩ : ∃ v E t6, Hid (t.put false ox op = (v, E, t6)) := ⟨_, _, _, rfl⟩
        go_wp2
        refine wp_region_held_drew (S := fun w' => w'.cell? ⟨p, off + j * 4 + 1, none⟩ = some (.int .i64 ox) ∧ w'.cell? ⟨p, off + j * 4 + 2, none⟩ = some (.int .i64 op)) (by kernel_rfl) ⟨d1, d2⟩ (fun hHeld => ?_)
        refine wpAnyH_take (i := 0) (v := ?v12) rfl (by kernel_rfl) (by kernel_rfl) (by kernel_rfl) (fun _ _ _ h => h) (Or.inl ⟨by rfl, ?hy12⟩) (by assumption) ?rest12
        case hy12 => (intro wy hSw; (try dsimp only at hSw); go_simp; (first | done | with_reducible rfl))
        try simp only [Act.put, List.getElem_toArray, List.getElem_cons_zero, List.getElem_cons_succ, List.setIfInBounds_toArray, List.set_cons_zero, List.set_cons_succ]
        refine wpAnyH_take (i := 1) (v := ?v13) rfl (by kernel_rfl) (by kernel_rfl) (by kernel_rfl) (fun _ _ _ h => h) (Or.inl ⟨by rfl, ?hy13⟩) (by assumption) ?rest13
        case hy13 => (intro wy hSw; (try dsimp only at hSw); go_simp; (first | done | with_reducible rfl))
        try simp only [Act.put, List.getElem_toArray, List.getElem_cons_zero, List.getElem_cons_succ, List.setIfInBounds_toArray, List.set_cons_zero, List.set_cons_succ]
        refine wpAnyH_take (i := 2) (v := ?v14) rfl (by kernel_rfl) (by kernel_rfl) (by kernel_rfl) (fun _ _ _ h => h) (Or.inl ⟨by rfl, ?hy14⟩) (by assumption) ?rest14
        case hy14 => (intro wy hSw; (try dsimp only at hSw); go_simp; (first | done | with_reducible rfl))
        try simp only [Act.put, List.getElem_toArray, List.getElem_cons_zero, List.getElem_cons_succ, List.setIfInBounds_toArray, List.set_cons_zero, List.set_cons_succ]
        refine wpAnyH_take (i := 3) (v := ?v15) rfl (by kernel_rfl) (by kernel_rfl) (by kernel_rfl) (fun _ _ _ h => h) (Or.inl ⟨by rfl, ?hy15⟩) (by assumption) ?rest15
        case hy15 => (intro wy hSw; (try dsimp only at hSw); go_simp; (first | done | with_reducible rfl))
        try simp only [Act.put, List.getElem_toArray, List.getElem_cons_zero, List.getElem_cons_succ, List.setIfInBounds_toArray, List.set_cons_zero, List.set_cons_succ]
        refine wpAnyH_take (i := 4) (v := ?v16) rfl (by kernel_rfl) (by kernel_rfl) (by kernel_rfl) (fun _ _ _ h => h) (Or.inl ⟨by rfl, ?hy16⟩) (by assumption) ?rest16
        case hy16 => (intro wy hSw; (try dsimp only at hSw); go_simp; (first | done | with_reducible rfl))
        try simp only [Act.put, List.getElem_toArray, List.getElem_cons_zero, List.getElem_cons_succ, List.setIfInBounds_toArray, List.set_cons_zero, List.set_cons_succ]
        refine wpAnyH_take (i := 5) (v := ?v17) rfl (by kernel_rfl) (by kernel_rfl) (by kernel_rfl) (fun _ _ _ h => h) (Or.inl ⟨by rfl, ?hy17⟩) (by assumption) ?rest17
        case hy17 => (intro wy hSw; (try dsimp only at hSw); go_simp; (first | done | with_reducible rfl))
        try simp only [Act.put, List.getElem_toArray, List.getElem_cons_zero, List.getElem_cons_succ, List.setIfInBounds_toArray, List.set_cons_zero, List.set_cons_succ]
        refine wpAnyH_take (i := 6) (v := ?v18) rfl (by kernel_rfl) (by kernel_rfl) (by kernel_rfl) (fun _ _ _ h => h) (Or.inl ⟨by rfl, ?hy18⟩) (by assumption) ?rest18
        case hy18 => (intro wy hSw; (try dsimp only at hSw); go_simp; (first | done | with_reducible rfl))
        try simp only [Act.put, List.getElem_toArray, List.getElem_cons_zero, List.getElem_cons_succ, List.setIfInBounds_toArray, List.set_cons_zero, List.set_cons_succ]
        refine wpAnyH_take (i := 7) (v := ?v19) rfl (by kernel_rfl) (by kernel_rfl) (by kernel_rfl) (fun _ _ _ h => h) (Or.inl ⟨by rfl, ?hy19⟩) (by assumption) ?rest19
        case hy19 => (intro wy hSw; (try dsimp only at hSw); go_simp; (first | done | with_reducible rfl))
        try simp only [Act.put, List.getElem_toArray, List.getElem_cons_zero, List.getElem_cons_succ, List.setIfInBounds_toArray, List.set_cons_zero, List.set_cons_succ]
        refine wpAnyH_take (i := 8) (v := ?v20) rfl (by kernel_rfl) (by kernel_rfl) (by kernel_rfl) (fun _ _ _ h => h) (Or.inl ⟨by rfl, ?hy20⟩) (by assumption) ?rest20
        case hy20 => (intro wy hSw; (try dsimp only at hSw); go_simp; (first | done | with_reducible rfl))
        try simp only [Act.put, List.getElem_toArray, List.getElem_cons_zero, List.getElem_cons_succ, List.setIfInBounds_toArray, List.set_cons_zero, List.set_cons_succ]
        refine wpAnyH_take (i := 9) (v := ?v21) rfl (by kernel_rfl) (by kernel_rfl) (by kernel_rfl) (fun _ _ _ h => h) (Or.inl ⟨by rfl, ?hy21⟩) (by assumption) ?rest21
        case hy21 => (intro wy hSw; (try dsimp only at hSw); go_simp; (first | done | with_reducible rfl))
        try simp only [Act.put, List.getElem_toArray, List.getElem_cons_zero, List.getElem_cons_succ, List.setIfInBounds_toArray, List.set_cons_zero, List.set_cons_succ]
        refine wpAnyH_take (i := 10) (v := ?v22) rfl (by kernel_rfl) (by kernel_rfl) (by kernel_rfl) (fun _ _ _ h => h) (Or.inl ⟨by rfl, ?hy22⟩) (by assumption) ?rest22
        case hy22 => (intro wy hSw; (try dsimp only at hSw); go_simp; (first | done | with_reducible rfl))
        try simp only [Act.put, List.getElem_toArray, List.getElem_cons_zero, List.getElem_cons_succ, List.setIfInBounds_toArray, List.set_cons_zero, List.set_cons_succ]
        refine wpAnyH_ready (rs := [11]) (by kernel_rfl) (by simp) ?_
        refine AllReadyH.cons rfl (fun KK hK => ?_) AllReadyH.nil
        rw [if_pos (by rfl)]
        go_simp
        go_at_call 13
        refine (HMd.out.attach (by omega) ox op HQ).mono ?_
        rintro e w6 ⟨rfl, F6, hl6, hn6⟩
        have HL6 := keepG hl6
        have HLA : Hid (t6.last ≤ (j : Int) + 1 ∧ t6.at'.length = n) := by
          have h5 := Tb.put_last HQ.out
          have h6 := HM.out.2.2
          exact ⟨by omega, by omega⟩
        go_simp
        refine hK.out _ _ (HCE.out _ HL6.out.be) (fun hHeld => ?_)
        clear hK KK hl6 hn6
        try simp only [Act.put, List.getElem_toArray, List.getElem_cons_zero, List.getElem_cons_succ, List.setIfInBounds_toArray, List.set_cons_zero, List.set_cons_succ]
        refine wpAnyH_done (by kernel_rfl) ?_ _
        clear hHeld
        go_wp2
        go_roundw
        case rel => exact ⟨j + 1, by omega, by go_num, F6, t6, HL6.out, by have := HLA.out.1; omega, HLA.out.2⟩
        case measure => simp [intOf]; omega
    · have hltI : ¬ (j : Int) < is.length := by omega
      have HL := keepG HM.out.1
      have HTL := keepG HM.out.2.2
      clear HM
      obtain ⟨A, HA⟩ : ∃ A, Hid (t.wh ps = A) := ⟨_, rfl⟩
      have hAl : A.length ≤ 4 := by
        have h5 := t.whN_len ps t.at'.length
        have h6 := HTL.out
        have h7 := HA.out
        unfold Tb.wh at h7
        rw [h7] at h5
        omega
      go_wp2_with (first
        | (go_at_call 16; have hq := HL; clear hq; go_must (refine (HL.out.wher (HPS.out _ HL.out.be) HA).mono ?_); rintro e wa ⟨va, rfl, hra, hba⟩; go_must (have HRA := keepG hra; have HLA := keepG (HL.out.below hba); have HBA := keepG hba; obtain ⟨aa, ac, ev⟩ := own_shape hra; subst ev; have HL0' := keepG HL.out.lies; have HBW := keepG HL.out.be; clear hra hba HL))
        | (go_at_call 16; go_must (refine (HLA.out.wher (HPS.out _ HLA.out.be) HA).mono ?_); rintro e wb ⟨vg, rfl, hrg, hbg⟩; go_must (obtain ⟨ga, gc, ev⟩ := own_shape hrg; subst ev; have HLW : Hid (Lw w wb b F t (.slice aa A.length ac) A (.slice ga A.length gc) A) := ⟨HLA.out.below hbg, (HRA.out.low HBW.out.size).below hbg, hrg.low (by have := HLA.out.be.size; omega), (fun k e1 e2 => by have h5 := HL0'.out k e1; have h6 := (HRA.out.lt k e2).1; omega), (fun k e1 e2 => by have h5 := (HRA.out.lt k e1).2; have h6 := (hrg.lt k e2).1; omega)⟩; clear hrg hbg)))
      go_loopw [12] (fun i wz => ∃ (i' : Nat) (Y : List Int), i' ≤ A.length ∧ i = .int .i64 i' ∧ Hid (Lw w wz b F t (.slice aa Y.length ac) Y (.slice ga A.length gc) A ∧ Y.length = A.length ∧ (∀ k, k < i' → Y.getD k 0 = -5) ∧ (∀ k, i' ≤ k → Y.getD k 0 = A.getD k 0))) (fun i _ => A.length - (intOf i).toNat)
      case atStart => exact ⟨0, A, by omega, rfl, HLW.out, rfl, fun k hk => by omega, fun k hk => rfl⟩
      case round =>
        obtain ⟨i, Y, hi, rfl, HW⟩ := hrel
        rename World => wz
        by_cases hiA : i < A.length
        · have hiAI : (i : Int) < A.length := by omega
          have HYL := keepG HW.out.2.1
          have HY0 := keepG HW.out.2.2.1
          have HY1 := keepG HW.out.2.2.2
          have hil : i < Y.length := by have := HYL.out; omega
          obtain ⟨g, ac2, ev, _, _, _, _, hcl, _⟩ := HW.out.1.ra.cells (by omega)
          simp only [Value.slice.injEq, true_and] at ev
          obtain ⟨rfl, rfl⟩ := ev
          have HWW := keepG HW.out.1
          obtain ⟨x, HX⟩ : ∃ x, Hid (A.getD i 0 = x) := ⟨_, rfl⟩
          have cx := (hcl i hil).1
          rw [HY1.out i (Nat.le_refl _), HX.out] at cx
          have hmem : x ∈ t.wh ps := by rw [HA.out, ← HX.out]; exact getD_mem A i hiA
          obtain ⟨hm1, hm2, hm3⟩ := mem_wh hmem
          obtain ⟨cv, cp, r, HC⟩ : ∃ cv cp r, Hid (t.cur x = (cv, cp, r)) := ⟨_, _, _, rfl⟩
          have hcc := HC.out
          unfold Tb.cur at hcc
          injection hcc with _ hcc
          injection hcc with e1 e2
          rw [hm1] at e2
          subst e2
          rw [e1] at hm2
          have HCP := keepG hm2
          have HYL2 : Hid (A.length = Y.length) := HYL.out.symm
          clear hcl hmem hm1 hm2 e1 HW
          go_wp2_with (go_at_call 11; go_must (refine (HWW.out.lz.current x HC).mono ?_); rintro e w5 ⟨rfl, hb5⟩; go_must (have HW5 := keepG (HWW.out.below hb5); clear hb5))
          have cx5 : w5.cell? ⟨g, i, none⟩ = some (.int .i64 x) := by
            obtain ⟨g2, ac3, ev2, _, _, _, _, h5, _⟩ := HW5.out.ra.cells (by omega)
            simp only [Value.slice.injEq, Option.some.injEq, Addr.mk.injEq, and_true, true_and] at ev2
            obtain ⟨rfl, rfl⟩ := ev2
            have := (h5 i hil).1
            rw [HY1.out i (Nat.le_refl _), HX.out] at this
            exact this
          go_loopw [16, 17] (fun f i wq => ∃ (q : Nat) (fb : Bool), q ≤ ps.length ∧ f = .bool fb ∧ Hid (fb = decide (cp ∈ ps.take q)) ∧ i = .int .i64 q ∧ w5 = wq) (fun _ i _ => ps.length - (intOf i).toNat)
          case atStart => exact ⟨0, false, by omega, rfl, by show _ = _; simp, rfl, rfl⟩
          case round =>
            obtain ⟨q, fb, hq, rfl, HF, rfl, rfl⟩ := hrel
            by_cases hqt : q < ps.length
            · have hqtI : (q : Int) < ps.length := by omega
              obtain ⟨pg, poff, ev, hat⟩ := (HPS.out w5 HW5.out.lz.be).at19 hqt
              subst ev
              have d0 := hat q hqt
              have HT := keepG (mem_take19 hqt cp)
              obtain ⟨px, HPX⟩ : ∃ px, Hid (ps.getD q 0 = px) := ⟨_, rfl⟩
              rw [HPX.out] at d0 HT
              rw [← HF.out] at HT
              clear hat
              cases fb with
              | true =>
                go_wp2
                go_roundw
                case rel => exact ⟨q + 1, true, by omega, rfl, by show _ = _; rw [HT.out]; rfl, by go_num, by first | rfl | trivial⟩
                case measure => simp [intOf]; omega
              | false =>
                rw [Bool.false_or] at HT
                obtain ⟨e, HE⟩ : ∃ e, Hid ((px == cp) = e) := ⟨_, rfl⟩
                rw [HE.out] at HT
                have he := HE.out
                go_wp2
                go_roundw
                case rel => exact ⟨q + 1, e, by omega, rfl, HT.out.symm, by go_num, by first | rfl | trivial⟩
                case measure => simp [intOf]; omega
            · have hqtI : ¬ (q : Int) < ps.length := by omega
              have hf : fb = decide (cp ∈ ps) := by rw [HF.out, List.take_of_length_le (by omega)]
              clear HF
              have hft : fb = true := by rw [hf]; exact decide_eq_true HCP.out
              subst hft
              clear hf
              have HWd := keepG (HW5.out.below (below_drG (Below.refl _ _)))
              have HSET : Hid ((∀ k, k < Y.length → w5.drew.cell? ⟨g, k, none⟩ = some (.int .i64 (Y.getD k 0)) ∧ w5.drew.frozen? ⟨g, k, none⟩ = false) ∧ ∀ (k : Nat) (y : Int), RoN (w5.drew.setCell ⟨g, k, none⟩ (.int .i64 y)) w.heap.size (.slice (some ⟨g, 0, none⟩) Y.length ac) (Y.set k y)) := by
                obtain ⟨g2, ac2, ev2, _, _, _, _, h5, h6⟩ := HWd.out.ra.cells (by omega)
                simp only [Value.slice.injEq, Option.some.injEq, Addr.mk.injEq, and_true, true_and] at ev2
                obtain ⟨rfl, rfl⟩ := ev2
                exact ⟨h5, h6⟩
              by_cases hi0 : i = 0
              · have hib : decide ((i : Int) > 0) = false := by rw [hi0]; rfl
                have hib2 : decide (0 < i) = false := by rw [hi0]; rfl
                have hib3 : ¬ 0 < i := by omega
                clear hi0
                go_wp2
                refine wp_region_held_drew (S := fun _ => True) (by kernel_rfl) trivial (fun hHeld => ?_)
                refine wpAnyH_take (i := 0) (v := ?v23) rfl (by kernel_rfl) (by kernel_rfl) (by kernel_rfl) (fun _ _ _ h => h) (Or.inl ⟨by rfl, ?hy23⟩) (by assumption) ?rest23
                case hy23 => (intro wy hSw; (try dsimp only at hSw); go_simp; (first | done | with_reducible rfl))
                try simp only [Act.put, List.getElem_toArray, List.getElem_cons_zero, List.getElem_cons_succ, List.setIfInBounds_toArray, List.set_cons_zero, List.set_cons_succ]
                refine wpAnyH_take (i := 1) (v := ?v24) rfl (by kernel_rfl) (by kernel_rfl) (by kernel_rfl) (fun _ _ _ h => h) (Or.inl ⟨by rfl, ?hy24⟩) (by assumption) ?rest24
                case hy24 => (intro wy hSw; (try dsimp only at hSw); go_simp; (first | done | with_reducible rfl))
                try simp only [Act.put, List.getElem_toArray, List.getElem_cons_zero, List.getElem_cons_succ, List.setIfInBounds_toArray, List.set_cons_zero, List.set_cons_succ]
                refine wpAnyH_take (i := 2) (v := ?v25) rfl (by kernel_rfl) (by kernel_rfl) (by kernel_rfl) (fun _ _ _ h => h) (Or.inl ⟨by rfl, ?hy25⟩) (by assumption) ?rest25
                case hy25 => (intro wy hSw; (try dsimp only at hSw); go_simp; (first | done | with_reducible rfl))
                try simp only [Act.put, List.getElem_toArray, List.getElem_cons_zero, List.getElem_cons_succ, List.setIfInBounds_toArray, List.set_cons_zero, List.set_cons_succ]
                refine wpAnyH_take (i := 3) (v := ?v26) rfl (by kernel_rfl) (by kernel_rfl) (by kernel_rfl) (fun _ _ _ h => h) (Or.inl ⟨by rfl, ?hy26⟩) (by assumption) ?rest26
                case hy26 => (intro wy hSw; (try dsimp only at hSw); go_simp; (first | done | with_reducible rfl))
                try simp only [Act.put, List.getElem_toArray, List.getElem_cons_zero, List.getElem_cons_succ, List.setIfInBounds_toArray, List.set_cons_zero, List.set_cons_succ]
                refine wpAnyH_take (i := 4) (v := ?v27) rfl (by kernel_rfl) (by kernel_rfl) (by kernel_rfl) (fun _ _ _ h => h) (Or.inl ⟨by rfl, ?hy27⟩) (by assumption) ?rest27
                case hy27 => (intro wy hSw; (try dsimp only at hSw); go_simp; (first | done | with_reducible rfl))
                try simp only [Act.put, List.getElem_toArray, List.getElem_cons_zero, List.getElem_cons_succ, List.setIfInBounds_toArray, List.set_cons_zero, List.set_cons_succ]
                refine wpAnyH_take (i := 5) (v := ?v28) rfl (by kernel_rfl) (by kernel_rfl) (by kernel_rfl) (fun _ _ _ h => h) (Or.inl ⟨by rfl, ?hy28⟩) (by assumption) ?rest28
                case hy28 => (intro wy hSw; (try dsimp only at hSw); go_simp; (first | done | with_reducible rfl))
                try simp only [Act.put, List.getElem_toArray, List.getElem_cons_zero, List.getElem_cons_succ, List.setIfInBounds_toArray, List.set_cons_zero, List.set_cons_succ]
                refine wpAnyH_take (i := 6) (v := ?v29) rfl (by kernel_rfl) (by kernel_rfl) (by kernel_rfl) (fun _ _ _ h => h) (Or.inl ⟨by rfl, ?hy29⟩) (by assumption) ?rest29
                case hy29 => (intro wy hSw; (try dsimp only at hSw); go_simp; (first | done | with_reducible rfl))
                try simp only [Act.put, List.getElem_toArray, List.getElem_cons_zero, List.getElem_cons_succ, List.setIfInBounds_toArray, List.set_cons_zero, List.set_cons_succ]
                refine wpAnyH_take (i := 7) (v := ?v30) rfl (by kernel_rfl) (by kernel_rfl) (by kernel_rfl) (fun _ _ _ h => h) (Or.inl ⟨by rfl, ?hy30⟩) (by assumption) ?rest30
                case hy30 => (intro wy hSw; (try dsimp only at hSw); go_simp; (first | done | with_reducible rfl))
                try simp only [Act.put, List.getElem_toArray, List.getElem_cons_zero, List.getElem_cons_succ, List.setIfInBounds_toArray, List.set_cons_zero, List.set_cons_succ]
                refine wpAnyH_take (i := 8) (v := ?v31) rfl (by kernel_rfl) (by kernel_rfl) (by kernel_rfl) (fun _ _ _ h => h) (Or.inl ⟨by rfl, ?hy31⟩) (by assumption) ?rest31
                case hy31 => (intro wy hSw; (try dsimp only at hSw); go_simp; (first | done | with_reducible rfl))
                try simp only [Act.put, List.getElem_toArray, List.getElem_cons_zero, List.getElem_cons_succ, List.setIfInBounds_toArray, List.set_cons_zero, List.set_cons_succ]
                refine wpAnyH_take (i := 9) (v := ?v32) rfl (by kernel_rfl) (by kernel_rfl) (by kernel_rfl) (fun _ _ _ h => h) (Or.inl ⟨by rfl, ?hy32⟩) (by assumption) ?rest32
                case hy32 => (intro wy hSw; (try dsimp only at hSw); go_simp; (first | done | with_reducible rfl))
                try simp only [Act.put, List.getElem_toArray, List.getElem_cons_zero, List.getElem_cons_succ, List.setIfInBounds_toArray, List.set_cons_zero, List.set_cons_succ]
                refine wpAnyH_take (i := 10) (v := undef) rfl (by kernel_rfl) (by kernel_rfl) (by kernel_rfl) (fun _ _ _ h => h) (Or.inr ⟨by rfl, rfl⟩) (by assumption) ?_
                try simp only [Act.put, List.getElem_toArray, List.getElem_cons_zero, List.getElem_cons_succ, List.setIfInBounds_toArray, List.set_cons_zero, List.set_cons_succ]
                refine wpAnyH_take (i := 11) (v := undef) rfl (by kernel_rfl) (by kernel_rfl) (by kernel_rfl) (fun _ _ _ h => h) (Or.inr ⟨by rfl, rfl⟩) (by assumption) ?_
                try simp only [Act.put, List.getElem_toArray, List.getElem_cons_zero, List.getElem_cons_succ, List.setIfInBounds_toArray, List.set_cons_zero, List.set_cons_succ]
                refine wpAnyH_take (i := 12) (v := undef) rfl (by kernel_rfl) (by kernel_rfl) (by kernel_rfl) (fun _ _ _ h => h) (Or.inr ⟨by rfl, rfl⟩) (by assumption) ?_
                try simp only [Act.put, List.getElem_toArray, List.getElem_cons_zero, List.getElem_cons_succ, List.setIfInBounds_toArray, List.set_cons_zero, List.set_cons_succ]
                refine wpAnyH_take (i := 13) (v := undef) rfl (by kernel_rfl) (by kernel_rfl) (by kernel_rfl) (fun _ _ _ h => h) (Or.inr ⟨by rfl, rfl⟩) (by assumption) ?_
                try simp only [Act.put, List.getElem_toArray, List.getElem_cons_zero, List.getElem_cons_succ, List.setIfInBounds_toArray, List.set_cons_zero, List.set_cons_succ]
                refine wpAnyH_take (i := 14) (v := undef) rfl (by kernel_rfl) (by kernel_rfl) (by kernel_rfl) (fun _ _ _ h => h) (Or.inr ⟨by rfl, rfl⟩) (by assumption) ?_
                try simp only [Act.put, List.getElem_toArray, List.getElem_cons_zero, List.getElem_cons_succ, List.setIfInBounds_toArray, List.set_cons_zero, List.set_cons_succ]
                refine wpAnyH_take (i := 15) (v := undef) rfl (by kernel_rfl) (by kernel_rfl) (by kernel_rfl) (fun _ _ _ h => h) (Or.inr ⟨by rfl, rfl⟩) (by assumption) ?_
                try simp only [Act.put, List.getElem_toArray, List.getElem_cons_zero, List.getElem_cons_succ, List.setIfInBounds_toArray, List.set_cons_zero, List.set_cons_succ]
                refine wpAnyH_take (i := 16) (v := undef) rfl (by kernel_rfl) (by kernel_rfl) (by kernel_rfl) (fun _ _ _ h => h) (Or.inr ⟨by rfl, rfl⟩) (by assumption) ?_
                try simp only [Act.put, List.getElem_toArray, List.getElem_cons_zero, List.getElem_cons_succ, List.setIfInBounds_toArray, List.set_cons_zero, List.set_cons_succ]
                refine wpAnyH_take (i := 17) (v := undef) rfl (by kernel_rfl) (by kernel_rfl) (by kernel_rfl) (fun _ _ _ h => h) (Or.inr ⟨by rfl, rfl⟩) (by assumption) ?_
                try simp only [Act.put, List.getElem_toArray, List.getElem_cons_zero, List.getElem_cons_succ, List.setIfInBounds_toArray, List.set_cons_zero, List.set_cons_succ]
                refine wpAnyH_take (i := 18) (v := undef) rfl (by kernel_rfl) (by kernel_rfl) (by kernel_rfl) (fun _ _ _ h => h) (Or.inr ⟨by rfl, rfl⟩) (by assumption) ?_
                try simp only [Act.put, List.getElem_toArray, List.getElem_cons_zero, List.getElem_cons_succ, List.setIfInBounds_toArray, List.set_cons_zero, List.set_cons_succ]
                refine wpAnyH_take (i := 19) (v := undef) rfl (by kernel_rfl) (by kernel_rfl) (by kernel_rfl) (fun _ _ _ h => h) (Or.inr ⟨by rfl, rfl⟩) (by assumption) ?_
                try simp only [Act.put, List.getElem_toArray, List.getElem_cons_zero, List.getElem_cons_succ, List.setIfInBounds_toArray, List.set_cons_zero, List.set_cons_succ]
                refine wpAnyH_take (i := 20) (v := ?v33) rfl (by kernel_rfl) (by kernel_rfl) (by kernel_rfl) (fun _ _ _ h => h) (Or.inl ⟨by rfl, ?hy33⟩) (by assumption) ?rest33
                case hy33 => (intro wy hSw; (try dsimp only at hSw); go_simp; (first | done | with_reducible rfl))
                try simp only [Act.put, List.getElem_toArray, List.getElem_cons_zero, List.getElem_cons_succ, List.setIfInBounds_toArray, List.set_cons_zero, List.set_cons_succ]
                refine wpAnyH_take (i := 21) (v := ?v34) rfl (by kernel_rfl) (by kernel_rfl) (by kernel_rfl) (fun _ _ _ h => h) (Or.inl ⟨by rfl, ?hy34⟩) (by assumption) ?rest34
                case hy34 => (intro wy hSw; (try dsimp only at hSw); go_simp; (first | done | with_reducible rfl))
                try simp only [Act.put, List.getElem_toArray, List.getElem_cons_zero, List.getElem_cons_succ, List.setIfInBounds_toArray, List.set_cons_zero, List.set_cons_succ]
                refine wpAnyH_done (by kernel_rfl) ?_ _
                clear hHeld hib hib2 hib3
                have HW6 := keepG (HWd.out.set (HSET.out.2 i (-5)))
                have cf : w5.frozen? ⟨g, i, none⟩ = false := (HSET.out.1 i hil).2
                go_wp2
                go_roundw
                case rel => exact ⟨i + 1, Y.set i (-5), by omega, by go_num, by rw [List.length_set]; exact HW6.out, by simpa using HYL.out, fun k hk => by
                  by_cases e : k = i
                  · subst e
                    simp [List.getD, hil]
                  · have h5 := HY0.out k (by omega)
                    have : i ≠ k := fun e2 => e e2.symm
                    rw [← h5]
                    simp [List.getD, List.getElem?_set_ne this], fun k hk => by
                  have h5 := HY1.out k (by omega)
                  have : i ≠ k := by omega
                  rw [← h5]
                  simp [List.getD, List.getElem?_set_ne this]⟩
                case measure => simp [intOf]; omega
              · have hib : decide ((i : Int) > 0) = true := by simp; omega
                have hib2 : decide (0 < i) = true := by simp; omega
                have hib3 : 0 < i := by omega
                obtain ⟨k, HK⟩ : ∃ k : Nat, Hid (i - 1 = k) := ⟨_, rfl⟩
                have hki : k + 1 = i := by have := HK.out; omega
                have hkl : k < Y.length := by omega
                have hklI : (k : Int) < A.length := by have := HYL.out; omega
                have e0 := (HWd.out.ra.cells (by omega))
                have ck := (HSET.out.1 k hkl).1
                rw [HY0.out k (by omega)] at ck
                have ck' : w5.cell? ⟨g, k, none⟩ = some (.int .i64 (-5)) := ck
                have hwr : IntKind.i64.wrap ((i : Int) - 1) = (k : Int) := by rw [IntKind.wrap_i64]; omega
                have hxb : decide ((-5 : Int) ≥ x) = false := by simp; omega
                have hxn : ¬ x ≤ (-5 : Int) := by omega
                clear hki e0 hi0
                go_wp2
                refine wp_region_held_drew (S := fun w' => w'.cell? ⟨g, k, none⟩ = some (.int .i64 (-5)) ∧ w'.cell? ⟨g, i, none⟩ = some (.int .i64 x)) (by kernel_rfl) ⟨ck', cx5⟩ (fun hHeld => ?_)
                refine wpAnyH_take (i := 0) (v := ?v35) rfl (by kernel_rfl) (by kernel_rfl) (by kernel_rfl) (fun _ _ _ h => h) (Or.inl ⟨by rfl, ?hy35⟩) (by assumption) ?rest35
                case hy35 => (intro wy hSw; (try dsimp only at hSw); go_simp; (first | done | with_reducible rfl))
                try simp only [Act.put, List.getElem_toArray, List.getElem_cons_zero, List.getElem_cons_succ, List.setIfInBounds_toArray, List.set_cons_zero, List.set_cons_succ]
                refine wpAnyH_take (i := 1) (v := ?v36) rfl (by kernel_rfl) (by kernel_rfl) (by kernel_rfl) (fun _ _ _ h => h) (Or.inl ⟨by rfl, ?hy36⟩) (by assumption) ?rest36
                case hy36 => (intro wy hSw; (try dsimp only at hSw); go_simp; (first | done | with_reducible rfl))
                try simp only [Act.put, List.getElem_toArray, List.getElem_cons_zero, List.getElem_cons_succ, List.setIfInBounds_toArray, List.set_cons_zero, List.set_cons_succ]
                refine wpAnyH_take (i := 2) (v := ?v37) rfl (by kernel_rfl) (by kernel_rfl) (by kernel_rfl) (fun _ _ _ h => h) (Or.inl ⟨by rfl, ?hy37⟩) (by assumption) ?rest37
                case hy37 => (intro wy hSw; (try dsimp only at hSw); go_simp; (first | done | with_reducible rfl))
                try simp only [Act.put, List.getElem_toArray, List.getElem_cons_zero, List.getElem_cons_succ, List.setIfInBounds_toArray, List.set_cons_zero, List.set_cons_succ]
                refine wpAnyH_take (i := 3) (v := ?v38) rfl (by kernel_rfl) (by kernel_rfl) (by kernel_rfl) (fun _ _ _ h => h) (Or.inl ⟨by rfl, ?hy38⟩) (by assumption) ?rest38
                case hy38 => (intro wy hSw; (try dsimp only at hSw); go_simp; (first | done | with_reducible rfl))
                try simp only [Act.put, List.getElem_toArray, List.getElem_cons_zero, List.getElem_cons_succ, List.setIfInBounds_toArray, List.set_cons_zero, List.set_cons_succ]
                refine wpAnyH_take (i := 4) (v := ?v39) rfl (by kernel_rfl) (by kernel_rfl) (by kernel_rfl) (fun _ _ _ h => h) (Or.inl ⟨by rfl, ?hy39⟩) (by assumption) ?rest39
                case hy39 => (intro wy hSw; (try dsimp only at hSw); go_simp; (first | done | with_reducible rfl))
                try simp only [Act.put, List.getElem_toArray, List.getElem_cons_zero, List.getElem_cons_succ, List.setIfInBounds_toArray, List.set_cons_zero, List.set_cons_succ]
                refine wpAnyH_take (i := 5) (v := ?v40) rfl (by kernel_rfl) (by kernel_rfl) (by kernel_rfl) (fun _ _ _ h => h) (Or.inl ⟨by rfl, ?hy40⟩) (by assumption) ?rest40
                case hy40 => (intro wy hSw; (try dsimp only at hSw); go_simp; (first | done | with_reducible rfl))
                try simp only [Act.put, List.getElem_toArray, List.getElem_cons_zero, List.getElem_cons_succ, List.setIfInBounds_toArray, List.set_cons_zero, List.set_cons_succ]
                refine wpAnyH_take (i := 6) (v := ?v41) rfl (by kernel_rfl) (by kernel_rfl) (by kernel_rfl) (fun _ _ _ h => h) (Or.inl ⟨by rfl, ?hy41⟩) (by assumption) ?rest41
                case hy41 => (intro wy hSw; (try dsimp only at hSw); go_simp; (first | done | with_reducible rfl))
                try simp only [Act.put, List.getElem_toArray, List.getElem_cons_zero, List.getElem_cons_succ, List.setIfInBounds_toArray, List.set_cons_zero, List.set_cons_succ]
                refine wpAnyH_take (i := 7) (v := ?v42) rfl (by kernel_rfl) (by kernel_rfl) (by kernel_rfl) (fun _ _ _ h => h) (Or.inl ⟨by rfl, ?hy42⟩) (by assumption) ?rest42
                case hy42 => (intro wy hSw; (try dsimp only at hSw); go_simp; (first | done | with_reducible rfl))
                try simp only [Act.put, List.getElem_toArray, List.getElem_cons_zero, List.getElem_cons_succ, List.setIfInBounds_toArray, List.set_cons_zero, List.set_cons_succ]
                refine wpAnyH_take (i := 8) (v := ?v43) rfl (by kernel_rfl) (by kernel_rfl) (by kernel_rfl) (fun _ _ _ h => h) (Or.inl ⟨by rfl, ?hy43⟩) (by assumption) ?rest43
                case hy43 => (intro wy hSw; (try dsimp only at hSw); go_simp; (first | done | with_reducible rfl))
                try simp only [Act.put, List.getElem_toArray, List.getElem_cons_zero, List.getElem_cons_succ, List.setIfInBounds_toArray, List.set_cons_zero, List.set_cons_succ]
                refine wpAnyH_take (i := 9) (v := ?v44) rfl (by kernel_rfl) (by kernel_rfl) (by kernel_rfl) (fun _ _ _ h => h) (Or.inl ⟨by rfl, ?hy44⟩) (by assumption) ?rest44
                case hy44 => (intro wy hSw; (try dsimp only at hSw); go_simp; (first | done | with_reducible rfl))
                try simp only [Act.put, List.getElem_toArray, List.getElem_cons_zero, List.getElem_cons_succ, List.setIfInBounds_toArray, List.set_cons_zero, List.set_cons_succ]
                refine wpAnyH_take (i := 10) (v := ?v45) rfl (by kernel_rfl) (by kernel_rfl) (by kernel_rfl) (fun _ _ _ h => h) (Or.inl ⟨by rfl, ?hy45⟩) (by assumption) ?rest45
                case hy45 => (intro wy hSw; (try dsimp only at hSw); go_simp; (first | done | with_reducible rfl))
                try simp only [Act.put, List.getElem_toArray, List.getElem_cons_zero, List.getElem_cons_succ, List.setIfInBounds_toArray, List.set_cons_zero, List.set_cons_succ]
                refine wpAnyH_take (i := 11) (v := ?v46) rfl (by kernel_rfl) (by kernel_rfl) (by kernel_rfl) (fun _ _ _ h => h) (Or.inl ⟨by rfl, ?hy46⟩) (by assumption) ?rest46
                case hy46 => (intro wy hSw; (try dsimp only at hSw); go_simp; (first | done | with_reducible rfl))
                try simp only [Act.put, List.getElem_toArray, List.getElem_cons_zero, List.getElem_cons_succ, List.setIfInBounds_toArray, List.set_cons_zero, List.set_cons_succ]
                refine wpAnyH_take (i := 12) (v := ?v47) rfl (by kernel_rfl) (by kernel_rfl) (by kernel_rfl) (fun _ _ _ h => h) (Or.inl ⟨by rfl, ?hy47⟩) (by assumption) ?rest47
                case hy47 => (intro wy hSw; (try dsimp only at hSw); go_simp; (first | done | with_reducible rfl))
                try simp only [Act.put, List.getElem_toArray, List.getElem_cons_zero, List.getElem_cons_succ, List.setIfInBounds_toArray, List.set_cons_zero, List.set_cons_succ]
                refine wpAnyH_take (i := 13) (v := ?v48) rfl (by kernel_rfl) (by kernel_rfl) (by kernel_rfl) (fun _ _ _ h => h) (Or.inl ⟨by rfl, ?hy48⟩) (by assumption) ?rest48
                case hy48 => (intro wy hSw; (try dsimp only at hSw); go_simp; (first | done | with_reducible rfl))
                try simp only [Act.put, List.getElem_toArray, List.getElem_cons_zero, List.getElem_cons_succ, List.setIfInBounds_toArray, List.set_cons_zero, List.set_cons_succ]
                refine wpAnyH_take (i := 14) (v := ?v49) rfl (by kernel_rfl) (by kernel_rfl) (by kernel_rfl) (fun _ _ _ h => h) (Or.inl ⟨by rfl, ?hy49⟩) (by assumption) ?rest49
                case hy49 => (intro wy hSw; (try dsimp only at hSw); go_simp; (first | done | with_reducible rfl))
                try simp only [Act.put, List.getElem_toArray, List.getElem_cons_zero, List.getElem_cons_succ, List.setIfInBounds_toArray, List.set_cons_zero, List.set_cons_succ]
                refine wpAnyH_take (i := 15) (v := ?v50) rfl (by kernel_rfl) (by kernel_rfl) (by kernel_rfl) (fun _ _ _ h => h) (Or.inl ⟨by rfl, ?hy50⟩) (by assumption) ?rest50
                case hy50 => (intro wy hSw; (try dsimp only at hSw); go_simp; (first | done | with_reducible rfl))
                try simp only [Act.put, List.getElem_toArray, List.getElem_cons_zero, List.getElem_cons_succ, List.setIfInBounds_toArray, List.set_cons_zero, List.set_cons_succ]
                refine wpAnyH_take (i := 16) (v := ?v51) rfl (by kernel_rfl) (by kernel_rfl) (by kernel_rfl) (fun _ _ _ h => h) (Or.inl ⟨by rfl, ?hy51⟩) (by assumption) ?rest51
                case hy51 => (intro wy hSw; (try dsimp only at hSw); go_simp; (first | done | with_reducible rfl))
                try simp only [Act.put, List.getElem_toArray, List.getElem_cons_zero, List.getElem_cons_succ, List.setIfInBounds_toArray, List.set_cons_zero, List.set_cons_succ]
                refine wpAnyH_take (i := 17) (v := ?v52) rfl (by kernel_rfl) (by kernel_rfl) (by kernel_rfl) (fun _ _ _ h => h) (Or.inl ⟨by rfl, ?hy52⟩) (by assumption) ?rest52
                case hy52 => (intro wy hSw; (try dsimp only at hSw); go_simp; (first | done | with_reducible rfl))
                try simp only [Act.put, List.getElem_toArray, List.getElem_cons_zero, List.getElem_cons_succ, List.setIfInBounds_toArray, List.set_cons_zero, List.set_cons_succ]
                refine wpAnyH_take (i := 18) (v := ?v53) rfl (by kernel_rfl) (by kernel_rfl) (by kernel_rfl) (fun _ _ _ h => h) (Or.inl ⟨by rfl, ?hy53⟩) (by assumption) ?rest53
                case hy53 => (intro wy hSw; (try dsimp only at hSw); go_simp; (first | done | with_reducible rfl))
                try simp only [Act.put, List.getElem_toArray, List.getElem_cons_zero, List.getElem_cons_succ, List.setIfInBounds_toArray, List.set_cons_zero, List.set_cons_succ]
                refine wpAnyH_take (i := 19) (v := ?v54) rfl (by kernel_rfl) (by kernel_rfl) (by kernel_rfl) (fun _ _ _ h => h) (Or.inl ⟨by rfl, ?hy54⟩) (by assumption) ?rest54
                case hy54 => (intro wy hSw; (try dsimp only at hSw); go_simp; (first | done | with_reducible rfl))
                try simp only [Act.put, List.getElem_toArray, List.getElem_cons_zero, List.getElem_cons_succ, List.setIfInBounds_toArray, List.set_cons_zero, List.set_cons_succ]
                refine wpAnyH_take (i := 20) (v := ?v55) rfl (by kernel_rfl) (by kernel_rfl) (by kernel_rfl) (fun _ _ _ h => h) (Or.inl ⟨by rfl, ?hy55⟩) (by assumption) ?rest55
                case hy55 => (intro wy hSw; (try dsimp only at hSw); go_simp; (first | done | with_reducible rfl))
                try simp only [Act.put, List.getElem_toArray, List.getElem_cons_zero, List.getElem_cons_succ, List.setIfInBounds_toArray, List.set_cons_zero, List.set_cons_succ]
                refine wpAnyH_take (i := 21) (v := ?v56) rfl (by kernel_rfl) (by kernel_rfl) (by kernel_rfl) (fun _ _ _ h => h) (Or.inl ⟨by rfl, ?hy56⟩) (by assumption) ?rest56
                case hy56 => (intro wy hSw; (try dsimp only at hSw); go_simp; (first | done | with_reducible rfl))
                try simp only [Act.put, List.getElem_toArray, List.getElem_cons_zero, List.getElem_cons_succ, List.setIfInBounds_toArray, List.set_cons_zero, List.set_cons_succ]
                refine wpAnyH_done (by kernel_rfl) ?_ _
                clear hHeld hib hib2 hib3
                have HW6 := keepG (HWd.out.set (HSET.out.2 i (-5)))
                have cf : w5.frozen? ⟨g, i, none⟩ = false := (HSET.out.1 i hil).2
                go_wp2
                go_roundw
                case rel => exact ⟨i + 1, Y.set i (-5), by omega, by go_num, by rw [List.length_set]; exact HW6.out, by simpa using HYL.out, fun k hk => by
                  by_cases e : k = i
                  · subst e
                    simp [List.getD, hil]
                  · have h5 := HY0.out k (by omega)
                    have : i ≠ k := fun e2 => e e2.symm
                    rw [← h5]
                    simp [List.getD, List.getElem?_set_ne this], fun k hk => by
                  have h5 := HY1.out k (by omega)
                  have : i ≠ k := by omega
                  rw [← h5]
                  simp [List.getD, List.getElem?_set_ne this]⟩
                case measure => simp [intOf]; omega
        · have hiAI : ¬ (i : Int) < A.length := by omega
          have HWW := keepG HW.out.1
          have HYL := keepG HW.out.2.1
          have hYl : Y.length ≤ 4 := by have := HYL.out; omega
          have HYLr : Hid (A.length = Y.length) := HYL.out.symm
          have hTL := HTL.out
          have hiYI : ¬ (i : Int) < Y.length := by have := HYL.out; omega
          clear HW hiAI
          rw [HYLr.out]
          obtain ⟨Z, HZ, HnZ⟩ : ∃ Z, Hid (wz.alloc (.cells #[.int .i64 1, .int .i64 2] 3) = Z) ∧ Hid (∀ j u, [Value.int .i64 1, Value.int .i64 2][j]? = some u → Z.cell? ((⟨wz.heap.size, 0, none⟩ : Addr).add j) = some u) := ⟨_, rfl, cells_new wz [Value.int .i64 1, Value.int .i64 2] _ _ rfl⟩
          have HRZ : Hid (Z.ownsRow w.heap.size 3 1 (.slice aa Y.length ac) Y.length (Y.map (Value.int .i64))) := by rw [← HZ.out]; exact HWW.out.ra.alloc _
          have hbZ : Below wz.heap.size wz Z := by rw [← HZ.out]; exact below_allocG _ _
          have hzw := HWW.out.lz.be.size
          go_wp2_with (at_builtin; rw [HZ.out]; go_must (refine wpList_append_wide _ rfl _ _ 33 rfl w.heap.size 3 i0 (.int .i64 0) 1 8 Try.underlying33 hi0 hz0 hzs hzb rfl (by decide) _ _ _ rfl HRZ.out ⟨_, 0, none⟩ 2 2 [.int .i64 1, .int .i64 2] rfl rfl HnZ.out (by intro u hu; simp at hu; rcases hu with rfl | rfl <;> rfl) (by unfold maxLen; omega) (by omega) (by have := hbZ.size; omega) ?_); intro v' w8 hown' hgrow _; go_must (rw [← HZ.out] at hgrow; have HM8 := keepG (HWW.out.more (v' := v') (news := [1, 2]) (by unfold RoN; simpa using hown') hgrow); obtain ⟨va8, vc8, ev8⟩ := own_shape hown'; subst ev8; clear hown' hgrow))
          go_loopw [18, 19] (fun vc i wy => ∃ (y : Nat) (cn : Int), y ≤ n ∧ vc = .int .i64 cn ∧ Hid (cn = (t.whN ps y).length) ∧ i = .int .i64 y ∧ Hid (Lz w wy b F t ∧ RoN wy w.heap.size (.slice ga Y.length gc) A)) (fun _ i _ => n - (intOf i).toNat)
          case atStart => exact ⟨0, 0, by omega, rfl, rfl, rfl, by have := HM8.out; rw [HYLr.out] at this; exact this⟩
          case round =>
            obtain ⟨y, cn, hy, rfl, HCN, rfl, HY⟩ := hrel
            rename World => wy
            by_cases hyn : y < n
            · have hynI : (y : Int) < n := by omega
              obtain ⟨cv, cp, r, HC⟩ : ∃ cv cp r, Hid (t.cur y = (cv, cp, r)) := ⟨_, _, _, rfl⟩
              have HHIT : Hid (t.hit ps y = (r && decide (cp ∈ ps))) := by
                show _ = _
                have := HC.out
                unfold Tb.cur at this
                injection this with _ this
                injection this with e1 e2
                unfold Tb.hit
                rw [e1, e2]
              have HMO := keepG (t.whN_more ps y)
              have HWA : Hid (t.hit ps y = true → cn < (Y.length : Int) ∧ ∃ k : Nat, cn = k ∧ k < A.length ∧ A.getD k 0 = y) := by
                intro hh
                have h5 := wh_at (t := t) (ps := ps) (h := y) (by omega) hh
                rw [HA.out] at h5
                have h6 := HYLr.out
                have h7 := HCN.out
                exact ⟨by omega, (t.whN ps y).length, h7, h5.1, h5.2⟩
              rw [HHIT.out] at HMO HWA
              have hcl := t.whN_len ps y
              have hc0 : 0 ≤ cn ∧ cn ≤ 4 := by have := HCN.out; omega
              go_wp2_with (go_at_call 11; go_must (refine (HY.out.1.current y HC).mono ?_); rintro e w9 ⟨rfl, hb9⟩; go_must (have HY9 := keepG (HY.out.1.below hb9); have HR9 := keepG (HY.out.2.below hb9); clear hb9))
              go_loopw [23, 24] (fun f i wq => ∃ (q : Nat) (fb : Bool), q ≤ ps.length ∧ f = .bool fb ∧ Hid (fb = decide (cp ∈ ps.take q)) ∧ i = .int .i64 q ∧ w9 = wq) (fun _ i _ => ps.length - (intOf i).toNat)
              case atStart => exact ⟨0, false, by omega, rfl, by show _ = _; simp, rfl, rfl⟩
              case round =>
                obtain ⟨q, fb, hq, rfl, HF, rfl, rfl⟩ := hrel
                by_cases hqt : q < ps.length
                · have hqtI : (q : Int) < ps.length := by omega
                  obtain ⟨pg, poff, ev, hat⟩ := (HPS.out w9 HY9.out.be).at19 hqt
                  subst ev
                  have d0 := hat q hqt
                  have HT := keepG (mem_take19 hqt cp)
                  obtain ⟨px, HPX⟩ : ∃ px, Hid (ps.getD q 0 = px) := ⟨_, rfl⟩
                  rw [HPX.out] at d0 HT
                  rw [← HF.out] at HT
                  clear hat
                  cases fb with
                  | true =>
                    go_wp2
                    go_roundw
                    case rel => exact ⟨q + 1, true, by omega, rfl, by show _ = _; rw [HT.out]; rfl, by go_num, by first | rfl | trivial⟩
                    case measure => simp [intOf]; omega
                  | false =>
                    rw [Bool.false_or] at HT
                    obtain ⟨e, HE⟩ : ∃ e, Hid ((px == cp) = e) := ⟨_, rfl⟩
                    rw [HE.out] at HT
                    have he := HE.out
                    go_wp2
                    go_roundw
                    case rel => exact ⟨q + 1, e, by omega, rfl, HT.out.symm, by go_num, by first | rfl | trivial⟩
                    case measure => simp [intOf]; omega
                · have hqtI : ¬ (q : Int) < ps.length := by omega
                  have hf : fb = decide (cp ∈ ps) := by rw [HF.out, List.take_of_length_le (by omega)]
                  clear HF
                  rw [← hf] at HMO HWA
                  clear hf
                  cases r with
                  | false =>
                    have HM2 : Hid (t.whN ps (y + 1) = t.whN ps y) := by show _ = _; rw [HMO.out, if_neg (by simp)]
                    go_wp2
                    go_roundw
                    case rel => exact ⟨y + 1, cn, by omega, rfl, by show _ = _; rw [HM2.out]; exact HCN.out, by go_num, HY9.out, HR9.out⟩
                    case measure => simp [intOf]; omega
                  | true =>
                    cases fb with
                    | false =>
                      have HM2 : Hid (t.whN ps (y + 1) = t.whN ps y) := by show _ = _; rw [HMO.out, if_neg (by simp)]
                      go_wp2
                      go_roundw
                      case rel => exact ⟨y + 1, cn, by omega, rfl, by show _ = _; rw [HM2.out]; exact HCN.out, by go_num, HY9.out, HR9.out⟩
                      case measure => simp [intOf]; omega
                    | true =>
                      have HM2 : Hid (t.whN ps (y + 1) = t.whN ps y ++ [(y : Int)]) := by show _ = _; rw [HMO.out, if_pos (by simp)]
                      obtain ⟨hcY, k, hck, hkA, hky⟩ := HWA.out rfl
                      subst hck
                      have hge : decide ((k : Int) ≥ (Y.length : Int)) = false := decide_eq_false (by omega)
                      have hkYI : (k : Int) < Y.length := hcY
                      have hkY : k < Y.length := by omega
                      have hkb : decide (Y.length ≤ k) = false := decide_eq_false (by omega)
                      obtain ⟨gg, gc2, evg, _, _, hgc, hgc2, hclg, _⟩ := HR9.out.cells (by omega)
                      have hYA := HYLr.out
                      simp only [Value.slice.injEq] at evg
                      obtain ⟨rfl, -, rfl⟩ := evg
                      have ck := (hclg k hkA).1
                      rw [hky] at ck
                      have hyy : ((y : Int) != y) = false := by simp
                      have HNX : Hid (((t.whN ps (y + 1)).length : Int) = (k : Int) + 1) := by
                        have h5 := HCN.out
                        show _ = _
                        rw [HM2.out]
                        simp
                        omega
                      have hwk : IntKind.i64.wrap ((k : Int) + 1) = (k : Int) + 1 := by rw [IntKind.wrap_i64]; omega
                      clear hclg hcY hky hYA HWA HMO hc0
                      go_wp2
                      go_roundw
                      case rel => exact ⟨y + 1, (k : Int) + 1, by omega, by first | rfl | go_num, by show _ = _; exact HNX.out.symm, by go_num, HY9.out, HR9.out⟩
                      case measure => simp [intOf]; omega
            · have hynI : ¬ (y : Int) < n := by omega
              have hcA : cn = (Y.length : Int) := by
                have h5 := HCN.out
                have h6 := HA.out
                unfold Tb.wh at h6
                rw [show y = t.at'.length by omega, h6] at h5
                have h7 := HYLr.out
                omega
              have hw2 : IntKind.i64.wrap (cn + 2) = (Y.length : Int) + 2 := by rw [IntKind.wrap_i64]; omega
              have hwy : IntKind.i64.wrap ((Y.length : Int) + 2) = (Y.length : Int) + 2 := by rw [IntKind.wrap_i64]; omega
              have HW0 : Hid (t.wh [] = []) := wh_nil t
              subst hcA
              clear hw2 HCN
              go_wp2_with (go_at_call 16; go_must (refine (HY.out.1.wher (Sees.nil _ _) HW0).mono ?_); rintro e wx ⟨vx, rfl, hrx, hbx⟩; go_must (obtain ⟨xa, xc, evx⟩ := own_shape hrx; subst evx; have HBE := keepG (HY.out.1.below hbx).be; clear hrx hbx))
              go_ret
              exact ⟨by first | rfl | simp, HBE.out⟩
/-- HooksWhere. -/
theorem hooksWhere_walk (n : Int) (sv : Value) (is : List Ow) (pv : Value) (ps : List Int) (w : World) {P0 : Prop} (_ : P0) (hs : Scr w sv is) (hlen : is.length * 48 ≤ 140737488351232 ∧ ∀ x ∈ is, x.ws.length * 8 ≤ 140737488351232) (hp : Sees .i64 w pv ps) (hpl : ps.length * 8 ≤ 140737488351232) :
    Calls Try.prog 5 #[.int .i64 n, sv, pv] w fun e w' => e = .returned (.bool true) ∧ Below w.heap.size w w' := by
  by_cases h : n < 1 ∨ 4 < n
  · exact hooksWhere_no n sv pv w h
  · obtain ⟨m, rfl⟩ : ∃ m : Nat, n = m := ⟨n.toNat, by omega⟩
    exact hooksWhere_ok m (by omega) (by omega) sv pv is ps w hs hp hlen.1 hpl
end Go.Proofs.Ytknijloificpmaa
