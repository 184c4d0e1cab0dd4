
/-
  StatsPlays, walked. Condition: none but the arguments' reading, and that they are not too great.
-/
import Derived.Test.YtjhjfojmojjomaaTk
import Derived.Test.YtjhjfojmojjomaaW20Pe
namespace Go.Proofs.Ytjhjfojmojjomaa
open Go.RowKit
set_option linter.unusedVariables false
set_option linter.unusedSimpArgs false
set_option maxRecDepth 100000
set_option maxHeartbeats 25600000 in
theorem statsPlays_ok (sv : Value) (is : List Ow) (w : World) (hs : Scr w sv is) (hlen : is.length ≤ 1048576) (hz : ∀ x ∈ is, x.ws.length ≤ 1048576) :
    Calls Try.prog 3 #[sv] w fun e w' => e = .returned (.bool true) ∧ Below w.heap.size w w' := by
  have HSC := keepG hs
  have HSZI := keepG hz
  obtain ⟨sa, sc, rfl, hsc, hsm, _, _⟩ := hs.sees
  have hsm' : sc ≤ 9223372036854775807 := by unfold maxLen at hsm; omega
  obtain ⟨i0, hi0, hz0, hzs, hzb⟩ := info_parts infoTa
  clear hs hsm hz
  go_enter Try.func3, Try.ntmps3
  go_wp2_with (first
    | (go_at_call 6; go_must (refine (awake20_any w).mono ?_); rintro e w1 ⟨rfl, hb1⟩; go_must (have HB1 := keepG hb1; clear hb1))
    | (have hq := HA2; clear hq; go_at_call 7; go_must (refine (lznew HA2.out.be).mono ?_); rintro e w3 ⟨b, Fb, rfl, hL, hS, hb⟩; go_must (obtain ⟨p, e0, e1⟩ : ∃ p : Nat → Nat, a = p 0 ∧ b = p 1 := ⟨fun k => if k = 0 then a else b, rfl, rfl⟩; subst e0 e1; obtain ⟨Y, HY⟩ : ∃ Y, Hid (w3.alloc (.cells #[.pointer (some ⟨p 0, 0, none⟩), .pointer (some ⟨p 1, 0, none⟩)] 24) = Y) := ⟨_, rfl⟩; obtain ⟨Z, HZ⟩ : ∃ Z, Hid (Y.alloc (.cells #[.slice none 0 0, .slice none 0 0] 32) = Z) := ⟨_, rfl⟩; have hmk := run_makeTo Y; rw [HZ.out] at hmk; have HP := keepG (Ps.new (HA2.out.below hb) hL (Apt.made HA2.out.lies hS) HY.out HZ.out); obtain ⟨sb, HSB⟩ : ∃ sb, Hid (w3.heap.size = sb) := ⟨_, rfl⟩; obtain ⟨lb, HLB⟩ : ∃ lb, Hid (Y.heap.size = lb) := ⟨_, rfl⟩; rw [HSB.out, HLB.out] at HP; rw [HLB.out] at hmk; clear hL hS hb))
    | (go_at_call 7; go_must (refine (lznew HB1.out).mono ?_); rintro e w2 ⟨a, Fa, rfl, hL, _, _⟩; go_must (have HA2 := keepG hL; clear hL))
    | (rw [HY.out, HSB.out]))
  clear HB1 HA2 HY HZ hmk
  go_loopw [5] (fun i wr => ∃ j : Nat, j ≤ is.length ∧ j ≤ 400 ∧ i = .int .i64 j ∧ ∃ F V L, Hid (Ps w wr sb lb p F V L L ∧ ∀ k, k < 2 → (L k).length ≤ j * 1048577)) (fun i _ => is.length - (intOf i).toNat)
  case atStart => exact ⟨0, by omega, by omega, rfl, _, _, _, HP.out, fun k hk => by simp⟩
  case round =>
    clear HP
    obtain ⟨j, hj, hj4, rfl, F, V, L, HM⟩ := hrel
    rename World => wr
    by_cases hlt : j < is.length
    · have hltI : (j : Int) < is.length := by omega
      by_cases hj3 : j < 400
      · have hj3I : (j : Int) < 400 := by omega
        obtain ⟨x, HX⟩ : ∃ x, Hid (is.getD j Ow.nil = x) := ⟨_, rfl⟩
        have hzx := HSZI.out _ (getD_memW is j hlt)
        rw [HX.out] at hzx
        have HSX := keepG (fun (wx : World) (hb : Below w.heap.size w wx) => (HSC.out.at hb hlt HX.out))
        obtain ⟨q, off, cap, ev, _, _, ⟨d0, d1, d2, d3, d4, d5, d6⟩, hsu, hlu⟩ := HSC.out.at HM.out.1.be hlt HX.out
        simp only [Value.slice.injEq, true_and] at ev
        obtain ⟨rfl, rfl⟩ := ev
        obtain ⟨oa, oc, ev⟩ := hsu.shape
        obtain ⟨ok, on, oh, os, oC, oR, ou, ow⟩ := x
        simp only at d0 d1 d2 d3 d4 d5 d6 hsu hlu hzx ev
        subst ev
        have HLU := keepG hlu
        have HSU : Hid (∀ wx : World, Below w.heap.size w wx → Sees .i64 wx (.slice oa ow.length oc) ow) := by
          intro wx hb
          obtain ⟨_, _, _, _, _, _, _, e2, _⟩ := HSX.out wx hb
          exact e2
        clear hsu hlu HSX
        obtain ⟨n, HN⟩ : ∃ n, Hid (wr.heap.size = n) := ⟨_, rfl⟩
        obtain ⟨X, HXX, hbX, HPX⟩ : ∃ X, Hid (wr.alloc (.cells #[.int .i64 ok, .int .i64 on, .int .i64 oh, .int .u64 os, .int .u64 oC, .int .u64 oR, .slice oa ow.length oc] 31) = X) ∧ Below wr.heap.size wr X ∧ Hid (Hp X wr.heap.size 31 (owC ⟨ok, on, oh, os, oC, oR, .slice oa ow.length oc, ow⟩)) := ⟨_, rfl, below_allocG _ _, Hp.new wr _ _⟩
        rw [HN.out] at HPX
        have HPS := keepG (HM.out.1.below hbX)
        have HNF : Hid (∀ k, k < 2 → ¬ F k n ∧ ¬ ftV (V k) n ∧ n ≠ sb ∧ n ≠ lb) := by
          intro k hk
          have h0 := HN.out
          refine ⟨fun e => ?_, fun e => ?_, ?_, ?_⟩
          · have := (HM.out.1.obj k hk).lies _ e; omega
          · have := own_lies (HM.out.1.row k hk) _ e; omega
          · have := HM.out.1.ss.lt; omega
          · have := HM.out.1.ls.lt; omega
        have HWN : Hid (w.heap.size ≤ n) := by have := HM.out.1.be.size; have h0 := HN.out; show _ ≤ _; omega
        have HLE := keepG HM.out.2
        have q0 := HPX.out.cell (j := 0) rfl
        have q1 := HPX.out.cell (j := 1) rfl
        by_cases hon : on.tmod 2 = 0
        · have honb : (on.tmod 2 != 0) = false := by simpa using hon
          by_cases hok : ok = 0
          · subst hok
            obtain ⟨E, HQE⟩ := tellL_told (L 0) ⟨0, on, oh, os, oC, oR, .slice oa ow.length oc, ow⟩
            replace HQE := keepG HQE
            have HQ0 : Hid (tellL (L 0) ⟨0, on, oh, os, oC, oR, .slice oa ow.length oc, ow⟩ = ranL (L 0) oh os oC oR) := by show _ = _; unfold tellL; rw [if_pos rfl]
            rw [HQE.out] at HQ0
            have HQD : Hid (ranL (L 0) oh os oC oR = (E, L 0 ++ toldO ⟨0, on, oh, os, oC, oR, .slice oa ow.length oc, ow⟩)) := HQ0.out.symm
            have HTL := keepG (toldO_len ⟨0, on, oh, os, oC, oR, .slice oa ow.length oc, ow⟩)
            have HBD := keepG (below_drG (Below.refl X.heap.size X))
            have HPD := keepG (HPS.out.below HBD.out)
            have HRW := keepG (HPD.out.row 0 (by decide))
            have HBE := keepG HPD.out.be
            have HBW := keepG HPD.out.be.size
            have HLN : Hid (((L 0).length + 1) * 40 ≤ 140737488355328) := by
              have h5 := HLE.out 0 (by decide)
              show _ ≤ _
              omega
            have HBX : Hid (∀ wx : World, Hp wx n 31 (owC ⟨0, on, oh, os, oC, oR, .slice oa ow.length oc, ow⟩) → wx.cell? ⟨n, 0, none⟩ = some (.int .i64 0) ∧ wx.cell? ⟨n, 1, none⟩ = some (.int .i64 on) ∧ wx.cell? ⟨n, 2, none⟩ = some (.int .i64 oh) ∧ wx.cell? ⟨n, 3, none⟩ = some (.int .u64 os) ∧ wx.cell? ⟨n, 4, none⟩ = some (.int .u64 oC) ∧ wx.cell? ⟨n, 5, none⟩ = some (.int .u64 oR) ∧ wx.cell? ⟨n, 6, none⟩ = some (.slice oa ow.length oc)) := fun wx h => ⟨h.cell (j := 0) rfl, h.cell (j := 1) rfl, h.cell (j := 2) rfl, h.cell (j := 3) rfl, h.cell (j := 4) rfl, h.cell (j := 5) rfl, h.cell (j := 6) rfl⟩
            have k0 : X.cell? ⟨lb, 0, none⟩ = some (V 0) := HPS.out.ls.cell (j := 0) rfl
            have HBX0 := HBX
            replace HBX := keepG (HBX.out X HPX.out)
            go_wp2_with (rw [HXX.out, HN.out])
            refine wp_region_held_drew (S := fun w' => w'.cell? ⟨n, 0, none⟩ = some (.int .i64 0) ∧ w'.cell? ⟨n, 1, none⟩ = some (.int .i64 on) ∧ w'.cell? ⟨n, 2, none⟩ = some (.int .i64 oh) ∧ w'.cell? ⟨n, 3, none⟩ = some (.int .u64 os) ∧ w'.cell? ⟨n, 4, none⟩ = some (.int .u64 oC) ∧ w'.cell? ⟨n, 5, none⟩ = some (.int .u64 oR) ∧ w'.cell? ⟨n, 6, none⟩ = some (.slice oa ow.length oc)) (by kernel_rfl) HBX.out (fun hHeld => ?_)
            refine tkGo [0, 1, 2, 3, 4, 6, 7, 8, 9, 10, 11, 12, 13] ?_
            repeat (refine tkOne (v := ?_) rfl (by kernel_rfl) (by kernel_rfl) (by kernel_rfl) (fun _ _ _ h => h) (by assumption) (by rfl) ?_ ?_; rotate_left; (intro wy hSw; (try dsimp only at hSw); go_simp; (first | done | with_reducible rfl)); try simp only [Act.put, List.getElem_toArray, List.getElem_cons_zero, List.getElem_cons_succ, List.setIfInBounds_toArray, List.set_cons_zero, List.set_cons_succ])
            refine tkEnd ?_
            refine wpAnyH_ready (rs := [5]) (by kernel_rfl) (by simp) ?_
            refine AllReadyH.cons rfl (fun KK hK => ?_) AllReadyH.nil
            rw [if_pos (by rfl)]
            go_simp
            refine hK.out _ _ HBX.out (fun hHeld => ?_)
            clear hK KK
            try simp only [Act.put, List.getElem_toArray, List.getElem_cons_zero, List.getElem_cons_succ, List.setIfInBounds_toArray, List.set_cons_zero, List.set_cons_succ]
            refine wpAnyH_ready (rs := [14]) (by kernel_rfl) (by simp) ?_
            refine AllReadyH.cons rfl (fun KK hK => ?_) AllReadyH.nil
            rw [if_pos (by rfl)]
            go_simp
            go_at_call 8
            refine (dran HRW.out HBW.out HLN.out oh os oC oR HQD).mono ?_
            rintro e w6 ⟨v6, rfl, hr6, hc6, hn6⟩
            obtain ⟨va6, m6, vc6, ev6⟩ : ∃ a m c, v6 = .slice a m c := by obtain ⟨a, c, e⟩ := own_shape hr6; exact ⟨a, _, c, e⟩
            subst ev6
            have HM6 := keepG (HPD.out.mid (by decide) hr6 hc6 hn6)
            have HPN6 := keepG ((HPX.out.below HBD.out HPX.out.lt).chg hc6 (HNF.out 0 (by decide)).2.1)
            have HBX6 := keepG (HBX0.out w6 HPN6.out)
            have c6 : w6.cell? ⟨lb, 0, none⟩ = some (V 0) := HM6.out.ls.cell (j := 0) rfl
            have f6 : w6.frozen? ⟨lb, 0, none⟩ = false := HM6.out.ls.frozen 0
            go_simp
            refine hK.out _ _ HBX6.out (fun hHeld => ?_)
            clear hK KK hr6 hc6 hn6
            try simp only [Act.put, List.getElem_toArray, List.getElem_cons_zero, List.getElem_cons_succ, List.setIfInBounds_toArray, List.set_cons_zero, List.set_cons_succ]
            refine tkGo [15, 16, 17, 18] ?_
            repeat (refine tkOne (v := ?_) rfl (by kernel_rfl) (by kernel_rfl) (by kernel_rfl) (fun _ _ _ h => h) (by assumption) (by rfl) ?_ ?_; rotate_left; (intro wy hSw; (try dsimp only at hSw); go_simp; (first | done | with_reducible rfl)); try simp only [Act.put, List.getElem_toArray, List.getElem_cons_zero, List.getElem_cons_succ, List.setIfInBounds_toArray, List.set_cons_zero, List.set_cons_succ])
            refine tkEnd ?_
            obtain ⟨W7, HW7, HS7, HPN7⟩ : ∃ W7, Hid (w6.setCell ⟨lb, 0, none⟩ (.slice va6 m6 vc6) = W7) ∧ Hid (Ps w W7 sb lb p F (upN V 0 (.slice va6 m6 vc6)) L (upN L 0 (L 0 ++ toldO ⟨0, on, oh, os, oC, oR, .slice oa ow.length oc, ow⟩))) ∧ Hid (Hp W7 n 31 (owC ⟨0, on, oh, os, oC, oR, .slice oa ow.length oc, ow⟩)) := ⟨_, rfl, HM6.out.put (by decide), HPN6.out.far (HNF.out 0 (by decide)).2.2.2⟩
            refine wpAnyH_ready (rs := [19]) (by kernel_rfl) (by simp) ?_
            refine AllReadyH.cons rfl (fun KK hK => ?_) AllReadyH.nil
            rw [if_pos (by rfl)]
            go_simp
            rw [HW7.out]
            refine hK.out _ _ (HBX0.out W7 HPN7.out) (fun hHeld => ?_)
            clear hK KK
            try simp only [Act.put, List.getElem_toArray, List.getElem_cons_zero, List.getElem_cons_succ, List.setIfInBounds_toArray, List.set_cons_zero, List.set_cons_succ]
            refine tkGo [20] ?_
            repeat (refine tkOne (v := ?_) rfl (by kernel_rfl) (by kernel_rfl) (by kernel_rfl) (fun _ _ _ h => h) (by assumption) (by rfl) ?_ ?_; rotate_left; (intro wy hSw; (try dsimp only at hSw); go_simp; (first | done | with_reducible rfl)); try simp only [Act.put, List.getElem_toArray, List.getElem_cons_zero, List.getElem_cons_succ, List.setIfInBounds_toArray, List.set_cons_zero, List.set_cons_succ])
            refine tkEnd ?_
            refine wpAnyH_done (by kernel_rfl) ?_ _
            clear hHeld c6 f6 k0 q0 q1
            have HSD := keepG (HS7.out.below (below_drG (Below.refl W7.heap.size W7)))
            have HPN8 := keepG (HPN7.out.below (below_drG (Below.refl W7.heap.size W7)) HPN7.out.lt)
            have hz8 : ow.length * 8 ≤ 140737488351232 := by omega
            have s0 : W7.cell? ⟨sb, 0, none⟩ = some (.pointer (some ⟨p 0, 0, none⟩)) := HS7.out.ss.cell (j := 0) rfl
            have hS16 := And.intro s0 (HBX0.out W7 HPN7.out)
            have hEE : (E != E) = false := by simp
            go_wp2
            refine wp_region_held_drew (S := fun w' => w'.cell? ⟨sb, 0, none⟩ = some (.pointer (some ⟨p 0, 0, none⟩)) ∧ w'.cell? ⟨n, 0, none⟩ = some (.int .i64 0) ∧ w'.cell? ⟨n, 1, none⟩ = some (.int .i64 on) ∧ w'.cell? ⟨n, 2, none⟩ = some (.int .i64 oh) ∧ w'.cell? ⟨n, 3, none⟩ = some (.int .u64 os) ∧ w'.cell? ⟨n, 4, none⟩ = some (.int .u64 oC) ∧ w'.cell? ⟨n, 5, none⟩ = some (.int .u64 oR) ∧ w'.cell? ⟨n, 6, none⟩ = some (.slice oa ow.length oc)) (by kernel_rfl) hS16 (fun hHeld => ?_)
            refine tkGo [0, 1, 2, 3, 4, 6] ?_
            repeat (refine tkOne (v := ?_) rfl (by kernel_rfl) (by kernel_rfl) (by kernel_rfl) (fun _ _ _ h => h) (by assumption) (by rfl) ?_ ?_; rotate_left; (intro wy hSw; (try dsimp only at hSw); go_simp; (first | done | with_reducible rfl)); try simp only [Act.put, List.getElem_toArray, List.getElem_cons_zero, List.getElem_cons_succ, List.setIfInBounds_toArray, List.set_cons_zero, List.set_cons_succ])
            refine tkEnd ?_
            refine wpAnyH_ready (rs := [5]) (by kernel_rfl) (by simp) ?_
            refine AllReadyH.cons rfl (fun KK hK => ?_) AllReadyH.nil
            rw [if_pos (by rfl)]
            go_simp
            go_at_call 10
            refine (wtell (HSD.out.obj 0 (by decide)) ⟨0, on, oh, os, oC, oR, .slice oa ow.length oc, ow⟩ (fun wx hb => HSU.out wx hb) hz8 HQE).mono ?_
            rintro e w8 ⟨rfl, F8, hl8, hn8⟩
            have HS8 := keepG (HSD.out.tell (by decide) hl8 hn8)
            have HPN9 := keepG (HPN8.out.chg hn8.chg (HNF.out 0 (by decide)).1)
            have hS8 := And.intro (show w8.cell? ⟨sb, 0, none⟩ = some (.pointer (some ⟨p 0, 0, none⟩)) from HS8.out.ss.cell (j := 0) rfl) (HBX0.out w8 HPN9.out)
            go_simp
            refine hK.out _ _ hS8 (fun hHeld => ?_)
            clear hK KK hl8 hn8
            try simp only [Act.put, List.getElem_toArray, List.getElem_cons_zero, List.getElem_cons_succ, List.setIfInBounds_toArray, List.set_cons_zero, List.set_cons_succ]
            refine tkGo [7] ?_
            repeat (refine tkOne (v := ?_) rfl (by kernel_rfl) (by kernel_rfl) (by kernel_rfl) (fun _ _ _ h => h) (by assumption) (by rfl) ?_ ?_; rotate_left; (intro wy hSw; (try dsimp only at hSw); go_simp; (first | done | with_reducible rfl)); try simp only [Act.put, List.getElem_toArray, List.getElem_cons_zero, List.getElem_cons_succ, List.setIfInBounds_toArray, List.set_cons_zero, List.set_cons_succ])
            refine tkEnd ?_
            refine wpAnyH_done (by kernel_rfl) ?_ _
            clear hHeld s0 hS16 hS8
            go_wp2
            go_roundw
            case rel =>
              refine ⟨j + 1, by omega, by omega, by go_num, _, _, _, HS8.out, fun k' hk' => ?_⟩
              by_cases e : k' = 0
              · subst e
                rw [upN_same, List.length_append]
                exact len_step (HLE.out 0 (by decide)) HTL.out hzx
              · rw [upN_other _ _ e]
                exact Nat.le_trans (HLE.out k' hk') (Nat.mul_le_mul_right _ (Nat.le_succ j))
            case measure => simp [intOf]; omega
          · have hokb : (ok == 0) = false := by simpa using hok
            obtain ⟨E, HQE⟩ := tellL_told (L 0) ⟨ok, on, oh, os, oC, oR, .slice oa ow.length oc, ow⟩
            replace HQE := keepG HQE
            have HQ0 : Hid (tellL (L 0) ⟨ok, on, oh, os, oC, oR, .slice oa ow.length oc, ow⟩ = missedL (L 0) ow) := by show _ = _; unfold tellL; rw [if_neg hok]
            rw [HQE.out] at HQ0
            have HQD : Hid (missedL (L 0) ow = (E, L 0 ++ toldO ⟨ok, on, oh, os, oC, oR, .slice oa ow.length oc, ow⟩)) := HQ0.out.symm
            have HTL := keepG (toldO_len ⟨ok, on, oh, os, oC, oR, .slice oa ow.length oc, ow⟩)
            have HBD := keepG (below_drG (Below.refl X.heap.size X))
            have HPD := keepG (HPS.out.below HBD.out)
            have HRW := keepG (HPD.out.row 0 (by decide))
            have HBE := keepG HPD.out.be
            have HBW := keepG HPD.out.be.size
            have HLN : Hid (((L 0).length + ow.length) * 40 ≤ 140737488355328) := by
              have h5 := HLE.out 0 (by decide)
              show _ ≤ _
              omega
            have HBX : Hid (∀ wx : World, Hp wx n 31 (owC ⟨ok, on, oh, os, oC, oR, .slice oa ow.length oc, ow⟩) → wx.cell? ⟨n, 0, none⟩ = some (.int .i64 ok) ∧ wx.cell? ⟨n, 1, none⟩ = some (.int .i64 on) ∧ wx.cell? ⟨n, 2, none⟩ = some (.int .i64 oh) ∧ wx.cell? ⟨n, 3, none⟩ = some (.int .u64 os) ∧ wx.cell? ⟨n, 4, none⟩ = some (.int .u64 oC) ∧ wx.cell? ⟨n, 5, none⟩ = some (.int .u64 oR) ∧ wx.cell? ⟨n, 6, none⟩ = some (.slice oa ow.length oc)) := fun wx h => ⟨h.cell (j := 0) rfl, h.cell (j := 1) rfl, h.cell (j := 2) rfl, h.cell (j := 3) rfl, h.cell (j := 4) rfl, h.cell (j := 5) rfl, h.cell (j := 6) rfl⟩
            have k0 : X.cell? ⟨lb, 0, none⟩ = some (V 0) := HPS.out.ls.cell (j := 0) rfl
            have HBX0 := HBX
            replace HBX := keepG (HBX.out X HPX.out)
            go_wp2_with (rw [HXX.out, HN.out])
            refine wp_region_held_drew (S := fun w' => w'.cell? ⟨n, 0, none⟩ = some (.int .i64 ok) ∧ w'.cell? ⟨n, 1, none⟩ = some (.int .i64 on) ∧ w'.cell? ⟨n, 2, none⟩ = some (.int .i64 oh) ∧ w'.cell? ⟨n, 3, none⟩ = some (.int .u64 os) ∧ w'.cell? ⟨n, 4, none⟩ = some (.int .u64 oC) ∧ w'.cell? ⟨n, 5, none⟩ = some (.int .u64 oR) ∧ w'.cell? ⟨n, 6, none⟩ = some (.slice oa ow.length oc)) (by kernel_rfl) HBX.out (fun hHeld => ?_)
            refine tkGo [0, 1, 2, 3, 4, 6, 7] ?_
            repeat (refine tkOne (v := ?_) rfl (by kernel_rfl) (by kernel_rfl) (by kernel_rfl) (fun _ _ _ h => h) (by assumption) (by rfl) ?_ ?_; rotate_left; (intro wy hSw; (try dsimp only at hSw); go_simp; (first | done | with_reducible rfl)); try simp only [Act.put, List.getElem_toArray, List.getElem_cons_zero, List.getElem_cons_succ, List.setIfInBounds_toArray, List.set_cons_zero, List.set_cons_succ])
            refine tkEnd ?_
            refine wpAnyH_ready (rs := [5]) (by kernel_rfl) (by simp) ?_
            refine AllReadyH.cons rfl (fun KK hK => ?_) AllReadyH.nil
            rw [if_pos (by rfl)]
            go_simp
            refine hK.out _ _ HBX.out (fun hHeld => ?_)
            clear hK KK
            try simp only [Act.put, List.getElem_toArray, List.getElem_cons_zero, List.getElem_cons_succ, List.setIfInBounds_toArray, List.set_cons_zero, List.set_cons_succ]
            refine wpAnyH_ready (rs := [8]) (by kernel_rfl) (by simp) ?_
            refine AllReadyH.cons rfl (fun KK hK => ?_) AllReadyH.nil
            rw [if_pos (by rfl)]
            go_simp
            go_at_call 9
            refine (dmissed HRW.out HBW.out (HSU.out _ HBE.out) (fun hne k' hk' => HLU.out hne k' hk') HLN.out HQD).mono ?_
            rintro e w6 ⟨v6, rfl, hr6, hc6, hn6⟩
            obtain ⟨va6, m6, vc6, ev6⟩ : ∃ a m c, v6 = .slice a m c := by obtain ⟨a, c, e⟩ := own_shape hr6; exact ⟨a, _, c, e⟩
            subst ev6
            have HM6 := keepG (HPD.out.mid (by decide) hr6 hc6 hn6)
            have HPN6 := keepG ((HPX.out.below HBD.out HPX.out.lt).chg hc6 (HNF.out 0 (by decide)).2.1)
            have HBX6 := keepG (HBX0.out w6 HPN6.out)
            have c6 : w6.cell? ⟨lb, 0, none⟩ = some (V 0) := HM6.out.ls.cell (j := 0) rfl
            have f6 : w6.frozen? ⟨lb, 0, none⟩ = false := HM6.out.ls.frozen 0
            go_simp
            refine hK.out _ _ HBX6.out (fun hHeld => ?_)
            clear hK KK hr6 hc6 hn6
            try simp only [Act.put, List.getElem_toArray, List.getElem_cons_zero, List.getElem_cons_succ, List.setIfInBounds_toArray, List.set_cons_zero, List.set_cons_succ]
            refine tkGo [9, 10, 11, 12] ?_
            repeat (refine tkOne (v := ?_) rfl (by kernel_rfl) (by kernel_rfl) (by kernel_rfl) (fun _ _ _ h => h) (by assumption) (by rfl) ?_ ?_; rotate_left; (intro wy hSw; (try dsimp only at hSw); go_simp; (first | done | with_reducible rfl)); try simp only [Act.put, List.getElem_toArray, List.getElem_cons_zero, List.getElem_cons_succ, List.setIfInBounds_toArray, List.set_cons_zero, List.set_cons_succ])
            refine tkEnd ?_
            obtain ⟨W7, HW7, HS7, HPN7⟩ : ∃ W7, Hid (w6.setCell ⟨lb, 0, none⟩ (.slice va6 m6 vc6) = W7) ∧ Hid (Ps w W7 sb lb p F (upN V 0 (.slice va6 m6 vc6)) L (upN L 0 (L 0 ++ toldO ⟨ok, on, oh, os, oC, oR, .slice oa ow.length oc, ow⟩))) ∧ Hid (Hp W7 n 31 (owC ⟨ok, on, oh, os, oC, oR, .slice oa ow.length oc, ow⟩)) := ⟨_, rfl, HM6.out.put (by decide), HPN6.out.far (HNF.out 0 (by decide)).2.2.2⟩
            refine wpAnyH_ready (rs := [13]) (by kernel_rfl) (by simp) ?_
            refine AllReadyH.cons rfl (fun KK hK => ?_) AllReadyH.nil
            rw [if_pos (by rfl)]
            go_simp
            rw [HW7.out]
            refine hK.out _ _ (HBX0.out W7 HPN7.out) (fun hHeld => ?_)
            clear hK KK
            try simp only [Act.put, List.getElem_toArray, List.getElem_cons_zero, List.getElem_cons_succ, List.setIfInBounds_toArray, List.set_cons_zero, List.set_cons_succ]
            refine tkGo [14] ?_
            repeat (refine tkOne (v := ?_) rfl (by kernel_rfl) (by kernel_rfl) (by kernel_rfl) (fun _ _ _ h => h) (by assumption) (by rfl) ?_ ?_; rotate_left; (intro wy hSw; (try dsimp only at hSw); go_simp; (first | done | with_reducible rfl)); try simp only [Act.put, List.getElem_toArray, List.getElem_cons_zero, List.getElem_cons_succ, List.setIfInBounds_toArray, List.set_cons_zero, List.set_cons_succ])
            refine tkEnd ?_
            refine wpAnyH_done (by kernel_rfl) ?_ _
            clear hHeld c6 f6 k0 q0 q1
            have HSD := keepG (HS7.out.below (below_drG (Below.refl W7.heap.size W7)))
            have HPN8 := keepG (HPN7.out.below (below_drG (Below.refl W7.heap.size W7)) HPN7.out.lt)
            have hz8 : ow.length * 8 ≤ 140737488351232 := by omega
            have s0 : W7.cell? ⟨sb, 0, none⟩ = some (.pointer (some ⟨p 0, 0, none⟩)) := HS7.out.ss.cell (j := 0) rfl
            have hS16 := And.intro s0 (HBX0.out W7 HPN7.out)
            have hEE : (E != E) = false := by simp
            go_wp2
            refine wp_region_held_drew (S := fun w' => w'.cell? ⟨sb, 0, none⟩ = some (.pointer (some ⟨p 0, 0, none⟩)) ∧ w'.cell? ⟨n, 0, none⟩ = some (.int .i64 ok) ∧ w'.cell? ⟨n, 1, none⟩ = some (.int .i64 on) ∧ w'.cell? ⟨n, 2, none⟩ = some (.int .i64 oh) ∧ w'.cell? ⟨n, 3, none⟩ = some (.int .u64 os) ∧ w'.cell? ⟨n, 4, none⟩ = some (.int .u64 oC) ∧ w'.cell? ⟨n, 5, none⟩ = some (.int .u64 oR) ∧ w'.cell? ⟨n, 6, none⟩ = some (.slice oa ow.length oc)) (by kernel_rfl) hS16 (fun hHeld => ?_)
            refine tkGo [0, 1, 2, 3, 4, 6] ?_
            repeat (refine tkOne (v := ?_) rfl (by kernel_rfl) (by kernel_rfl) (by kernel_rfl) (fun _ _ _ h => h) (by assumption) (by rfl) ?_ ?_; rotate_left; (intro wy hSw; (try dsimp only at hSw); go_simp; (first | done | with_reducible rfl)); try simp only [Act.put, List.getElem_toArray, List.getElem_cons_zero, List.getElem_cons_succ, List.setIfInBounds_toArray, List.set_cons_zero, List.set_cons_succ])
            refine tkEnd ?_
            refine wpAnyH_ready (rs := [5]) (by kernel_rfl) (by simp) ?_
            refine AllReadyH.cons rfl (fun KK hK => ?_) AllReadyH.nil
            rw [if_pos (by rfl)]
            go_simp
            go_at_call 10
            refine (wtell (HSD.out.obj 0 (by decide)) ⟨ok, on, oh, os, oC, oR, .slice oa ow.length oc, ow⟩ (fun wx hb => HSU.out wx hb) hz8 HQE).mono ?_
            rintro e w8 ⟨rfl, F8, hl8, hn8⟩
            have HS8 := keepG (HSD.out.tell (by decide) hl8 hn8)
            have HPN9 := keepG (HPN8.out.chg hn8.chg (HNF.out 0 (by decide)).1)
            have hS8 := And.intro (show w8.cell? ⟨sb, 0, none⟩ = some (.pointer (some ⟨p 0, 0, none⟩)) from HS8.out.ss.cell (j := 0) rfl) (HBX0.out w8 HPN9.out)
            go_simp
            refine hK.out _ _ hS8 (fun hHeld => ?_)
            clear hK KK hl8 hn8
            try simp only [Act.put, List.getElem_toArray, List.getElem_cons_zero, List.getElem_cons_succ, List.setIfInBounds_toArray, List.set_cons_zero, List.set_cons_succ]
            refine tkGo [7] ?_
            repeat (refine tkOne (v := ?_) rfl (by kernel_rfl) (by kernel_rfl) (by kernel_rfl) (fun _ _ _ h => h) (by assumption) (by rfl) ?_ ?_; rotate_left; (intro wy hSw; (try dsimp only at hSw); go_simp; (first | done | with_reducible rfl)); try simp only [Act.put, List.getElem_toArray, List.getElem_cons_zero, List.getElem_cons_succ, List.setIfInBounds_toArray, List.set_cons_zero, List.set_cons_succ])
            refine tkEnd ?_
            refine wpAnyH_done (by kernel_rfl) ?_ _
            clear hHeld s0 hS16 hS8
            go_wp2
            go_roundw
            case rel =>
              refine ⟨j + 1, by omega, by omega, by go_num, _, _, _, HS8.out, fun k' hk' => ?_⟩
              by_cases e : k' = 0
              · subst e
                rw [upN_same, List.length_append]
                exact len_step (HLE.out 0 (by decide)) HTL.out hzx
              · rw [upN_other _ _ e]
                exact Nat.le_trans (HLE.out k' hk') (Nat.mul_le_mul_right _ (Nat.le_succ j))
            case measure => simp [intOf]; omega
        · have honb : (on.tmod 2 != 0) = true := by simpa using hon
          by_cases hok : ok = 0
          · subst hok
            obtain ⟨E, HQE⟩ := tellL_told (L 1) ⟨0, on, oh, os, oC, oR, .slice oa ow.length oc, ow⟩
            replace HQE := keepG HQE
            have HQ0 : Hid (tellL (L 1) ⟨0, on, oh, os, oC, oR, .slice oa ow.length oc, ow⟩ = ranL (L 1) oh os oC oR) := by show _ = _; unfold tellL; rw [if_pos rfl]
            rw [HQE.out] at HQ0
            have HQD : Hid (ranL (L 1) oh os oC oR = (E, L 1 ++ toldO ⟨0, on, oh, os, oC, oR, .slice oa ow.length oc, ow⟩)) := HQ0.out.symm
            have HTL := keepG (toldO_len ⟨0, on, oh, os, oC, oR, .slice oa ow.length oc, ow⟩)
            have HBD := keepG (below_drG (Below.refl X.heap.size X))
            have HPD := keepG (HPS.out.below HBD.out)
            have HRW := keepG (HPD.out.row 1 (by decide))
            have HBE := keepG HPD.out.be
            have HBW := keepG HPD.out.be.size
            have HLN : Hid (((L 1).length + 1) * 40 ≤ 140737488355328) := by
              have h5 := HLE.out 1 (by decide)
              show _ ≤ _
              omega
            have HBX : Hid (∀ wx : World, Hp wx n 31 (owC ⟨0, on, oh, os, oC, oR, .slice oa ow.length oc, ow⟩) → wx.cell? ⟨n, 0, none⟩ = some (.int .i64 0) ∧ wx.cell? ⟨n, 1, none⟩ = some (.int .i64 on) ∧ wx.cell? ⟨n, 2, none⟩ = some (.int .i64 oh) ∧ wx.cell? ⟨n, 3, none⟩ = some (.int .u64 os) ∧ wx.cell? ⟨n, 4, none⟩ = some (.int .u64 oC) ∧ wx.cell? ⟨n, 5, none⟩ = some (.int .u64 oR) ∧ wx.cell? ⟨n, 6, none⟩ = some (.slice oa ow.length oc)) := fun wx h => ⟨h.cell (j := 0) rfl, h.cell (j := 1) rfl, h.cell (j := 2) rfl, h.cell (j := 3) rfl, h.cell (j := 4) rfl, h.cell (j := 5) rfl, h.cell (j := 6) rfl⟩
            have k0 : X.cell? ⟨lb, 1, none⟩ = some (V 1) := HPS.out.ls.cell (j := 1) rfl
            have HBX0 := HBX
            replace HBX := keepG (HBX.out X HPX.out)
            go_wp2_with (rw [HXX.out, HN.out])
            refine wp_region_held_drew (S := fun w' => w'.cell? ⟨n, 0, none⟩ = some (.int .i64 0) ∧ w'.cell? ⟨n, 1, none⟩ = some (.int .i64 on) ∧ w'.cell? ⟨n, 2, none⟩ = some (.int .i64 oh) ∧ w'.cell? ⟨n, 3, none⟩ = some (.int .u64 os) ∧ w'.cell? ⟨n, 4, none⟩ = some (.int .u64 oC) ∧ w'.cell? ⟨n, 5, none⟩ = some (.int .u64 oR) ∧ w'.cell? ⟨n, 6, none⟩ = some (.slice oa ow.length oc)) (by kernel_rfl) HBX.out (fun hHeld => ?_)
            refine tkGo [0, 1, 2, 3, 4, 6, 7, 8, 9, 10, 11, 12, 13] ?_
            repeat (refine tkOne (v := ?_) rfl (by kernel_rfl) (by kernel_rfl) (by kernel_rfl) (fun _ _ _ h => h) (by assumption) (by rfl) ?_ ?_; rotate_left; (intro wy hSw; (try dsimp only at hSw); go_simp; (first | done | with_reducible rfl)); try simp only [Act.put, List.getElem_toArray, List.getElem_cons_zero, List.getElem_cons_succ, List.setIfInBounds_toArray, List.set_cons_zero, List.set_cons_succ])
            refine tkEnd ?_
            refine wpAnyH_ready (rs := [5]) (by kernel_rfl) (by simp) ?_
            refine AllReadyH.cons rfl (fun KK hK => ?_) AllReadyH.nil
            rw [if_pos (by rfl)]
            go_simp
            refine hK.out _ _ HBX.out (fun hHeld => ?_)
            clear hK KK
            try simp only [Act.put, List.getElem_toArray, List.getElem_cons_zero, List.getElem_cons_succ, List.setIfInBounds_toArray, List.set_cons_zero, List.set_cons_succ]
            refine wpAnyH_ready (rs := [14]) (by kernel_rfl) (by simp) ?_
            refine AllReadyH.cons rfl (fun KK hK => ?_) AllReadyH.nil
            rw [if_pos (by rfl)]
            go_simp
            go_at_call 8
            refine (dran HRW.out HBW.out HLN.out oh os oC oR HQD).mono ?_
            rintro e w6 ⟨v6, rfl, hr6, hc6, hn6⟩
            obtain ⟨va6, m6, vc6, ev6⟩ : ∃ a m c, v6 = .slice a m c := by obtain ⟨a, c, e⟩ := own_shape hr6; exact ⟨a, _, c, e⟩
            subst ev6
            have HM6 := keepG (HPD.out.mid (by decide) hr6 hc6 hn6)
            have HPN6 := keepG ((HPX.out.below HBD.out HPX.out.lt).chg hc6 (HNF.out 1 (by decide)).2.1)
            have HBX6 := keepG (HBX0.out w6 HPN6.out)
            have c6 : w6.cell? ⟨lb, 1, none⟩ = some (V 1) := HM6.out.ls.cell (j := 1) rfl
            have f6 : w6.frozen? ⟨lb, 1, none⟩ = false := HM6.out.ls.frozen 1
            go_simp
            refine hK.out _ _ HBX6.out (fun hHeld => ?_)
            clear hK KK hr6 hc6 hn6
            try simp only [Act.put, List.getElem_toArray, List.getElem_cons_zero, List.getElem_cons_succ, List.setIfInBounds_toArray, List.set_cons_zero, List.set_cons_succ]
            refine tkGo [15, 16, 17, 18] ?_
            repeat (refine tkOne (v := ?_) rfl (by kernel_rfl) (by kernel_rfl) (by kernel_rfl) (fun _ _ _ h => h) (by assumption) (by rfl) ?_ ?_; rotate_left; (intro wy hSw; (try dsimp only at hSw); go_simp; (first | done | with_reducible rfl)); try simp only [Act.put, List.getElem_toArray, List.getElem_cons_zero, List.getElem_cons_succ, List.setIfInBounds_toArray, List.set_cons_zero, List.set_cons_succ])
            refine tkEnd ?_
            obtain ⟨W7, HW7, HS7, HPN7⟩ : ∃ W7, Hid (w6.setCell ⟨lb, 1, none⟩ (.slice va6 m6 vc6) = W7) ∧ Hid (Ps w W7 sb lb p F (upN V 1 (.slice va6 m6 vc6)) L (upN L 1 (L 1 ++ toldO ⟨0, on, oh, os, oC, oR, .slice oa ow.length oc, ow⟩))) ∧ Hid (Hp W7 n 31 (owC ⟨0, on, oh, os, oC, oR, .slice oa ow.length oc, ow⟩)) := ⟨_, rfl, HM6.out.put (by decide), HPN6.out.far (HNF.out 1 (by decide)).2.2.2⟩
            refine wpAnyH_ready (rs := [19]) (by kernel_rfl) (by simp) ?_
            refine AllReadyH.cons rfl (fun KK hK => ?_) AllReadyH.nil
            rw [if_pos (by rfl)]
            go_simp
            rw [HW7.out]
            refine hK.out _ _ (HBX0.out W7 HPN7.out) (fun hHeld => ?_)
            clear hK KK
            try simp only [Act.put, List.getElem_toArray, List.getElem_cons_zero, List.getElem_cons_succ, List.setIfInBounds_toArray, List.set_cons_zero, List.set_cons_succ]
            refine tkGo [20] ?_
            repeat (refine tkOne (v := ?_) rfl (by kernel_rfl) (by kernel_rfl) (by kernel_rfl) (fun _ _ _ h => h) (by assumption) (by rfl) ?_ ?_; rotate_left; (intro wy hSw; (try dsimp only at hSw); go_simp; (first | done | with_reducible rfl)); try simp only [Act.put, List.getElem_toArray, List.getElem_cons_zero, List.getElem_cons_succ, List.setIfInBounds_toArray, List.set_cons_zero, List.set_cons_succ])
            refine tkEnd ?_
            refine wpAnyH_done (by kernel_rfl) ?_ _
            clear hHeld c6 f6 k0 q0 q1
            have HSD := keepG (HS7.out.below (below_drG (Below.refl W7.heap.size W7)))
            have HPN8 := keepG (HPN7.out.below (below_drG (Below.refl W7.heap.size W7)) HPN7.out.lt)
            have hz8 : ow.length * 8 ≤ 140737488351232 := by omega
            have s0 : W7.cell? ⟨sb, 1, none⟩ = some (.pointer (some ⟨p 1, 0, none⟩)) := HS7.out.ss.cell (j := 1) rfl
            have hS16 := And.intro s0 (HBX0.out W7 HPN7.out)
            have hEE : (E != E) = false := by simp
            go_wp2
            refine wp_region_held_drew (S := fun w' => w'.cell? ⟨sb, 1, none⟩ = some (.pointer (some ⟨p 1, 0, none⟩)) ∧ w'.cell? ⟨n, 0, none⟩ = some (.int .i64 0) ∧ w'.cell? ⟨n, 1, none⟩ = some (.int .i64 on) ∧ w'.cell? ⟨n, 2, none⟩ = some (.int .i64 oh) ∧ w'.cell? ⟨n, 3, none⟩ = some (.int .u64 os) ∧ w'.cell? ⟨n, 4, none⟩ = some (.int .u64 oC) ∧ w'.cell? ⟨n, 5, none⟩ = some (.int .u64 oR) ∧ w'.cell? ⟨n, 6, none⟩ = some (.slice oa ow.length oc)) (by kernel_rfl) hS16 (fun hHeld => ?_)
            refine tkGo [0, 1, 2, 3, 4, 6] ?_
            repeat (refine tkOne (v := ?_) rfl (by kernel_rfl) (by kernel_rfl) (by kernel_rfl) (fun _ _ _ h => h) (by assumption) (by rfl) ?_ ?_; rotate_left; (intro wy hSw; (try dsimp only at hSw); go_simp; (first | done | with_reducible rfl)); try simp only [Act.put, List.getElem_toArray, List.getElem_cons_zero, List.getElem_cons_succ, List.setIfInBounds_toArray, List.set_cons_zero, List.set_cons_succ])
            refine tkEnd ?_
            refine wpAnyH_ready (rs := [5]) (by kernel_rfl) (by simp) ?_
            refine AllReadyH.cons rfl (fun KK hK => ?_) AllReadyH.nil
            rw [if_pos (by rfl)]
            go_simp
            go_at_call 10
            refine (wtell (HSD.out.obj 1 (by decide)) ⟨0, on, oh, os, oC, oR, .slice oa ow.length oc, ow⟩ (fun wx hb => HSU.out wx hb) hz8 HQE).mono ?_
            rintro e w8 ⟨rfl, F8, hl8, hn8⟩
            have HS8 := keepG (HSD.out.tell (by decide) hl8 hn8)
            have HPN9 := keepG (HPN8.out.chg hn8.chg (HNF.out 1 (by decide)).1)
            have hS8 := And.intro (show w8.cell? ⟨sb, 1, none⟩ = some (.pointer (some ⟨p 1, 0, none⟩)) from HS8.out.ss.cell (j := 1) rfl) (HBX0.out w8 HPN9.out)
            go_simp
            refine hK.out _ _ hS8 (fun hHeld => ?_)
            clear hK KK hl8 hn8
            try simp only [Act.put, List.getElem_toArray, List.getElem_cons_zero, List.getElem_cons_succ, List.setIfInBounds_toArray, List.set_cons_zero, List.set_cons_succ]
            refine tkGo [7] ?_
            repeat (refine tkOne (v := ?_) rfl (by kernel_rfl) (by kernel_rfl) (by kernel_rfl) (fun _ _ _ h => h) (by assumption) (by rfl) ?_ ?_; rotate_left; (intro wy hSw; (try dsimp only at hSw); go_simp; (first | done | with_reducible rfl)); try simp only [Act.put, List.getElem_toArray, List.getElem_cons_zero, List.getElem_cons_succ, List.setIfInBounds_toArray, List.set_cons_zero, List.set_cons_succ])
            refine tkEnd ?_
            refine wpAnyH_done (by kernel_rfl) ?_ _
            clear hHeld s0 hS16 hS8
            go_wp2
            go_roundw
            case rel =>
              refine ⟨j + 1, by omega, by omega, by go_num, _, _, _, HS8.out, fun k' hk' => ?_⟩
              by_cases e : k' = 1
              · subst e
                rw [upN_same, List.length_append]
                exact len_step (HLE.out 1 (by decide)) HTL.out hzx
              · rw [upN_other _ _ e]
                exact Nat.le_trans (HLE.out k' hk') (Nat.mul_le_mul_right _ (Nat.le_succ j))
            case measure => simp [intOf]; omega
          · have hokb : (ok == 0) = false := by simpa using hok
            obtain ⟨E, HQE⟩ := tellL_told (L 1) ⟨ok, on, oh, os, oC, oR, .slice oa ow.length oc, ow⟩
            replace HQE := keepG HQE
            have HQ0 : Hid (tellL (L 1) ⟨ok, on, oh, os, oC, oR, .slice oa ow.length oc, ow⟩ = missedL (L 1) ow) := by show _ = _; unfold tellL; rw [if_neg hok]
            rw [HQE.out] at HQ0
            have HQD : Hid (missedL (L 1) ow = (E, L 1 ++ toldO ⟨ok, on, oh, os, oC, oR, .slice oa ow.length oc, ow⟩)) := HQ0.out.symm
            have HTL := keepG (toldO_len ⟨ok, on, oh, os, oC, oR, .slice oa ow.length oc, ow⟩)
            have HBD := keepG (below_drG (Below.refl X.heap.size X))
            have HPD := keepG (HPS.out.below HBD.out)
            have HRW := keepG (HPD.out.row 1 (by decide))
            have HBE := keepG HPD.out.be
            have HBW := keepG HPD.out.be.size
            have HLN : Hid (((L 1).length + ow.length) * 40 ≤ 140737488355328) := by
              have h5 := HLE.out 1 (by decide)
              show _ ≤ _
              omega
            have HBX : Hid (∀ wx : World, Hp wx n 31 (owC ⟨ok, on, oh, os, oC, oR, .slice oa ow.length oc, ow⟩) → wx.cell? ⟨n, 0, none⟩ = some (.int .i64 ok) ∧ wx.cell? ⟨n, 1, none⟩ = some (.int .i64 on) ∧ wx.cell? ⟨n, 2, none⟩ = some (.int .i64 oh) ∧ wx.cell? ⟨n, 3, none⟩ = some (.int .u64 os) ∧ wx.cell? ⟨n, 4, none⟩ = some (.int .u64 oC) ∧ wx.cell? ⟨n, 5, none⟩ = some (.int .u64 oR) ∧ wx.cell? ⟨n, 6, none⟩ = some (.slice oa ow.length oc)) := fun wx h => ⟨h.cell (j := 0) rfl, h.cell (j := 1) rfl, h.cell (j := 2) rfl, h.cell (j := 3) rfl, h.cell (j := 4) rfl, h.cell (j := 5) rfl, h.cell (j := 6) rfl⟩
            have k0 : X.cell? ⟨lb, 1, none⟩ = some (V 1) := HPS.out.ls.cell (j := 1) rfl
            have HBX0 := HBX
            replace HBX := keepG (HBX.out X HPX.out)
            go_wp2_with (rw [HXX.out, HN.out])
            refine wp_region_held_drew (S := fun w' => w'.cell? ⟨n, 0, none⟩ = some (.int .i64 ok) ∧ w'.cell? ⟨n, 1, none⟩ = some (.int .i64 on) ∧ w'.cell? ⟨n, 2, none⟩ = some (.int .i64 oh) ∧ w'.cell? ⟨n, 3, none⟩ = some (.int .u64 os) ∧ w'.cell? ⟨n, 4, none⟩ = some (.int .u64 oC) ∧ w'.cell? ⟨n, 5, none⟩ = some (.int .u64 oR) ∧ w'.cell? ⟨n, 6, none⟩ = some (.slice oa ow.length oc)) (by kernel_rfl) HBX.out (fun hHeld => ?_)
            refine tkGo [0, 1, 2, 3, 4, 6, 7] ?_
            repeat (refine tkOne (v := ?_) rfl (by kernel_rfl) (by kernel_rfl) (by kernel_rfl) (fun _ _ _ h => h) (by assumption) (by rfl) ?_ ?_; rotate_left; (intro wy hSw; (try dsimp only at hSw); go_simp; (first | done | with_reducible rfl)); try simp only [Act.put, List.getElem_toArray, List.getElem_cons_zero, List.getElem_cons_succ, List.setIfInBounds_toArray, List.set_cons_zero, List.set_cons_succ])
            refine tkEnd ?_
            refine wpAnyH_ready (rs := [5]) (by kernel_rfl) (by simp) ?_
            refine AllReadyH.cons rfl (fun KK hK => ?_) AllReadyH.nil
            rw [if_pos (by rfl)]
            go_simp
            refine hK.out _ _ HBX.out (fun hHeld => ?_)
            clear hK KK
            try simp only [Act.put, List.getElem_toArray, List.getElem_cons_zero, List.getElem_cons_succ, List.setIfInBounds_toArray, List.set_cons_zero, List.set_cons_succ]
            refine wpAnyH_ready (rs := [8]) (by kernel_rfl) (by simp) ?_
            refine AllReadyH.cons rfl (fun KK hK => ?_) AllReadyH.nil
            rw [if_pos (by rfl)]
            go_simp
            go_at_call 9
            refine (dmissed HRW.out HBW.out (HSU.out _ HBE.out) (fun hne k' hk' => HLU.out hne k' hk') HLN.out HQD).mono ?_
            rintro e w6 ⟨v6, rfl, hr6, hc6, hn6⟩
            obtain ⟨va6, m6, vc6, ev6⟩ : ∃ a m c, v6 = .slice a m c := by obtain ⟨a, c, e⟩ := own_shape hr6; exact ⟨a, _, c, e⟩
            subst ev6
            have HM6 := keepG (HPD.out.mid (by decide) hr6 hc6 hn6)
            have HPN6 := keepG ((HPX.out.below HBD.out HPX.out.lt).chg hc6 (HNF.out 1 (by decide)).2.1)
            have HBX6 := keepG (HBX0.out w6 HPN6.out)
            have c6 : w6.cell? ⟨lb, 1, none⟩ = some (V 1) := HM6.out.ls.cell (j := 1) rfl
            have f6 : w6.frozen? ⟨lb, 1, none⟩ = false := HM6.out.ls.frozen 1
            go_simp
            refine hK.out _ _ HBX6.out (fun hHeld => ?_)
            clear hK KK hr6 hc6 hn6
            try simp only [Act.put, List.getElem_toArray, List.getElem_cons_zero, List.getElem_cons_succ, List.setIfInBounds_toArray, List.set_cons_zero, List.set_cons_succ]
            refine tkGo [9, 10, 11, 12] ?_
            repeat (refine tkOne (v := ?_) rfl (by kernel_rfl) (by kernel_rfl) (by kernel_rfl) (fun _ _ _ h => h) (by assumption) (by rfl) ?_ ?_; rotate_left; (intro wy hSw; (try dsimp only at hSw); go_simp; (first | done | with_reducible rfl)); try simp only [Act.put, List.getElem_toArray, List.getElem_cons_zero, List.getElem_cons_succ, List.setIfInBounds_toArray, List.set_cons_zero, List.set_cons_succ])
            refine tkEnd ?_
            obtain ⟨W7, HW7, HS7, HPN7⟩ : ∃ W7, Hid (w6.setCell ⟨lb, 1, none⟩ (.slice va6 m6 vc6) = W7) ∧ Hid (Ps w W7 sb lb p F (upN V 1 (.slice va6 m6 vc6)) L (upN L 1 (L 1 ++ toldO ⟨ok, on, oh, os, oC, oR, .slice oa ow.length oc, ow⟩))) ∧ Hid (Hp W7 n 31 (owC ⟨ok, on, oh, os, oC, oR, .slice oa ow.length oc, ow⟩)) := ⟨_, rfl, HM6.out.put (by decide), HPN6.out.far (HNF.out 1 (by decide)).2.2.2⟩
            refine wpAnyH_ready (rs := [13]) (by kernel_rfl) (by simp) ?_
            refine AllReadyH.cons rfl (fun KK hK => ?_) AllReadyH.nil
            rw [if_pos (by rfl)]
            go_simp
            rw [HW7.out]
            refine hK.out _ _ (HBX0.out W7 HPN7.out) (fun hHeld => ?_)
            clear hK KK
            try simp only [Act.put, List.getElem_toArray, List.getElem_cons_zero, List.getElem_cons_succ, List.setIfInBounds_toArray, List.set_cons_zero, List.set_cons_succ]
            refine tkGo [14] ?_
            repeat (refine tkOne (v := ?_) rfl (by kernel_rfl) (by kernel_rfl) (by kernel_rfl) (fun _ _ _ h => h) (by assumption) (by rfl) ?_ ?_; rotate_left; (intro wy hSw; (try dsimp only at hSw); go_simp; (first | done | with_reducible rfl)); try simp only [Act.put, List.getElem_toArray, List.getElem_cons_zero, List.getElem_cons_succ, List.setIfInBounds_toArray, List.set_cons_zero, List.set_cons_succ])
            refine tkEnd ?_
            refine wpAnyH_done (by kernel_rfl) ?_ _
            clear hHeld c6 f6 k0 q0 q1
            have HSD := keepG (HS7.out.below (below_drG (Below.refl W7.heap.size W7)))
            have HPN8 := keepG (HPN7.out.below (below_drG (Below.refl W7.heap.size W7)) HPN7.out.lt)
            have hz8 : ow.length * 8 ≤ 140737488351232 := by omega
            have s0 : W7.cell? ⟨sb, 1, none⟩ = some (.pointer (some ⟨p 1, 0, none⟩)) := HS7.out.ss.cell (j := 1) rfl
            have hS16 := And.intro s0 (HBX0.out W7 HPN7.out)
            have hEE : (E != E) = false := by simp
            go_wp2
            refine wp_region_held_drew (S := fun w' => w'.cell? ⟨sb, 1, none⟩ = some (.pointer (some ⟨p 1, 0, none⟩)) ∧ w'.cell? ⟨n, 0, none⟩ = some (.int .i64 ok) ∧ w'.cell? ⟨n, 1, none⟩ = some (.int .i64 on) ∧ w'.cell? ⟨n, 2, none⟩ = some (.int .i64 oh) ∧ w'.cell? ⟨n, 3, none⟩ = some (.int .u64 os) ∧ w'.cell? ⟨n, 4, none⟩ = some (.int .u64 oC) ∧ w'.cell? ⟨n, 5, none⟩ = some (.int .u64 oR) ∧ w'.cell? ⟨n, 6, none⟩ = some (.slice oa ow.length oc)) (by kernel_rfl) hS16 (fun hHeld => ?_)
            refine tkGo [0, 1, 2, 3, 4, 6] ?_
            repeat (refine tkOne (v := ?_) rfl (by kernel_rfl) (by kernel_rfl) (by kernel_rfl) (fun _ _ _ h => h) (by assumption) (by rfl) ?_ ?_; rotate_left; (intro wy hSw; (try dsimp only at hSw); go_simp; (first | done | with_reducible rfl)); try simp only [Act.put, List.getElem_toArray, List.getElem_cons_zero, List.getElem_cons_succ, List.setIfInBounds_toArray, List.set_cons_zero, List.set_cons_succ])
            refine tkEnd ?_
            refine wpAnyH_ready (rs := [5]) (by kernel_rfl) (by simp) ?_
            refine AllReadyH.cons rfl (fun KK hK => ?_) AllReadyH.nil
            rw [if_pos (by rfl)]
            go_simp
            go_at_call 10
            refine (wtell (HSD.out.obj 1 (by decide)) ⟨ok, on, oh, os, oC, oR, .slice oa ow.length oc, ow⟩ (fun wx hb => HSU.out wx hb) hz8 HQE).mono ?_
            rintro e w8 ⟨rfl, F8, hl8, hn8⟩
            have HS8 := keepG (HSD.out.tell (by decide) hl8 hn8)
            have HPN9 := keepG (HPN8.out.chg hn8.chg (HNF.out 1 (by decide)).1)
            have hS8 := And.intro (show w8.cell? ⟨sb, 1, none⟩ = some (.pointer (some ⟨p 1, 0, none⟩)) from HS8.out.ss.cell (j := 1) rfl) (HBX0.out w8 HPN9.out)
            go_simp
            refine hK.out _ _ hS8 (fun hHeld => ?_)
            clear hK KK hl8 hn8
            try simp only [Act.put, List.getElem_toArray, List.getElem_cons_zero, List.getElem_cons_succ, List.setIfInBounds_toArray, List.set_cons_zero, List.set_cons_succ]
            refine tkGo [7] ?_
            repeat (refine tkOne (v := ?_) rfl (by kernel_rfl) (by kernel_rfl) (by kernel_rfl) (fun _ _ _ h => h) (by assumption) (by rfl) ?_ ?_; rotate_left; (intro wy hSw; (try dsimp only at hSw); go_simp; (first | done | with_reducible rfl)); try simp only [Act.put, List.getElem_toArray, List.getElem_cons_zero, List.getElem_cons_succ, List.setIfInBounds_toArray, List.set_cons_zero, List.set_cons_succ])
            refine tkEnd ?_
            refine wpAnyH_done (by kernel_rfl) ?_ _
            clear hHeld s0 hS16 hS8
            go_wp2
            go_roundw
            case rel =>
              refine ⟨j + 1, by omega, by omega, by go_num, _, _, _, HS8.out, fun k' hk' => ?_⟩
              by_cases e : k' = 1
              · subst e
                rw [upN_same, List.length_append]
                exact len_step (HLE.out 1 (by decide)) HTL.out hzx
              · rw [upN_other _ _ e]
                exact Nat.le_trans (HLE.out k' hk') (Nat.mul_le_mul_right _ (Nat.le_succ j))
            case measure => simp [intOf]; omega
      · have hj3I : ¬ (j : Int) < 400 := by omega
        have HP := keepG HM.out.1
        have hl0 : (L 0).length ≤ 419430800 := by have := HM.out.2 0 (by decide); omega
        have hl1 : (L 1).length ≤ 419430800 := by have := HM.out.2 1 (by decide); omega
        have z0 : wr.cell? ⟨lb, 0, none⟩ = some (V 0) := HP.out.ls.cell (j := 0) rfl
        have z1 : wr.cell? ⟨lb, 1, none⟩ = some (V 1) := HP.out.ls.cell (j := 1) rfl
        obtain ⟨a0, c0, ev0⟩ := own_shape (HP.out.row 0 (by decide))
        obtain ⟨a1, c1, ev1⟩ := own_shape (HP.out.row 1 (by decide))
        have HV0 := keepG ev0
        have HV1 := keepG ev1
        rw [ev0] at z0
        rw [ev1] at z1
        obtain ⟨x1, y1, w1, r1, o1, b1⟩ := told_more (B := wr.heap.size) (v := .slice none 0 0) (l := []) (World.ownsRow_nil _ _ _ _) (HP.out.row 0 (by decide)).sees (Nat.le_refl _) (by simp; omega)
        rw [List.nil_append] at r1 o1
        have p1 := HP.out.below b1
        obtain ⟨x2, y2, w2, r2, o2, b2⟩ := told_more o1 (p1.row 1 (by decide)).sees b1.size (by omega)
        have p2 := HP.out.below (b1.trans b2)
        have z10 : w1.cell? ⟨lb, 1, none⟩ = some (V 1) := p1.ls.cell (j := 1) rfl
        have z20 : w2.cell? ⟨lb, 0, none⟩ = some (V 0) := p2.ls.cell (j := 0) rfl
        obtain ⟨x3, y3, w3, r3, o3, b3⟩ := told_more o2 (p2.row 0 (by decide)).sees (b1.trans b2).size (by simp only [List.length_append]; omega)
        rw [ev1] at z10
        rw [ev0] at z20
        rw [ev0] at r1 r3
        rw [ev1] at r2
        have HP3 := keepG (HP.out.below ((b1.trans b2).trans b3))
        obtain ⟨Al, HAL⟩ : ∃ Al, Hid (L 0 ++ L 1 ++ L 0 = Al) := ⟨_, rfl⟩
        rw [HAL.out] at r3 o3
        have HO3 := keepG (own_seesG toC_len To.nil o3)
        have HR1 := keepG r1
        have HR2 := keepG r2
        have HR3 := keepG r3
        have hb3 := ((b1.trans b2).trans b3)
        have hAL : Al.length ≤ 9223372036854775807 := by rw [← HAL.out]; simp only [List.length_append]; omega
        clear r1 r2 r3 o1 o2 o3 b1 b2 b3 p1 p2 ev0 ev1 hb3 HM HSZI
        obtain ⟨n01, HL01⟩ : ∃ n01, Hid ((L 0 ++ L 1).length = n01) := ⟨_, rfl⟩
        rw [HL01.out] at HR2 HR3
        go_wp2_with (first
          | (have hq := HR1; clear hq; at_builtin; go_must (refine wpList_appG _ rfl (.tmp 86) (.tmp 89) 32 32 rfl _ _ rfl rfl HR1.out ?_); clear HR1)
          | (have hq := HR2; clear hq; at_builtin; go_must (refine wpList_appG _ rfl (.tmp 91) (.tmp 94) 32 32 rfl _ _ rfl rfl HR2.out ?_); clear HR2)
          | (have hq := HR3; clear hq; at_builtin; go_must (refine wpList_appG _ rfl (.tmp 96) (.tmp 99) 32 32 rfl _ _ rfl rfl HR3.out ?_); clear HR3))
        clear z0 z1 z10 z20
        go_loopw [10, 11] (fun v i wq => ∃ (j : Nat) (z : Int), j ≤ 7 ∧ i = .int .i64 z ∧ Hid (z = (j : Int) - 1) ∧ Hid (RoTa wq w3.heap.size v ((four Al).take (j - 1))) ∧ Hid (Below w3.heap.size w3 wq)) (fun _ i _ => (6 - intOf i).toNat)
        case atStart => exact ⟨0, -1, by omega, rfl, rfl, World.ownsRow_nil _ _ _ _, Below.refl _ _⟩
        case round =>
          rename World => wq
          rename Value => v
          obtain ⟨jj, z, hjj, rfl, HZ, HW, HB⟩ := hrel
          obtain ⟨A, HA⟩ : ∃ A, Hid ((four Al).take (jj - 1) = A) := ⟨_, rfl⟩
          rw [HA.out] at HW
          obtain ⟨va, vc, ev⟩ := own_shape HW.out
          subst ev
          have hA4 : A.length ≤ 4 := by rw [← HA.out]; have := four_len Al; simp only [List.length_take]; omega
          by_cases hlt7 : jj < 7
          · have hz6 : z < 6 := by have := HZ.out; omega
            have hw1 : IntKind.i64.wrap (z + 1) = z + 1 := by rw [IntKind.wrap_i64]; have := HZ.out; omega
            go_wp2
            go_loopw [12] (fun i wk => ∃ q : Nat, q ≤ 2 ∧ i = .int .i64 q ∧ Hid (Below wq.heap.size wq wk)) (fun i _ => 2 - (intOf i).toNat)
            case atStart => exact ⟨0, by omega, rfl, Below.refl _ _⟩
            case round =>
              obtain ⟨q, hq2, rfl, HBK⟩ := hrel
              rename World => wk
              have HBW := keepG (HB.out.trans (HBK.out.mono HB.out.size))
              have HPK := keepG (HP3.out.below HBW.out)
              by_cases hqt : q < 2
              · have hq5 : q = 0 ∨ q = 1 := by omega
                obtain ⟨T, E, HQ⟩ : ∃ T E, Hid ((if isH z = true then (ofL z (L q), (0 : Int)) else (Ta.nil, 2)) = (T, E)) := ⟨_, _, rfl⟩
                obtain ⟨tr, tm, ts, tc, tu⟩ := T
                have hEE : (E != E) = false := by simp
                have s0 : wk.cell? ⟨sb, q, none⟩ = some (.pointer (some ⟨p q, 0, none⟩)) := by
                  rcases hq5 with rfl | rfl
                  · exact HPK.out.ss.cell (j := 0) rfl
                  · exact HPK.out.ss.cell (j := 1) rfl
                obtain ⟨aq, cq, evq⟩ : ∃ aq cq, V q = .slice aq (L q).length cq := own_shape (HPK.out.row q hqt)
                have k0 : ∀ wx, Below wk.heap.size wk wx → wx.cell? ⟨lb, q, none⟩ = some (.slice aq (L q).length cq) := by
                  intro wx hb
                  have h5 := HPK.out.below hb
                  rw [← evq]
                  rcases hq5 with rfl | rfl
                  · exact h5.ls.cell (j := 0) rfl
                  · exact h5.ls.cell (j := 1) rfl
                have HK0 := keepG k0
                have HSV : Hid (∀ wx, Below wk.heap.size wk wx → SeesG toC 5 To.nil wx (.slice aq (L q).length cq) (L q)) := by
                  intro wx hb
                  rw [← evq]
                  exact ((HPK.out.below hb).row q hqt).sees
                have hqI : (q : Int) < 2 := by omega
                clear k0 evq hq5
                go_wp2_with (first
                  | (go_at_call 11; go_must (refine ((HPK.out.obj q hqt).of z HQ).mono ?_); rintro e w5 ⟨rfl, hb⟩; go_must (have HB5 := keepG hb; unfold taV; obtain ⟨X, HX, HBX, HPX⟩ : ∃ X, Hid (w5.alloc (.cells #[.int .u64 tr, .int .u64 tm, .int .u64 ts, .int .u64 tc, .int .u64 tu] 40) = X) ∧ Hid (Below wk.heap.size wk X) ∧ Hid (Hp X w5.heap.size 40 (taC ⟨tr, tm, ts, tc, tu⟩)) := ⟨_, rfl, hb.trans ((below_allocG _ _).mono hb.size), Hp.new w5 _ _⟩; have kx := HK0.out X HBX.out; clear hb))
                  | (go_at_call 12; go_must (refine (dof (HSV.out X HBX.out) z HQ).mono ?_); rintro e w6 ⟨rfl, hb⟩; go_must (have HB6 := keepG (HBX.out.trans (hb.mono HBX.out.size)); unfold taV; have HPX6 := keepG (HPX.out.below hb HPX.out.lt); obtain ⟨Y, HY, HBY, HPY, HPX7⟩ : ∃ Y, Hid (w6.alloc (.cells #[.int .u64 tr, .int .u64 tm, .int .u64 ts, .int .u64 tc, .int .u64 tu] 40) = Y) ∧ Hid (Below wk.heap.size wk Y) ∧ Hid (Hp Y w6.heap.size 40 (taC ⟨tr, tm, ts, tc, tu⟩)) ∧ Hid (Hp Y w5.heap.size 40 (taC ⟨tr, tm, ts, tc, tu⟩)) := ⟨_, rfl, HB6.out.trans ((below_allocG _ _).mono HB6.out.size), Hp.new w6 _ _, HPX6.out.alloc _⟩; obtain ⟨⟨u0, u1, u2, u3, u4⟩, -⟩ := ta_cells HPX7.out; obtain ⟨⟨t0, t1, t2, t3, t4⟩, -⟩ := ta_cells HPY.out; clear hb))
                  | (rw [HX.out])
                  | (rw [HY.out]))
                go_roundw
                case rel => exact ⟨q + 1, by omega, by go_num, HBK.out.trans (HBY.out.mono HBK.out.size)⟩
                case measure => simp [intOf]; omega
              · have hqI : ¬ (q : Int) < 2 := by omega
                have HW2 := keepG (HW.out.below HBK.out)
                have HOK := keepG (HO3.out.below HBW.out (Nat.le_refl _))
                have hw3 := HBW.out.size
                obtain ⟨T, E, HQ⟩ : ∃ T E, Hid ((if isH z = true then (ofL z Al, (0 : Int)) else (Ta.nil, 2)) = (T, E)) := ⟨_, _, rfl⟩
                have hq := HQ.out
                obtain ⟨tr, tm, ts, tc, tu⟩ := T
                cases hh : isH z with
                | true =>
                  rw [if_pos hh] at hq
                  injection hq with e1 e2
                  subst e2
                  have HT : Hid ((four Al).take (jj + 1 - 1) = A ++ [⟨tr, tm, ts, tc, tu⟩]) := by
                    show _ = _
                    obtain ⟨k, rfl, hk4⟩ := isH_nat hh
                    have h5 := four_take Al hk4
                    have h6 := HZ.out
                    rw [← HA.out, show jj + 1 - 1 = k + 1 by omega, show jj - 1 = k by omega, ← e1]
                    exact h5
                  clear hh HW e1
                  go_wp2_with (first
                    | (go_at_call 12; go_must (refine (dof HOK.out z HQ).mono ?_); rintro e w6 ⟨rfl, hb⟩; go_must (unfold taV; obtain ⟨Y, HY, hbY, HPY⟩ : ∃ Y, Hid (w6.alloc (.cells #[.int .u64 tr, .int .u64 tm, .int .u64 ts, .int .u64 tc, .int .u64 tu] 40) = Y) ∧ Below wk.heap.size wk Y ∧ Hid (Hp Y w6.heap.size 40 (taC ⟨tr, tm, ts, tc, tu⟩)) := ⟨_, rfl, hb.trans ((below_allocG _ _).mono hb.size), Hp.new w6 _ _⟩; have HWY := keepG (HW2.out.below hbY); have HBY := keepG (HBW.out.trans (hbY.mono hw3)); have hzY := HBY.out.size; obtain ⟨⟨t0, t1, t2, t3, t4⟩, -⟩ := ta_cells HPY.out; clear hb hbY))
                    | (rw [HY.out])
                    | (at_builtin; go_must (refine wpList_append_own_at _ rfl _ _ 38 rfl w3.heap.size 40 i0 _ 5 40 Try.underlying38 hi0 hz0 hzs hzb rfl (by decide) (.slice va A.length vc) A.length (flatG taC A) rfl (own_below HWY.out (below_allocG _ _) (Nat.le_refl _)) ⟨_, 0, none⟩ 1 1 (taC ⟨tr, tm, ts, tc, tu⟩) rfl rfl (cells_new _ (taC ⟨tr, tm, ts, tc, tu⟩) _ _ rfl) (ta_one _) (by unfold maxLen; omega) (by omega) (by simp; omega) ?_); intro v9 w9 hown hgr _ _; go_must (have HO9 := keepG (own_moreG (x := (⟨tr, tm, ts, tc, tu⟩ : Ta)) hown); have HB9 := keepG (HBY.out.trans ((chg_append hgr).below (fun k' e => (HWY.out.lt k' e).1) hzY)); clear hown hgr)))
                  go_roundw
                  case rel => exact ⟨jj + 1, z + 1, by omega, by go_num, by show _ = _; have := HZ.out; omega, by rw [HT.out]; exact HO9.out, HB9.out⟩
                  case measure => simp [intOf]; have := HZ.out; omega
                | false =>
                  rw [if_neg (by rw [hh]; decide)] at hq
                  injection hq with e1 e2
                  subst e2
                  have HT : Hid ((four Al).take (jj + 1 - 1) = A) := by
                    show _ = _
                    have h6 := HZ.out
                    rw [← HA.out]
                    rcases isH_no hh with h5 | h5
                    · rw [show jj + 1 - 1 = 0 by omega, show jj - 1 = 0 by omega]
                    · rw [four_all Al (by omega), four_all Al (by omega)]
                  clear hh HW e1
                  go_wp2_with (first
                    | (go_at_call 12; go_must (refine (dof HOK.out z HQ).mono ?_); rintro e w6 ⟨rfl, hb⟩; go_must (unfold taV; obtain ⟨Y, HY, hbY⟩ : ∃ Y, Hid (w6.alloc (.cells #[.int .u64 tr, .int .u64 tm, .int .u64 ts, .int .u64 tc, .int .u64 tu] 40) = Y) ∧ Below wk.heap.size wk Y := ⟨_, rfl, hb.trans ((below_allocG _ _).mono hb.size)⟩; have HWY := keepG (HW2.out.below hbY); have HBY := keepG (HBW.out.trans (hbY.mono hw3)); clear hb hbY))
                    | (rw [HY.out]))
                  go_roundw
                  case rel => exact ⟨jj + 1, z + 1, by omega, by go_num, by show _ = _; have := HZ.out; omega, by rw [HT.out]; exact HWY.out, HBY.out⟩
                  case measure => simp [intOf]; have := HZ.out; omega
          · have hz6 : ¬ z < 6 := by have := HZ.out; omega
            have HFA : Hid (four (L 0 ++ L 1 ++ L 0) = A) := by show _ = _; rw [HAL.out, ← HA.out, four_all Al (by omega)]
            have HPQ := keepG (HP3.out.below HB.out)
            have HWS := keepG (fun (wx : World) (hb : Below wq.heap.size wq wx) => (HW.out.below hb).sees)
            have HSS : Hid (∀ wx, Below wq.heap.size wq wx → wx.cell? ⟨sb, 0, none⟩ = some (.pointer (some ⟨p 0, 0, none⟩)) ∧ wx.cell? ⟨sb, 1, none⟩ = some (.pointer (some ⟨p 1, 0, none⟩))) := fun wx hb => ⟨(HPQ.out.below hb).ss.cell (j := 0) rfl, (HPQ.out.below hb).ss.cell (j := 1) rfl⟩
            have HBD := keepG (below_drG (Below.refl wq.heap.size wq))
            have HPD := keepG (HPQ.out.below HBD.out)
            go_wp2
            refine wp_region_held_drew (S := fun w' => w'.cell? ⟨sb, 0, none⟩ = some (.pointer (some ⟨p 0, 0, none⟩)) ∧ w'.cell? ⟨sb, 1, none⟩ = some (.pointer (some ⟨p 1, 0, none⟩))) (by kernel_rfl) (HSS.out wq (Below.refl _ _)) (fun hHeld => ?_)
            refine tkGo [0, 1, 2, 3, 4, 5, 6, 7, 8, 11] ?_
            repeat (refine tkOne (v := ?_) rfl (by kernel_rfl) (by kernel_rfl) (by kernel_rfl) (fun _ _ _ h => h) (by assumption) (by rfl) ?_ ?_; rotate_left; (intro wy hSw; (try dsimp only at hSw); go_simp; (first | done | with_reducible rfl)); try simp only [Act.put, List.getElem_toArray, List.getElem_cons_zero, List.getElem_cons_succ, List.setIfInBounds_toArray, List.set_cons_zero, List.set_cons_succ])
            refine tkEnd ?_
            refine wpAnyH_ready (rs := [9]) (by kernel_rfl) (by simp) ?_
            refine AllReadyH.cons rfl (fun KK hK => ?_) AllReadyH.nil
            rw [if_pos (by rfl)]
            go_simp
            refine hK.out _ _ (HSS.out _ (below_drG (below_allocG wq _))) (fun hHeld => ?_)
            clear hK KK
            try simp only [Act.put, List.getElem_toArray, List.getElem_cons_zero, List.getElem_cons_succ, List.setIfInBounds_toArray, List.set_cons_zero, List.set_cons_succ]
            refine wpAnyH_ready (rs := [10]) (by kernel_rfl) (by simp) ?_
            refine AllReadyH.cons rfl (fun KK hK => ?_) AllReadyH.nil
            rw [if_pos (by rfl)]
            go_simp
            go_at_call 14
            refine (HPD.out.merge HFA).mono ?_
            rintro e w5 ⟨u5, rfl, hu5, hb5⟩
            have HB5 := keepG (HBD.out.trans hb5)
            have HU5 := keepG hu5.sees
            obtain ⟨ua, uc, ev⟩ := own_shape hu5
            subst ev
            clear hu5 hb5
            go_simp
            refine hK.out _ _ (HSS.out _ HB5.out) (fun hHeld => ?_)
            clear hK KK
            try simp only [Act.put, List.getElem_toArray, List.getElem_cons_zero, List.getElem_cons_succ, List.setIfInBounds_toArray, List.set_cons_zero, List.set_cons_succ]
            refine wpAnyH_ready (rs := [12]) (by kernel_rfl) (by simp) ?_
            refine AllReadyH.cons rfl (fun KK hK => ?_) AllReadyH.nil
            rw [if_pos (by rfl)]
            go_simp
            go_at_call 13
            refine (wtallies HU5.out (HWS.out w5 HB5.out)).mono ?_
            rintro e w6 ⟨rfl, hb6⟩
            have HB6 := keepG (HB5.out.trans (hb6.mono HB5.out.size))
            clear hb6
            go_simp
            refine hK.out _ _ (HSS.out _ HB6.out) (fun hHeld => ?_)
            clear hK KK
            try simp only [Act.put, List.getElem_toArray, List.getElem_cons_zero, List.getElem_cons_succ, List.setIfInBounds_toArray, List.set_cons_zero, List.set_cons_succ]
            refine tkGo [13] ?_
            repeat (refine tkOne (v := ?_) rfl (by kernel_rfl) (by kernel_rfl) (by kernel_rfl) (fun _ _ _ h => h) (by assumption) (by rfl) ?_ ?_; rotate_left; (intro wy hSw; (try dsimp only at hSw); go_simp; (first | done | with_reducible rfl)); try simp only [Act.put, List.getElem_toArray, List.getElem_cons_zero, List.getElem_cons_succ, List.setIfInBounds_toArray, List.set_cons_zero, List.set_cons_succ])
            refine tkEnd ?_
            refine wpAnyH_ready (rs := [14, 15]) (by kernel_rfl) (by simp) ?_
            refine AllReadyH.cons rfl (fun KK hK => ?_) (AllReadyH.cons rfl (fun KK hK => ?_) AllReadyH.nil) <;> rw [if_pos (by rfl)]
            · go_simp
              go_at_call 14
              refine (merge_none w6).mono ?_
              rintro e w7 ⟨u7, rfl, hu7, hb7⟩
              have HB7 := keepG (HB6.out.trans (hb7.mono HB6.out.size))
              obtain ⟨va7, vc7, ev⟩ := own_shape hu7
              subst ev
              obtain ⟨W8, HW8, hb8, HM8⟩ : ∃ W8, Hid (w7.alloc (.cells (flatG taC zeroF).toArray 40) = W8) ∧ Below w7.heap.size w7 W8 ∧ Hid (RoTa W8 w7.heap.size (.slice (some ⟨w7.heap.size, 0, none⟩) 4 4) zeroF) := ⟨_, rfl, below_allocG _ _, make_own w7⟩
              have hmk := run_makeTa w7
              rw [HW8.out] at hmk
              have HU8 := keepG (hu7.below hb8)
              have HB8 := keepG (HB7.out.trans (hb8.mono HB7.out.size))
              clear hu7 hb7 hb8
              go_simp
              refine hK.out _ _ (HSS.out _ HB7.out) (fun hHeld => ?_)
              clear hK KK
              try simp only [Act.put, List.getElem_toArray, List.getElem_cons_zero, List.getElem_cons_succ, List.setIfInBounds_toArray, List.set_cons_zero, List.set_cons_succ]
              refine wpAnyH_ready (rs := [15]) (by kernel_rfl) (by simp) ?_
              refine AllReadyH.cons rfl (fun KK hK => ?_) AllReadyH.nil
              rw [if_pos (by rfl)]
              go_simp
              refine hK.out _ _ (HSS.out _ HB8.out) (fun hHeld => ?_)
              clear hK KK
              try simp only [Act.put, List.getElem_toArray, List.getElem_cons_zero, List.getElem_cons_succ, List.setIfInBounds_toArray, List.set_cons_zero, List.set_cons_succ]
              refine wpAnyH_ready (rs := [16]) (by kernel_rfl) (by simp) ?_
              refine AllReadyH.cons rfl (fun KK hK => ?_) AllReadyH.nil
              rw [if_pos (by rfl)]
              go_simp
              go_at_call 13
              refine (wtallies HU8.out.sees HM8.out.sees).mono ?_
              rintro e w9 ⟨rfl, hb9⟩
              have HB9 := keepG (HB8.out.trans (hb9.mono HB8.out.size))
              clear hb9 hmk
              go_simp
              refine hK.out _ _ (HSS.out _ HB9.out) (fun hHeld => ?_)
              clear hK KK
              try simp only [Act.put, List.getElem_toArray, List.getElem_cons_zero, List.getElem_cons_succ, List.setIfInBounds_toArray, List.set_cons_zero, List.set_cons_succ]
              refine tkGo [17, 18] ?_
              repeat (refine tkOne (v := ?_) rfl (by kernel_rfl) (by kernel_rfl) (by kernel_rfl) (fun _ _ _ h => h) (by assumption) (by rfl) ?_ ?_; rotate_left; (intro wy hSw; (try dsimp only at hSw); go_simp; (first | done | with_reducible rfl)); try simp only [Act.put, List.getElem_toArray, List.getElem_cons_zero, List.getElem_cons_succ, List.setIfInBounds_toArray, List.set_cons_zero, List.set_cons_succ])
              refine tkEnd ?_
              refine wpAnyH_done (by kernel_rfl) ?_ _
              clear hHeld
              go_wp2
              go_ret
              exact ⟨rfl, HPQ.out.be.trans (HB9.out.mono HPQ.out.be.size)⟩
            · obtain ⟨W8, HW8, hb8, HM8⟩ : ∃ W8, Hid (w6.alloc (.cells (flatG taC zeroF).toArray 40) = W8) ∧ Below w6.heap.size w6 W8 ∧ Hid (RoTa W8 w6.heap.size (.slice (some ⟨w6.heap.size, 0, none⟩) 4 4) zeroF) := ⟨_, rfl, below_allocG _ _, make_own w6⟩
              have hmk := run_makeTa w6
              rw [HW8.out] at hmk
              have HB8 := keepG (HB6.out.trans (hb8.mono HB6.out.size))
              clear hb8
              go_simp
              refine hK.out _ _ (HSS.out _ HB8.out) (fun hHeld => ?_)
              clear hK KK hmk
              try simp only [Act.put, List.getElem_toArray, List.getElem_cons_zero, List.getElem_cons_succ, List.setIfInBounds_toArray, List.set_cons_zero, List.set_cons_succ]
              refine wpAnyH_ready (rs := [14]) (by kernel_rfl) (by simp) ?_
              refine AllReadyH.cons rfl (fun KK hK => ?_) AllReadyH.nil
              rw [if_pos (by rfl)]
              go_simp
              go_at_call 14
              refine (merge_none W8).mono ?_
              rintro e w7 ⟨u7, rfl, hu7, hb7⟩
              have HB7 := keepG (HB8.out.trans (hb7.mono HB8.out.size))
              have HM7 := keepG (HM8.out.below hb7)
              obtain ⟨va7, vc7, ev⟩ := own_shape hu7
              subst ev
              have HU7 := keepG hu7
              clear hu7 hb7
              go_simp
              refine hK.out _ _ (HSS.out _ HB7.out) (fun hHeld => ?_)
              clear hK KK
              try simp only [Act.put, List.getElem_toArray, List.getElem_cons_zero, List.getElem_cons_succ, List.setIfInBounds_toArray, List.set_cons_zero, List.set_cons_succ]
              refine wpAnyH_ready (rs := [16]) (by kernel_rfl) (by simp) ?_
              refine AllReadyH.cons rfl (fun KK hK => ?_) AllReadyH.nil
              rw [if_pos (by rfl)]
              go_simp
              go_at_call 13
              refine (wtallies HU7.out.sees HM7.out.sees).mono ?_
              rintro e w9 ⟨rfl, hb9⟩
              have HB9 := keepG (HB7.out.trans (hb9.mono HB7.out.size))
              clear hb9
              go_simp
              refine hK.out _ _ (HSS.out _ HB9.out) (fun hHeld => ?_)
              clear hK KK
              try simp only [Act.put, List.getElem_toArray, List.getElem_cons_zero, List.getElem_cons_succ, List.setIfInBounds_toArray, List.set_cons_zero, List.set_cons_succ]
              refine tkGo [17, 18] ?_
              repeat (refine tkOne (v := ?_) rfl (by kernel_rfl) (by kernel_rfl) (by kernel_rfl) (fun _ _ _ h => h) (by assumption) (by rfl) ?_ ?_; rotate_left; (intro wy hSw; (try dsimp only at hSw); go_simp; (first | done | with_reducible rfl)); try simp only [Act.put, List.getElem_toArray, List.getElem_cons_zero, List.getElem_cons_succ, List.setIfInBounds_toArray, List.set_cons_zero, List.set_cons_succ])
              refine tkEnd ?_
              refine wpAnyH_done (by kernel_rfl) ?_ _
              clear hHeld
              go_wp2
              go_ret
              exact ⟨rfl, HPQ.out.be.trans (HB9.out.mono HPQ.out.be.size)⟩
    · have hltI : ¬ (j : Int) < is.length := by omega
      have HP := keepG HM.out.1
      have hl0 : (L 0).length ≤ 419430800 := by have := HM.out.2 0 (by decide); omega
      have hl1 : (L 1).length ≤ 419430800 := by have := HM.out.2 1 (by decide); omega
      have z0 : wr.cell? ⟨lb, 0, none⟩ = some (V 0) := HP.out.ls.cell (j := 0) rfl
      have z1 : wr.cell? ⟨lb, 1, none⟩ = some (V 1) := HP.out.ls.cell (j := 1) rfl
      obtain ⟨a0, c0, ev0⟩ := own_shape (HP.out.row 0 (by decide))
      obtain ⟨a1, c1, ev1⟩ := own_shape (HP.out.row 1 (by decide))
      have HV0 := keepG ev0
      have HV1 := keepG ev1
      rw [ev0] at z0
      rw [ev1] at z1
      obtain ⟨x1, y1, w1, r1, o1, b1⟩ := told_more (B := wr.heap.size) (v := .slice none 0 0) (l := []) (World.ownsRow_nil _ _ _ _) (HP.out.row 0 (by decide)).sees (Nat.le_refl _) (by simp; omega)
      rw [List.nil_append] at r1 o1
      have p1 := HP.out.below b1
      obtain ⟨x2, y2, w2, r2, o2, b2⟩ := told_more o1 (p1.row 1 (by decide)).sees b1.size (by omega)
      have p2 := HP.out.below (b1.trans b2)
      have z10 : w1.cell? ⟨lb, 1, none⟩ = some (V 1) := p1.ls.cell (j := 1) rfl
      have z20 : w2.cell? ⟨lb, 0, none⟩ = some (V 0) := p2.ls.cell (j := 0) rfl
      obtain ⟨x3, y3, w3, r3, o3, b3⟩ := told_more o2 (p2.row 0 (by decide)).sees (b1.trans b2).size (by simp only [List.length_append]; omega)
      rw [ev1] at z10
      rw [ev0] at z20
      rw [ev0] at r1 r3
      rw [ev1] at r2
      have HP3 := keepG (HP.out.below ((b1.trans b2).trans b3))
      obtain ⟨Al, HAL⟩ : ∃ Al, Hid (L 0 ++ L 1 ++ L 0 = Al) := ⟨_, rfl⟩
      rw [HAL.out] at r3 o3
      have HO3 := keepG (own_seesG toC_len To.nil o3)
      have HR1 := keepG r1
      have HR2 := keepG r2
      have HR3 := keepG r3
      have hb3 := ((b1.trans b2).trans b3)
      have hAL : Al.length ≤ 9223372036854775807 := by rw [← HAL.out]; simp only [List.length_append]; omega
      clear r1 r2 r3 o1 o2 o3 b1 b2 b3 p1 p2 ev0 ev1 hb3 HM HSZI
      obtain ⟨n01, HL01⟩ : ∃ n01, Hid ((L 0 ++ L 1).length = n01) := ⟨_, rfl⟩
      rw [HL01.out] at HR2 HR3
      go_wp2_with (first
        | (have hq := HR1; clear hq; at_builtin; go_must (refine wpList_appG _ rfl (.tmp 86) (.tmp 89) 32 32 rfl _ _ rfl rfl HR1.out ?_); clear HR1)
        | (have hq := HR2; clear hq; at_builtin; go_must (refine wpList_appG _ rfl (.tmp 91) (.tmp 94) 32 32 rfl _ _ rfl rfl HR2.out ?_); clear HR2)
        | (have hq := HR3; clear hq; at_builtin; go_must (refine wpList_appG _ rfl (.tmp 96) (.tmp 99) 32 32 rfl _ _ rfl rfl HR3.out ?_); clear HR3))
      clear z0 z1 z10 z20
      go_loopw [10, 11] (fun v i wq => ∃ (j : Nat) (z : Int), j ≤ 7 ∧ i = .int .i64 z ∧ Hid (z = (j : Int) - 1) ∧ Hid (RoTa wq w3.heap.size v ((four Al).take (j - 1))) ∧ Hid (Below w3.heap.size w3 wq)) (fun _ i _ => (6 - intOf i).toNat)
      case atStart => exact ⟨0, -1, by omega, rfl, rfl, World.ownsRow_nil _ _ _ _, Below.refl _ _⟩
      case round =>
        rename World => wq
        rename Value => v
        obtain ⟨jj, z, hjj, rfl, HZ, HW, HB⟩ := hrel
        obtain ⟨A, HA⟩ : ∃ A, Hid ((four Al).take (jj - 1) = A) := ⟨_, rfl⟩
        rw [HA.out] at HW
        obtain ⟨va, vc, ev⟩ := own_shape HW.out
        subst ev
        have hA4 : A.length ≤ 4 := by rw [← HA.out]; have := four_len Al; simp only [List.length_take]; omega
        by_cases hlt7 : jj < 7
        · have hz6 : z < 6 := by have := HZ.out; omega
          have hw1 : IntKind.i64.wrap (z + 1) = z + 1 := by rw [IntKind.wrap_i64]; have := HZ.out; omega
          go_wp2
          go_loopw [12] (fun i wk => ∃ q : Nat, q ≤ 2 ∧ i = .int .i64 q ∧ Hid (Below wq.heap.size wq wk)) (fun i _ => 2 - (intOf i).toNat)
          case atStart => exact ⟨0, by omega, rfl, Below.refl _ _⟩
          case round =>
            obtain ⟨q, hq2, rfl, HBK⟩ := hrel
            rename World => wk
            have HBW := keepG (HB.out.trans (HBK.out.mono HB.out.size))
            have HPK := keepG (HP3.out.below HBW.out)
            by_cases hqt : q < 2
            · have hq5 : q = 0 ∨ q = 1 := by omega
              obtain ⟨T, E, HQ⟩ : ∃ T E, Hid ((if isH z = true then (ofL z (L q), (0 : Int)) else (Ta.nil, 2)) = (T, E)) := ⟨_, _, rfl⟩
              obtain ⟨tr, tm, ts, tc, tu⟩ := T
              have hEE : (E != E) = false := by simp
              have s0 : wk.cell? ⟨sb, q, none⟩ = some (.pointer (some ⟨p q, 0, none⟩)) := by
                rcases hq5 with rfl | rfl
                · exact HPK.out.ss.cell (j := 0) rfl
                · exact HPK.out.ss.cell (j := 1) rfl
              obtain ⟨aq, cq, evq⟩ : ∃ aq cq, V q = .slice aq (L q).length cq := own_shape (HPK.out.row q hqt)
              have k0 : ∀ wx, Below wk.heap.size wk wx → wx.cell? ⟨lb, q, none⟩ = some (.slice aq (L q).length cq) := by
                intro wx hb
                have h5 := HPK.out.below hb
                rw [← evq]
                rcases hq5 with rfl | rfl
                · exact h5.ls.cell (j := 0) rfl
                · exact h5.ls.cell (j := 1) rfl
              have HK0 := keepG k0
              have HSV : Hid (∀ wx, Below wk.heap.size wk wx → SeesG toC 5 To.nil wx (.slice aq (L q).length cq) (L q)) := by
                intro wx hb
                rw [← evq]
                exact ((HPK.out.below hb).row q hqt).sees
              have hqI : (q : Int) < 2 := by omega
              clear k0 evq hq5
              go_wp2_with (first
                | (go_at_call 11; go_must (refine ((HPK.out.obj q hqt).of z HQ).mono ?_); rintro e w5 ⟨rfl, hb⟩; go_must (have HB5 := keepG hb; unfold taV; obtain ⟨X, HX, HBX, HPX⟩ : ∃ X, Hid (w5.alloc (.cells #[.int .u64 tr, .int .u64 tm, .int .u64 ts, .int .u64 tc, .int .u64 tu] 40) = X) ∧ Hid (Below wk.heap.size wk X) ∧ Hid (Hp X w5.heap.size 40 (taC ⟨tr, tm, ts, tc, tu⟩)) := ⟨_, rfl, hb.trans ((below_allocG _ _).mono hb.size), Hp.new w5 _ _⟩; have kx := HK0.out X HBX.out; clear hb))
                | (go_at_call 12; go_must (refine (dof (HSV.out X HBX.out) z HQ).mono ?_); rintro e w6 ⟨rfl, hb⟩; go_must (have HB6 := keepG (HBX.out.trans (hb.mono HBX.out.size)); unfold taV; have HPX6 := keepG (HPX.out.below hb HPX.out.lt); obtain ⟨Y, HY, HBY, HPY, HPX7⟩ : ∃ Y, Hid (w6.alloc (.cells #[.int .u64 tr, .int .u64 tm, .int .u64 ts, .int .u64 tc, .int .u64 tu] 40) = Y) ∧ Hid (Below wk.heap.size wk Y) ∧ Hid (Hp Y w6.heap.size 40 (taC ⟨tr, tm, ts, tc, tu⟩)) ∧ Hid (Hp Y w5.heap.size 40 (taC ⟨tr, tm, ts, tc, tu⟩)) := ⟨_, rfl, HB6.out.trans ((below_allocG _ _).mono HB6.out.size), Hp.new w6 _ _, HPX6.out.alloc _⟩; obtain ⟨⟨u0, u1, u2, u3, u4⟩, -⟩ := ta_cells HPX7.out; obtain ⟨⟨t0, t1, t2, t3, t4⟩, -⟩ := ta_cells HPY.out; clear hb))
                | (rw [HX.out])
                | (rw [HY.out]))
              go_roundw
              case rel => exact ⟨q + 1, by omega, by go_num, HBK.out.trans (HBY.out.mono HBK.out.size)⟩
              case measure => simp [intOf]; omega
            · have hqI : ¬ (q : Int) < 2 := by omega
              have HW2 := keepG (HW.out.below HBK.out)
              have HOK := keepG (HO3.out.below HBW.out (Nat.le_refl _))
              have hw3 := HBW.out.size
              obtain ⟨T, E, HQ⟩ : ∃ T E, Hid ((if isH z = true then (ofL z Al, (0 : Int)) else (Ta.nil, 2)) = (T, E)) := ⟨_, _, rfl⟩
              have hq := HQ.out
              obtain ⟨tr, tm, ts, tc, tu⟩ := T
              cases hh : isH z with
              | true =>
                rw [if_pos hh] at hq
                injection hq with e1 e2
                subst e2
                have HT : Hid ((four Al).take (jj + 1 - 1) = A ++ [⟨tr, tm, ts, tc, tu⟩]) := by
                  show _ = _
                  obtain ⟨k, rfl, hk4⟩ := isH_nat hh
                  have h5 := four_take Al hk4
                  have h6 := HZ.out
                  rw [← HA.out, show jj + 1 - 1 = k + 1 by omega, show jj - 1 = k by omega, ← e1]
                  exact h5
                clear hh HW e1
                go_wp2_with (first
                  | (go_at_call 12; go_must (refine (dof HOK.out z HQ).mono ?_); rintro e w6 ⟨rfl, hb⟩; go_must (unfold taV; obtain ⟨Y, HY, hbY, HPY⟩ : ∃ Y, Hid (w6.alloc (.cells #[.int .u64 tr, .int .u64 tm, .int .u64 ts, .int .u64 tc, .int .u64 tu] 40) = Y) ∧ Below wk.heap.size wk Y ∧ Hid (Hp Y w6.heap.size 40 (taC ⟨tr, tm, ts, tc, tu⟩)) := ⟨_, rfl, hb.trans ((below_allocG _ _).mono hb.size), Hp.new w6 _ _⟩; have HWY := keepG (HW2.out.below hbY); have HBY := keepG (HBW.out.trans (hbY.mono hw3)); have hzY := HBY.out.size; obtain ⟨⟨t0, t1, t2, t3, t4⟩, -⟩ := ta_cells HPY.out; clear hb hbY))
                  | (rw [HY.out])
                  | (at_builtin; go_must (refine wpList_append_own_at _ rfl _ _ 38 rfl w3.heap.size 40 i0 _ 5 40 Try.underlying38 hi0 hz0 hzs hzb rfl (by decide) (.slice va A.length vc) A.length (flatG taC A) rfl (own_below HWY.out (below_allocG _ _) (Nat.le_refl _)) ⟨_, 0, none⟩ 1 1 (taC ⟨tr, tm, ts, tc, tu⟩) rfl rfl (cells_new _ (taC ⟨tr, tm, ts, tc, tu⟩) _ _ rfl) (ta_one _) (by unfold maxLen; omega) (by omega) (by simp; omega) ?_); intro v9 w9 hown hgr _ _; go_must (have HO9 := keepG (own_moreG (x := (⟨tr, tm, ts, tc, tu⟩ : Ta)) hown); have HB9 := keepG (HBY.out.trans ((chg_append hgr).below (fun k' e => (HWY.out.lt k' e).1) hzY)); clear hown hgr)))
                go_roundw
                case rel => exact ⟨jj + 1, z + 1, by omega, by go_num, by show _ = _; have := HZ.out; omega, by rw [HT.out]; exact HO9.out, HB9.out⟩
                case measure => simp [intOf]; have := HZ.out; omega
              | false =>
                rw [if_neg (by rw [hh]; decide)] at hq
                injection hq with e1 e2
                subst e2
                have HT : Hid ((four Al).take (jj + 1 - 1) = A) := by
                  show _ = _
                  have h6 := HZ.out
                  rw [← HA.out]
                  rcases isH_no hh with h5 | h5
                  · rw [show jj + 1 - 1 = 0 by omega, show jj - 1 = 0 by omega]
                  · rw [four_all Al (by omega), four_all Al (by omega)]
                clear hh HW e1
                go_wp2_with (first
                  | (go_at_call 12; go_must (refine (dof HOK.out z HQ).mono ?_); rintro e w6 ⟨rfl, hb⟩; go_must (unfold taV; obtain ⟨Y, HY, hbY⟩ : ∃ Y, Hid (w6.alloc (.cells #[.int .u64 tr, .int .u64 tm, .int .u64 ts, .int .u64 tc, .int .u64 tu] 40) = Y) ∧ Below wk.heap.size wk Y := ⟨_, rfl, hb.trans ((below_allocG _ _).mono hb.size)⟩; have HWY := keepG (HW2.out.below hbY); have HBY := keepG (HBW.out.trans (hbY.mono hw3)); clear hb hbY))
                  | (rw [HY.out]))
                go_roundw
                case rel => exact ⟨jj + 1, z + 1, by omega, by go_num, by show _ = _; have := HZ.out; omega, by rw [HT.out]; exact HWY.out, HBY.out⟩
                case measure => simp [intOf]; have := HZ.out; omega
        · have hz6 : ¬ z < 6 := by have := HZ.out; omega
          have HFA : Hid (four (L 0 ++ L 1 ++ L 0) = A) := by show _ = _; rw [HAL.out, ← HA.out, four_all Al (by omega)]
          have HPQ := keepG (HP3.out.below HB.out)
          have HWS := keepG (fun (wx : World) (hb : Below wq.heap.size wq wx) => (HW.out.below hb).sees)
          have HSS : Hid (∀ wx, Below wq.heap.size wq wx → wx.cell? ⟨sb, 0, none⟩ = some (.pointer (some ⟨p 0, 0, none⟩)) ∧ wx.cell? ⟨sb, 1, none⟩ = some (.pointer (some ⟨p 1, 0, none⟩))) := fun wx hb => ⟨(HPQ.out.below hb).ss.cell (j := 0) rfl, (HPQ.out.below hb).ss.cell (j := 1) rfl⟩
          have HBD := keepG (below_drG (Below.refl wq.heap.size wq))
          have HPD := keepG (HPQ.out.below HBD.out)
          go_wp2
          refine wp_region_held_drew (S := fun w' => w'.cell? ⟨sb, 0, none⟩ = some (.pointer (some ⟨p 0, 0, none⟩)) ∧ w'.cell? ⟨sb, 1, none⟩ = some (.pointer (some ⟨p 1, 0, none⟩))) (by kernel_rfl) (HSS.out wq (Below.refl _ _)) (fun hHeld => ?_)
          refine tkGo [0, 1, 2, 3, 4, 5, 6, 7, 8, 11] ?_
          repeat (refine tkOne (v := ?_) rfl (by kernel_rfl) (by kernel_rfl) (by kernel_rfl) (fun _ _ _ h => h) (by assumption) (by rfl) ?_ ?_; rotate_left; (intro wy hSw; (try dsimp only at hSw); go_simp; (first | done | with_reducible rfl)); try simp only [Act.put, List.getElem_toArray, List.getElem_cons_zero, List.getElem_cons_succ, List.setIfInBounds_toArray, List.set_cons_zero, List.set_cons_succ])
          refine tkEnd ?_
          refine wpAnyH_ready (rs := [9]) (by kernel_rfl) (by simp) ?_
          refine AllReadyH.cons rfl (fun KK hK => ?_) AllReadyH.nil
          rw [if_pos (by rfl)]
          go_simp
          refine hK.out _ _ (HSS.out _ (below_drG (below_allocG wq _))) (fun hHeld => ?_)
          clear hK KK
          try simp only [Act.put, List.getElem_toArray, List.getElem_cons_zero, List.getElem_cons_succ, List.setIfInBounds_toArray, List.set_cons_zero, List.set_cons_succ]
          refine wpAnyH_ready (rs := [10]) (by kernel_rfl) (by simp) ?_
          refine AllReadyH.cons rfl (fun KK hK => ?_) AllReadyH.nil
          rw [if_pos (by rfl)]
          go_simp
          go_at_call 14
          refine (HPD.out.merge HFA).mono ?_
          rintro e w5 ⟨u5, rfl, hu5, hb5⟩
          have HB5 := keepG (HBD.out.trans hb5)
          have HU5 := keepG hu5.sees
          obtain ⟨ua, uc, ev⟩ := own_shape hu5
          subst ev
          clear hu5 hb5
          go_simp
          refine hK.out _ _ (HSS.out _ HB5.out) (fun hHeld => ?_)
          clear hK KK
          try simp only [Act.put, List.getElem_toArray, List.getElem_cons_zero, List.getElem_cons_succ, List.setIfInBounds_toArray, List.set_cons_zero, List.set_cons_succ]
          refine wpAnyH_ready (rs := [12]) (by kernel_rfl) (by simp) ?_
          refine AllReadyH.cons rfl (fun KK hK => ?_) AllReadyH.nil
          rw [if_pos (by rfl)]
          go_simp
          go_at_call 13
          refine (wtallies HU5.out (HWS.out w5 HB5.out)).mono ?_
          rintro e w6 ⟨rfl, hb6⟩
          have HB6 := keepG (HB5.out.trans (hb6.mono HB5.out.size))
          clear hb6
          go_simp
          refine hK.out _ _ (HSS.out _ HB6.out) (fun hHeld => ?_)
          clear hK KK
          try simp only [Act.put, List.getElem_toArray, List.getElem_cons_zero, List.getElem_cons_succ, List.setIfInBounds_toArray, List.set_cons_zero, List.set_cons_succ]
          refine tkGo [13] ?_
          repeat (refine tkOne (v := ?_) rfl (by kernel_rfl) (by kernel_rfl) (by kernel_rfl) (fun _ _ _ h => h) (by assumption) (by rfl) ?_ ?_; rotate_left; (intro wy hSw; (try dsimp only at hSw); go_simp; (first | done | with_reducible rfl)); try simp only [Act.put, List.getElem_toArray, List.getElem_cons_zero, List.getElem_cons_succ, List.setIfInBounds_toArray, List.set_cons_zero, List.set_cons_succ])
          refine tkEnd ?_
          refine wpAnyH_ready (rs := [14, 15]) (by kernel_rfl) (by simp) ?_
          refine AllReadyH.cons rfl (fun KK hK => ?_) (AllReadyH.cons rfl (fun KK hK => ?_) AllReadyH.nil) <;> rw [if_pos (by rfl)]
          · go_simp
            go_at_call 14
            refine (merge_none w6).mono ?_
            rintro e w7 ⟨u7, rfl, hu7, hb7⟩
            have HB7 := keepG (HB6.out.trans (hb7.mono HB6.out.size))
            obtain ⟨va7, vc7, ev⟩ := own_shape hu7
            subst ev
            obtain ⟨W8, HW8, hb8, HM8⟩ : ∃ W8, Hid (w7.alloc (.cells (flatG taC zeroF).toArray 40) = W8) ∧ Below w7.heap.size w7 W8 ∧ Hid (RoTa W8 w7.heap.size (.slice (some ⟨w7.heap.size, 0, none⟩) 4 4) zeroF) := ⟨_, rfl, below_allocG _ _, make_own w7⟩
            have hmk := run_makeTa w7
            rw [HW8.out] at hmk
            have HU8 := keepG (hu7.below hb8)
            have HB8 := keepG (HB7.out.trans (hb8.mono HB7.out.size))
            clear hu7 hb7 hb8
            go_simp
            refine hK.out _ _ (HSS.out _ HB7.out) (fun hHeld => ?_)
            clear hK KK
            try simp only [Act.put, List.getElem_toArray, List.getElem_cons_zero, List.getElem_cons_succ, List.setIfInBounds_toArray, List.set_cons_zero, List.set_cons_succ]
            refine wpAnyH_ready (rs := [15]) (by kernel_rfl) (by simp) ?_
            refine AllReadyH.cons rfl (fun KK hK => ?_) AllReadyH.nil
            rw [if_pos (by rfl)]
            go_simp
            refine hK.out _ _ (HSS.out _ HB8.out) (fun hHeld => ?_)
            clear hK KK
            try simp only [Act.put, List.getElem_toArray, List.getElem_cons_zero, List.getElem_cons_succ, List.setIfInBounds_toArray, List.set_cons_zero, List.set_cons_succ]
            refine wpAnyH_ready (rs := [16]) (by kernel_rfl) (by simp) ?_
            refine AllReadyH.cons rfl (fun KK hK => ?_) AllReadyH.nil
            rw [if_pos (by rfl)]
            go_simp
            go_at_call 13
            refine (wtallies HU8.out.sees HM8.out.sees).mono ?_
            rintro e w9 ⟨rfl, hb9⟩
            have HB9 := keepG (HB8.out.trans (hb9.mono HB8.out.size))
            clear hb9 hmk
            go_simp
            refine hK.out _ _ (HSS.out _ HB9.out) (fun hHeld => ?_)
            clear hK KK
            try simp only [Act.put, List.getElem_toArray, List.getElem_cons_zero, List.getElem_cons_succ, List.setIfInBounds_toArray, List.set_cons_zero, List.set_cons_succ]
            refine tkGo [17, 18] ?_
            repeat (refine tkOne (v := ?_) rfl (by kernel_rfl) (by kernel_rfl) (by kernel_rfl) (fun _ _ _ h => h) (by assumption) (by rfl) ?_ ?_; rotate_left; (intro wy hSw; (try dsimp only at hSw); go_simp; (first | done | with_reducible rfl)); try simp only [Act.put, List.getElem_toArray, List.getElem_cons_zero, List.getElem_cons_succ, List.setIfInBounds_toArray, List.set_cons_zero, List.set_cons_succ])
            refine tkEnd ?_
            refine wpAnyH_done (by kernel_rfl) ?_ _
            clear hHeld
            go_wp2
            go_ret
            exact ⟨rfl, HPQ.out.be.trans (HB9.out.mono HPQ.out.be.size)⟩
          · obtain ⟨W8, HW8, hb8, HM8⟩ : ∃ W8, Hid (w6.alloc (.cells (flatG taC zeroF).toArray 40) = W8) ∧ Below w6.heap.size w6 W8 ∧ Hid (RoTa W8 w6.heap.size (.slice (some ⟨w6.heap.size, 0, none⟩) 4 4) zeroF) := ⟨_, rfl, below_allocG _ _, make_own w6⟩
            have hmk := run_makeTa w6
            rw [HW8.out] at hmk
            have HB8 := keepG (HB6.out.trans (hb8.mono HB6.out.size))
            clear hb8
            go_simp
            refine hK.out _ _ (HSS.out _ HB8.out) (fun hHeld => ?_)
            clear hK KK hmk
            try simp only [Act.put, List.getElem_toArray, List.getElem_cons_zero, List.getElem_cons_succ, List.setIfInBounds_toArray, List.set_cons_zero, List.set_cons_succ]
            refine wpAnyH_ready (rs := [14]) (by kernel_rfl) (by simp) ?_
            refine AllReadyH.cons rfl (fun KK hK => ?_) AllReadyH.nil
            rw [if_pos (by rfl)]
            go_simp
            go_at_call 14
            refine (merge_none W8).mono ?_
            rintro e w7 ⟨u7, rfl, hu7, hb7⟩
            have HB7 := keepG (HB8.out.trans (hb7.mono HB8.out.size))
            have HM7 := keepG (HM8.out.below hb7)
            obtain ⟨va7, vc7, ev⟩ := own_shape hu7
            subst ev
            have HU7 := keepG hu7
            clear hu7 hb7
            go_simp
            refine hK.out _ _ (HSS.out _ HB7.out) (fun hHeld => ?_)
            clear hK KK
            try simp only [Act.put, List.getElem_toArray, List.getElem_cons_zero, List.getElem_cons_succ, List.setIfInBounds_toArray, List.set_cons_zero, List.set_cons_succ]
            refine wpAnyH_ready (rs := [16]) (by kernel_rfl) (by simp) ?_
            refine AllReadyH.cons rfl (fun KK hK => ?_) AllReadyH.nil
            rw [if_pos (by rfl)]
            go_simp
            go_at_call 13
            refine (wtallies HU7.out.sees HM7.out.sees).mono ?_
            rintro e w9 ⟨rfl, hb9⟩
            have HB9 := keepG (HB7.out.trans (hb9.mono HB7.out.size))
            clear hb9
            go_simp
            refine hK.out _ _ (HSS.out _ HB9.out) (fun hHeld => ?_)
            clear hK KK
            try simp only [Act.put, List.getElem_toArray, List.getElem_cons_zero, List.getElem_cons_succ, List.setIfInBounds_toArray, List.set_cons_zero, List.set_cons_succ]
            refine tkGo [17, 18] ?_
            repeat (refine tkOne (v := ?_) rfl (by kernel_rfl) (by kernel_rfl) (by kernel_rfl) (fun _ _ _ h => h) (by assumption) (by rfl) ?_ ?_; rotate_left; (intro wy hSw; (try dsimp only at hSw); go_simp; (first | done | with_reducible rfl)); try simp only [Act.put, List.getElem_toArray, List.getElem_cons_zero, List.getElem_cons_succ, List.setIfInBounds_toArray, List.set_cons_zero, List.set_cons_succ])
            refine tkEnd ?_
            refine wpAnyH_done (by kernel_rfl) ?_ _
            clear hHeld
            go_wp2
            go_ret
            exact ⟨rfl, HPQ.out.be.trans (HB9.out.mono HPQ.out.be.size)⟩
/-- StatsPlays. -/
theorem statsPlays_walk (sv : Value) (is : List Ow) (w : World) (hs : Scr w sv is) (hlen : is.length ≤ 1048576 ∧ ∀ x ∈ is, x.ws.length ≤ 1048576) :
    Calls Try.prog 3 #[sv] w fun e w' => e = .returned (.bool true) ∧ Below w.heap.size w w' := statsPlays_ok sv is w hs hlen.1 hlen.2
end Go.Proofs.Ytjhjfojmojjomaa
