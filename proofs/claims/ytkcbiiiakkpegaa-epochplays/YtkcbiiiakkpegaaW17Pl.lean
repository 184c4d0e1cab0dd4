
/-
  EpochPlays, walked. Condition: none but the arguments' reading.
-/
import Derived.Test.YtkcbiiiakkpegaaTk
import Derived.Test.YtkcbiiiakkpegaaW17Pe
namespace Go.Proofs.Ytkcbiiiakkpegaa
open Go.RowKit
set_option linter.unusedVariables false
set_option linter.unusedSimpArgs false
set_option maxRecDepth 100000
theorem infoIntP : (Try.prog.info? 3).map (fun i => (i.zero, i.size, i.bytes)) = some (some (.int .i64 0), 1, 8) := by kernel_rfl
theorem own_emptyP (w : World) (t : TypeId) (z : Nat) : (w.alloc (.cells #[] t)).ownsRow w.heap.size t z (.slice (some ⟨w.heap.size, 0, none⟩) 0 0) 0 [] := by
  refine ⟨by simp, .inr ⟨w.heap.size, 0, #[], rfl, Nat.le_refl _, heap_alloc_new w _, Nat.le_refl _, by simp [maxLen], by simp, by simp⟩⟩
theorem Ck.nows {c c' : Ck} {x n E : Int} (h : c.enter x = (n, E, c')) : c'.now = c.now := by
  unfold Ck.enter at h
  split at h
  · injection h with _ h
    injection h with _ h
    rw [← h]
  · split at h
    · injection h with _ h
      injection h with _ h
      rw [← h]
    · injection h with _ h
      injection h with _ h
      rw [← h]
theorem Ck.nowsL {c c' : Ck} {ws : List Int} {E : Int} (h : c.leave ws = (E, c')) : c'.now = c.now := by
  unfold Ck.leave at h
  split at h
  · injection h with _ h
    rw [← h]
  · split at h
    · injection h with _ h
      rw [← h]
    · injection h with _ h
      rw [← h]
theorem epochPlays_no (n : Int) (sv : Value) (w : World) (h : n < 1 ∨ 4 < n) :
    Calls Try.prog 3 #[.int .i64 n, sv] w fun e w' => e = .returned (.bool true) ∧ Below w.heap.size w w' := by
  rcases h with h | h
  · go_enter Try.func3, Try.ntmps3
    go_wp2_with (first
      | (go_at_call 7; go_must (refine (awake17_any w).mono ?_); rintro e w1 ⟨rfl, hb1⟩)
      | (go_at_call 8; go_must (refine (lnew_no n (.inl h) _).mono ?_); rintro e w2 ⟨rfl, rfl⟩))
    go_ret
    exact ⟨rfl, hb1⟩
  · have h1 : ¬ n < 1 := by omega
    go_enter Try.func3, Try.ntmps3
    go_wp2_with (first
      | (go_at_call 7; go_must (refine (awake17_any w).mono ?_); rintro e w1 ⟨rfl, hb1⟩)
      | (go_at_call 8; go_must (refine (lnew_no n (.inr h) _).mono ?_); rintro e w2 ⟨rfl, rfl⟩))
    go_ret
    exact ⟨rfl, hb1⟩
set_option maxHeartbeats 25600000 in
theorem epochPlays_ok (n : Nat) (h1 : 1 ≤ n) (h2 : n ≤ 4) (sv : Value) (is : List Ow) (w : World) (hs : Scr w sv is) (hlen : is.length * 40 ≤ 140737488351232) (hsz : ∀ x ∈ is, x.ws.length * 8 ≤ 140737488351232) :
    Calls Try.prog 3 #[.int .i64 n, sv] w fun e w' => e = .returned (.bool true) ∧ Below w.heap.size w w' := by
  have HSC := keepG hs
  have HSZ := keepG hsz
  obtain ⟨a, c, rfl, hc, hm, _, _⟩ := hs.sees
  have hm' : c ≤ 9223372036854775807 := by unfold maxLen at hm; omega
  obtain ⟨i0, hi0, hz0, hzs, hzb⟩ := info_parts infoIntP
  have hnI : ¬ (n : Int) < 1 := by omega
  have hnI4 : ¬ (4 : Int) < n := by omega
  clear hs hm hsz
  go_enter Try.func3, Try.ntmps3
  go_wp2_with (first
    | (go_at_call 7; go_must (refine (awake17_any w).mono ?_); rintro e w1 ⟨rfl, hb1⟩)
    | (go_at_call 8; go_must (refine (lnew_ok n h1 h2 w1).mono ?_); rintro e w2 ⟨rfl, hE, hS, hb⟩; go_must (have HC0 : Hid (Cl w w2 (w1.heap.size + 1) w1.heap.size (Ck.new n)) := ⟨hE, Ck.Ok.new h1 h2, fun k hk => Nat.le_trans hb1.size (hS k hk), hb1.trans (hb.mono hb1.size)⟩; clear hE hS hb)))
  have HCC : Hid (∃ b g, b = w1.heap.size + 1 ∧ g = w1.heap.size) := ⟨_, _, rfl, rfl⟩
  obtain ⟨b, g, hbb, hgg⟩ := HCC.out
  rw [← hbb, ← hgg] at HC0
  rw [← hbb]
  clear hbb hgg hb1
  obtain ⟨W3, HW3, HP3⟩ : ∃ W3, Hid (w2.alloc (.cells #[.int .i64 n, .slice none 0 0] 31) = W3) ∧ Hid (Pe w W3 b g w2.heap.size (Ck.new n) (Ck.new n) 0) := by
    refine ⟨_, rfl, HC0.out.below (below_allocG _ _), HC0.out.ok, w2.heap.size, bkS w2.heap.size (.slice none 0 0), by simp, ⟨.slice none 0 0, [], ⟨?_, World.ownsRow_nil _ _ _ _, Rel.new n⟩, by simp, rfl⟩, fun k hk => ?_⟩
    · have := Hp.new w2 [.int .i64 n, .slice none 0 0] 31
      simp only [Ck.new, List.length_replicate]
      exact this
    · rcases hk with e | e
      · rw [e]; exact HC0.out.be.size
      · cases e
  obtain ⟨d, HDd⟩ : ∃ d, Hid (w2.heap.size = d) := ⟨_, rfl⟩
  rw [HDd.out] at HP3
  go_wp2_with (rw [HW3.out])
  rw [HDd.out]
  go_loopw [8] (fun i wr => ∃ j : Nat, j ≤ is.length ∧ j ≤ 200 ∧ i = .int .i64 j ∧ ∃ ck, Hid (Pe w wr b g d ck ck (4 * j) ∧ ck.now ≤ j + 1)) (fun i _ => is.length - (intOf i).toNat)
  case atStart => exact ⟨0, by omega, by omega, rfl, Ck.new n, HP3.out, by simp [Ck.new]⟩
  case round =>
    obtain ⟨j, hj, hj2, rfl, ck, HM⟩ := hrel
    rename World => wr
    by_cases hlt : j < is.length
    · have hltI : (j : Int) < is.length := by omega
      by_cases hj3 : j < 200
      · have hj3I : (j : Int) < 200 := by omega
        obtain ⟨o, HO⟩ : ∃ o, Hid (is.getD j Ow.nil = o) := ⟨_, rfl⟩
        have hsz := HSZ.out _ (getD_memW is j hlt)
        rw [HO.out] at hsz
        obtain ⟨p, off, cap, ev, _, _, d0, d1, d2, hsu, hlu, _⟩ := HSC.out.at HM.out.1.cl.be hlt HO.out
        simp only [Value.slice.injEq, true_and] at ev
        obtain ⟨rfl, rfl⟩ := ev
        obtain ⟨X, HX, hbX, HPX⟩ := op_box17 wr o
        have HPe := keepG (HM.out.1.below hbX)
        have HN0 := keepG HM.out.2
        obtain ⟨ok, ox, ou, ow⟩ := o
        simp only at d0 d1 d2 HX hsu hlu hsz
        obtain ⟨oa, oc, ev⟩ := hsu.shape
        subst ev
        have HSU := keepG (hsu.below hbX (Nat.le_refl _))
        have HLU := keepG hlu
        have o0 := HPX.out.cell (j := 0) rfl
        have o1 := HPX.out.cell (j := 1) rfl
        have o2 := HPX.out.cell (j := 2) rfl
        simp only at o0 o1 o2
        have hm4 : 4 * j ≤ 10000 := by omega
        have hm5 : 4 * j + 4 ≤ 10000 := by omega
        clear HM hsu hlu
        by_cases hk0 : ok = 0
        · subst hk0
          obtain ⟨m6, E, c6, HQ⟩ : ∃ m6 E c6, Hid (ck.enter ox = (m6, E, c6)) := ⟨_, _, _, rfl⟩
          have SHN : Hid (c6.now ≤ 1000000000000000000) := by show _ ≤ _; rw [Ck.nows HQ.out]; have := HN0.out; omega
          go_wp2_with (first
            | (rw [HX.out])
            | (go_at_call 9; go_must (refine (HPe.out.enter ox HQ).mono ?_); rintro e w6 ⟨rfl, hp6, hx6⟩; go_must (have HP6 := keepG hp6; have o1 := (hx6 _ _ HPX.out).cell (j := 1) rfl; simp only at o1; clear hp6 hx6))
            | (go_at_call 10; go_must (refine (HP6.out.enterD hm4 ox HQ).mono ?_); rintro e w7 ⟨rfl, hp7, hx7⟩; go_must (have HP7 := keepG hp7; clear hp7 hx7))
            | (go_at_call 17; go_must (refine (shows17 HP7.out hm5 SHN.out).mono ?_); rintro e w9 ⟨rfl, hb9⟩; go_must (have HP9 := keepG (HP7.out.below hb9); clear hb9)))
          go_roundw
          case rel => exact ⟨j + 1, by omega, by omega, by go_num, c6, (by have := HP9.out; first | exact this | (rw [show 4 * (j + 1) = 4 * j + 4 by omega]; exact this) | exact ⟨this.cl, this.ok, (by obtain ⟨B, F, g1, g2, g3⟩ := this.ex; exact ⟨B, F, g1, g2.mono (by omega), g3⟩)⟩), by rw [Ck.nows HQ.out]; have := HN0.out; omega⟩
          case measure => simp [intOf]; omega
        · by_cases hk1 : ok = 1
          · subst hk1
            obtain ⟨E, c6, HQ⟩ : ∃ E c6, Hid (ck.leave ow = (E, c6)) := ⟨_, _, rfl⟩
            have SHN : Hid (c6.now ≤ 1000000000000000000) := by show _ ≤ _; rw [Ck.nowsL HQ.out]; have := HN0.out; omega
            obtain ⟨Z, HZ, hbZ, HOZ⟩ : ∃ Z, Hid (X.alloc (.cells #[] 3) = Z) ∧ Below X.heap.size X Z ∧ Hid (Z.ownsRow X.heap.size 3 1 (.slice (some ⟨X.heap.size, 0, none⟩) 0 0) 0 []) := ⟨_, rfl, below_allocG _ _, own_emptyP X _ _⟩
            have HPZ := keepG ((HPe.out.below hbZ).drewN 1)
            have HXZ := keepG (HPX.out.below hbZ HPX.out.lt)
            have HSZ2 := keepG (HSU.out.below hbZ (Nat.le_refl _))
            go_wp2_with (rw [HX.out])
            refine wp_region_held_drew (S := fun w' => w'.cell? ⟨wr.heap.size, 2, none⟩ = some (.slice oa ow.length oc)) (by kernel_rfl) o2 (fun hHeld => ?_)
            refine tkGo [0, 2, 3, 6, 7, 8] ?_
            repeat (refine tkOne (v := ?_) rfl (by kernel_rfl) (by kernel_rfl) (by kernel_rfl) (fun _ _ _ h => h) (by assumption) (by rfl) ?_ ?_; rotate_left; (intro wy hSw; (try dsimp only at hSw); go_simp; (first | done | with_reducible rfl)); try simp only [Act.put, List.getElem_toArray, List.getElem_cons_zero, List.getElem_cons_succ, List.setIfInBounds_toArray, List.set_cons_zero, List.set_cons_succ])
            refine tkEnd ?_
            refine wpAnyH_ready (rs := [1]) (by kernel_rfl) (by simp) ?_
            refine AllReadyH.cons rfl (fun KK hK => ?_) AllReadyH.nil
            rw [if_pos (by rfl)]
            go_simp
            rw [HZ.out]
            refine hK.out _ _ (HXZ.out.cell (j := 2) rfl) (fun hHeld => ?_)
            clear hK KK
            try simp only [Act.put, List.getElem_toArray, List.getElem_cons_zero, List.getElem_cons_succ, List.setIfInBounds_toArray, List.set_cons_zero, List.set_cons_succ]
            refine wpAnyH_ready (rs := [4]) (by kernel_rfl) (by simp) ?_
            refine AllReadyH.cons rfl (fun KK hK => ?_) AllReadyH.nil
            rw [if_pos (by rfl)]
            refine wp_append_sees (.tmp 86) (.tmp 88) 32 rfl X.heap.size 3 i0 _ 8 Try.underlying32 hi0 hz0 hzs hzb rfl .i64 (.slice (some ⟨X.heap.size, 0, none⟩) 0 0) [] rfl HOZ.out (.slice oa ow.length oc) ow rfl (HSZ2.out.drewN 1) (by unfold maxLen; simp; omega) (by simp; omega) hbZ.size ?_
            intro v4 w4 hown4 hgr4
            rw [List.nil_append] at hown4
            have hb4 : Below X.heap.size Z.drew w4 := (Below.refl _ _).grown hgr4 hbZ.size (fun k hk => by have : X.heap.size = k := Option.some.inj hk; omega)
            have hb4X : Below X.heap.size X w4 := (below_drG hbZ).trans hb4
            have HP4 := keepG (HPe.out.below hb4X)
            have HX4 := keepG (HPX.out.below hb4X HPX.out.lt)
            have HS4 := keepG (Sees.own hown4 HSU.out.wf)
            have HO4 := keepG hown4
            have HU4 := keepG (HSU.out.below hb4X (Nat.le_refl _))
            obtain ⟨va4, vc4, ev4⟩ := own_shape hown4
            subst ev4
            refine hK.out _ _ (HX4.out.cell (j := 2) rfl) (fun hHeld => ?_)
            clear hK KK hown4 hgr4 hb4
            try simp only [Act.put, List.getElem_toArray, List.getElem_cons_zero, List.getElem_cons_succ, List.setIfInBounds_toArray, List.set_cons_zero, List.set_cons_succ]
            refine wpAnyH_ready (rs := [5]) (by kernel_rfl) (by simp) ?_
            refine AllReadyH.cons rfl (fun KK hK => ?_) AllReadyH.nil
            rw [if_pos (by rfl)]
            go_simp
            go_at_call 11
            refine (HP4.out.leave HS4.out (fun _ k hk e => by have h5 := HPe.out.cl.ec.lies k hk; have h6 := (HO4.out.lt k e).1; omega) HQ).mono ?_
            rintro e w6 ⟨rfl, hp6, hx6⟩
            have HP6 := keepG hp6
            have HX6 := keepG (hx6 _ _ HX4.out)
            have HU6 := keepG ((HSC.out.at HP6.out.cl.be hlt HO.out))
            clear hp6 hx6
            go_simp
            refine hK.out _ _ (HX6.out.cell (j := 2) rfl) (fun hHeld => ?_)
            clear hK KK
            try simp only [Act.put, List.getElem_toArray, List.getElem_cons_zero, List.getElem_cons_succ, List.setIfInBounds_toArray, List.set_cons_zero, List.set_cons_succ]
            refine wpAnyH_ready (rs := [9]) (by kernel_rfl) (by simp) ?_
            refine AllReadyH.cons rfl (fun KK hK => ?_) AllReadyH.nil
            rw [if_pos (by rfl)]
            go_simp
            go_at_call 12
            obtain ⟨_, _, _, _, _, _, _, _, _, hU6, hL6, _⟩ := HU6.out
            refine (HP6.out.leaveD hm4 hU6 hL6 HQ).mono ?_
            rintro e w7 ⟨rfl, hp7, hx7⟩
            have HP7 := keepG hp7
            have HX7 := keepG (hx7 _ _ HX6.out)
            clear hp7 hx7 hU6 hL6
            go_simp
            refine hK.out _ _ (HX7.out.cell (j := 2) rfl) (fun hHeld => ?_)
            clear hK KK
            try simp only [Act.put, List.getElem_toArray, List.getElem_cons_zero, List.getElem_cons_succ, List.setIfInBounds_toArray, List.set_cons_zero, List.set_cons_succ]
            refine tkGo [10, 11] ?_
            repeat (refine tkOne (v := ?_) rfl (by kernel_rfl) (by kernel_rfl) (by kernel_rfl) (fun _ _ _ h => h) (by assumption) (by rfl) ?_ ?_; rotate_left; (intro wy hSw; (try dsimp only at hSw); go_simp; (first | done | with_reducible rfl)); try simp only [Act.put, List.getElem_toArray, List.getElem_cons_zero, List.getElem_cons_succ, List.setIfInBounds_toArray, List.set_cons_zero, List.set_cons_succ])
            refine tkEnd ?_
            refine wpAnyH_done (by kernel_rfl) ?_ _
            clear hHeld
            go_wp2_with (go_at_call 17; go_must (refine (shows17 HP7.out hm5 SHN.out).mono ?_); rintro e w9 ⟨rfl, hb9⟩; go_must (have HP9 := keepG (HP7.out.below hb9); clear hb9))
            go_roundw
            case rel => exact ⟨j + 1, by omega, by omega, by go_num, c6, (by have := HP9.out; first | exact this | (rw [show 4 * (j + 1) = 4 * j + 4 by omega]; exact this) | exact ⟨this.cl, this.ok, (by obtain ⟨B, F, g1, g2, g3⟩ := this.ex; exact ⟨B, F, g1, g2.mono (by omega), g3⟩)⟩), by rw [Ck.nowsL HQ.out]; have := HN0.out; omega⟩
            case measure => simp [intOf]; omega
          · by_cases hk2 : ok = 2
            · subst hk2
              obtain ⟨c6, HD⟩ : ∃ c6, Hid (ck.go = c6) := ⟨_, rfl⟩
              have HNC : Hid (c6.now = ck.now + 1) := by rw [← HD.out]; rfl
              have SHN : Hid (c6.now ≤ 1000000000000000000) := by show _ ≤ _; rw [HNC.out]; have := HN0.out; omega
              go_wp2_with (first
                | (rw [HX.out])
                | (go_at_call 13; go_must (refine (HPe.out.advance (by have := HN0.out; omega) HD).mono ?_); rintro e w6 ⟨rfl, hp6, hx6⟩; go_must (have HP6 := keepG hp6; clear hp6 hx6))
                | (go_at_call 14; go_must (refine (HP6.out.advanceD hm4 HD).mono ?_); rintro e w7 ⟨rfl, hp7, hx7⟩; go_must (have HP7 := keepG hp7; clear hp7 hx7))
                | (go_at_call 17; go_must (refine (shows17 HP7.out hm5 SHN.out).mono ?_); rintro e w9 ⟨rfl, hb9⟩; go_must (have HP9 := keepG (HP7.out.below hb9); clear hb9)))
              go_roundw
              case rel => exact ⟨j + 1, by omega, by omega, by go_num, c6, (by have := HP9.out; first | exact this | (rw [show 4 * (j + 1) = 4 * j + 4 by omega]; exact this) | exact ⟨this.cl, this.ok, (by obtain ⟨B, F, g1, g2, g3⟩ := this.ex; exact ⟨B, F, g1, g2.mono (by omega), g3⟩)⟩), by rw [HNC.out]; have := HN0.out; omega⟩
              case measure => simp [intOf]; omega
            · by_cases hk3 : ok = 3
              · subst hk3
                obtain ⟨s1, HS1⟩ : ∃ s1, Hid (ck.safe ox = s1) := ⟨_, rfl⟩
                have SHN : Hid (ck.now ≤ 1000000000000000000) := by show _ ≤ _; have := HN0.out; omega
                have HPd := keepG (HPe.out.drewN 1)
                go_wp2_with (rw [HX.out])
                refine wp_region_held_drew (S := fun w' => w'.cell? ⟨wr.heap.size, 1, none⟩ = some (.int .i64 ox)) (by kernel_rfl) o1 (fun hHeld => ?_)
                refine tkGo [0, 1, 2, 4, 5, 6] ?_
                repeat (refine tkOne (v := ?_) rfl (by kernel_rfl) (by kernel_rfl) (by kernel_rfl) (fun _ _ _ h => h) (by assumption) (by rfl) ?_ ?_; rotate_left; (intro wy hSw; (try dsimp only at hSw); go_simp; (first | done | with_reducible rfl)); try simp only [Act.put, List.getElem_toArray, List.getElem_cons_zero, List.getElem_cons_succ, List.setIfInBounds_toArray, List.set_cons_zero, List.set_cons_succ])
                refine tkEnd ?_
                refine wpAnyH_ready (rs := [3]) (by kernel_rfl) (by simp) ?_
                refine AllReadyH.cons rfl (fun KK hK => ?_) AllReadyH.nil
                rw [if_pos (by rfl)]
                go_simp
                go_at_call 15
                refine (lsafe HPd.out.cl.ec HPe.out.cl.ok.len.2 ox HS1).mono ?_
                rintro e w6 ⟨rfl, rfl⟩
                go_simp
                refine hK.out _ _ o1 (fun hHeld => ?_)
                clear hK KK
                try simp only [Act.put, List.getElem_toArray, List.getElem_cons_zero, List.getElem_cons_succ, List.setIfInBounds_toArray, List.set_cons_zero, List.set_cons_succ]
                refine wpAnyH_ready (rs := [7]) (by kernel_rfl) (by simp) ?_
                refine AllReadyH.cons rfl (fun KK hK => ?_) AllReadyH.nil
                rw [if_pos (by rfl)]
                go_simp
                go_at_call 16
                refine (HPd.out.safeD hm4 ox HS1).mono ?_
                rintro e w7 ⟨rfl, hb7⟩
                have HP7 := keepG (HPd.out.below hb7)
                have HX7 := keepG (Hp.below (w := X.drewN 1) HPX.out hb7 HPX.out.lt)
                clear hb7
                go_simp
                refine hK.out _ _ (HX7.out.cell (j := 1) rfl) (fun hHeld => ?_)
                clear hK KK
                try simp only [Act.put, List.getElem_toArray, List.getElem_cons_zero, List.getElem_cons_succ, List.setIfInBounds_toArray, List.set_cons_zero, List.set_cons_succ]
                refine tkGo [8, 9] ?_
                repeat (refine tkOne (v := ?_) rfl (by kernel_rfl) (by kernel_rfl) (by kernel_rfl) (fun _ _ _ h => h) (by assumption) (by rfl) ?_ ?_; rotate_left; (intro wy hSw; (try dsimp only at hSw); go_simp; (first | done | with_reducible rfl)); try simp only [Act.put, List.getElem_toArray, List.getElem_cons_zero, List.getElem_cons_succ, List.setIfInBounds_toArray, List.set_cons_zero, List.set_cons_succ])
                refine tkEnd ?_
                refine wpAnyH_done (by kernel_rfl) ?_ _
                clear hHeld
                go_wp2_with (go_at_call 17; go_must (refine (shows17 HP7.out hm4 SHN.out).mono ?_); rintro e w9 ⟨rfl, hb9⟩; go_must (have HP9 := keepG (HP7.out.below hb9); clear hb9))
                go_roundw
                case rel => exact ⟨j + 1, by omega, by omega, by go_num, ck, (by have := HP9.out; first | exact this | (rw [show 4 * (j + 1) = 4 * j + 4 by omega]; exact this) | exact ⟨this.cl, this.ok, (by obtain ⟨B, F, g1, g2, g3⟩ := this.ex; exact ⟨B, F, g1, g2.mono (by omega), g3⟩)⟩), by have := HN0.out; omega⟩
                case measure => simp [intOf]; omega
              · have hb0 : (ok == 0) = false := by simpa using hk0
                have hb1 : (ok == 1) = false := by simpa using hk1
                have hb2 : (ok == 2) = false := by simpa using hk2
                have hb3 : (ok == 3) = false := by simpa using hk3
                have SHN : Hid (ck.now ≤ 1000000000000000000) := by show _ ≤ _; have := HN0.out; omega
                go_wp2_with (first
                  | (rw [HX.out])
                  | (go_at_call 17; go_must (refine (shows17 HPe.out hm4 SHN.out).mono ?_); rintro e w9 ⟨rfl, hb9⟩; go_must (have HP9 := keepG (HPe.out.below hb9); clear hb9)))
                go_roundw
                case rel => exact ⟨j + 1, by omega, by omega, by go_num, ck, (by have := HP9.out; first | exact this | (rw [show 4 * (j + 1) = 4 * j + 4 by omega]; exact this) | exact ⟨this.cl, this.ok, (by obtain ⟨B, F, g1, g2, g3⟩ := this.ex; exact ⟨B, F, g1, g2.mono (by omega), g3⟩)⟩), by have := HN0.out; omega⟩
                case measure => simp [intOf]; omega
      · have hj3I : ¬ (j : Int) < 200 := by omega
        have HBE := keepG HM.out.1.cl.be
        go_wp2
        go_ret
        exact ⟨rfl, HBE.out⟩
    · have hltI : ¬ (j : Int) < is.length := by omega
      have HBE := keepG HM.out.1.cl.be
      go_wp2
      go_ret
      exact ⟨rfl, HBE.out⟩
/-- EpochPlays. -/
theorem epochPlays_walk (n : Int) (sv : Value) (is : List Ow) (w : World) {P0 : Prop} (_ : P0) (hs : Scr w sv is) (hlen : is.length * 40 ≤ 140737488351232 ∧ ∀ x ∈ is, x.ws.length * 8 ≤ 140737488351232) :
    Calls Try.prog 3 #[.int .i64 n, sv] w fun e w' => e = .returned (.bool true) ∧ Below w.heap.size w w' := by
  by_cases h : n < 1 ∨ 4 < n
  · exact epochPlays_no n sv w h
  · obtain ⟨m, rfl⟩ : ∃ m : Nat, n = m := ⟨n.toNat, by omega⟩
    exact epochPlays_ok m (by omega) (by omega) sv is w hs hlen.1 hlen.2
end Go.Proofs.Ytkcbiiiakkpegaa
