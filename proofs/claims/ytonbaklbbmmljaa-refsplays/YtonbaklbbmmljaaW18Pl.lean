
/-
  RefsPlays, walked. Condition: none but the arguments' reading.
-/
import Derived.Test.YtonbaklbbmmljaaTk
import Derived.Test.YtonbaklbbmmljaaW18Pt
import Derived.Deep.DeepCutAuto
import Derived.Deep.CutBlock
namespace Go.Proofs.Ytonbaklbbmmljaa
open Go.RowKit
set_option linter.unusedVariables false
set_option linter.unusedSimpArgs false
set_option maxRecDepth 100000
theorem refsPlays_no (n : Int) (sv : Value) (w : World) (h : n < 0 ∨ 4 < n) :
    Calls Try.prog 3 #[.int .i64 n, sv] w fun e w' => e = .returned (.bool true) ∧ Below w.heap.size w w' := by
  rcases h with h | h
  · go_enter Try.func3, Try.ntmps3
    go_wp2_with (first
      | (go_at_call 6; go_must (refine (awake18_any w).mono ?_); rintro e w1 ⟨rfl, hb1⟩)
      | (go_at_call 7; go_must (refine (lqnew_no n (.inl h) _).mono ?_); rintro e w2 ⟨rfl, rfl⟩))
    go_ret
    exact ⟨rfl, hb1⟩
  · have h1 : ¬ n < 0 := by omega
    go_enter Try.func3, Try.ntmps3
    go_wp2_with (first
      | (go_at_call 6; go_must (refine (awake18_any w).mono ?_); rintro e w1 ⟨rfl, hb1⟩)
      | (go_at_call 7; go_must (refine (lqnew_no n (.inr h) _).mono ?_); rintro e w2 ⟨rfl, rfl⟩))
    go_ret
    exact ⟨rfl, hb1⟩
set_option maxHeartbeats 25600000 in
theorem refsPlays_ok (n : Nat) (h4 : n ≤ 4) (sv : Value) (is : List Ow) (w : World) (hs : Scr w sv is) (hlen : is.length * 40 ≤ 140737488351232) (hsz : ∀ x ∈ is, x.ws.length * 8 ≤ 140737488351232) :
    Calls Try.prog 3 #[.int .i64 n, sv] w fun e w' => e = .returned (.bool true) ∧ Below w.heap.size w w' := by
  have HSC := keepG hs
  have HSZ := keepG hsz
  obtain ⟨a, c, rfl, hc, hm, _, _⟩ := hs.sees
  have hm' : c ≤ 9223372036854775807 := by unfold maxLen at hm; omega
  obtain ⟨i0, hi0, hz0, hzs, hzb⟩ := info_parts infoIntM
  have hnI : ¬ (n : Int) < 0 := by omega
  have hnI4 : ¬ (4 : Int) < n := by omega
  clear hs hm hsz
  go_enter Try.func3, Try.ntmps3
  go_wp2_with (first
    | (go_at_call 6; go_must (refine (awake18_any w).mono ?_); rintro e w1 ⟨rfl, hb1⟩)
    | (go_at_call 7; go_must (refine (lznew_ok n h4 hb1).mono ?_); rintro e w2 ⟨b, F0, rfl, hL, _, _⟩; go_must (have HL0 := keepG hL; clear hL; obtain ⟨W3, HW3, HB3, HD3⟩ : ∃ W3, Hid (w2.alloc (.cells #[.int .i64 n, .slice none 0 0] 31) = W3) ∧ Hid (Below w2.heap.size w2 W3) ∧ Hid (Dq W3 w2.heap.size w2.heap.size (ftD w2.heap.size (.slice none 0 0) []) n [] 0) := ⟨_, rfl, below_allocG _ _, ⟨.slice none 0 0, [], ⟨Hp.new w2 [.int .i64 n, .slice none 0 0] _, World.ownsRow_nil _ _ _ _, (fun x hx => by cases hx), (fun k _ e => by { obtain ⟨x, hx, _⟩ := e; cases hx })⟩, List.Perm.refl _, by simp, rfl⟩⟩))
    | (rw [HW3.out]))
  have HAP0 : Hid (Apt F0 (ftD w2.heap.size (.slice none 0 0) []) ∧ Since w (ftD w2.heap.size (.slice none 0 0) [])) := by
    constructor
    · intro k hk e
      have h5 := HL0.out.lies k hk
      rcases e with (e | e) | ⟨x, hx, _⟩
      · omega
      · cases e
      · cases hx
    · intro k e
      have h5 := HL0.out.be.size
      rcases e with (e | e) | ⟨x, hx, _⟩
      · omega
      · cases e
      · cases hx
  obtain ⟨d, HDd⟩ : ∃ d, Hid (w2.heap.size = d) := ⟨_, rfl⟩
  obtain ⟨G0, HG0⟩ : ∃ G0, Hid (ftD w2.heap.size (.slice none 0 0) [] = G0) := ⟨_, rfl⟩
  rw [HG0.out] at HAP0 HD3
  rw [HDd.out]
  have HD3' : Hid (∃ B, B ≤ W3.heap.size ∧ Dq W3 B d G0 n [] 0) := ⟨_, HB3.out.size, by rw [← HDd.out]; exact HD3.out⟩
  go_loopw [8] (fun i wr => ∃ j : Nat, j ≤ is.length ∧ j ≤ 300 ∧ i = .int .i64 j ∧ ∃ F G P, Hid (Lz w wr b F n P (2 * j) ∧ (∃ B, B ≤ wr.heap.size ∧ Dq wr B d G n P (2 * j)) ∧ Since w G ∧ Apt F G)) (fun i _ => is.length - (intOf i).toNat)
  case atStart => exact ⟨0, by omega, by omega, rfl, F0, G0, [], HL0.out.below HB3.out, HD3'.out, HAP0.out.2, HAP0.out.1⟩
  case round =>
    obtain ⟨j, hj, hj2, rfl, F, G, P, HM⟩ := hrel
    rename World => wr
    by_cases hlt : j < is.length
    · have hltI : (j : Int) < is.length := by omega
      by_cases hj3 : j < 300
      · have hj3I : (j : Int) < 300 := by omega
        obtain ⟨o, HO⟩ : ∃ o, Hid (is.getD j Ow.nil = o) := ⟨_, rfl⟩
        have hsz := HSZ.out _ (getD_memW is j hlt)
        rw [HO.out] at hsz
        obtain ⟨p, off, cap, ev, _, _, d0, d1, d2, hsu, hlu, hwf⟩ := HSC.out.at HM.out.1.be hlt HO.out
        have HAT := keepG (fun (wx : World) (hb : Below w.heap.size w wx) => HSC.out.at hb hlt HO.out)
        simp only [Value.slice.injEq, true_and] at ev
        obtain ⟨rfl, rfl⟩ := ev
        obtain ⟨X, HX, hbX, HPX⟩ := op_box18 wr o
        have HSU0 := keepG (hsu.below hbX (Nat.le_refl _))
        obtain ⟨bx, HBX⟩ : ∃ bx, Hid (o = bx) := ⟨_, rfl⟩
        rw [HBX.out] at HPX
        have hbx := HBX.out
        obtain ⟨ok, ox, ou, ow⟩ := o
        simp only at d0 d1 d2 HX hsu hlu hsz hwf HSU0
        obtain ⟨oa, oc, ev⟩ := hsu.shape
        subst ev
        have HLU := keepG hlu
        have HWF := keepG hwf
        have HZW : Hid (ow.length * 8 ≤ 140737488355328) := Nat.le_trans hsz (by decide)
        have HBC : Hid (∀ wx : World, Hp wx wr.heap.size 34 (owC bx) → wx.cell? ⟨wr.heap.size, 0, none⟩ = some (.int .i64 ok) ∧ wx.cell? ⟨wr.heap.size, 1, none⟩ = some (.int .i64 ox) ∧ wx.cell? ⟨wr.heap.size, 2, none⟩ = some (.slice oa ow.length oc)) := by
          intro wx hx
          rw [← hbx] at hx
          exact ⟨hx.cell (j := 0) rfl, hx.cell (j := 1) rfl, hx.cell (j := 2) rfl⟩
        have HSA : Hid (∀ wx : World, Below w.heap.size w wx → Sees .i64 wx (.slice oa ow.length oc) ow) := by
          intro wx hb
          obtain ⟨_, _, _, _, _, _, _, _, _, e3, _⟩ := HAT.out wx hb
          exact e3
        have hmj : 2 * j ≤ 600 := by omega
        clear hsu hlu hwf HAT hbx
        obtain ⟨Z, HZ, hbZ, HOZ⟩ : ∃ Z, Hid (X.alloc (.cells #[] 3) = Z) ∧ Below X.heap.size X Z ∧ Hid (Z.ownsRow X.heap.size 3 1 (.slice (some ⟨X.heap.size, 0, none⟩) 0 0) ([] : List Int).length (([] : List Int).map (Value.int .i64))) := ⟨_, rfl, below_allocG _ _, own_emptyM X _ _⟩
        have HSZ0 := keepG (HSU0.out.below hbZ (Nat.le_refl _))
        have hzZ := hbZ.size
        have c2X := ((HBC.out _ HPX.out).2.2)
        have hXl0 : wr.heap.size < X.heap.size := HPX.out.lt
        have hXn0 : ¬ wr.heap.size = X.heap.size := by omega
        have c2Z := ((HBC.out _ (HPX.out.below hbZ HPX.out.lt)).2.2)
        go_upto_block 2 with (first
          | (rw [HX.out])
          | (at_builtin; rw [HZ.out]; go_must (refine wpList_append_sees rfl _ _ 32 rfl X.heap.size 3 i0 _ 8 Try.underlying32 hi0 hz0 hzs hzb rfl .i64 (.slice (some ⟨X.heap.size, 0, none⟩) 0 0) [] rfl HOZ.out _ ow rfl HSZ0.out (by unfold maxLen; simp; omega) (by simp; omega) hzZ ?_); intro v8 w8 hown8 hgr8; go_must (rw [List.nil_append] at hown8; have hb8 : Below X.heap.size X w8 := hbZ.trans ((Below.refl _ _).grown hgr8 hzZ (fun k hk => by { have : X.heap.size = k := Option.some.inj hk; omega })); have HO8 := keepG hown8; have HB8 := keepG hb8; have c08 := (HBC.out _ (HPX.out.below hb8 HPX.out.lt)).1; clear hgr8 hb8; obtain ⟨v8a, v8c, rfl⟩ := own_shape hown8; clear hown8)))
        have HT8 : Hid (Pt w w8 b d wr.heap.size F G n P P (2 * j) bx (.slice v8a ow.length v8c) ow) := by
          obtain ⟨hm1, ⟨B, hm2, hm3⟩, hm4, hm5⟩ := HM.out
          have hXs := hbX.size
          have hXl := HPX.out.lt
          refine ⟨(hm1.below hbX).below HB8.out, ⟨B, by have := HB8.out.size; omega, (hm3.below hbX).below HB8.out⟩, hm1.ok, hm4, hm5, HPX.out.below HB8.out HPX.out.lt, own_lowG HO8.out (by have := hm1.be.size; omega), fun e => ?_, fun e => ?_, fun k e1 e2 => ?_, fun k e1 e2 => ?_⟩
          · have := hm1.lies _ e; omega
          · have := hm3.lies _ e; omega
          · have := hm1.lies _ e1; have := (HO8.out.lt k e2).1; omega
          · have := hm3.lies _ e1; have := (HO8.out.lt k e2).1; omega
        have HS8 : Hid (∀ wx : World, RoI wx w.heap.size (.slice v8a ow.length v8c) ow → Sees .i64 wx (.slice v8a ow.length v8c) ow) := fun wx hx => Sees.own hx (HSU0.out.wf)
        have q0 := (HBC.out _ HT8.out.box).1
        have q1 := (HBC.out _ HT8.out.box).2.1
        have q2 := (HBC.out _ HT8.out.box).2.2
        clear HM
        go_cut [10] (fun v10 wc => v10 = .slice v8a ow.length v8c ∧ ∃ F1 G1 P1, Hid (Pt w wc b d wr.heap.size F1 G1 n P1 P1 (2 * j + 2) bx (.slice v8a ow.length v8c) ow))
        case first => as_aux_lemma =>
          by_cases hk0 : ok = 0
          · subst hk0
            obtain ⟨E, P6, HQ⟩ : ∃ E P6, Hid (Rs.hold n P ox ow = (E, P6)) := ⟨_, _, rfl⟩
            have HTd := keepG (HT8.out.drewN 1)
            have hEE : (E != E) = false := by simp
            go_wp2
            refine wp_region_held_drew (S := fun w' => w'.cell? ⟨wr.heap.size, 1, none⟩ = some (.int .i64 ox) ∧ w'.cell? ⟨wr.heap.size, 2, none⟩ = some (.slice oa ow.length oc)) (by kernel_rfl) ⟨q1, q2⟩ (fun hHeld => ?_)
            refine tkGo [0, 1, 2, 3, 5, 6, 7, 8, 9] ?_
            repeat (refine tkOne (v := ?_) rfl (by kernel_rfl) (by kernel_rfl) (by kernel_rfl) (fun _ _ _ h => h) (by assumption) (by rfl) ?_ ?_; rotate_left; (intro wy hSw; (try dsimp only at hSw); go_simp; (first | done | with_reducible rfl)); try simp only [Act.put, List.getElem_toArray, List.getElem_cons_zero, List.getElem_cons_succ, List.setIfInBounds_toArray, List.set_cons_zero, List.set_cons_succ])
            refine tkEnd ?_
            refine wpAnyH_ready (rs := [4]) (by kernel_rfl) (by simp) ?_
            refine AllReadyH.cons rfl (fun KK hK => ?_) AllReadyH.nil
            rw [if_pos (by rfl)]
            go_simp
            go_at_call 8
            refine (HTd.out.holdL (by omega) ox (HS8.out _ HTd.out.ro) (fun _ => HTd.out.fi) HQ).mono ?_
            rintro e w10 ⟨rfl, F10, ht10⟩
            have HT10 := keepG ht10
            go_simp
            refine hK.out _ _ (HBC.out _ HT10.out.box).2 (fun hHeld => ?_)
            clear hK KK ht10
            try simp only [Act.put, List.getElem_toArray, List.getElem_cons_zero, List.getElem_cons_succ, List.setIfInBounds_toArray, List.set_cons_zero, List.set_cons_succ]
            refine wpAnyH_ready (rs := [10]) (by kernel_rfl) (by simp) ?_
            refine AllReadyH.cons rfl (fun KK hK => ?_) AllReadyH.nil
            rw [if_pos (by rfl)]
            go_simp
            go_at_call 9
            refine (HT10.out.holdD (by omega) ox (HSA.out _ HT10.out.la.be) HQ).mono ?_
            rintro e w11 ⟨rfl, G11, ht11⟩
            have HT11 := keepG ht11
            go_simp
            refine hK.out _ _ (HBC.out _ HT11.out.box).2 (fun hHeld => ?_)
            clear hK KK ht11
            try simp only [Act.put, List.getElem_toArray, List.getElem_cons_zero, List.getElem_cons_succ, List.setIfInBounds_toArray, List.set_cons_zero, List.set_cons_succ]
            refine tkGo [11] ?_
            repeat (refine tkOne (v := ?_) rfl (by kernel_rfl) (by kernel_rfl) (by kernel_rfl) (fun _ _ _ h => h) (by assumption) (by rfl) ?_ ?_; rotate_left; (intro wy hSw; (try dsimp only at hSw); go_simp; (first | done | with_reducible rfl)); try simp only [Act.put, List.getElem_toArray, List.getElem_cons_zero, List.getElem_cons_succ, List.setIfInBounds_toArray, List.set_cons_zero, List.set_cons_succ])
            refine tkEnd ?_
            refine wpAnyH_done (by kernel_rfl) ?_ _
            clear hHeld
            go_wp2
            go_meet
            case rel => exact ⟨rfl, F10, G11, P6, HT11.out⟩
          · by_cases hk2 : ok = 2
            · subst hk2
              obtain ⟨E, P6, HQ⟩ : ∃ E P6, Hid (Rs.drop P ow = (E, P6)) := ⟨_, _, rfl⟩
              have HTd := keepG (HT8.out.drewN 1)
              have hEE : (E != E) = false := by simp
              go_wp2
              refine wp_region_held_drew (S := fun w' => w'.cell? ⟨wr.heap.size, 2, none⟩ = some (.slice oa ow.length oc)) (by kernel_rfl) q2 (fun hHeld => ?_)
              refine tkGo [0, 1, 3, 4, 5] ?_
              repeat (refine tkOne (v := ?_) rfl (by kernel_rfl) (by kernel_rfl) (by kernel_rfl) (fun _ _ _ h => h) (by assumption) (by rfl) ?_ ?_; rotate_left; (intro wy hSw; (try dsimp only at hSw); go_simp; (first | done | with_reducible rfl)); try simp only [Act.put, List.getElem_toArray, List.getElem_cons_zero, List.getElem_cons_succ, List.setIfInBounds_toArray, List.set_cons_zero, List.set_cons_succ])
              refine tkEnd ?_
              refine wpAnyH_ready (rs := [2]) (by kernel_rfl) (by simp) ?_
              refine AllReadyH.cons rfl (fun KK hK => ?_) AllReadyH.nil
              rw [if_pos (by rfl)]
              go_simp
              go_at_call 10
              refine (HTd.out.dropL (by omega) (HS8.out _ HTd.out.ro) (fun _ => HTd.out.fi) HQ).mono ?_
              rintro e w10 ⟨rfl, F10, ht10, _⟩
              have HT10 := keepG ht10
              go_simp
              refine hK.out _ _ (HBC.out _ HT10.out.box).2.2 (fun hHeld => ?_)
              clear hK KK ht10
              try simp only [Act.put, List.getElem_toArray, List.getElem_cons_zero, List.getElem_cons_succ, List.setIfInBounds_toArray, List.set_cons_zero, List.set_cons_succ]
              refine wpAnyH_ready (rs := [6]) (by kernel_rfl) (by simp) ?_
              refine AllReadyH.cons rfl (fun KK hK => ?_) AllReadyH.nil
              rw [if_pos (by rfl)]
              go_simp
              go_at_call 11
              refine (HT10.out.dropD (by omega) (HSA.out _ HT10.out.la.be) (fun hne k hk e => by have h5 := HLU.out hne k e; have h6 := HT10.out.sg k hk; omega) HQ).mono ?_
              rintro e w11 ⟨rfl, G11, ht11⟩
              have HT11 := keepG ht11
              go_simp
              refine hK.out _ _ (HBC.out _ HT11.out.box).2.2 (fun hHeld => ?_)
              clear hK KK ht11
              try simp only [Act.put, List.getElem_toArray, List.getElem_cons_zero, List.getElem_cons_succ, List.setIfInBounds_toArray, List.set_cons_zero, List.set_cons_succ]
              refine tkGo [7] ?_
              repeat (refine tkOne (v := ?_) rfl (by kernel_rfl) (by kernel_rfl) (by kernel_rfl) (fun _ _ _ h => h) (by assumption) (by rfl) ?_ ?_; rotate_left; (intro wy hSw; (try dsimp only at hSw); go_simp; (first | done | with_reducible rfl)); try simp only [Act.put, List.getElem_toArray, List.getElem_cons_zero, List.getElem_cons_succ, List.setIfInBounds_toArray, List.set_cons_zero, List.set_cons_succ])
              refine tkEnd ?_
              refine wpAnyH_done (by kernel_rfl) ?_ _
              clear hHeld
              go_wp2
              go_meet
              case rel => exact ⟨rfl, F10, G11, P6, (by obtain ⟨z1, ⟨B, z2, z3⟩, z4, z5, z6, z7, z8, z9, z10, z11, z12⟩ := HT11.out; exact ⟨z1.mono (by omega), ⟨B, z2, z3.mono (by omega)⟩, z4, z5, z6, z7, z8, z9, z10, z11, z12⟩)⟩
            · have hkb0 : (ok == 0) = false := by simpa using hk0
              have hkb2 : (ok == 2) = false := by simpa using hk2
              obtain ⟨E, P6, HQ⟩ : ∃ E P6, Hid (Rs.drop P [ox] = (E, P6)) := ⟨_, _, rfl⟩
              have hEE : (E != E) = false := by simp
              obtain ⟨Y1, HY1, hbY1, HSY1⟩ := lit_one w8 ox HWF.out
              obtain ⟨Y2, HY2, hbY2, HSY2⟩ := lit_one Y1 ox HWF.out
              have HTY1 := keepG ((HT8.out.below hbY1).drewN 1)
              have HTY2 := keepG (((HT8.out.below hbY1).below hbY2).drewN 1)
              have hzY1 : w8.heap.size < Y1.heap.size := by rw [← HY1.out]; simp
              go_wp2
              refine wp_region_held_drew (S := fun w' => w'.cell? ⟨wr.heap.size, 1, none⟩ = some (.int .i64 ox)) (by kernel_rfl) q1 (fun hHeld => ?_)
              refine tkGo [0, 1, 2, 5, 6, 7] ?_
              repeat (refine tkOne (v := ?_) rfl (by kernel_rfl) (by kernel_rfl) (by kernel_rfl) (fun _ _ _ h => h) (by assumption) (by rfl) ?_ ?_; rotate_left; (intro wy hSw; (try dsimp only at hSw); go_simp; (first | done | with_reducible rfl)); try simp only [Act.put, List.getElem_toArray, List.getElem_cons_zero, List.getElem_cons_succ, List.setIfInBounds_toArray, List.set_cons_zero, List.set_cons_succ])
              refine tkEnd ?_
              refine wpAnyH_ready (rs := [3, 8]) (by kernel_rfl) (by simp) ?_
              refine AllReadyH.cons rfl (fun KK hK => ?_) (AllReadyH.cons rfl (fun KK hK => ?_) AllReadyH.nil) <;> rw [if_pos (by rfl)]
              · go_simp
                rw [HY1.out]
                refine hK.out _ _ (HBC.out _ HTY1.out.box).2.1 (fun hHeld => ?_)
                clear hK KK
                try simp only [Act.put, List.getElem_toArray, List.getElem_cons_zero, List.getElem_cons_succ, List.setIfInBounds_toArray, List.set_cons_zero, List.set_cons_succ]
                refine wpAnyH_ready (rs := [4, 8]) (by kernel_rfl) (by simp) ?_
                refine AllReadyH.cons rfl (fun KK hK => ?_) (AllReadyH.cons rfl (fun KK hK => ?_) AllReadyH.nil) <;> rw [if_pos (by rfl)]
                · go_simp
                  go_at_call 10
                  refine (HTY1.out.dropL (by omega) (HSY1.out.drewN 1) (fun _ k hk e => by have h5 := HT8.out.la.lies k hk; have h6 := ft_lit e; omega) HQ).mono ?_
                  rintro e w10 ⟨rfl, F10, ht10, hn10⟩
                  have HT10 := keepG ht10
                  have HN10 := keepG hn10
                  go_simp
                  refine hK.out _ _ (HBC.out _ HT10.out.box).2.1 (fun hHeld => ?_)
                  clear hK KK ht10 hn10
                  try simp only [Act.put, List.getElem_toArray, List.getElem_cons_zero, List.getElem_cons_succ, List.setIfInBounds_toArray, List.set_cons_zero, List.set_cons_succ]
                  obtain ⟨Y3, HY3, hbY3, HSY3⟩ := lit_one w10 ox HWF.out
                  have HTY3 := keepG (HT10.out.below hbY3)
                  refine wpAnyH_ready (rs := [8]) (by kernel_rfl) (by simp) ?_
                  refine AllReadyH.cons rfl (fun KK hK => ?_) AllReadyH.nil
                  rw [if_pos (by rfl)]
                  go_simp
                  rw [HY3.out]
                  refine hK.out _ _ (HBC.out _ HTY3.out.box).2.1 (fun hHeld => ?_)
                  clear hK KK
                  try simp only [Act.put, List.getElem_toArray, List.getElem_cons_zero, List.getElem_cons_succ, List.setIfInBounds_toArray, List.set_cons_zero, List.set_cons_succ]
                  refine wpAnyH_ready (rs := [9]) (by kernel_rfl) (by simp) ?_
                  refine AllReadyH.cons rfl (fun KK hK => ?_) AllReadyH.nil
                  rw [if_pos (by rfl)]
                  go_simp
                  go_at_call 11
                  refine (HTY3.out.dropD (by omega) HSY3.out (fun _ k hk e => by obtain ⟨_, _, hgl⟩ := HT10.out.dq; have h5 := hgl.lies k hk; have h6 := ft_lit e; omega) HQ).mono ?_
                  rintro e w11 ⟨rfl, G11, ht11⟩
                  have HT11 := keepG ht11
                  go_simp
                  refine hK.out _ _ (HBC.out _ HT11.out.box).2.1 (fun hHeld => ?_)
                  clear hK KK ht11
                  try simp only [Act.put, List.getElem_toArray, List.getElem_cons_zero, List.getElem_cons_succ, List.setIfInBounds_toArray, List.set_cons_zero, List.set_cons_succ]
                  refine tkGo [10] ?_
                  repeat (refine tkOne (v := ?_) rfl (by kernel_rfl) (by kernel_rfl) (by kernel_rfl) (fun _ _ _ h => h) (by assumption) (by rfl) ?_ ?_; rotate_left; (intro wy hSw; (try dsimp only at hSw); go_simp; (first | done | with_reducible rfl)); try simp only [Act.put, List.getElem_toArray, List.getElem_cons_zero, List.getElem_cons_succ, List.setIfInBounds_toArray, List.set_cons_zero, List.set_cons_succ])
                  refine tkEnd ?_
                  refine wpAnyH_done (by kernel_rfl) ?_ _
                  clear hHeld
                  go_wp2
                  go_meet
                  case rel => exact ⟨rfl, F10, G11, P6, (by obtain ⟨z1, ⟨B, z2, z3⟩, z4, z5, z6, z7, z8, z9, z10, z11, z12⟩ := HT11.out; exact ⟨z1.mono (by omega), ⟨B, z2, z3.mono (by omega)⟩, z4, z5, z6, z7, z8, z9, z10, z11, z12⟩)⟩
                · go_simp
                  rw [HY2.out]
                  refine hK.out _ _ (HBC.out _ HTY2.out.box).2.1 (fun hHeld => ?_)
                  clear hK KK
                  try simp only [Act.put, List.getElem_toArray, List.getElem_cons_zero, List.getElem_cons_succ, List.setIfInBounds_toArray, List.set_cons_zero, List.set_cons_succ]
                  refine wpAnyH_ready (rs := [4]) (by kernel_rfl) (by simp) ?_
                  refine AllReadyH.cons rfl (fun KK hK => ?_) AllReadyH.nil
                  rw [if_pos (by rfl)]
                  go_simp
                  go_at_call 10
                  refine (HTY2.out.dropL (by omega) ((HSY1.out.below hbY2 (Nat.le_refl _)).drewN 1) (fun _ k hk e => by have h5 := HT8.out.la.lies k hk; have h6 := ft_lit e; omega) HQ).mono ?_
                  rintro e w10 ⟨rfl, F10, ht10, hn10⟩
                  have HT10 := keepG ht10
                  have HN10 := keepG hn10
                  go_simp
                  refine hK.out _ _ (HBC.out _ HT10.out.box).2.1 (fun hHeld => ?_)
                  clear hK KK ht10 hn10
                  try simp only [Act.put, List.getElem_toArray, List.getElem_cons_zero, List.getElem_cons_succ, List.setIfInBounds_toArray, List.set_cons_zero, List.set_cons_succ]
                  have HS10 := keepG ((HSY2.out.drewN 1).chgE HN10.out.chg (fun _ k hk e => by have h5 := HT8.out.la.lies k e; have h6 : Y1.heap.size = k := Option.some.inj hk; omega))
                  refine wpAnyH_ready (rs := [9]) (by kernel_rfl) (by simp) ?_
                  refine AllReadyH.cons rfl (fun KK hK => ?_) AllReadyH.nil
                  rw [if_pos (by rfl)]
                  go_simp
                  go_at_call 11
                  refine (HT10.out.dropD (by omega) HS10.out (fun _ k hk e => by obtain ⟨_, _, hgl⟩ := HT8.out.dq; have h5 := hgl.lies k hk; have h6 : Y1.heap.size = k := Option.some.inj e; omega) HQ).mono ?_
                  rintro e w11 ⟨rfl, G11, ht11⟩
                  have HT11 := keepG ht11
                  go_simp
                  refine hK.out _ _ (HBC.out _ HT11.out.box).2.1 (fun hHeld => ?_)
                  clear hK KK ht11
                  try simp only [Act.put, List.getElem_toArray, List.getElem_cons_zero, List.getElem_cons_succ, List.setIfInBounds_toArray, List.set_cons_zero, List.set_cons_succ]
                  refine tkGo [10] ?_
                  repeat (refine tkOne (v := ?_) rfl (by kernel_rfl) (by kernel_rfl) (by kernel_rfl) (fun _ _ _ h => h) (by assumption) (by rfl) ?_ ?_; rotate_left; (intro wy hSw; (try dsimp only at hSw); go_simp; (first | done | with_reducible rfl)); try simp only [Act.put, List.getElem_toArray, List.getElem_cons_zero, List.getElem_cons_succ, List.setIfInBounds_toArray, List.set_cons_zero, List.set_cons_succ])
                  refine tkEnd ?_
                  refine wpAnyH_done (by kernel_rfl) ?_ _
                  clear hHeld
                  go_wp2
                  go_meet
                  case rel => exact ⟨rfl, F10, G11, P6, (by obtain ⟨z1, ⟨B, z2, z3⟩, z4, z5, z6, z7, z8, z9, z10, z11, z12⟩ := HT11.out; exact ⟨z1.mono (by omega), ⟨B, z2, z3.mono (by omega)⟩, z4, z5, z6, z7, z8, z9, z10, z11, z12⟩)⟩
              · go_simp
                rw [HY1.out]
                refine hK.out _ _ (HBC.out _ HTY1.out.box).2.1 (fun hHeld => ?_)
                clear hK KK
                try simp only [Act.put, List.getElem_toArray, List.getElem_cons_zero, List.getElem_cons_succ, List.setIfInBounds_toArray, List.set_cons_zero, List.set_cons_succ]
                refine wpAnyH_ready (rs := [3]) (by kernel_rfl) (by simp) ?_
                refine AllReadyH.cons rfl (fun KK hK => ?_) AllReadyH.nil
                rw [if_pos (by rfl)]
                go_simp
                rw [HY2.out]
                refine hK.out _ _ (HBC.out _ HTY2.out.box).2.1 (fun hHeld => ?_)
                clear hK KK
                try simp only [Act.put, List.getElem_toArray, List.getElem_cons_zero, List.getElem_cons_succ, List.setIfInBounds_toArray, List.set_cons_zero, List.set_cons_succ]
                refine wpAnyH_ready (rs := [4]) (by kernel_rfl) (by simp) ?_
                refine AllReadyH.cons rfl (fun KK hK => ?_) AllReadyH.nil
                rw [if_pos (by rfl)]
                go_simp
                go_at_call 10
                refine (HTY2.out.dropL (by omega) (HSY2.out.drewN 1) (fun _ k hk e => by have h5 := HT8.out.la.lies k hk; have h6 : Y1.heap.size = k := Option.some.inj e; omega) HQ).mono ?_
                rintro e w10 ⟨rfl, F10, ht10, hn10⟩
                have HT10 := keepG ht10
                have HN10 := keepG hn10
                go_simp
                refine hK.out _ _ (HBC.out _ HT10.out.box).2.1 (fun hHeld => ?_)
                clear hK KK ht10 hn10
                try simp only [Act.put, List.getElem_toArray, List.getElem_cons_zero, List.getElem_cons_succ, List.setIfInBounds_toArray, List.set_cons_zero, List.set_cons_succ]
                have HS10 := keepG (((HSY1.out.below hbY2 (Nat.le_refl _)).drewN 1).chgE HN10.out.chg (fun _ k hk e => by have h5 := HT8.out.la.lies k e; have h6 := ft_lit hk; omega))
                refine wpAnyH_ready (rs := [9]) (by kernel_rfl) (by simp) ?_
                refine AllReadyH.cons rfl (fun KK hK => ?_) AllReadyH.nil
                rw [if_pos (by rfl)]
                go_simp
                go_at_call 11
                refine (HT10.out.dropD (by omega) HS10.out (fun _ k hk e => by obtain ⟨_, _, hgl⟩ := HT8.out.dq; have h5 := hgl.lies k hk; have h6 := ft_lit e; omega) HQ).mono ?_
                rintro e w11 ⟨rfl, G11, ht11⟩
                have HT11 := keepG ht11
                go_simp
                refine hK.out _ _ (HBC.out _ HT11.out.box).2.1 (fun hHeld => ?_)
                clear hK KK ht11
                try simp only [Act.put, List.getElem_toArray, List.getElem_cons_zero, List.getElem_cons_succ, List.setIfInBounds_toArray, List.set_cons_zero, List.set_cons_succ]
                refine tkGo [10] ?_
                repeat (refine tkOne (v := ?_) rfl (by kernel_rfl) (by kernel_rfl) (by kernel_rfl) (fun _ _ _ h => h) (by assumption) (by rfl) ?_ ?_; rotate_left; (intro wy hSw; (try dsimp only at hSw); go_simp; (first | done | with_reducible rfl)); try simp only [Act.put, List.getElem_toArray, List.getElem_cons_zero, List.getElem_cons_succ, List.setIfInBounds_toArray, List.set_cons_zero, List.set_cons_succ])
                refine tkEnd ?_
                refine wpAnyH_done (by kernel_rfl) ?_ _
                clear hHeld
                go_wp2
                go_meet
                case rel => exact ⟨rfl, F10, G11, P6, (by obtain ⟨z1, ⟨B, z2, z3⟩, z4, z5, z6, z7, z8, z9, z10, z11, z12⟩ := HT11.out; exact ⟨z1.mono (by omega), ⟨B, z2, z3.mono (by omega)⟩, z4, z5, z6, z7, z8, z9, z10, z11, z12⟩)⟩
        case rest => as_aux_lemma =>
          obtain ⟨rfl, F1, G1, P1, HT⟩ := hcut
          clear HT8 q0 q1 q2
          have q2 := (HBC.out _ HT.out.box).2.2
          go_wp2_with (go_at_call 12; go_must (refine (wints18 HT.out.ro.rdn (HSA.out _ HT.out.la.be).rdn).mono ?_); rintro e wa ⟨rfl, hba⟩; go_must (have HTa := keepG (HT.out.below hba); clear hba))
          obtain ⟨NI, HNI⟩ : ∃ NI, Hid (ow.length = NI) := ⟨_, rfl⟩
          rw [HNI.out]
          rw [HNI.out] at HTa
          go_loopw [11] (fun i wt => ∃ (t : Nat) (I : List Int), t ≤ NI ∧ i = .int .i64 t ∧ Hid (Pt w wt b d wr.heap.size F1 G1 n P1 P1 (2 * j + 2) bx (.slice v8a NI v8c) I ∧ I.length = NI)) (fun i _ => NI - (intOf i).toNat)
          case atStart => exact ⟨0, ow, by omega, rfl, HTa.out, HNI.out⟩
          case round =>
            rename World => wt
            obtain ⟨t, I, ht, rfl, HI⟩ := hrel
            by_cases htl : t < NI
            · have htlI : (t : Int) < NI := by omega
              have HIl := keepG HI.out.2
              obtain ⟨g, cap, ev, hcap1, hcap2, hcl, hst⟩ := HI.out.1.store (by rw [HIl.out]; omega)
              rw [HIl.out] at ev hcap1
              simp only [Value.slice.injEq, true_and] at ev
              obtain ⟨hg1, hg2⟩ := ev
              subst hg1 hg2
              have f0 := (hcl t (by rw [HIl.out]; exact htl)).1
              have f0f := (hcl t (by rw [HIl.out]; exact htl)).2
              have HST := keepG (hst t 99)
              have HL2 : Hid ((I.set t 99).length = NI) := by show _ = _; rw [List.length_set]; exact HIl.out
              clear hcl hst HI
              go_wp2
              go_roundw
              case rel => exact ⟨t + 1, I.set t 99, by omega, by go_num, HST.out, HL2.out⟩
              case measure => simp [intOf]; omega
            · have htlI : ¬ (t : Int) < NI := by omega
              obtain ⟨wb, HWB⟩ : ∃ wb, Hid (wt = wb) := ⟨_, rfl⟩
              have hwb := HWB.out
              subst hwb
              rename World => wb
              have HTb := keepG HI.out.1
              have q1 := (HBC.out _ HTb.out.box).2.1
              go_wp2_with (go_at_call 12; fail)
              go_at_call 13
              refine (HTb.out.atD (by omega) ox).mono ?_
              rintro e wb2 ⟨at', rfl, hAC, rfl⟩
              rcases hAC with ⟨rfl, hhd⟩ | ⟨jj, gg, go, len, cap, ua, uc, ms, rfl, hjl, hlc, hcm, hhd, hcells⟩
              · have HHD := keepG hhd
                clear hhd
                go_wp2_with ((go_at_call 14; go_must (refine (HTb.out.la.held (by omega) ox HHD).mono ?_); rintro e w13 ⟨u13, rfl, hu13, hb13⟩; go_must (have HU13 := keepG hu13; have HB13 := keepG hb13; have HT13 := keepG (HTb.out.below hb13); obtain ⟨a13, c13, rfl⟩ := own_shape hu13; clear hb13 hu13)))
                go_loopw [15] (fun i wx => ∃ (t : Nat) (I : List Int), t ≤ 0 ∧ i = .int .i64 t ∧ Hid (RoI wx wb.heap.size (.slice a13 0 c13) I ∧ I.length = 0) ∧ Hid (Below wb.heap.size wb wx)) (fun i _ => 0 - (intOf i).toNat)
                case atStart => exact ⟨0, [], by omega, rfl, ⟨HU13.out, rfl⟩, HB13.out⟩
                case round =>
                  rename World => wx
                  obtain ⟨t, I, ht, rfl, HI, HBx⟩ := hrel
                  by_cases htl : t < 0
                  · exact absurd htl (by omega)
                  · have htlI : ¬ (t : Int) < 0 := by omega
                    go_wp2
                    go_loopw [16] (fun i wz => ∃ z : Int, -1 ≤ z ∧ z ≤ 5 ∧ i = .int .i64 z ∧ Hid (Below wb.heap.size wb wz)) (fun i _ => (5 - intOf i).toNat)
                    case atStart => exact ⟨-1, by omega, by omega, rfl, HBx.out⟩
                    case round =>
                      obtain ⟨z, hz1, hz2, rfl, HBz⟩ := hrel
                      rename World => wz
                      have HTz := keepG (HTb.out.below HBz.out)
                      by_cases hz5 : z < 5
                      · have hw1 : IntKind.i64.wrap (z + 1) = z + 1 := by rw [IntKind.wrap_i64]; omega
                        obtain ⟨A, HA⟩ : ∃ A, Hid (Rs.holders P1 z = A) := ⟨_, rfl⟩
                        cases hin : inM n z with
                        | true =>
                          have HC : Hid (cntH n P1 z = ((A.length : Int), 0)) := by show _ = _; unfold cntH; rw [if_pos hin, HA.out]
                          have hin2 : 0 ≤ z ∧ z < n := by simpa [inM] using hin
                          have hin3 : ¬ z < 0 := by omega
                          have hin4 : ¬ (n : Int) ≤ z := by omega
                          have hAA : ((A.length : Int) != A.length) = false := by simp
                          clear hin hin2
                          go_wp2_with (first
                            | (go_at_call 15; go_must (refine (HTz.out.la.count (by omega) z HC).mono ?_); rintro e w20 ⟨rfl, hb20⟩; go_must (have HT20 := keepG (HTz.out.below hb20); have HB20 := keepG (HBz.out.trans (hb20.mono HBz.out.size)); clear hb20))
                            | (go_at_call 16; go_must (refine (HT20.out.la.holders (by omega) z HA).mono ?_); rintro e w21 ⟨u21, rfl, hu21, hb21⟩; go_must (have HT21 := keepG (HT20.out.below hb21); have HB21 := keepG (HB20.out.trans (hb21.mono HB20.out.size)); have HU21 := keepG hu21; obtain ⟨a21, c21, rfl⟩ := own_shape hu21; clear hb21 hu21))
                            | (go_at_call 17; go_must (refine (HT21.out.holdersD (by omega) z HA).mono ?_); rintro e w22 ⟨u22, rfl, hu22, hb22⟩; go_must (have HU22 := keepG (HU21.out.below hb22); have HB22 := keepG (HB21.out.trans (hb22.mono HB21.out.size)); have HV22 := keepG hu22; obtain ⟨a22, c22, rfl⟩ := own_shape hu22; clear hb22 hu22))
                            | (go_at_call 12; go_must (refine (wints18 HU22.out.rdn HV22.out.rdn).mono ?_); rintro e w23 ⟨rfl, hb23⟩; go_must (have HB23 := keepG (HB22.out.trans (hb23.mono HB22.out.size)); clear hb23)))
                          go_roundw
                          case rel => exact ⟨z + 1, by omega, by omega, rfl, HB23.out⟩
                          case measure => simp [intOf]; omega
                        | false =>
                          have HC : Hid (cntH n P1 z = (0, 2)) := by show _ = _; unfold cntH; rw [if_neg (by rw [hin]; decide)]
                          have hA0 := holders_out HTz.out.la.ok hin
                          rw [HA.out] at hA0
                          subst hA0
                          by_cases hz0 : z < 0
                          · clear hin
                            go_wp2_with (first
                              | (go_at_call 15; go_must (refine (HTz.out.la.count (by omega) z HC).mono ?_); rintro e w20 ⟨rfl, hb20⟩; go_must (have HT20 := keepG (HTz.out.below hb20); have HB20 := keepG (HBz.out.trans (hb20.mono HBz.out.size)); clear hb20))
                              | (go_at_call 16; go_must (refine (HT20.out.la.holders (by omega) z HA).mono ?_); rintro e w21 ⟨u21, rfl, hu21, hb21⟩; go_must (have HB21 := keepG (HB20.out.trans (hb21.mono HB20.out.size)); obtain ⟨a21, c21, rfl⟩ := own_shape hu21; clear hb21 hu21)))
                            go_roundw
                            case rel => exact ⟨z + 1, by omega, by omega, rfl, HB21.out⟩
                            case measure => simp [intOf]; omega
                          · have hzn : (n : Int) ≤ z := by
                              refine Int.not_lt.1 fun e => ?_
                              have : inM n z = true := by simp [inM]; omega
                              rw [hin] at this
                              cases this
                            clear hin
                            go_wp2_with (first
                              | (go_at_call 15; go_must (refine (HTz.out.la.count (by omega) z HC).mono ?_); rintro e w20 ⟨rfl, hb20⟩; go_must (have HT20 := keepG (HTz.out.below hb20); have HB20 := keepG (HBz.out.trans (hb20.mono HBz.out.size)); clear hb20))
                              | (go_at_call 16; go_must (refine (HT20.out.la.holders (by omega) z HA).mono ?_); rintro e w21 ⟨u21, rfl, hu21, hb21⟩; go_must (have HB21 := keepG (HB20.out.trans (hb21.mono HB20.out.size)); obtain ⟨a21, c21, rfl⟩ := own_shape hu21; clear hb21 hu21)))
                            go_roundw
                            case rel => exact ⟨z + 1, by omega, by omega, rfl, HB21.out⟩
                            case measure => simp [intOf]; omega
                      · have HTe := keepG HTz.out
                        go_wp2
                        have HEND : Hid (Lz w wz b F1 n P1 (2 * (j + 1)) ∧ (∃ B, B ≤ wz.heap.size ∧ Dq wz B d G1 n P1 (2 * (j + 1))) ∧ Since w G1 ∧ Apt F1 G1) := ⟨HTe.out.la, HTe.out.dq, HTe.out.sg, HTe.out.fg⟩
                        go_roundw
                        case rel => first
                          | exact ⟨j + 1, by omega, by omega, by go_num, F1, G1, P1, HEND.out⟩
                          | ((repeat apply Exists.intro); exact ⟨⟨j + 1, by omega, by omega, by go_num, F1, G1, P1, HEND.out⟩, rfl⟩)
                        case measure => simp [intOf]; omega
              · have HHD := keepG hhd
                have HCELLS := keepG hcells
                have hjlI : (jj : Int) < len := by omega
                have hjge : (jj : Int) ≥ 0 := by omega
                have hjlt : ¬ (jj : Int) < 0 := by omega
                clear hhd hcells
                go_wp2_with (first
                  | (go_at_call 14; go_must (refine (HTb.out.la.held (by omega) ox HHD).mono ?_); rintro e w13 ⟨u13, rfl, hu13, hb13⟩; go_must (have HU13 := keepG hu13; have HB13 := keepG hb13; have HT13 := keepG (HTb.out.below hb13); obtain ⟨a13, c13, rfl⟩ := own_shape hu13; obtain ⟨x1, x2, x3⟩ := HCELLS.out _ hb13; have X3 := keepG x3; clear hb13 hu13 x3))
                  | (go_at_call 12; go_must (refine (wints18 HU13.out.rdn X3.out).mono ?_); rintro e w14 ⟨rfl, hb14⟩; go_must (have HU14 := keepG (HU13.out.below hb14); have HB14 := keepG (HB13.out.trans (hb14.mono HB13.out.size)); clear hb14)))
                go_loopw [15] (fun i wx => ∃ (t : Nat) (I : List Int), t ≤ ms.length ∧ i = .int .i64 t ∧ Hid (RoI wx wb.heap.size (.slice a13 ms.length c13) I ∧ I.length = ms.length) ∧ Hid (Below wb.heap.size wb wx)) (fun i _ => ms.length - (intOf i).toNat)
                case atStart => exact ⟨0, ms, by omega, rfl, ⟨HU14.out, rfl⟩, HB14.out⟩
                case round =>
                  rename World => wx
                  obtain ⟨t, I, ht, rfl, HI, HBx⟩ := hrel
                  by_cases htl : t < ms.length
                  · have htlI : (t : Int) < ms.length := by omega
                    have HIl := keepG HI.out.2
                    obtain ⟨g, cap, ev, hBg, _, hcap1, hcap2, hcl, hst⟩ := HI.out.1.cells (by rw [HIl.out]; omega)
                    rw [HIl.out] at ev hcap1
                    simp only [Value.slice.injEq, true_and] at ev
                    obtain ⟨hg1, hg2⟩ := ev
                    subst hg1 hg2
                    have f0 := (hcl t (by rw [HIl.out]; exact htl)).1
                    have f0f := (hcl t (by rw [HIl.out]; exact htl)).2
                    have hst2 := hst t 77
                    rw [HIl.out] at hst2
                    have HST := keepG hst2
                    have HB2 := keepG (HBx.out.trans (grown_to_below (grown_set wx g t (.int .i64 77)) hBg HBx.out.size))
                    have HL2 : Hid ((I.set t 77).length = ms.length) := by show _ = _; rw [List.length_set]; exact HIl.out
                    clear hcl hst hst2 HI
                    go_wp2
                    go_roundw
                    case rel => exact ⟨t + 1, I.set t 77, by omega, by go_num, ⟨HST.out, HL2.out⟩, HB2.out⟩
                    case measure => simp [intOf]; omega
                  · have htlI : ¬ (t : Int) < ms.length := by omega
                    go_wp2
                    go_loopw [16] (fun i wz => ∃ z : Int, -1 ≤ z ∧ z ≤ 5 ∧ i = .int .i64 z ∧ Hid (Below wb.heap.size wb wz)) (fun i _ => (5 - intOf i).toNat)
                    case atStart => exact ⟨-1, by omega, by omega, rfl, HBx.out⟩
                    case round =>
                      obtain ⟨z, hz1, hz2, rfl, HBz⟩ := hrel
                      rename World => wz
                      have HTz := keepG (HTb.out.below HBz.out)
                      by_cases hz5 : z < 5
                      · have hw1 : IntKind.i64.wrap (z + 1) = z + 1 := by rw [IntKind.wrap_i64]; omega
                        obtain ⟨A, HA⟩ : ∃ A, Hid (Rs.holders P1 z = A) := ⟨_, rfl⟩
                        cases hin : inM n z with
                        | true =>
                          have HC : Hid (cntH n P1 z = ((A.length : Int), 0)) := by show _ = _; unfold cntH; rw [if_pos hin, HA.out]
                          have hin2 : 0 ≤ z ∧ z < n := by simpa [inM] using hin
                          have hin3 : ¬ z < 0 := by omega
                          have hin4 : ¬ (n : Int) ≤ z := by omega
                          have hAA : ((A.length : Int) != A.length) = false := by simp
                          clear hin hin2
                          go_wp2_with (first
                            | (go_at_call 15; go_must (refine (HTz.out.la.count (by omega) z HC).mono ?_); rintro e w20 ⟨rfl, hb20⟩; go_must (have HT20 := keepG (HTz.out.below hb20); have HB20 := keepG (HBz.out.trans (hb20.mono HBz.out.size)); clear hb20))
                            | (go_at_call 16; go_must (refine (HT20.out.la.holders (by omega) z HA).mono ?_); rintro e w21 ⟨u21, rfl, hu21, hb21⟩; go_must (have HT21 := keepG (HT20.out.below hb21); have HB21 := keepG (HB20.out.trans (hb21.mono HB20.out.size)); have HU21 := keepG hu21; obtain ⟨a21, c21, rfl⟩ := own_shape hu21; clear hb21 hu21))
                            | (go_at_call 17; go_must (refine (HT21.out.holdersD (by omega) z HA).mono ?_); rintro e w22 ⟨u22, rfl, hu22, hb22⟩; go_must (have HU22 := keepG (HU21.out.below hb22); have HB22 := keepG (HB21.out.trans (hb22.mono HB21.out.size)); have HV22 := keepG hu22; obtain ⟨a22, c22, rfl⟩ := own_shape hu22; clear hb22 hu22))
                            | (go_at_call 12; go_must (refine (wints18 HU22.out.rdn HV22.out.rdn).mono ?_); rintro e w23 ⟨rfl, hb23⟩; go_must (have HB23 := keepG (HB22.out.trans (hb23.mono HB22.out.size)); clear hb23)))
                          go_roundw
                          case rel => exact ⟨z + 1, by omega, by omega, rfl, HB23.out⟩
                          case measure => simp [intOf]; omega
                        | false =>
                          have HC : Hid (cntH n P1 z = (0, 2)) := by show _ = _; unfold cntH; rw [if_neg (by rw [hin]; decide)]
                          have hA0 := holders_out HTz.out.la.ok hin
                          rw [HA.out] at hA0
                          subst hA0
                          by_cases hz0 : z < 0
                          · clear hin
                            go_wp2_with (first
                              | (go_at_call 15; go_must (refine (HTz.out.la.count (by omega) z HC).mono ?_); rintro e w20 ⟨rfl, hb20⟩; go_must (have HT20 := keepG (HTz.out.below hb20); have HB20 := keepG (HBz.out.trans (hb20.mono HBz.out.size)); clear hb20))
                              | (go_at_call 16; go_must (refine (HT20.out.la.holders (by omega) z HA).mono ?_); rintro e w21 ⟨u21, rfl, hu21, hb21⟩; go_must (have HB21 := keepG (HB20.out.trans (hb21.mono HB20.out.size)); obtain ⟨a21, c21, rfl⟩ := own_shape hu21; clear hb21 hu21)))
                            go_roundw
                            case rel => exact ⟨z + 1, by omega, by omega, rfl, HB21.out⟩
                            case measure => simp [intOf]; omega
                          · have hzn : (n : Int) ≤ z := by
                              refine Int.not_lt.1 fun e => ?_
                              have : inM n z = true := by simp [inM]; omega
                              rw [hin] at this
                              cases this
                            clear hin
                            go_wp2_with (first
                              | (go_at_call 15; go_must (refine (HTz.out.la.count (by omega) z HC).mono ?_); rintro e w20 ⟨rfl, hb20⟩; go_must (have HT20 := keepG (HTz.out.below hb20); have HB20 := keepG (HBz.out.trans (hb20.mono HBz.out.size)); clear hb20))
                              | (go_at_call 16; go_must (refine (HT20.out.la.holders (by omega) z HA).mono ?_); rintro e w21 ⟨u21, rfl, hu21, hb21⟩; go_must (have HB21 := keepG (HB20.out.trans (hb21.mono HB20.out.size)); obtain ⟨a21, c21, rfl⟩ := own_shape hu21; clear hb21 hu21)))
                            go_roundw
                            case rel => exact ⟨z + 1, by omega, by omega, rfl, HB21.out⟩
                            case measure => simp [intOf]; omega
                      · have HTe := keepG HTz.out
                        go_wp2
                        have HEND : Hid (Lz w wz b F1 n P1 (2 * (j + 1)) ∧ (∃ B, B ≤ wz.heap.size ∧ Dq wz B d G1 n P1 (2 * (j + 1))) ∧ Since w G1 ∧ Apt F1 G1) := ⟨HTe.out.la, HTe.out.dq, HTe.out.sg, HTe.out.fg⟩
                        go_roundw
                        case rel => first
                          | exact ⟨j + 1, by omega, by omega, by go_num, F1, G1, P1, HEND.out⟩
                          | ((repeat apply Exists.intro); exact ⟨⟨j + 1, by omega, by omega, by go_num, F1, G1, P1, HEND.out⟩, rfl⟩)
                        case measure => simp [intOf]; omega
      · have hj3I : ¬ (j : Int) < 300 := by omega
        have HBE := keepG HM.out.1.be
        go_wp2
        go_ret
        exact ⟨rfl, HBE.out⟩
    · have hltI : ¬ (j : Int) < is.length := by omega
      have HBE := keepG HM.out.1.be
      go_wp2
      go_ret
      exact ⟨rfl, HBE.out⟩
/-- RefsPlays. -/
theorem refsPlays_walk (n : Int) (sv : Value) (is : List Ow) (w : World) {P0 : Prop} (_ : P0) (hs : Scr w sv is) (hlen : is.length * 40 ≤ 140737488351232 ∧ ∀ x ∈ is, x.ws.length * 8 ≤ 140737488351232) :
    Calls Try.prog 3 #[.int .i64 n, sv] w fun e w' => e = .returned (.bool true) ∧ Below w.heap.size w w' := by
  by_cases h : n < 0 ∨ 4 < n
  · exact refsPlays_no n sv w h
  · obtain ⟨m, rfl⟩ : ∃ m : Nat, n = m := ⟨n.toNat, by omega⟩
    exact refsPlays_ok m (by omega) sv is w hs hlen.1 hlen.2
end Go.Proofs.Ytonbaklbbmmljaa
