
/-
  KernPlays, walked. Condition: none but the arguments' reading.
-/
import Derived.Test.YtnjmajcjdkceoaaTk
import Derived.Test.YtnjmajcjdkceoaaW21Pt
import Derived.Deep.DeepCutAuto
import Derived.Deep.CutBlock
namespace Go.Proofs.Ytnjmajcjdkceoaa
open Go.RowKit
set_option linter.unusedVariables false
set_option linter.unusedSimpArgs false
set_option maxRecDepth 100000
theorem made_ints (n : Nat) : madeCells (Value.int .i64 0).cells (n * 1) = (iCK (List.replicate n 0)).toArray := by
  rw [Nat.mul_one]
  apply Array.ext_getElem?
  intro j
  by_cases hj : j < n
  · have h1 : (madeCells (Value.int .i64 0).cells n)[j]? = some (.int .i64 0) := by
      simp only [madeCells, Array.getElem?_map, Array.getElem?_range, hj, if_true, Option.map_some]
      have : (Value.int .i64 0).cells = #[.int .i64 0] := rfl
      rw [this]
      simp [Nat.mod_one]
    rw [h1, List.getElem?_toArray]
    simp [iCK, hj]
  · have h1 : (madeCells (Value.int .i64 0).cells n)[j]? = none := Array.getElem?_eq_none (by rw [size_madeCells]; omega)
    rw [h1, List.getElem?_toArray, List.getElem?_eq_none (by simp [iCK]; omega)]
theorem run_makeI (n : Nat) (hn : n ≤ 64) (w : World) : (Instr.makeSlice 29 (.int .i64 n) (.int .i64 n)).run Try.prog w = .ok (.slice (some ⟨w.heap.size, 0, none⟩) n n) (w.alloc (.cells (iCK (List.replicate n 0)).toArray 3)) := by
  obtain ⟨i, h1, h2, h3, h4⟩ := info_parts infoIntN
  have := run_make (P := Try.prog) w 29 3 i _ Try.underlying29 h1 h2 .i64 .i64 n n (by omega) (Int.le_refl _) (by rw [h4]; omega) (by omega)
  rw [h3] at this
  rw [show madeCells (Value.int .i64 0).cells (Int.toNat n * 1) = _ from made_ints n] at this
  exact this
/-- Both kerns, as they are made. -/
theorem Pq.new {w0 w2 : World} {b n : Nat} {F : Ft} (h : Lz w0 w2 b F (Kn.new n)) {W3 W4 : World} (h3 : w2.alloc (.cells (iCK (List.replicate n 0)).toArray 3) = W3) (h4 : W3.alloc (.cells #[.slice (some ⟨w2.heap.size, 0, none⟩) n n, .slice none 0 0] 31) = W4) : Pq w0 W4 b W3.heap.size F (ftK W3.heap.size w2.heap.size (.slice none 0 0)) (Kn.new n) (Kn.new n) 0 := by
  have hb3 : Below w2.heap.size w2 W3 := by rw [← h3]; exact below_allocG _ _
  have hb4 : Below W3.heap.size W3 W4 := by rw [← h4]; exact below_allocG _ _
  have hm : Hp W3 w2.heap.size 3 (iCK (List.replicate n 0)) := by rw [← h3]; exact Hp.new w2 _ _
  have hk : Hp W4 W3.heap.size 31 [.slice (some ⟨w2.heap.size, 0, none⟩) n n, .slice none 0 0] := by rw [← h4]; exact Hp.new W3 _ _
  have hlt := hm.lt
  have hkl := hk.lt
  refine ⟨(h.below hb3).below hb4, ⟨w2.heap.size, by omega, w2.heap.size, .slice none 0 0, ⟨?_, hm.below hb4 hm.lt, RoN.nil _ _, (by intro e; cases e)⟩, rfl⟩, h.ok, fun k hk => ?_, fun k hf hg => ?_, by simp [Kn.new]⟩
  · have e : (Kn.new n).m.length = n := by simp [Kn.new]
    rw [e]; exact hk
  · have := h.be.size
    rcases hk with (e | e) | e
    · omega
    · omega
    · cases e
  · have := h.lies k hf
    rcases hg with (e | e) | e
    · omega
    · omega
    · cases e
theorem kernPlays_no (n : Int) (sv : Value) (w : World) (h : n < 1 ∨ 64 < n) :
    Calls Try.prog 3 #[.int .i64 n, sv] w fun e w' => e = .returned (.bool true) ∧ Below w.heap.size w w' := by
  rcases h with h | h
  · go_enter Try.func3, Try.ntmps3
    go_wp2_with (first
      | (go_at_call 7; go_must (refine (awake21_any w).mono ?_); rintro e w1 ⟨rfl, hb1⟩)
      | (go_at_call 8; go_must (refine (lknew_no n (.inl h) _).mono ?_); rintro e w2 ⟨rfl, rfl⟩))
    go_ret
    exact ⟨rfl, hb1⟩
  · have h1 : ¬ n < 1 := by omega
    go_enter Try.func3, Try.ntmps3
    go_wp2_with (first
      | (go_at_call 7; go_must (refine (awake21_any w).mono ?_); rintro e w1 ⟨rfl, hb1⟩)
      | (go_at_call 8; go_must (refine (lknew_no n (.inr h) _).mono ?_); rintro e w2 ⟨rfl, rfl⟩))
    go_ret
    exact ⟨rfl, hb1⟩
set_option maxHeartbeats 25600000 in
theorem kernPlays_ok (n : Nat) (h1 : 1 ≤ n) (h64 : n ≤ 64) (sv : Value) (is : List Ow) (w : World) (hs : Scr w sv is) (hlen : is.length * 64 ≤ 140737488351232) (hsz : ∀ x ∈ is, x.ws.length * 8 ≤ 140737488351232 ∧ x.rs.length ≤ 140737488351232) :
    Calls Try.prog 3 #[.int .i64 n, sv] w fun e w' => e = .returned (.bool true) ∧ Below w.heap.size w w' := by
  have HSC := keepG hs
  have HSZ := keepG hsz
  obtain ⟨a, c, rfl, hc, hm, _, _⟩ := hs.sees
  have hm' : c ≤ 9223372036854775807 := by unfold maxLen at hm; omega
  obtain ⟨i0, hi0, hz0, hzs, hzb⟩ := info_parts infoIntN
  obtain ⟨j0, hj0, hy0, hys, hyb⟩ := info_parts infoB21
  have hnI : ¬ (n : Int) < 1 := by omega
  have hnI4 : ¬ (64 : Int) < n := by omega
  clear hs hm hsz
  go_enter Try.func3, Try.ntmps3
  go_wp2_with (first
    | (go_at_call 7; go_must (refine (awake21_any w).mono ?_); rintro e w1 ⟨rfl, hb1⟩)
    | (go_at_call 8; go_must (refine (lznew_ok n h1 h64 hb1).mono ?_); rintro e w2 ⟨b, F0, rfl, hL, _, _⟩; go_must (obtain ⟨W3, HW3⟩ : ∃ W3, Hid (w2.alloc (.cells (iCK (List.replicate n 0)).toArray 3) = W3) := ⟨_, rfl⟩; obtain ⟨W4, HW4⟩ : ∃ W4, Hid (W3.alloc (.cells #[.slice (some ⟨w2.heap.size, 0, none⟩) n n, .slice none 0 0] 31) = W4) := ⟨_, rfl⟩; have hmk := run_makeI n h64 w2; rw [HW3.out] at hmk; have HP0 := keepG (Pq.new hL HW3.out HW4.out); obtain ⟨d, HD⟩ : ∃ d, Hid (W3.heap.size = d) := ⟨_, rfl⟩; rw [HD.out] at HP0; clear hL))
    | (rw [HW4.out, HD.out]))
  obtain ⟨G0, HG0⟩ : ∃ G0, Hid (ftK d w2.heap.size (.slice none 0 0) = G0) := ⟨_, rfl⟩
  rw [HG0.out] at HP0
  clear HG0 hmk HW3 HW4
  go_loopw [8] (fun i wr => ∃ j : Nat, j ≤ is.length ∧ j ≤ 300 ∧ i = .int .i64 j ∧ ∃ F G K, Hid (Pq w wr b d F G K K j)) (fun i _ => is.length - (intOf i).toNat)
  case atStart => exact ⟨0, by omega, by omega, rfl, F0, G0, Kn.new n, HP0.out⟩
  case round =>
    clear HP0
    obtain ⟨j, hj, hj2, rfl, F, G, K, HM⟩ := hrel
    rename World => wr
    by_cases hlt : j < is.length
    · have hltI : (j : Int) < is.length := by omega
      by_cases hj3 : j < 300
      · have hj3I : (j : Int) < 300 := by omega
        obtain ⟨o, HO⟩ : ∃ o, Hid (is.getD j Ow.nil = o) := ⟨_, rfl⟩
        have hsz := HSZ.out _ (getD_memW is j hlt)
        rw [HO.out] at hsz
        obtain ⟨p, off, cap, ev, _, _, ⟨d0, d1, d2, d3⟩, hsu, hsr, hlu, hlr⟩ := HSC.out.at HM.out.la.be hlt HO.out
        have HAT := keepG (fun (wx : World) (hb : Below w.heap.size w wx) => HSC.out.at hb hlt HO.out)
        simp only [Value.slice.injEq, true_and] at ev
        obtain ⟨rfl, rfl⟩ := ev
        obtain ⟨X, HX, hbX, HPX⟩ := op_box21 wr o
        have HSU0 := keepG (hsu.below hbX (Nat.le_refl _))
        obtain ⟨bx, HBX⟩ : ∃ bx, Hid (o = bx) := ⟨_, rfl⟩
        rw [HBX.out] at HPX
        have hbx := HBX.out
        obtain ⟨ok, oc, ou, ow, ov, ors⟩ := o
        simp only at d0 d1 d2 d3 HX hsu hsr hlu hlr hsz HSU0
        obtain ⟨oa, oac, ev⟩ := hsu.shape
        subst ev
        obtain ⟨ra, rac, ev, hrl, hrm⟩ := hsr.shape
        subst ev
        have HLU := keepG hlu
        have HLR := keepG hlr
        have HZW : Hid (ow.length * 8 ≤ 140737488355328) := Nat.le_trans hsz.1 (by decide)
        have HZR : Hid (ors.length ≤ 140737488355328) := Nat.le_trans hsz.2 (by decide)
        have hzw := hsz.1
        have hzr := hsz.2
        obtain ⟨nb, HNB⟩ : ∃ nb, Hid (wr.heap.size = nb) := ⟨_, rfl⟩
        rw [HNB.out] at HPX
        have HBC : Hid (∀ wx : World, Hp wx nb 34 (owC bx) → wx.cell? ⟨nb, 0, none⟩ = some (.int .i64 ok) ∧ wx.cell? ⟨nb, 1, none⟩ = some (.int .i64 oc) ∧ wx.cell? ⟨nb, 2, none⟩ = some (.slice oa ow.length oac) ∧ wx.cell? ⟨nb, 3, none⟩ = some (.slice ra ors.length rac)) := by
          intro wx hx
          rw [← hbx] at hx
          exact ⟨hx.cell (j := 0) rfl, hx.cell (j := 1) rfl, hx.cell (j := 2) rfl, hx.cell (j := 3) rfl⟩
        have HSA : Hid (∀ wx : World, Below w.heap.size w wx → Sees .i64 wx (.slice oa ow.length oac) ow) := by
          intro wx hb
          obtain ⟨_, _, _, _, _, _, _, e3, _⟩ := HAT.out wx hb
          exact e3
        have HRA : Hid (∀ wx : World, Below w.heap.size w wx → SeesG bK 1 false wx (.slice ra ors.length rac) ors) := by
          intro wx hb
          obtain ⟨_, _, _, _, _, _, _, _, e3, _⟩ := HAT.out wx hb
          exact e3
        have hmj : j ≤ 300 := by omega
        clear hsu hsr hlu hlr HAT hbx hsz
        obtain ⟨Z, HZ, hbZ, HOZ⟩ : ∃ Z, Hid (X.alloc (.cells #[] 3) = Z) ∧ Below X.heap.size X Z ∧ Hid (Z.ownsRow X.heap.size 3 1 (.slice (some ⟨X.heap.size, 0, none⟩) 0 0) ([] : List Int).length (([] : List Int).map (Value.int .i64))) := ⟨_, rfl, below_allocG _ _, own_emptyK X _ _⟩
        have HSZ0 := keepG (HSU0.out.below hbZ (Nat.le_refl _))
        have hzZ := hbZ.size
        have c2X := ((HBC.out _ HPX.out).2.2.1)
        have hXl0 : nb < X.heap.size := HPX.out.lt
        have hXn0 : ¬ nb = X.heap.size := by omega
        have c2Z := ((HBC.out _ (HPX.out.below hbZ HPX.out.lt)).2.2.1)
        go_upto_block 2 with (first
          | (rw [HX.out, HNB.out])
          | (at_builtin; rw [HZ.out]; go_must (refine wpList_append_sees rfl _ _ 29 rfl X.heap.size 3 i0 _ 8 Try.underlying29 hi0 hz0 hzs hzb rfl .i64 (.slice (some ⟨X.heap.size, 0, none⟩) 0 0) [] rfl HOZ.out _ ow rfl HSZ0.out (by unfold maxLen; simp; omega) (by simp; omega) hzZ ?_); intro v8 w8 hown8 hgr8; go_must (rw [List.nil_append] at hown8; have hb8 : Below X.heap.size X w8 := hbZ.trans ((Below.refl _ _).grown hgr8 hzZ (fun k hk => by { have : X.heap.size = k := Option.some.inj hk; omega })); have HO8 := keepG hown8; have HB8 := keepG hb8; have c08 := (HBC.out _ (HPX.out.below hb8 HPX.out.lt)).1; clear hgr8 hb8; obtain ⟨v8a, v8c, rfl⟩ := own_shape hown8; clear hown8)))
        have HT8 : Hid (Pt w w8 b d nb F G K K j bx (.slice v8a ow.length v8c) ow) := by
          have hXs := hbX.size
          have hXl := HPX.out.lt
          have hnb := HNB.out
          have hpq := (HM.out.below hbX).below HB8.out
          obtain ⟨B, hm2, hm3⟩ := HM.out.dn
          refine ⟨hpq, HPX.out.below HB8.out HPX.out.lt, own_lowG HO8.out (by have := HM.out.la.be.size; omega), fun e => ?_, fun e => ?_, fun k e1 e2 => ?_, fun k e1 e2 => ?_⟩
          · have := HM.out.la.lies _ e; omega
          · have := hm3.lies _ e; omega
          · have := HM.out.la.lies _ e1; have := (HO8.out.lt k e2).1; omega
          · have := hm3.lies _ e1; have := (HO8.out.lt k e2).1; omega
        have HS8 : Hid (∀ wx : World, RoN wx w.heap.size (.slice v8a ow.length v8c) ow → Sees .i64 wx (.slice v8a ow.length v8c) ow) := fun wx hx => Sees.own hx (HSU0.out.wf)
        have q0 := (HBC.out _ HT8.out.box).1
        have q1 := (HBC.out _ HT8.out.box).2.1
        have q2 := (HBC.out _ HT8.out.box).2.2.1
        have q3 := (HBC.out _ HT8.out.box).2.2.2
        clear HM
        go_cut [11] (fun v11 wc => v11 = .bool true ∧ ∃ F1 G1 K1, Hid (Pt w wc b d nb F1 G1 K1 K1 (j + 1) bx (.slice v8a ow.length v8c) ow))
        case first => as_aux_lemma =>
          by_cases hk0 : ok = 0
          · subst hk0
            obtain ⟨E, K6, HQ⟩ : ∃ E K6, Hid (K.turn 1 ow = (E, K6)) := ⟨_, _, rfl⟩
            have HTd := keepG (HT8.out.drewN 1)
            have hEE : (E == E) = true := by simp
            go_wp2
            refine wp_region_held_drew (S := fun w' => w'.cell? ⟨nb, 2, none⟩ = some (.slice oa ow.length oac)) (by kernel_rfl) q2 (fun hHeld => ?_)
            refine tkGo [0, 1, 3, 4, 5] ?_
            repeat (refine tkOne (v := ?_) rfl (by kernel_rfl) (by kernel_rfl) (by kernel_rfl) (fun _ _ _ h => h) (by assumption) (by rfl) ?_ ?_; rotate_left; (intro wy hSw; (try dsimp only at hSw); go_simp; (first | done | with_reducible rfl)); try simp only [Act.put, List.getElem_toArray, List.getElem_cons_zero, List.getElem_cons_succ, List.setIfInBounds_toArray, List.set_cons_zero, List.set_cons_succ])
            refine tkEnd ?_
            refine wpAnyH_ready (rs := [2]) (by kernel_rfl) (by simp) ?_
            refine AllReadyH.cons rfl (fun KK hK => ?_) AllReadyH.nil
            rw [if_pos (by rfl)]
            go_simp
            go_at_call 9
            refine (HTd.out.pq.la.wake (HS8.out _ HTd.out.ro) (fun _ => HTd.out.fi) HQ HZW).mono ?_
            rintro e w10 ⟨rfl, F10, hl10, hn10⟩
            have HT10 := keepG (HTd.out.stepL hl10 hn10)
            go_simp
            refine hK.out _ _ (HBC.out _ HT10.out.box).2.2.1 (fun hHeld => ?_)
            clear hK KK hl10 hn10
            try simp only [Act.put, List.getElem_toArray, List.getElem_cons_zero, List.getElem_cons_succ, List.setIfInBounds_toArray, List.set_cons_zero, List.set_cons_succ]
            refine wpAnyH_ready (rs := [6]) (by kernel_rfl) (by simp) ?_
            refine AllReadyH.cons rfl (fun KK hK => ?_) AllReadyH.nil
            rw [if_pos (by rfl)]
            go_simp
            go_at_call 10
            refine (HT10.out.turnD (.inr (.inl rfl)) (HSA.out _ HT10.out.pq.la.be) (fun hne k hk e => by have h5 := HLU.out hne k e; have h6 := HT10.out.pq.sg k hk; omega) HQ).mono ?_
            rintro e w11 ⟨rfl, ht11⟩
            have HT11 := keepG ht11
            go_simp
            refine hK.out _ _ (HBC.out _ HT11.out.box).2.2.1 (fun hHeld => ?_)
            clear hK KK ht11
            try simp only [Act.put, List.getElem_toArray, List.getElem_cons_zero, List.getElem_cons_succ, List.setIfInBounds_toArray, List.set_cons_zero, List.set_cons_succ]
            refine tkGo [7, 8] ?_
            repeat (refine tkOne (v := ?_) rfl (by kernel_rfl) (by kernel_rfl) (by kernel_rfl) (fun _ _ _ h => h) (by assumption) (by rfl) ?_ ?_; rotate_left; (intro wy hSw; (try dsimp only at hSw); go_simp; (first | done | with_reducible rfl)); try simp only [Act.put, List.getElem_toArray, List.getElem_cons_zero, List.getElem_cons_succ, List.setIfInBounds_toArray, List.set_cons_zero, List.set_cons_succ])
            refine tkEnd ?_
            refine wpAnyH_done (by kernel_rfl) ?_ _
            clear hHeld
            go_wp2
            go_meet
            case rel => exact ⟨rfl, F10, G, K6, HT11.out.more (by omega)⟩
          · have hkb0 : (ok == 0) = false := by simpa using hk0
            by_cases hk1 : ok = 1
            · subst hk1
              obtain ⟨E, K6, HQ⟩ : ∃ E K6, Hid (K.turn 0 ow = (E, K6)) := ⟨_, _, rfl⟩
              have HTd := keepG (HT8.out.drewN 1)
              have hEE : (E == E) = true := by simp
              go_wp2
              refine wp_region_held_drew (S := fun w' => w'.cell? ⟨nb, 2, none⟩ = some (.slice oa ow.length oac)) (by kernel_rfl) q2 (fun hHeld => ?_)
              refine tkGo [0, 1, 3, 4, 5] ?_
              repeat (refine tkOne (v := ?_) rfl (by kernel_rfl) (by kernel_rfl) (by kernel_rfl) (fun _ _ _ h => h) (by assumption) (by rfl) ?_ ?_; rotate_left; (intro wy hSw; (try dsimp only at hSw); go_simp; (first | done | with_reducible rfl)); try simp only [Act.put, List.getElem_toArray, List.getElem_cons_zero, List.getElem_cons_succ, List.setIfInBounds_toArray, List.set_cons_zero, List.set_cons_succ])
              refine tkEnd ?_
              refine wpAnyH_ready (rs := [2]) (by kernel_rfl) (by simp) ?_
              refine AllReadyH.cons rfl (fun KK hK => ?_) AllReadyH.nil
              rw [if_pos (by rfl)]
              go_simp
              go_at_call 11
              refine (HTd.out.pq.la.sleep (HS8.out _ HTd.out.ro) (fun _ => HTd.out.fi) HQ HZW).mono ?_
              rintro e w10 ⟨rfl, F10, hl10, hn10⟩
              have HT10 := keepG (HTd.out.stepL hl10 hn10)
              go_simp
              refine hK.out _ _ (HBC.out _ HT10.out.box).2.2.1 (fun hHeld => ?_)
              clear hK KK hl10 hn10
              try simp only [Act.put, List.getElem_toArray, List.getElem_cons_zero, List.getElem_cons_succ, List.setIfInBounds_toArray, List.set_cons_zero, List.set_cons_succ]
              refine wpAnyH_ready (rs := [6]) (by kernel_rfl) (by simp) ?_
              refine AllReadyH.cons rfl (fun KK hK => ?_) AllReadyH.nil
              rw [if_pos (by rfl)]
              go_simp
              go_at_call 10
              refine (HT10.out.turnD (.inl rfl) (HSA.out _ HT10.out.pq.la.be) (fun hne k hk e => by have h5 := HLU.out hne k e; have h6 := HT10.out.pq.sg k hk; omega) HQ).mono ?_
              rintro e w11 ⟨rfl, ht11⟩
              have HT11 := keepG ht11
              go_simp
              refine hK.out _ _ (HBC.out _ HT11.out.box).2.2.1 (fun hHeld => ?_)
              clear hK KK ht11
              try simp only [Act.put, List.getElem_toArray, List.getElem_cons_zero, List.getElem_cons_succ, List.setIfInBounds_toArray, List.set_cons_zero, List.set_cons_succ]
              refine tkGo [7, 8] ?_
              repeat (refine tkOne (v := ?_) rfl (by kernel_rfl) (by kernel_rfl) (by kernel_rfl) (fun _ _ _ h => h) (by assumption) (by rfl) ?_ ?_; rotate_left; (intro wy hSw; (try dsimp only at hSw); go_simp; (first | done | with_reducible rfl)); try simp only [Act.put, List.getElem_toArray, List.getElem_cons_zero, List.getElem_cons_succ, List.setIfInBounds_toArray, List.set_cons_zero, List.set_cons_succ])
              refine tkEnd ?_
              refine wpAnyH_done (by kernel_rfl) ?_ _
              clear hHeld
              go_wp2
              go_meet
              case rel => exact ⟨rfl, F10, G, K6, HT11.out.more (by omega)⟩
            · have hkb1 : (ok == 1) = false := by simpa using hk1
              by_cases hk2 : ok = 2
              · subst hk2
                obtain ⟨E, K6, HQ⟩ : ∃ E K6, Hid (K.turn 2 ow = (E, K6)) := ⟨_, _, rfl⟩
                have HTd := keepG (HT8.out.drewN 1)
                have hEE : (E == E) = true := by simp
                go_wp2
                refine wp_region_held_drew (S := fun w' => w'.cell? ⟨nb, 2, none⟩ = some (.slice oa ow.length oac)) (by kernel_rfl) q2 (fun hHeld => ?_)
                refine tkGo [0, 1, 3, 4, 5] ?_
                repeat (refine tkOne (v := ?_) rfl (by kernel_rfl) (by kernel_rfl) (by kernel_rfl) (fun _ _ _ h => h) (by assumption) (by rfl) ?_ ?_; rotate_left; (intro wy hSw; (try dsimp only at hSw); go_simp; (first | done | with_reducible rfl)); try simp only [Act.put, List.getElem_toArray, List.getElem_cons_zero, List.getElem_cons_succ, List.setIfInBounds_toArray, List.set_cons_zero, List.set_cons_succ])
                refine tkEnd ?_
                refine wpAnyH_ready (rs := [2]) (by kernel_rfl) (by simp) ?_
                refine AllReadyH.cons rfl (fun KK hK => ?_) AllReadyH.nil
                rw [if_pos (by rfl)]
                go_simp
                go_at_call 12
                refine (HTd.out.pq.la.done (HS8.out _ HTd.out.ro) (fun _ => HTd.out.fi) HQ HZW).mono ?_
                rintro e w10 ⟨rfl, F10, hl10, hn10⟩
                have HT10 := keepG (HTd.out.stepL hl10 hn10)
                go_simp
                refine hK.out _ _ (HBC.out _ HT10.out.box).2.2.1 (fun hHeld => ?_)
                clear hK KK hl10 hn10
                try simp only [Act.put, List.getElem_toArray, List.getElem_cons_zero, List.getElem_cons_succ, List.setIfInBounds_toArray, List.set_cons_zero, List.set_cons_succ]
                refine wpAnyH_ready (rs := [6]) (by kernel_rfl) (by simp) ?_
                refine AllReadyH.cons rfl (fun KK hK => ?_) AllReadyH.nil
                rw [if_pos (by rfl)]
                go_simp
                go_at_call 10
                refine (HT10.out.turnD (.inr (.inr rfl)) (HSA.out _ HT10.out.pq.la.be) (fun hne k hk e => by have h5 := HLU.out hne k e; have h6 := HT10.out.pq.sg k hk; omega) HQ).mono ?_
                rintro e w11 ⟨rfl, ht11⟩
                have HT11 := keepG ht11
                go_simp
                refine hK.out _ _ (HBC.out _ HT11.out.box).2.2.1 (fun hHeld => ?_)
                clear hK KK ht11
                try simp only [Act.put, List.getElem_toArray, List.getElem_cons_zero, List.getElem_cons_succ, List.setIfInBounds_toArray, List.set_cons_zero, List.set_cons_succ]
                refine tkGo [7, 8] ?_
                repeat (refine tkOne (v := ?_) rfl (by kernel_rfl) (by kernel_rfl) (by kernel_rfl) (fun _ _ _ h => h) (by assumption) (by rfl) ?_ ?_; rotate_left; (intro wy hSw; (try dsimp only at hSw); go_simp; (first | done | with_reducible rfl)); try simp only [Act.put, List.getElem_toArray, List.getElem_cons_zero, List.getElem_cons_succ, List.setIfInBounds_toArray, List.set_cons_zero, List.set_cons_succ])
                refine tkEnd ?_
                refine wpAnyH_done (by kernel_rfl) ?_ _
                clear hHeld
                go_wp2
                go_meet
                case rel => exact ⟨rfl, F10, G, K6, HT11.out.more (by omega)⟩
              · have hkb2 : (ok == 2) = false := by simpa using hk2
                by_cases hk3 : ok = 3
                · subst hk3
                  obtain ⟨E, K6, HQ⟩ : ∃ E K6, Hid (K.set ors = (E, K6)) := ⟨_, _, rfl⟩
                  have hEE : (E == E) = true := by simp
                  obtain ⟨Y1, HY1, hbY1⟩ : ∃ Y1, Hid (w8.alloc (.cells #[] 4) = Y1) ∧ Below w8.heap.size w8 Y1 := ⟨_, rfl, below_allocG _ _⟩
                  have HTY1 := keepG ((HT8.out.below hbY1).drewN 1)
                  obtain ⟨v9, w9, hr9, ho9, hg9, _⟩ := run_append_seesG (f := bK) (d := false) (P := Try.prog) (Y1.drewN 1) w8.heap.size 32 32 4 j0 _ 1 1 Try.underlying32 hj0 hy0 hys hyb rfl (by decide) (.slice (some ⟨w8.heap.size, 0, none⟩) 0 0) 0 [] (by rw [← HY1.out]; exact own_below (own_emptyK w8 _ _) ⟨rfl, rfl, rfl, Nat.le_refl _, fun _ _ => rfl⟩ (Nat.le_refl _)) bK_len (HRA.out _ HTY1.out.pq.la.be) (b_flat ors) (by unfold maxLen; omega) (by omega) hbY1.size
                  rw [Nat.zero_add, List.nil_append] at ho9
                  have hbd9 : Below w8.heap.size w8 (Y1.drewN 1) := ⟨hbY1.os, hbY1.tape, hbY1.output, hbY1.size, hbY1.block⟩
                  have hb9 : Below w8.heap.size w8 w9 := hbd9.trans ((Chg.of_grown' hg9 (S := fun k => k = w8.heap.size) (fun k e => (Option.some.inj e).symm)).below (fun k e => by omega) hbY1.size)
                  have HT9 := keepG (HT8.out.below hb9)
                  have HS9 := keepG (own_seesG bK_len false ho9)
                  have HAP9 : Hid (ors ≠ [] → Apt F (ftV v9)) := fun _ => Apt.made HT8.out.pq.la.lies (own_since ho9 (Nat.le_refl _))
                  have HR9 := keepG hr9
                  obtain ⟨va9, vc9, ev⟩ := own_shape ho9
                  subst ev
                  clear hr9 ho9 hg9 hb9
                  go_wp2
                  refine wp_region_held_drew (S := fun w' => w'.cell? ⟨nb, 3, none⟩ = some (.slice ra ors.length rac)) (by kernel_rfl) q3 (fun hHeld => ?_)
                  refine tkGo [0, 2, 3, 6, 7, 8] ?_
                  repeat (refine tkOne (v := ?_) rfl (by kernel_rfl) (by kernel_rfl) (by kernel_rfl) (fun _ _ _ h => h) (by assumption) (by rfl) ?_ ?_; rotate_left; (intro wy hSw; (try dsimp only at hSw); go_simp; (first | done | with_reducible rfl)); try simp only [Act.put, List.getElem_toArray, List.getElem_cons_zero, List.getElem_cons_succ, List.setIfInBounds_toArray, List.set_cons_zero, List.set_cons_succ])
                  refine tkEnd ?_
                  refine wpAnyH_ready (rs := [1]) (by kernel_rfl) (by simp) ?_
                  refine AllReadyH.cons rfl (fun KK hK => ?_) AllReadyH.nil
                  rw [if_pos (by rfl)]
                  go_simp
                  rw [HY1.out]
                  refine hK.out _ _ (HBC.out _ HTY1.out.box).2.2.2 (fun hHeld => ?_)
                  clear hK KK
                  try simp only [Act.put, List.getElem_toArray, List.getElem_cons_zero, List.getElem_cons_succ, List.setIfInBounds_toArray, List.set_cons_zero, List.set_cons_succ]
                  refine wpAnyH_ready (rs := [4]) (by kernel_rfl) (by simp) ?_
                  refine AllReadyH.cons rfl (fun KK hK => ?_) AllReadyH.nil
                  rw [if_pos (by rfl)]
                  refine wp_appG _ (.tmp 120) (.tmp 122) 32 32 rfl _ _ rfl rfl HR9.out ?_
                  refine hK.out _ _ (HBC.out _ HT9.out.box).2.2.2 (fun hHeld => ?_)
                  clear hK KK
                  try simp only [Act.put, List.getElem_toArray, List.getElem_cons_zero, List.getElem_cons_succ, List.setIfInBounds_toArray, List.set_cons_zero, List.set_cons_succ]
                  refine wpAnyH_ready (rs := [5]) (by kernel_rfl) (by simp) ?_
                  refine AllReadyH.cons rfl (fun KK hK => ?_) AllReadyH.nil
                  rw [if_pos (by rfl)]
                  go_simp
                  go_at_call 13
                  refine (HT9.out.pq.la.set HS9.out HAP9.out HQ HZR).mono ?_
                  rintro e w10 ⟨rfl, F10, hl10, hn10⟩
                  have HT10 := keepG (HT9.out.stepL hl10 hn10)
                  go_simp
                  refine hK.out _ _ (HBC.out _ HT10.out.box).2.2.2 (fun hHeld => ?_)
                  clear hK KK hl10 hn10
                  try simp only [Act.put, List.getElem_toArray, List.getElem_cons_zero, List.getElem_cons_succ, List.setIfInBounds_toArray, List.set_cons_zero, List.set_cons_succ]
                  refine wpAnyH_ready (rs := [9]) (by kernel_rfl) (by simp) ?_
                  refine AllReadyH.cons rfl (fun KK hK => ?_) AllReadyH.nil
                  rw [if_pos (by rfl)]
                  go_simp
                  go_at_call 14
                  refine (HT10.out.setD (HRA.out _ HT10.out.pq.la.be) (fun hne k hk e => by have h5 := HLR.out hne k e; have h6 := HT10.out.pq.sg k hk; omega) HQ).mono ?_
                  rintro e w11 ⟨rfl, ht11⟩
                  have HT11 := keepG ht11
                  go_simp
                  refine hK.out _ _ (HBC.out _ HT11.out.box).2.2.2 (fun hHeld => ?_)
                  clear hK KK ht11
                  try simp only [Act.put, List.getElem_toArray, List.getElem_cons_zero, List.getElem_cons_succ, List.setIfInBounds_toArray, List.set_cons_zero, List.set_cons_succ]
                  refine tkGo [10, 11] ?_
                  repeat (refine tkOne (v := ?_) rfl (by kernel_rfl) (by kernel_rfl) (by kernel_rfl) (fun _ _ _ h => h) (by assumption) (by rfl) ?_ ?_; rotate_left; (intro wy hSw; (try dsimp only at hSw); go_simp; (first | done | with_reducible rfl)); try simp only [Act.put, List.getElem_toArray, List.getElem_cons_zero, List.getElem_cons_succ, List.setIfInBounds_toArray, List.set_cons_zero, List.set_cons_succ])
                  refine tkEnd ?_
                  refine wpAnyH_done (by kernel_rfl) ?_ _
                  clear hHeld
                  go_wp2
                  go_meet
                  case rel => exact ⟨rfl, F10, G, K6, HT11.out.more (by omega)⟩
                · have hkb3 : (ok == 3) = false := by simpa using hk3
                  by_cases hk4 : ok = 4
                  · subst hk4
                    obtain ⟨t, r, K6, HQ⟩ : ∃ t r K6, Hid (K.pick oc = (t, r, K6)) := ⟨_, _, _, rfl⟩
                    have htt : (t == t) = true := by simp
                    have hrr : (r == r) = true := by simp
                    have hla : K.p.length ≤ 1000000000000000 := by have := HT8.out.pq.cn; omega
                    go_wp2_with (first
                      | (go_at_call 15; go_must (refine (HT8.out.pq.la.pick hla oc HQ).mono ?_); rintro e w10 ⟨rfl, F10, hl10, hn10⟩; go_must (have HT10 := keepG (HT8.out.stepL hl10 hn10); have q1b := (HBC.out _ HT10.out.box).2.1; clear hl10 hn10))
                      | (go_at_call 16; go_must (refine (HT10.out.pickD (by omega) oc HQ).mono ?_); rintro e w11 ⟨rfl, G11, ht11⟩; go_must (have HT11 := keepG ht11; clear ht11)))
                    go_meet
                    case rel => exact ⟨rfl, F10, G11, K6, HT11.out⟩
                  · have hkb4 : (ok == 4) = false := by simpa using hk4
                    obtain ⟨t, r, K6, HQ⟩ : ∃ t r K6, Hid (K.fair = (t, r, K6)) := ⟨_, _, _, rfl⟩
                    have htt : (t == t) = true := by simp
                    have hrr : (r == r) = true := by simp
                    have hla : K.p.length ≤ 1000000000000000 := by have := HT8.out.pq.cn; omega
                    go_wp2_with (first
                      | (go_at_call 17; go_must (refine (HT8.out.pq.la.fair hla HQ).mono ?_); rintro e w10 ⟨rfl, F10, hl10, hn10⟩; go_must (have HT10 := keepG (HT8.out.stepL hl10 hn10); have q1b := (HBC.out _ HT10.out.box).2.1; clear hl10 hn10))
                      | (go_at_call 18; go_must (refine (HT10.out.fairD (by omega) HQ).mono ?_); rintro e w11 ⟨rfl, G11, ht11⟩; go_must (have HT11 := keepG ht11; clear ht11)))
                    go_meet
                    case rel => exact ⟨rfl, F10, G11, K6, HT11.out⟩
        case rest => as_aux_lemma =>
          obtain ⟨rfl, F1, G1, K1, HT⟩ := hcut
          clear HT8 q0 q1 q2 q3
          have HTd := keepG (HT.out.drewN 1)
          obtain ⟨A, HA⟩ : ∃ A, Hid (K1.inM 1 = A) := ⟨_, rfl⟩
          obtain ⟨A2, HA2⟩ : ∃ A2, Hid (K1.inM 2 = A2) := ⟨_, rfl⟩
          obtain ⟨pa, pc, hpc⟩ := HT.out.picksD
          have HPC := keepG hpc
          have hpp : ((K1.p.length : Int) != K1.p.length) = false := by simp
          have HS0 : Hid (∀ wx, Below wc.heap.size wc wx → wx.cell? ⟨nb, 2, none⟩ = some (.slice oa ow.length oac) ∧ wx.cell? ⟨d, 1, none⟩ = some (.slice pa K1.p.length pc)) := fun wx hb => ⟨(HBC.out _ (HT.out.below hb).box).2.2.1, HPC.out wx hb⟩
          have HBd : Hid (Below wc.heap.size wc (wc.drewN 1)) := ⟨rfl, rfl, rfl, Nat.le_refl _, fun _ _ => rfl⟩
          clear hpc
          go_wp2
          refine wp_region_held_drew (S := fun w' => w'.cell? ⟨nb, 2, none⟩ = some (.slice oa ow.length oac) ∧ w'.cell? ⟨d, 1, none⟩ = some (.slice pa K1.p.length pc)) (by kernel_rfl) (HS0.out wc (Below.refl _ _)) (fun hHeld => ?_)
          refine tkGo [0, 1, 2, 3, 4, 5] ?_
          repeat (refine tkOne (v := ?_) rfl (by kernel_rfl) (by kernel_rfl) (by kernel_rfl) (fun _ _ _ h => h) (by assumption) (by rfl) ?_ ?_; rotate_left; (intro wy hSw; (try dsimp only at hSw); go_simp; (first | done | with_reducible rfl)); try simp only [Act.put, List.getElem_toArray, List.getElem_cons_zero, List.getElem_cons_succ, List.setIfInBounds_toArray, List.set_cons_zero, List.set_cons_succ])
          refine tkEnd ?_
          refine wpAnyH_ready (rs := [6]) (by kernel_rfl) (by simp) ?_
          refine AllReadyH.cons rfl (fun KK hK => ?_) AllReadyH.nil
          rw [if_pos (by rfl)]
          go_simp
          go_at_call 19
          refine (wints21 HTd.out.ro.rdn (HSA.out _ HTd.out.pq.la.be).rdn).mono ?_
          rintro e wa ⟨rfl, hba⟩
          have HBa := keepG (HBd.out.trans hba)
          have HTa := keepG (HT.out.below HBa.out)
          go_simp
          refine hK.out _ _ (HS0.out wa HBa.out) (fun hHeld => ?_)
          clear hK KK hba HTd HBd
          try simp only [Act.put, List.getElem_toArray, List.getElem_cons_zero, List.getElem_cons_succ, List.setIfInBounds_toArray, List.set_cons_zero, List.set_cons_succ]
          refine tkGo [7, 8, 9, 10, 12] ?_
          repeat (refine tkOne (v := ?_) rfl (by kernel_rfl) (by kernel_rfl) (by kernel_rfl) (fun _ _ _ h => h) (by assumption) (by rfl) ?_ ?_; rotate_left; (intro wy hSw; (try dsimp only at hSw); go_simp; (first | done | with_reducible rfl)); try simp only [Act.put, List.getElem_toArray, List.getElem_cons_zero, List.getElem_cons_succ, List.setIfInBounds_toArray, List.set_cons_zero, List.set_cons_succ])
          refine tkEnd ?_
          refine wpAnyH_ready (rs := [11]) (by kernel_rfl) (by simp) ?_
          refine AllReadyH.cons rfl (fun KK hK => ?_) AllReadyH.nil
          rw [if_pos (by rfl)]
          go_simp
          go_at_call 20
          refine (HTa.out.pq.la.ready HA).mono ?_
          rintro e wb ⟨ub, rfl, hub, hbb⟩
          have HBb := keepG (HBa.out.trans (hbb.mono HBa.out.size))
          have HTb := keepG (HT.out.below HBb.out)
          obtain ⟨uba, ubc, ev⟩ := own_shape hub
          subst ev
          have HUb := keepG hub.rdn
          go_simp
          refine hK.out _ _ (HS0.out wb HBb.out) (fun hHeld => ?_)
          clear hK KK hub hbb HBa HTa
          try simp only [Act.put, List.getElem_toArray, List.getElem_cons_zero, List.getElem_cons_succ, List.setIfInBounds_toArray, List.set_cons_zero, List.set_cons_succ]
          refine wpAnyH_ready (rs := [13]) (by kernel_rfl) (by simp) ?_
          refine AllReadyH.cons rfl (fun KK hK => ?_) AllReadyH.nil
          rw [if_pos (by rfl)]
          go_simp
          go_at_call 21
          refine (HTb.out.inD 1 HA).mono ?_
          rintro e we ⟨ue, rfl, hue, hbe⟩
          have HBe := keepG (HBb.out.trans (hbe.mono HBb.out.size))
          have HUe := keepG (HUb.out.below hbe)
          obtain ⟨uea, uec, ev⟩ := own_shape hue
          subst ev
          have HVe := keepG hue.rdn
          go_simp
          refine hK.out _ _ (HS0.out we HBe.out) (fun hHeld => ?_)
          clear hK KK hue hbe HBb HTb HUb
          try simp only [Act.put, List.getElem_toArray, List.getElem_cons_zero, List.getElem_cons_succ, List.setIfInBounds_toArray, List.set_cons_zero, List.set_cons_succ]
          refine wpAnyH_ready (rs := [14]) (by kernel_rfl) (by simp) ?_
          refine AllReadyH.cons rfl (fun KK hK => ?_) AllReadyH.nil
          rw [if_pos (by rfl)]
          go_simp
          go_at_call 19
          refine (wints21 HUe.out HVe.out).mono ?_
          rintro e wf ⟨rfl, hbf⟩
          have HBf := keepG (HBe.out.trans (hbf.mono HBe.out.size))
          have HTf := keepG (HT.out.below HBf.out)
          go_simp
          refine hK.out _ _ (HS0.out wf HBf.out) (fun hHeld => ?_)
          clear hK KK hbf HBe HUe HVe
          try simp only [Act.put, List.getElem_toArray, List.getElem_cons_zero, List.getElem_cons_succ, List.setIfInBounds_toArray, List.set_cons_zero, List.set_cons_succ]
          refine tkGo [15, 16, 17, 18, 20] ?_
          repeat (refine tkOne (v := ?_) rfl (by kernel_rfl) (by kernel_rfl) (by kernel_rfl) (fun _ _ _ h => h) (by assumption) (by rfl) ?_ ?_; rotate_left; (intro wy hSw; (try dsimp only at hSw); go_simp; (first | done | with_reducible rfl)); try simp only [Act.put, List.getElem_toArray, List.getElem_cons_zero, List.getElem_cons_succ, List.setIfInBounds_toArray, List.set_cons_zero, List.set_cons_succ])
          refine tkEnd ?_
          refine wpAnyH_ready (rs := [19]) (by kernel_rfl) (by simp) ?_
          refine AllReadyH.cons rfl (fun KK hK => ?_) AllReadyH.nil
          rw [if_pos (by rfl)]
          go_simp
          go_at_call 22
          refine (HTf.out.pq.la.ended HA2).mono ?_
          rintro e wg ⟨ug, rfl, hug, hbg⟩
          have HBg := keepG (HBf.out.trans (hbg.mono HBf.out.size))
          have HTg := keepG (HT.out.below HBg.out)
          obtain ⟨uga, ugc, ev⟩ := own_shape hug
          subst ev
          have HUg := keepG hug.rdn
          go_simp
          refine hK.out _ _ (HS0.out wg HBg.out) (fun hHeld => ?_)
          clear hK KK hug hbg HBf HTf
          try simp only [Act.put, List.getElem_toArray, List.getElem_cons_zero, List.getElem_cons_succ, List.setIfInBounds_toArray, List.set_cons_zero, List.set_cons_succ]
          refine wpAnyH_ready (rs := [21]) (by kernel_rfl) (by simp) ?_
          refine AllReadyH.cons rfl (fun KK hK => ?_) AllReadyH.nil
          rw [if_pos (by rfl)]
          go_simp
          go_at_call 21
          refine (HTg.out.inD 2 HA2).mono ?_
          rintro e wh ⟨uh, rfl, huh, hbh⟩
          have HBh := keepG (HBg.out.trans (hbh.mono HBg.out.size))
          have HUh := keepG (HUg.out.below hbh)
          obtain ⟨uha, uhc, ev⟩ := own_shape huh
          subst ev
          have HVh := keepG huh.rdn
          go_simp
          refine hK.out _ _ (HS0.out wh HBh.out) (fun hHeld => ?_)
          clear hK KK huh hbh HBg HTg HUg
          try simp only [Act.put, List.getElem_toArray, List.getElem_cons_zero, List.getElem_cons_succ, List.setIfInBounds_toArray, List.set_cons_zero, List.set_cons_succ]
          refine wpAnyH_ready (rs := [22]) (by kernel_rfl) (by simp) ?_
          refine AllReadyH.cons rfl (fun KK hK => ?_) AllReadyH.nil
          rw [if_pos (by rfl)]
          go_simp
          go_at_call 19
          refine (wints21 HUh.out HVh.out).mono ?_
          rintro e wi ⟨rfl, hbi⟩
          have HBi := keepG (HBh.out.trans (hbi.mono HBh.out.size))
          have HTi := keepG (HT.out.below HBi.out)
          go_simp
          refine hK.out _ _ (HS0.out wi HBi.out) (fun hHeld => ?_)
          clear hK KK hbi HBh HUh HVh
          try simp only [Act.put, List.getElem_toArray, List.getElem_cons_zero, List.getElem_cons_succ, List.setIfInBounds_toArray, List.set_cons_zero, List.set_cons_succ]
          refine tkGo [23, 24, 25, 26, 28, 29, 30, 31, 32] ?_
          repeat (refine tkOne (v := ?_) rfl (by kernel_rfl) (by kernel_rfl) (by kernel_rfl) (fun _ _ _ h => h) (by assumption) (by rfl) ?_ ?_; rotate_left; (intro wy hSw; (try dsimp only at hSw); go_simp; (first | done | with_reducible rfl)); try simp only [Act.put, List.getElem_toArray, List.getElem_cons_zero, List.getElem_cons_succ, List.setIfInBounds_toArray, List.set_cons_zero, List.set_cons_succ])
          refine tkEnd ?_
          refine wpAnyH_ready (rs := [27]) (by kernel_rfl) (by simp) ?_
          refine AllReadyH.cons rfl (fun KK hK => ?_) AllReadyH.nil
          rw [if_pos (by rfl)]
          go_simp
          go_at_call 23
          refine (HTi.out.pq.la.turns).mono ?_
          rintro e wj ⟨rfl, rfl⟩
          go_simp
          refine hK.out _ _ (HS0.out _ HBi.out) (fun hHeld => ?_)
          clear hK KK
          try simp only [Act.put, List.getElem_toArray, List.getElem_cons_zero, List.getElem_cons_succ, List.setIfInBounds_toArray, List.set_cons_zero, List.set_cons_succ]
          refine tkGo [33, 34] ?_
          repeat (refine tkOne (v := ?_) rfl (by kernel_rfl) (by kernel_rfl) (by kernel_rfl) (fun _ _ _ h => h) (by assumption) (by rfl) ?_ ?_; rotate_left; (intro wy hSw; (try dsimp only at hSw); go_simp; (first | done | with_reducible rfl)); try simp only [Act.put, List.getElem_toArray, List.getElem_cons_zero, List.getElem_cons_succ, List.setIfInBounds_toArray, List.set_cons_zero, List.set_cons_succ])
          refine tkEnd ?_
          refine wpAnyH_done (by kernel_rfl) ?_ _
          clear hHeld
          go_wp2
          go_roundw
          case rel => first
            | exact ⟨j + 1, by omega, by omega, by go_num, F1, G1, K1, HTi.out.pq⟩
            | ((repeat apply Exists.intro); exact ⟨⟨j + 1, by omega, by omega, by go_num, F1, G1, K1, HTi.out.pq⟩, rfl⟩)
          case measure => simp [intOf]; omega
      · have hj3I : ¬ (j : Int) < 300 := by omega
        have HBE := keepG HM.out.la.be
        go_wp2
        go_ret
        exact ⟨rfl, HBE.out⟩
    · have hltI : ¬ (j : Int) < is.length := by omega
      have HBE := keepG HM.out.la.be
      go_wp2
      go_ret
      exact ⟨rfl, HBE.out⟩
/-- KernPlays. -/
theorem kernPlays_walk (n : Int) (sv : Value) (is : List Ow) (w : World) {P0 : Prop} (_ : P0) (hs : Scr w sv is) (hlen : is.length * 64 ≤ 140737488351232 ∧ ∀ x ∈ is, x.ws.length * 8 ≤ 140737488351232 ∧ x.rs.length ≤ 140737488351232) :
    Calls Try.prog 3 #[.int .i64 n, sv] w fun e w' => e = .returned (.bool true) ∧ Below w.heap.size w w' := by
  by_cases h : n < 1 ∨ 64 < n
  · exact kernPlays_no n sv w h
  · obtain ⟨m, rfl⟩ : ∃ m : Nat, n = m := ⟨n.toNat, by omega⟩
    exact kernPlays_ok m (by omega) (by omega) sv is w hs hlen.1 hlen.2
end Go.Proofs.Ytnjmajcjdkceoaa
