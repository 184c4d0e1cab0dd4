/-
  W22Pl, joined.
-/
import Derived.Test.YtpbfgebecgikjaaTk
import Derived.Test.YtpbfgebecgikjaaMPL
namespace Go.Proofs.Ytpbfgebecgikjaa
open Go.RowKit
set_option linter.unusedVariables false
set_option linter.unusedSimpArgs false
set_option maxRecDepth 100000
set_option maxHeartbeats 25600000 in
theorem ownerPlays_ok (s n : Int) (mv : Value) (es : List (Int × Int)) (sv : Value) (is : List Oq) (w : World) (hm : SeesG dfC 2 (0, 0) w mv es) (hme : es.length * 16 ≤ 140737488351232) (hs : Sc22 w sv is) :
    Calls Try.prog 3 #[shV s n mv, sv] w fun e w' => e = .returned (.bool true) ∧ Below w.heap.size w w' := by
  obtain ⟨ma, mc, ev, hml, hmm⟩ := hm.shape
  subst ev
  obtain ⟨sa, sc, ev, hsl, hsm⟩ := hs.sees.shape
  subst ev
  obtain ⟨i0, hi0, hz0, hzs, hzb⟩ := info_parts infoRt
  obtain ⟨i3, hi3, hz3, hzs3, hzb3⟩ := info_parts infoDf22
  obtain ⟨X, HX, HBX, HPX⟩ : ∃ X, Hid (w.alloc (.cells #[.int .i64 s, .int .i64 n, .slice ma es.length mc] 24) = X) ∧ Hid (Below w.heap.size w X) ∧ Hid (Hp X w.heap.size 24 [.int .i64 s, .int .i64 n, .slice ma es.length mc]) := ⟨_, rfl, below_allocG _ _, Hp.new w _ _⟩
  have HMV : Hid (∀ wx, Below X.heap.size X wx → SeesG dfC 2 (0, 0) wx (.slice ma es.length mc) es) := fun wx hb => hm.below (HBX.out.trans (hb.mono HBX.out.size)) (Nat.le_refl _)
  have HSV : Hid (∀ wx, Below X.heap.size X wx → SeesG oqC 3 Oq.nil wx (.slice sa is.length sc) is) := fun wx hb => hs.sees.below (HBX.out.trans (hb.mono HBX.out.size)) (Nat.le_refl _)
  have HRQ : Hid (∀ x ∈ is, ∀ wx, Below X.heap.size X wx → SeesG rtC 7 Rt.nil wx x.u x.qs) := fun x hx wx hb => (hs.qs x hx).sees.below (HBX.out.trans (hb.mono HBX.out.size)) (Nat.le_refl _)
  have HRW : Hid (∀ x ∈ is, ∀ q ∈ x.qs, q.wf) := fun x hx => (hs.qs x hx).wf
  have HBC : Hid (∀ wx, Below X.heap.size X wx → wx.cell? ⟨w.heap.size, 0, none⟩ = some (.int .i64 s) ∧ wx.cell? ⟨w.heap.size, 1, none⟩ = some (.int .i64 n) ∧ wx.cell? ⟨w.heap.size, 2, none⟩ = some (.slice ma es.length mc)) := by
    intro wx hb
    have h := HPX.out.below hb HPX.out.lt
    exact ⟨h.cell (j := 0) rfl, h.cell (j := 1) rfl, h.cell (j := 2) rfl⟩
  have HEND : Hid (∀ wx, Below X.heap.size X wx → Below w.heap.size w wx) := fun wx hb => HBX.out.trans (hb.mono HBX.out.size)
  obtain ⟨nb, HNB⟩ : ∃ nb, Hid (w.heap.size = nb) := ⟨_, rfl⟩
  have HBC2 : Hid (∀ wx, Below X.heap.size X wx → wx.cell? ⟨nb, 0, none⟩ = some (.int .i64 s) ∧ wx.cell? ⟨nb, 1, none⟩ = some (.int .i64 n) ∧ wx.cell? ⟨nb, 2, none⟩ = some (.slice ma es.length mc)) := by rw [← HNB.out]; exact HBC.out
  clear hm hs HBC
  go_enter Try.func3, Try.ntmps3
  go_wp2_with (go_at_call 7; rw [HX.out, HNB.out]; go_must (refine (awake22_any X).mono ?_); rintro e w1 ⟨rfl, hb1⟩; go_must (have HB1 := keepG hb1; clear hb1))
  obtain ⟨Z, HZ, HBZ⟩ : ∃ Z, Hid ((w1.alloc (.cells #[] 74)).drew = Z) ∧ Hid (Below w1.heap.size w1 Z) := ⟨_, rfl, below_drG (below_allocG _ _)⟩
  have HXZ : Hid (Below X.heap.size X Z) := HB1.out.trans (HBZ.out.mono HB1.out.size)
  obtain ⟨v3, w3, hr3, ho3, hg3, _⟩ := run_append_seesG (f := dfC) (d := ((0, 0) : Int × Int)) (P := Try.prog) Z w1.heap.size 22 22 74 i3 _ 2 16 Try.underlying22 hi3 hz3 hzs3 hzb3 rfl (by decide) (.slice (some ⟨w1.heap.size, 0, none⟩) 0 0) 0 [] (by rw [← HZ.out]; exact own_of (cs := []) (Nat.le_refl _) (heap_alloc_new w1 _) (Nat.le_refl _) (by simp [maxLen]) (by simp) (by simp)) dfC_len (HMV.out Z HXZ.out) (df_flat es) (by unfold maxLen; omega) (by omega) HBZ.out.size
  rw [Nat.zero_add, List.nil_append] at ho3
  have hb3 : Below w1.heap.size w1 w3 := HBZ.out.trans ((Chg.of_grown' hg3 (S := fun k => k = w1.heap.size) (fun k e => (Option.some.inj e).symm)).below (fun k e => by have e3 : k = w1.heap.size := e; omega) HBZ.out.size)
  have HX3 : Hid (Below X.heap.size X w3) := HB1.out.trans (hb3.mono HB1.out.size)
  have HS3 := keepG (own_seesG dfC_len ((0, 0) : Int × Int) ho3)
  obtain ⟨va3, vc3, ev⟩ := own_shape ho3
  subst ev
  clear ho3 hg3 hb3
  refine wp_region_held_drew (S := fun w' => w'.cell? ⟨nb, 0, none⟩ = some (.int .i64 s) ∧ w'.cell? ⟨nb, 1, none⟩ = some (.int .i64 n) ∧ w'.cell? ⟨nb, 2, none⟩ = some (.slice ma es.length mc)) (by kernel_rfl) (HBC2.out w1 HB1.out) (fun hHeld => ?_)
  refine tkGo [0, 1, 2, 3, 5, 6] ?_
  repeat (refine tkOne (v := ?_) rfl (by kernel_rfl) (by kernel_rfl) (by kernel_rfl) (fun _ _ _ h => h) (by assumption) (by rfl) ?_ ?_; rotate_left; (intro wy hSw; (try dsimp only at hSw); go_simp; (first | done | with_reducible rfl)); try simp only [Act.put, List.getElem_toArray, List.getElem_cons_zero, List.getElem_cons_succ, List.setIfInBounds_toArray, List.set_cons_zero, List.set_cons_succ])
  refine tkEnd ?_
  refine wpAnyH_ready (rs := [4]) (by kernel_rfl) (by simp) ?_
  refine AllReadyH.cons rfl (fun KK hK => ?_) AllReadyH.nil
  rw [if_pos (by rfl)]
  go_simp
  rw [HZ.out]
  refine hK.out _ _ (HBC2.out Z HXZ.out) (fun hHeld => ?_)
  clear hK KK
  try simp only [Act.put, List.getElem_toArray, List.getElem_cons_zero, List.getElem_cons_succ, List.setIfInBounds_toArray, List.set_cons_zero, List.set_cons_succ]
  refine wpAnyH_ready (rs := [7]) (by kernel_rfl) (by simp) ?_
  refine AllReadyH.cons rfl (fun KK hK => ?_) AllReadyH.nil
  rw [if_pos (by rfl)]
  refine wp_appG _ (.tmp 27) (.tmp 29) 22 22 rfl _ _ rfl rfl hr3 ?_
  refine hK.out _ _ (HBC2.out w3 HX3.out) (fun hHeld => ?_)
  clear hK KK hr3
  try simp only [Act.put, List.getElem_toArray, List.getElem_cons_zero, List.getElem_cons_succ, List.setIfInBounds_toArray, List.set_cons_zero, List.set_cons_succ]
  refine wpAnyH_ready (rs := [8]) (by kernel_rfl) (by simp) ?_
  refine AllReadyH.cons rfl (fun KK hK => ?_) AllReadyH.nil
  rw [if_pos (by rfl)]
  go_simp
  go_at_call 8
  cases hn : newO s n es with
  | none =>
    have HN := keepG hn
    clear hn
    refine (lonew_no s n w3 HS3.out HN).mono ?_
    rintro e w4 ⟨rfl, hb4⟩
    have HX4 := keepG (HX3.out.trans (hb4.mono HX3.out.size))
    clear hb4
    go_simp
    refine hK.out _ _ (HBC2.out w4 HX4.out) (fun hHeld => ?_)
    clear hK KK
    try simp only [Act.put, List.getElem_toArray, List.getElem_cons_zero, List.getElem_cons_succ, List.setIfInBounds_toArray, List.set_cons_zero, List.set_cons_succ]
    refine tkGo [9, 10, 11, 12, 13] ?_
    repeat (refine tkOne (v := ?_) rfl (by kernel_rfl) (by kernel_rfl) (by kernel_rfl) (fun _ _ _ h => h) (by assumption) (by rfl) ?_ ?_; rotate_left; (intro wy hSw; (try dsimp only at hSw); go_simp; (first | done | with_reducible rfl)); try simp only [Act.put, List.getElem_toArray, List.getElem_cons_zero, List.getElem_cons_succ, List.setIfInBounds_toArray, List.set_cons_zero, List.set_cons_succ])
    refine tkEnd ?_
    refine wpAnyH_done (by kernel_rfl) ?_ _
    clear hHeld
    obtain ⟨c0, c1, c2⟩ := HBC2.out w4 HX4.out
    go_wp2_with (go_at_call 9; go_must (refine (dnew_no s n w4 (HMV.out w4 HX4.out) HN).mono ?_); rintro e w5 ⟨rfl, hb5⟩; go_must (have HX5 := keepG (HX4.out.trans (hb5.mono HX4.out.size)); clear hb5))
    go_ret
    exact ⟨rfl, HEND.out _ HX5.out⟩
  | some o =>
    have HN := keepG hn
    obtain ⟨hol, hov, hon, hstl⟩ := newO_line hn
    obtain ⟨_, _, he4, ds, _, hoe, hok⟩ := newO_some hn
    have HOK := keepG hok
    have HON := keepG hon
    have HSTL := keepG hstl
    clear hn hol hov hon hok hoe hstl
    refine (lznew_ok s n HX3.out HS3.out HN).mono ?_
    rintro e w4 ⟨a, F0, rfl, hL4, hS4, hb4⟩
    have HX4 := keepG hL4.be
    have HL4 := keepG hL4
    clear hL4 hS4 hb4
    go_simp
    refine hK.out _ _ (HBC2.out w4 HX4.out) (fun hHeld => ?_)
    clear hK KK
    try simp only [Act.put, List.getElem_toArray, List.getElem_cons_zero, List.getElem_cons_succ, List.setIfInBounds_toArray, List.set_cons_zero, List.set_cons_succ]
    refine tkGo [9, 10, 11, 12, 13] ?_
    repeat (refine tkOne (v := ?_) rfl (by kernel_rfl) (by kernel_rfl) (by kernel_rfl) (fun _ _ _ h => h) (by assumption) (by rfl) ?_ ?_; rotate_left; (intro wy hSw; (try dsimp only at hSw); go_simp; (first | done | with_reducible rfl)); try simp only [Act.put, List.getElem_toArray, List.getElem_cons_zero, List.getElem_cons_succ, List.setIfInBounds_toArray, List.set_cons_zero, List.set_cons_succ])
    refine tkEnd ?_
    refine wpAnyH_done (by kernel_rfl) ?_ _
    clear hHeld
    obtain ⟨c0, c1, c2⟩ := HBC2.out w4 HX4.out
    go_wp2_with (go_at_call 9; go_must (refine (dnew_ok s n w4 (HMV.out w4 HX4.out) HN).mono ?_); rintro e w5 ⟨b, vm, ps, S, G, rfl, hD, hS5, hb5⟩; go_must (have HP5 : Hid (Pw X w5 a b F0 vm (.slice none 0 0) ps S G o o []) := ⟨HL4.out.below hb5, hD.low' HX4.out.size, Apt.made HL4.out.lies hS5, fun k hk => Nat.le_trans HX4.out.size (hS5 k hk)⟩; clear hD hS5 hb5))
    clear HL4 HX4 HX3 HXZ HB1
    go_loopw [9] (fun i wr => ∃ (j : Nat) (F : Ft) (va : Value) (S : List Lt) (G : Nat → Ft) (o1 : On) (old : List Rt), j ≤ is.length ∧ j ≤ 300 ∧ i = .int .i64 j ∧ Hid (Pw X wr a b F vm va ps S G o1 o1 old ∧ old.length ≤ j ∧ (old ++ o1.ln).length ≤ 40 * j ∧ o1.st.length = es.length)) (fun i _ => is.length - (intOf i).toNat)
    case atStart => exact ⟨0, F0, _, S, G, o, [], Nat.zero_le _, Nat.zero_le _, rfl, HP5.out, Nat.le_refl _, by rw [HON.out]; exact Nat.le_refl _, HSTL.out⟩
    case round =>
      clear HP5
      obtain ⟨j, F, va, S, G, o1, old, hj, hj3, rfl, HI⟩ := hrel
      rename World => wr
      by_cases hlt : j < is.length
      · have hltI : (j : Int) < is.length := by omega
        have hltd : decide ((j : Int) < is.length) = true := by simpa using hltI
        by_cases h3 : j < 300
        · have h3I : (j : Int) < 300 := by omega
          have h3d : decide ((j : Int) < 300) = true := by simpa using h3I
          obtain ⟨p, off, ev, d0, d1, d2⟩ := oqAt (HSV.out wr HI.out.1.la.be) hlt
          subst ev
          have hmem : is.getD j Oq.nil ∈ is := by simp [List.getD, hlt]
          have HXQ := keepG (HRQ.out _ hmem)
          have HXW := keepG (HRW.out _ hmem)
          obtain ⟨x, HXX⟩ : ∃ x, Hid (is.getD j Oq.nil = x) := ⟨_, rfl⟩
          rw [HXX.out] at d0 d1 d2 HXQ HXW
          obtain ⟨xk, xm, xu, xq⟩ := x
          simp only at d0 d1 d2 HXQ HXW
          obtain ⟨ua, uc, ev, _, _⟩ := (HXQ.out wr HI.out.1.la.be).shape
          subst ev
          obtain ⟨W1, HW1, HQ1, HB1⟩ : ∃ W1, Hid (wr.alloc (.cells #[.int .i64 xk, .int .i64 xm, .slice ua xq.length uc] 36) = W1) ∧ Hid (Hp W1 wr.heap.size 36 [.int .i64 xk, .int .i64 xm, .slice ua xq.length uc]) ∧ Hid (Below wr.heap.size wr W1) := ⟨_, rfl, Hp.new wr _ _, below_allocG _ _⟩
          obtain ⟨nx, HNX⟩ : ∃ nx, Hid (wr.heap.size = nx) := ⟨_, rfl⟩
          rw [HNX.out] at HQ1
          have e0 : W1.cell? ⟨nx, 0, none⟩ = some (.int .i64 xk) := HQ1.out.cell (j := 0) rfl
          have e1 : W1.cell? ⟨nx, 1, none⟩ = some (.int .i64 xm) := HQ1.out.cell (j := 1) rfl
          have e2 : W1.cell? ⟨nx, 2, none⟩ = some (.slice ua xq.length uc) := HQ1.out.cell (j := 2) rfl
          have HP1 := keepG (HI.out.1.below HB1.out)
          have HNF := keepG (HI.out.1.new (Nat.le_of_eq HNX.out))
          clear hmem
          by_cases h40 : 40 < xq.length
          · have h40I : (40 : Int) < xq.length := by omega
            go_wp2_with (rw [HW1.out, HNX.out])
            go_roundw
            case rel => exact ⟨j + 1, F, va, S, G, o1, old, by omega, by omega, by go_num, HP1.out, by have := HI.out.2.1; omega, by have := HI.out.2.2.1; omega, HI.out.2.2.2⟩
            case measure => simp [intOf]; omega
          · have h40I : ¬ (40 : Int) < xq.length := by omega
            by_cases hk0 : xk = 0
            · subst hk0
              as_aux_lemma =>
                obtain ⟨Z, HZ, HBZ⟩ : ∃ Z, Hid (W1.alloc (.cells #[] 45) = Z) ∧ Hid (Below W1.heap.size W1 Z) := ⟨_, rfl, below_allocG _ _⟩
                have HXZ2 : Hid (Below X.heap.size X Z) := HP1.out.la.be.trans (HBZ.out.mono HP1.out.la.be.size)
                obtain ⟨v3, wi, hr3, ho3, hg3, _⟩ := run_append_seesG (f := rtC) (d := Rt.nil) (P := Try.prog) Z W1.heap.size 34 34 45 i0 _ 7 56 Try.underlying34 hi0 hz0 hzs hzb rfl (by decide) (.slice (some ⟨W1.heap.size, 0, none⟩) 0 0) 0 [] (by rw [← HZ.out]; exact own_of (cs := []) (Nat.le_refl _) (heap_alloc_new W1 _) (Nat.le_refl _) (by simp [maxLen]) (by simp) (by simp)) rtC_len (HXQ.out Z HXZ2.out) (rt_flat xq) (by unfold maxLen; omega) (by omega) HBZ.out.size
                rw [Nat.zero_add, List.nil_append] at ho3
                have HBI : Hid (Below W1.heap.size W1 wi) := HBZ.out.trans ((Chg.of_grown' hg3 (S := fun k => k = W1.heap.size) (fun k e => (Option.some.inj e).symm)).below (fun k e => by have e3 : k = W1.heap.size := e; omega) HBZ.out.size)
                obtain ⟨vi, ci, ev⟩ := own_shape ho3
                subst ev
                have HR3 := keepG hr3
                have HOI : Hid (RoRt wi W1.heap.size (.slice vi xq.length ci) xq) := ho3
                have z2 : Z.cell? ⟨nx, 2, none⟩ = some (.slice ua xq.length uc) := (HQ1.out.below HBZ.out HQ1.out.lt).cell (j := 2) rfl
                have HAI : Hid (Apt F (ftV (.slice vi xq.length ci))) := Apt.made HP1.out.la.lies (own_since HOI.out (Nat.le_refl _))
                have HAD : Hid (Apt (footW b vm va ps.length G) (ftV (.slice vi xq.length ci))) := Apt.made HP1.out.ld.lies (own_since HOI.out (Nat.le_refl _))
                have HSI : Hid (Since X (ftV (.slice vi xq.length ci))) := own_since HOI.out HP1.out.la.be.size
                have HBID : Hid (Below W1.heap.size W1 wi.drew) := below_drG HBI.out
                have HPD := keepG (HP1.out.below HBID.out)
                have HQD := keepG (HQ1.out.below HBID.out HQ1.out.lt)
                have HOD : Hid (RoRt wi.drew W1.heap.size (.slice vi xq.length ci) xq) := RoRt.below HOI.out (below_drG (Below.refl wi.heap.size wi))
                have HOK1 := keepG HP1.out.la.ok
                obtain ⟨E, o2, HSN⟩ : ∃ E o2, Hid (o1.send xq = (E, o2)) := ⟨_, _, rfl⟩
                have hEE : (E == E) = true := by simp
                have HO2 : Hid ((old ++ o2.ln).length ≤ (old ++ o1.ln).length + xq.length ∧ o2.st.length = o1.st.length) := by
                  have h := HSN.out
                  unfold On.send at h
                  split at h
                  · injection h with _ h; subst h; exact ⟨by omega, rfl⟩
                  · split at h
                    · injection h with _ h; subst h; exact ⟨by simp [On.line]; omega, rfl⟩
                    · injection h with _ h; subst h; exact ⟨by omega, rfl⟩
                have HZS : Hid ((o1.ln.length + xq.length) * 56 ≤ 140737488355328) := by show _ ≤ _; have := HI.out.2.2.1; rw [List.length_append] at this; omega
                have HZD : Hid (((old ++ o1.ln).length + xq.length) * 56 ≤ 140737488355328) := by show _ ≤ _; have := HI.out.2.2.1; omega
                clear hr3 ho3 hg3
                go_wp2_with (first
                  | (rw [HZ.out])
                  | (at_builtin; go_must (refine wpList_appG _ rfl (.tmp 121) (.tmp 123) 34 34 rfl _ _ rfl rfl HR3.out ?_))
                  | (rw [HW1.out, HNX.out]))
                refine wp_region_held_drew (S := fun w' => w'.cell? ⟨nx, 2, none⟩ = some (.slice ua xq.length uc)) (by kernel_rfl) (HQD.out.cell (j := 2) rfl) (fun hHeld => ?_)
                refine tkGo [0, 1, 3, 4, 5] ?_
                repeat (refine tkOne (v := ?_) rfl (by kernel_rfl) (by kernel_rfl) (by kernel_rfl) (fun _ _ _ h => h) (by assumption) (by rfl) ?_ ?_; rotate_left; (intro wy hSw; (try dsimp only at hSw); go_simp; (first | done | with_reducible rfl)); try simp only [Act.put, List.getElem_toArray, List.getElem_cons_zero, List.getElem_cons_succ, List.setIfInBounds_toArray, List.set_cons_zero, List.set_cons_succ])
                refine tkEnd ?_
                refine wpAnyH_ready (rs := [2]) (by kernel_rfl) (by simp) ?_
                refine AllReadyH.cons rfl (fun KK hK => ?_) AllReadyH.nil
                rw [if_pos (by rfl)]
                go_simp
                go_at_call 10
                refine (HPD.out.la.send HZS HOD.out.sees HXW.out (fun _ => HAI.out) HSN).mono ?_
                rintro e w6 ⟨rfl, F6, hL6, hn6⟩
                have HP6 := keepG (HPD.out.goL hL6 hn6)
                have HQ6 := keepG (HQD.out.chg hn6.chg HNF.out.1)
                have HO6 : Hid (RoRt w6 W1.heap.size (.slice vi xq.length ci) xq) := own_keeps HOD.out hn6.chg HAI.out
                have HAI6 := keepG (HAI.out.next (own_lies HOD.out) hn6)
                clear hL6 hn6
                go_simp
                refine hK.out _ _ (HQ6.out.cell (j := 2) rfl) (fun hHeld => ?_)
                clear hK KK
                try simp only [Act.put, List.getElem_toArray, List.getElem_cons_zero, List.getElem_cons_succ, List.setIfInBounds_toArray, List.set_cons_zero, List.set_cons_succ]
                refine wpAnyH_ready (rs := [6]) (by kernel_rfl) (by simp) ?_
                refine AllReadyH.cons rfl (fun KK hK => ?_) AllReadyH.nil
                rw [if_pos (by rfl)]
                go_simp
                go_at_call 11
                refine (dsend HP6.out.ld HOK1.out.n1 HP6.out.la.be.size HZD.out (HXQ.out w6 HP6.out.la.be) HXW.out HSN).mono ?_
                rintro e w7 ⟨rfl, va6, hD7, hn7⟩
                have HP7 := keepG (HP6.out.goD hD7 hn7)
                have HQ7 := keepG (HQ6.out.chg hn7.chg HNF.out.2)
                have HO7 : Hid (RoRt w7 W1.heap.size (.slice vi xq.length ci) xq) := own_keeps HO6.out hn7.chg HAD.out
                have HAD7 := keepG (HAD.out.next (own_lies HO6.out) hn7)
                clear hD7 hn7
                go_simp
                refine hK.out _ _ (HQ7.out.cell (j := 2) rfl) (fun hHeld => ?_)
                clear hK KK
                try simp only [Act.put, List.getElem_toArray, List.getElem_cons_zero, List.getElem_cons_succ, List.setIfInBounds_toArray, List.set_cons_zero, List.set_cons_succ]
                refine tkGo [7, 8, 9, 10, 11] ?_
                repeat (refine tkOne (v := ?_) rfl (by kernel_rfl) (by kernel_rfl) (by kernel_rfl) (fun _ _ _ h => h) (by assumption) (by rfl) ?_ ?_; rotate_left; (intro wy hSw; (try dsimp only at hSw); go_simp; (first | done | with_reducible rfl)); try simp only [Act.put, List.getElem_toArray, List.getElem_cons_zero, List.getElem_cons_succ, List.setIfInBounds_toArray, List.set_cons_zero, List.set_cons_succ])
                refine tkEnd ?_
                refine wpAnyH_ready (rs := [12]) (by kernel_rfl) (by simp) ?_
                refine AllReadyH.cons rfl (fun KK hK => ?_) AllReadyH.nil
                rw [if_pos (by rfl)]
                go_simp
                go_at_call 12
                refine (wlines HO7.out.sees (HXQ.out w7 HP7.out.la.be)).mono ?_
                rintro e w8 ⟨rfl, hb8⟩
                have HP8 := keepG (HP7.out.below hb8)
                have HQ8 := keepG (HQ7.out.below hb8 HQ7.out.lt)
                have HO8 : Hid (RoRt w8 W1.heap.size (.slice vi xq.length ci) xq) := RoRt.below HO7.out hb8
                clear hb8
                go_simp
                refine hK.out _ _ (HQ8.out.cell (j := 2) rfl) (fun hHeld => ?_)
                clear hK KK
                try simp only [Act.put, List.getElem_toArray, List.getElem_cons_zero, List.getElem_cons_succ, List.setIfInBounds_toArray, List.set_cons_zero, List.set_cons_succ]
                refine tkGo [13, 14] ?_
                repeat (refine tkOne (v := ?_) rfl (by kernel_rfl) (by kernel_rfl) (by kernel_rfl) (fun _ _ _ h => h) (by assumption) (by rfl) ?_ ?_; rotate_left; (intro wy hSw; (try dsimp only at hSw); go_simp; (first | done | with_reducible rfl)); try simp only [Act.put, List.getElem_toArray, List.getElem_cons_zero, List.getElem_cons_succ, List.setIfInBounds_toArray, List.set_cons_zero, List.set_cons_succ])
                refine tkEnd ?_
                refine wpAnyH_done (by kernel_rfl) ?_ _
                clear hHeld HPD HQD HOD HP6 HQ6 HO6 HP7 HQ7 HO7 HQ8 z2
                go_wp2
                go_loopw [13] (fun i wz => ∃ (z : Nat) (Y : List Rt), z ≤ xq.length ∧ i = .int .i64 z ∧ Hid (Y.length = xq.length ∧ RoRt wz W1.heap.size (.slice vi xq.length ci) Y ∧ Pw X wz a b F6 vm va6 ps S G o2 o2 old)) (fun i _ => xq.length - (intOf i).toNat)
                case atStart => exact ⟨0, xq, Nat.zero_le _, rfl, rfl, HO8.out, HP8.out⟩
                case round =>
                  clear HP8 HO8
                  obtain ⟨z, Y, hz, rfl, HY⟩ := hrel
                  rename World => W
                  by_cases hzt : z < xq.length
                  · have hztI : (z : Int) < xq.length := by omega
                    have hYz : z < Y.length := by have := HY.out.1; omega
                    have HOR : Hid (W.ownsRow W1.heap.size 45 7 (.slice vi xq.length ci) xq.length (flatG rtC Y)) := by have h5 := HY.out.2.1; unfold RoRt at h5; rw [HY.out.1] at h5; exact h5
                    obtain ⟨g, cap, ev, hg1, hg2, hcap, hcm, hat⟩ := own_atG rtC_len Rt.nil HY.out.2.1 (by omega)
                    rw [HY.out.1] at ev
                    simp only [Value.slice.injEq, true_and] at ev
                    obtain ⟨rfl, rfl⟩ := ev
                    have g0 := hat z hYz 0 (by omega)
                    have g1 := hat z hYz 1 (by omega)
                    have g2 := hat z hYz 2 (by omega)
                    have g3 := hat z hYz 3 (by omega)
                    have g4 := hat z hYz 4 (by omega)
                    have g5 := hat z hYz 5 (by omega)
                    have g6 := hat z hYz 6 (by omega)
                    simp only [List.getElem?_cons_zero, List.getElem?_cons_succ, Nat.add_zero] at g0 g1 g2 g3 g4 g5 g6
                    obtain ⟨g0, f0⟩ := g0
                    obtain ⟨g1, f1⟩ := g1
                    obtain ⟨g2, f2⟩ := g2
                    obtain ⟨g3, f3⟩ := g3
                    obtain ⟨g4, f4⟩ := g4
                    obtain ⟨g5, f5⟩ := g5
                    obtain ⟨g6, f6⟩ := g6
                    obtain ⟨qz, HQZ⟩ : ∃ qz, Hid (Y.getD z Rt.nil = qz) := ⟨_, rfl⟩
                    rw [HQZ.out] at g0 g1 g2 g3 g4 g5 g6
                    have hpu := own_putG rtC_len HY.out.1 HOR.out hYz (⟨-1, 0, false, 0, 0, 0, 0⟩ : Rt)
                    have hcs := Chg.sets W g (z * 7) (rtC (⟨-1, 0, false, 0, 0, 0, 0⟩ : Rt))
                    have HYN : Hid ((Y.set z (⟨-1, 0, false, 0, 0, 0, 0⟩ : Rt)).length = xq.length ∧ RoRt (W.setCells g (z * 7) (rtC (⟨-1, 0, false, 0, 0, 0, 0⟩ : Rt))) W1.heap.size (.slice (some ⟨g, 0, none⟩) xq.length ci) (Y.set z (⟨-1, 0, false, 0, 0, 0, 0⟩ : Rt)) ∧ Pw X (W.setCells g (z * 7) (rtC (⟨-1, 0, false, 0, 0, 0, 0⟩ : Rt))) a b F6 vm va6 ps S G o2 o2 old) := by
                      have hl : (Y.set z (⟨-1, 0, false, 0, 0, 0, 0⟩ : Rt)).length = xq.length := by rw [List.length_set]; exact HY.out.1
                      refine ⟨hl, ?_, HY.out.2.2.keeps hcs (fun k e1 e2 => ?_) (fun k e1 e2 => ?_) (fun k e1 => ?_)⟩
                      · unfold RoRt; rw [hl]; exact hpu
                      · subst e1; exact HAI6.out k e2 rfl
                      · subst e1; exact HAD7.out k e2 rfl
                      · subst e1; exact HSI.out k rfl
                    clear hat hpu hcs HY HOR
                    go_wp2
                    go_roundw
                    case rel => exact ⟨z + 1, Y.set z (⟨-1, 0, false, 0, 0, 0, 0⟩ : Rt), by omega, by go_num, HYN.out⟩
                    case measure => simp [intOf]; omega
                  · have hztI : ¬ (z : Int) < xq.length := by omega
                    have HPW := keepG HY.out.2.2
                    clear HY
                    go_wp2
                    refine wp_region_held_drew (S := fun w' => w'.cell? ⟨b, 3, none⟩ = some va6 ∧ w'.cell? ⟨b, 4, none⟩ = some (.int .i64 old.length) ∧ w'.cell? ⟨b, 5, none⟩ = some (.bool o2.over)) (by kernel_rfl) (by obtain ⟨-, -, -, g3, g4, g5⟩ := HPW.out.ld.low; exact ⟨g3, g4, g5⟩) (fun hHeld => ?_)
                    obtain ⟨vq, hcut, hsee⟩ := cut_line HPW.out.ld.all
                    have HSEE := keepG hsee
                    clear hsee
                    obtain ⟨-, -, -, t3, t4, t5⟩ := HPW.out.ld.low
                    have HLW : Hid (o2.ln.length * 56 ≤ 140737488355328) := by show _ ≤ _; have := (show (old ++ o2.ln).length ≤ 40 * (j + 1) by have := HO2.out.1; have := HI.out.2.2.1; omega); rw [List.length_append] at this; omega
                    have HTS : Hid (∀ wx, Below W.heap.size W wx → wx.cell? ⟨b, 3, none⟩ = some va6 ∧ wx.cell? ⟨b, 4, none⟩ = some (.int .i64 old.length) ∧ wx.cell? ⟨b, 5, none⟩ = some (.bool o2.over)) := fun wx hb => by
                      obtain ⟨-, -, -, g3, g4, g5⟩ := (HPW.out.ld.below hb).low
                      exact ⟨g3, g4, g5⟩
                    have hbb : (o2.over != o2.over) = false := by simp
                    have HBD := keepG (below_drG (Below.refl W.heap.size W))
                    have HPD := keepG (HPW.out.below HBD.out)
                    refine tkGo [0, 1, 2, 3, 5, 6, 7, 8, 9, 10, 11, 12, 13] ?_
                    repeat (refine tkOne (v := ?_) rfl (by kernel_rfl) (by kernel_rfl) (by kernel_rfl) (fun _ _ _ h => h) (by assumption) (by rfl) ?_ ?_; rotate_left; (intro wy hSw; (try dsimp only at hSw); go_simp; (first | done | with_reducible rfl)); try simp only [Act.put, List.getElem_toArray, List.getElem_cons_zero, List.getElem_cons_succ, List.setIfInBounds_toArray, List.set_cons_zero, List.set_cons_succ])
                    refine tkEnd ?_
                    refine wpAnyH_ready (rs := [4]) (by kernel_rfl) (by simp) ?_
                    refine AllReadyH.cons rfl (fun KK hK => ?_) AllReadyH.nil
                    rw [if_pos (by rfl)]
                    go_simp
                    go_at_call 21
                    refine (HPD.out.la.waiting HLW rfl).mono ?_
                    rintro e wa ⟨aa, ac, rfl, hra, hba⟩
                    have HBA := keepG (HBD.out.trans hba)
                    have HPA := keepG (HPD.out.below hba)
                    have HRA := keepG hra.sees
                    clear hra hba
                    go_simp
                    refine hK.out _ _ (HTS.out wa HBA.out) (fun hHeld => ?_)
                    clear hK KK
                    try simp only [Act.put, List.getElem_toArray, List.getElem_cons_zero, List.getElem_cons_succ, List.setIfInBounds_toArray, List.set_cons_zero, List.set_cons_succ]
                    refine wpAnyH_ready (rs := [14]) (by kernel_rfl) (by simp) ?_
                    refine AllReadyH.cons rfl (fun KK hK => ?_) AllReadyH.nil
                    rw [if_pos (by rfl)]
                    go_simp
                    go_at_call 12
                    refine (wlines HRA.out (HSEE.out wa HPA.out.ld.all.sees)).mono ?_
                    rintro e wb ⟨rfl, hbb2⟩
                    have HBB := keepG (HBA.out.trans (hbb2.mono HBA.out.size))
                    have HPB := keepG (HPA.out.below hbb2)
                    clear hbb2
                    go_simp
                    refine hK.out _ _ (HTS.out wb HBB.out) (fun hHeld => ?_)
                    clear hK KK
                    try simp only [Act.put, List.getElem_toArray, List.getElem_cons_zero, List.getElem_cons_succ, List.setIfInBounds_toArray, List.set_cons_zero, List.set_cons_succ]
                    refine tkGo [15, 16, 17, 18, 20, 21, 22, 23] ?_
                    repeat (refine tkOne (v := ?_) rfl (by kernel_rfl) (by kernel_rfl) (by kernel_rfl) (fun _ _ _ h => h) (by assumption) (by rfl) ?_ ?_; rotate_left; (intro wy hSw; (try dsimp only at hSw); go_simp; (first | done | with_reducible rfl)); try simp only [Act.put, List.getElem_toArray, List.getElem_cons_zero, List.getElem_cons_succ, List.setIfInBounds_toArray, List.set_cons_zero, List.set_cons_succ])
                    refine tkEnd ?_
                    refine wpAnyH_ready (rs := [19]) (by kernel_rfl) (by simp) ?_
                    refine AllReadyH.cons rfl (fun KK hK => ?_) AllReadyH.nil
                    rw [if_pos (by rfl)]
                    go_simp
                    go_at_call 22
                    refine HPB.out.la.ended.mono ?_
                    rintro e wc ⟨rfl, rfl⟩
                    go_simp
                    refine hK.out _ _ (HTS.out wb HBB.out) (fun hHeld => ?_)
                    clear hK KK
                    try simp only [Act.put, List.getElem_toArray, List.getElem_cons_zero, List.getElem_cons_succ, List.setIfInBounds_toArray, List.set_cons_zero, List.set_cons_succ]
                    refine tkGo [24, 25] ?_
                    repeat (refine tkOne (v := ?_) rfl (by kernel_rfl) (by kernel_rfl) (by kernel_rfl) (fun _ _ _ h => h) (by assumption) (by rfl) ?_ ?_; rotate_left; (intro wy hSw; (try dsimp only at hSw); go_simp; (first | done | with_reducible rfl)); try simp only [Act.put, List.getElem_toArray, List.getElem_cons_zero, List.getElem_cons_succ, List.setIfInBounds_toArray, List.set_cons_zero, List.set_cons_succ])
                    refine tkEnd ?_
                    refine wpAnyH_done (by kernel_rfl) ?_ _
                    clear hHeld
                    go_wp2
                    go_roundw
                    case rel => exact ⟨j + 1, F6, va6, S, G, o2, old, by omega, by omega, by go_num, HPB.out, by have := HI.out.2.1; omega, (show (old ++ o2.ln).length ≤ 40 * (j + 1) by have := HO2.out.1; have := HI.out.2.2.1; omega), by rw [HO2.out.2]; exact HI.out.2.2.2⟩
                    case measure => simp [intOf]; omega
            · have hk0b : (xk == 0) = false := by simpa using hk0
              by_cases hk1 : xk = 1
              · subst hk1
                as_aux_lemma =>
                  obtain ⟨p, r, o2, HST⟩ : ∃ p r o2, Hid (o1.step = (p, r, o2)) := ⟨_, _, _, rfl⟩
                  obtain ⟨q, x, pp⟩ := p
                  obtain ⟨qf, qt, qw, qm, qo, qk, qz⟩ := q
                  obtain ⟨xE, xf, xv, xo, xj, xw⟩ := x
                  have HZC : Hid (o1.ln.length * 56 ≤ 140737488355328) := by show _ ≤ _; have := HI.out.2.2.1; rw [List.length_append] at this; omega
                  have hz6 : (old ++ o1.ln).length ≤ 1000000 := by have := HI.out.2.2.1; omega
                  have hz7 : old.length ≤ 3000 := by have := HI.out.2.1; omega
                  have hrr : (r == r) = true := by simp
                  have HOK1 := keepG HP1.out.la.ok
                  have HSZ1 := keepG HP1.out.la.be.size
                  go_wp2_with (first
                    | (go_at_call 14; go_must (refine (dstep_any HP7.out.ld HOK1.out (Nat.le_trans HSZ1.out HZ7.out) hz6 hz7 HST).mono ?_); rintro e w8 ⟨a8, c8, rfl, S8, G8, old8, hD8, hn8, hr8, h81, h82, h83⟩; go_must (unfold rpV; have HP8 := keepG (HP7.out.goD hD8 hn8); have H81 := keepG h81; have H82 := keepG h82; have H83 := keepG h83; have HPX8 := keepG (HPX6.out.chg hn8.chg (fun e => HNG.out e)); have HR8 := keepG (own_keeps HR6.out hn8.chg HGR.out); obtain ⟨W, HW9, hb9, HPY9⟩ : ∃ W, Hid (w8.alloc (.cells (rpC ⟨⟨qf, qt, qw, qm, qo, qk, qz⟩, ⟨xE, xf, xv, xo, xj, xw⟩, pp⟩ (.slice a8 pp.length c8)).toArray 50) = W) ∧ Below w8.heap.size w8 W ∧ Hid (Hp W w8.heap.size 50 (rpC ⟨⟨qf, qt, qw, qm, qo, qk, qz⟩, ⟨xE, xf, xv, xo, xj, xw⟩, pp⟩ (.slice a8 pp.length c8))) := ⟨_, rfl, below_allocG _ _, Hp.new w8 _ _⟩; have HPX9 := keepG (HPX8.out.below hb9 HPX8.out.lt); have HP9 := keepG (HP8.out.below hb9); have HS8 := keepG ((own_seesG ppC_len Pp.nil HR8.out).below hb9 (Nat.le_refl _)); have HS9 := keepG ((own_seesG ppC_len Pp.nil hr8).below hb9 (Nat.le_refl _)); obtain ⟨⟨x0, x1, x2, x3, x4, x5, x6⟩, x7, x8, x9, x10, x11, x12, x13⟩ := rp_cells HPX9.out; obtain ⟨⟨y0, y1, y2, y3, y4, y5, y6⟩, y7, y8, y9, y10, y11, y12, y13⟩ := rp_cells HPY9.out; clear hD8 hn8 hr8 hb9 h81 h82 h83))
                    | (go_at_call 13; (try rw [HW1.out]); go_must (refine (HP1.out.la.step HZC HST).mono ?_); rintro e w6 ⟨a6, c6, rfl, F6, hL6, hn6, hr6, _⟩; go_must (unfold rpV; have HP6 := keepG (HP1.out.goL hL6 hn6); obtain ⟨W7, HW7, hb7, HPX6⟩ : ∃ W7, Hid (w6.alloc (.cells (rpC ⟨⟨qf, qt, qw, qm, qo, qk, qz⟩, ⟨xE, xf, xv, xo, xj, xw⟩, pp⟩ (.slice a6 pp.length c6)).toArray 50) = W7) ∧ Below w6.heap.size w6 W7 ∧ Hid (Hp W7 w6.heap.size 50 (rpC ⟨⟨qf, qt, qw, qm, qo, qk, qz⟩, ⟨xE, xf, xv, xo, xj, xw⟩, pp⟩ (.slice a6 pp.length c6))) := ⟨_, rfl, below_allocG _ _, Hp.new w6 _ _⟩; have HP7 := keepG (HP6.out.below hb7); have HZ7 : Hid (W1.heap.size ≤ W7.heap.size) := (Nat.le_trans hn6.chg.size hb7.size); have HR6 := keepG (own_below hr6 hb7 (Nat.le_refl _)); have HNG : Hid (¬ footW b vm va ps.length G w6.heap.size) := (HP6.out.new (Nat.le_refl _)).2; have HGR : Hid (Apt (footW b vm va ps.length G) (ftV (.slice a6 pp.length c6))) := (fun k e1 e2 => by have := HP1.out.ld.lies k e1; have := (hr6.lt k e2).1; omega); clear hL6 hn6 hr6 hb7))
                    | (rw [HW9.out])
                    | (rw [HW7.out])
                    | (rw [HW1.out, HNX.out])
                    | (go_at_call 15; go_must (refine (walike (p := ⟨⟨qf, qt, qw, qm, qo, qk, qz⟩, ⟨xE, xf, xv, xo, xj, xw⟩, pp⟩) HS8.out HS9.out).mono ?_); rintro e wd ⟨rfl, hbd⟩; go_must (have HPW := keepG (HP9.out.below hbd); clear hbd)))
                  refine wp_region_held_drew (S := fun w' => w'.cell? ⟨b, 3, none⟩ = some va ∧ w'.cell? ⟨b, 4, none⟩ = some (.int .i64 old8.length) ∧ w'.cell? ⟨b, 5, none⟩ = some (.bool o2.over)) (by kernel_rfl) (by obtain ⟨-, -, -, g3, g4, g5⟩ := HPW.out.ld.low; exact ⟨g3, g4, g5⟩) (fun hHeld => ?_)
                  obtain ⟨vq, hcut, hsee⟩ := cut_line HPW.out.ld.all
                  have HSEE := keepG hsee
                  clear hsee
                  obtain ⟨-, -, -, t3, t4, t5⟩ := HPW.out.ld.low
                  have HLW : Hid (o2.ln.length * 56 ≤ 140737488355328) := by show _ ≤ _; have := (show (old8 ++ o2.ln).length ≤ 40 * (j + 1) by rw [H82.out]; have := HI.out.2.2.1; omega); rw [List.length_append] at this; omega
                  have HTS : Hid (∀ wx, Below wd.heap.size wd wx → wx.cell? ⟨b, 3, none⟩ = some va ∧ wx.cell? ⟨b, 4, none⟩ = some (.int .i64 old8.length) ∧ wx.cell? ⟨b, 5, none⟩ = some (.bool o2.over)) := fun wx hb => by
                    obtain ⟨-, -, -, g3, g4, g5⟩ := (HPW.out.ld.below hb).low
                    exact ⟨g3, g4, g5⟩
                  have hbb : (o2.over != o2.over) = false := by simp
                  have HBD := keepG (below_drG (Below.refl wd.heap.size wd))
                  have HPD := keepG (HPW.out.below HBD.out)
                  refine tkGo [0, 1, 2, 3, 5, 6, 7, 8, 9, 10, 11, 12, 13] ?_
                  repeat (refine tkOne (v := ?_) rfl (by kernel_rfl) (by kernel_rfl) (by kernel_rfl) (fun _ _ _ h => h) (by assumption) (by rfl) ?_ ?_; rotate_left; (intro wy hSw; (try dsimp only at hSw); go_simp; (first | done | with_reducible rfl)); try simp only [Act.put, List.getElem_toArray, List.getElem_cons_zero, List.getElem_cons_succ, List.setIfInBounds_toArray, List.set_cons_zero, List.set_cons_succ])
                  refine tkEnd ?_
                  refine wpAnyH_ready (rs := [4]) (by kernel_rfl) (by simp) ?_
                  refine AllReadyH.cons rfl (fun KK hK => ?_) AllReadyH.nil
                  rw [if_pos (by rfl)]
                  go_simp
                  go_at_call 21
                  refine (HPD.out.la.waiting HLW rfl).mono ?_
                  rintro e wa ⟨aa, ac, rfl, hra, hba⟩
                  have HBA := keepG (HBD.out.trans hba)
                  have HPA := keepG (HPD.out.below hba)
                  have HRA := keepG hra.sees
                  clear hra hba
                  go_simp
                  refine hK.out _ _ (HTS.out wa HBA.out) (fun hHeld => ?_)
                  clear hK KK
                  try simp only [Act.put, List.getElem_toArray, List.getElem_cons_zero, List.getElem_cons_succ, List.setIfInBounds_toArray, List.set_cons_zero, List.set_cons_succ]
                  refine wpAnyH_ready (rs := [14]) (by kernel_rfl) (by simp) ?_
                  refine AllReadyH.cons rfl (fun KK hK => ?_) AllReadyH.nil
                  rw [if_pos (by rfl)]
                  go_simp
                  go_at_call 12
                  refine (wlines HRA.out (HSEE.out wa HPA.out.ld.all.sees)).mono ?_
                  rintro e wb ⟨rfl, hbb2⟩
                  have HBB := keepG (HBA.out.trans (hbb2.mono HBA.out.size))
                  have HPB := keepG (HPA.out.below hbb2)
                  clear hbb2
                  go_simp
                  refine hK.out _ _ (HTS.out wb HBB.out) (fun hHeld => ?_)
                  clear hK KK
                  try simp only [Act.put, List.getElem_toArray, List.getElem_cons_zero, List.getElem_cons_succ, List.setIfInBounds_toArray, List.set_cons_zero, List.set_cons_succ]
                  refine tkGo [15, 16, 17, 18, 20, 21, 22, 23] ?_
                  repeat (refine tkOne (v := ?_) rfl (by kernel_rfl) (by kernel_rfl) (by kernel_rfl) (fun _ _ _ h => h) (by assumption) (by rfl) ?_ ?_; rotate_left; (intro wy hSw; (try dsimp only at hSw); go_simp; (first | done | with_reducible rfl)); try simp only [Act.put, List.getElem_toArray, List.getElem_cons_zero, List.getElem_cons_succ, List.setIfInBounds_toArray, List.set_cons_zero, List.set_cons_succ])
                  refine tkEnd ?_
                  refine wpAnyH_ready (rs := [19]) (by kernel_rfl) (by simp) ?_
                  refine AllReadyH.cons rfl (fun KK hK => ?_) AllReadyH.nil
                  rw [if_pos (by rfl)]
                  go_simp
                  go_at_call 22
                  refine HPB.out.la.ended.mono ?_
                  rintro e wc ⟨rfl, rfl⟩
                  go_simp
                  refine hK.out _ _ (HTS.out wb HBB.out) (fun hHeld => ?_)
                  clear hK KK
                  try simp only [Act.put, List.getElem_toArray, List.getElem_cons_zero, List.getElem_cons_succ, List.setIfInBounds_toArray, List.set_cons_zero, List.set_cons_succ]
                  refine tkGo [24, 25] ?_
                  repeat (refine tkOne (v := ?_) rfl (by kernel_rfl) (by kernel_rfl) (by kernel_rfl) (fun _ _ _ h => h) (by assumption) (by rfl) ?_ ?_; rotate_left; (intro wy hSw; (try dsimp only at hSw); go_simp; (first | done | with_reducible rfl)); try simp only [Act.put, List.getElem_toArray, List.getElem_cons_zero, List.getElem_cons_succ, List.setIfInBounds_toArray, List.set_cons_zero, List.set_cons_succ])
                  refine tkEnd ?_
                  refine wpAnyH_done (by kernel_rfl) ?_ _
                  clear hHeld
                  go_wp2
                  go_roundw
                  case rel => exact ⟨j + 1, F6, va, S8, G8, o2, old8, by omega, by omega, by go_num, HPB.out, by have := HI.out.2.1; have := H81.out; omega, (show (old8 ++ o2.ln).length ≤ 40 * (j + 1) by rw [H82.out]; have := HI.out.2.2.1; omega), by rw [H83.out]; exact HI.out.2.2.2⟩
                  case measure => simp [intOf]; omega
              · have hk1b : (xk == 1) = false := by simpa using hk1
                by_cases hk2 : xk = 2
                · subst hk2
                  as_aux_lemma =>
                    obtain ⟨E, o2, HEN⟩ : ∃ E o2, Hid (o1.end = (E, o2)) := ⟨_, _, rfl⟩
                    have hEE : (E == E) = true := by simp
                    have HO2 : Hid (o2.ln = o1.ln ∧ o2.st.length = o1.st.length) := by
                      have h := HEN.out
                      unfold On.end at h
                      split at h <;> (injection h with _ h; subst h; exact ⟨rfl, rfl⟩)
                    have hz6 : (old ++ o1.ln).length ≤ 1000000 := by have := HI.out.2.2.1; omega
                    go_wp2_with (first
                      | (go_at_call 16; (try rw [HW1.out]); go_must (refine (HP1.out.la.endd HEN).mono ?_); rintro e w6 ⟨rfl, F6, hL6, hn6⟩; go_must (have HP6 := keepG (HP1.out.goL hL6 hn6); clear hL6 hn6))
                      | (go_at_call 17; go_must (refine (dend HP6.out.ld hz6 HEN).mono ?_); rintro e W ⟨rfl, hD7, hc7⟩; go_must (have HPW := keepG (HP6.out.goD hD7 ⟨hc7.mono (fun k e => .inl (.inl e)), fun k hk => .inl hk⟩); clear hD7 hc7))
                      | (rw [HW1.out, HNX.out]))
                    refine wp_region_held_drew (S := fun w' => w'.cell? ⟨b, 3, none⟩ = some va ∧ w'.cell? ⟨b, 4, none⟩ = some (.int .i64 old.length) ∧ w'.cell? ⟨b, 5, none⟩ = some (.bool o2.over)) (by kernel_rfl) (by obtain ⟨-, -, -, g3, g4, g5⟩ := HPW.out.ld.low; exact ⟨g3, g4, g5⟩) (fun hHeld => ?_)
                    obtain ⟨vq, hcut, hsee⟩ := cut_line HPW.out.ld.all
                    have HSEE := keepG hsee
                    clear hsee
                    obtain ⟨-, -, -, t3, t4, t5⟩ := HPW.out.ld.low
                    have HLW : Hid (o2.ln.length * 56 ≤ 140737488355328) := by show _ ≤ _; have := (show (old ++ o2.ln).length ≤ 40 * (j + 1) by rw [HO2.out.1]; have := HI.out.2.2.1; omega); rw [List.length_append] at this; omega
                    have HTS : Hid (∀ wx, Below W.heap.size W wx → wx.cell? ⟨b, 3, none⟩ = some va ∧ wx.cell? ⟨b, 4, none⟩ = some (.int .i64 old.length) ∧ wx.cell? ⟨b, 5, none⟩ = some (.bool o2.over)) := fun wx hb => by
                      obtain ⟨-, -, -, g3, g4, g5⟩ := (HPW.out.ld.below hb).low
                      exact ⟨g3, g4, g5⟩
                    have hbb : (o2.over != o2.over) = false := by simp
                    have HBD := keepG (below_drG (Below.refl W.heap.size W))
                    have HPD := keepG (HPW.out.below HBD.out)
                    refine tkGo [0, 1, 2, 3, 5, 6, 7, 8, 9, 10, 11, 12, 13] ?_
                    repeat (refine tkOne (v := ?_) rfl (by kernel_rfl) (by kernel_rfl) (by kernel_rfl) (fun _ _ _ h => h) (by assumption) (by rfl) ?_ ?_; rotate_left; (intro wy hSw; (try dsimp only at hSw); go_simp; (first | done | with_reducible rfl)); try simp only [Act.put, List.getElem_toArray, List.getElem_cons_zero, List.getElem_cons_succ, List.setIfInBounds_toArray, List.set_cons_zero, List.set_cons_succ])
                    refine tkEnd ?_
                    refine wpAnyH_ready (rs := [4]) (by kernel_rfl) (by simp) ?_
                    refine AllReadyH.cons rfl (fun KK hK => ?_) AllReadyH.nil
                    rw [if_pos (by rfl)]
                    go_simp
                    go_at_call 21
                    refine (HPD.out.la.waiting HLW rfl).mono ?_
                    rintro e wa ⟨aa, ac, rfl, hra, hba⟩
                    have HBA := keepG (HBD.out.trans hba)
                    have HPA := keepG (HPD.out.below hba)
                    have HRA := keepG hra.sees
                    clear hra hba
                    go_simp
                    refine hK.out _ _ (HTS.out wa HBA.out) (fun hHeld => ?_)
                    clear hK KK
                    try simp only [Act.put, List.getElem_toArray, List.getElem_cons_zero, List.getElem_cons_succ, List.setIfInBounds_toArray, List.set_cons_zero, List.set_cons_succ]
                    refine wpAnyH_ready (rs := [14]) (by kernel_rfl) (by simp) ?_
                    refine AllReadyH.cons rfl (fun KK hK => ?_) AllReadyH.nil
                    rw [if_pos (by rfl)]
                    go_simp
                    go_at_call 12
                    refine (wlines HRA.out (HSEE.out wa HPA.out.ld.all.sees)).mono ?_
                    rintro e wb ⟨rfl, hbb2⟩
                    have HBB := keepG (HBA.out.trans (hbb2.mono HBA.out.size))
                    have HPB := keepG (HPA.out.below hbb2)
                    clear hbb2
                    go_simp
                    refine hK.out _ _ (HTS.out wb HBB.out) (fun hHeld => ?_)
                    clear hK KK
                    try simp only [Act.put, List.getElem_toArray, List.getElem_cons_zero, List.getElem_cons_succ, List.setIfInBounds_toArray, List.set_cons_zero, List.set_cons_succ]
                    refine tkGo [15, 16, 17, 18, 20, 21, 22, 23] ?_
                    repeat (refine tkOne (v := ?_) rfl (by kernel_rfl) (by kernel_rfl) (by kernel_rfl) (fun _ _ _ h => h) (by assumption) (by rfl) ?_ ?_; rotate_left; (intro wy hSw; (try dsimp only at hSw); go_simp; (first | done | with_reducible rfl)); try simp only [Act.put, List.getElem_toArray, List.getElem_cons_zero, List.getElem_cons_succ, List.setIfInBounds_toArray, List.set_cons_zero, List.set_cons_succ])
                    refine tkEnd ?_
                    refine wpAnyH_ready (rs := [19]) (by kernel_rfl) (by simp) ?_
                    refine AllReadyH.cons rfl (fun KK hK => ?_) AllReadyH.nil
                    rw [if_pos (by rfl)]
                    go_simp
                    go_at_call 22
                    refine HPB.out.la.ended.mono ?_
                    rintro e wc ⟨rfl, rfl⟩
                    go_simp
                    refine hK.out _ _ (HTS.out wb HBB.out) (fun hHeld => ?_)
                    clear hK KK
                    try simp only [Act.put, List.getElem_toArray, List.getElem_cons_zero, List.getElem_cons_succ, List.setIfInBounds_toArray, List.set_cons_zero, List.set_cons_succ]
                    refine tkGo [24, 25] ?_
                    repeat (refine tkOne (v := ?_) rfl (by kernel_rfl) (by kernel_rfl) (by kernel_rfl) (fun _ _ _ h => h) (by assumption) (by rfl) ?_ ?_; rotate_left; (intro wy hSw; (try dsimp only at hSw); go_simp; (first | done | with_reducible rfl)); try simp only [Act.put, List.getElem_toArray, List.getElem_cons_zero, List.getElem_cons_succ, List.setIfInBounds_toArray, List.set_cons_zero, List.set_cons_succ])
                    refine tkEnd ?_
                    refine wpAnyH_done (by kernel_rfl) ?_ _
                    clear hHeld
                    go_wp2
                    go_roundw
                    case rel => exact ⟨j + 1, F6, va, S, G, o2, old, by omega, by omega, by go_num, HPB.out, by have := HI.out.2.1; omega, (show (old ++ o2.ln).length ≤ 40 * (j + 1) by rw [HO2.out.1]; have := HI.out.2.2.1; omega), by rw [HO2.out.2]; exact HI.out.2.2.2⟩
                    case measure => simp [intOf]; omega
                ·
                  have hk2b : (xk == 2) = false := by simpa using hk2
                  by_cases hm0 : xm < 0
                  · have hm0d : decide (xm < 0) = true := by simpa using hm0
                    have hnm : o1.hasM xm = false := by have h8 : ¬ 0 ≤ xm := (by omega); simp [On.hasM, h8]
                    as_aux_lemma =>
                      have HPQ : Hid ((if o1.hasM xm = true then ((0 : Int), (o1.sr xm).1) else (2, [])) = (2, [])) := by show _ = _; rw [if_neg (by rw [hnm]; decide)]
                      clear hnm
                      go_wp2_with (first
                        | (go_at_call 18; (try rw [HW1.out, HNX.out]); go_must (refine (HP1.out.la.pairs xm HPQ).mono ?_); rintro e W ⟨a6, c6, rfl, _, hb6⟩; go_must (have HPW := keepG (HP1.out.below hb6); have HQ6 := keepG (HQ1.out.below hb6 HQ1.out.lt); have g1 : W.cell? ⟨nx, 1, none⟩ = some (.int .i64 xm) := HQ6.out.cell (j := 1) rfl; obtain ⟨-, -, s2⟩ := HBC2.out W HPW.out.la.be; clear hb6))
                        | (rw [HW1.out, HNX.out]))
                      refine wp_region_held_drew (S := fun w' => w'.cell? ⟨b, 3, none⟩ = some va ∧ w'.cell? ⟨b, 4, none⟩ = some (.int .i64 old.length) ∧ w'.cell? ⟨b, 5, none⟩ = some (.bool o1.over)) (by kernel_rfl) (by obtain ⟨-, -, -, g3, g4, g5⟩ := HPW.out.ld.low; exact ⟨g3, g4, g5⟩) (fun hHeld => ?_)
                      obtain ⟨vq, hcut, hsee⟩ := cut_line HPW.out.ld.all
                      have HSEE := keepG hsee
                      clear hsee
                      obtain ⟨-, -, -, t3, t4, t5⟩ := HPW.out.ld.low
                      have HLW : Hid (o1.ln.length * 56 ≤ 140737488355328) := by show _ ≤ _; have := (show (old ++ o1.ln).length ≤ 40 * (j + 1) by have := HI.out.2.2.1; omega); rw [List.length_append] at this; omega
                      have HTS : Hid (∀ wx, Below W.heap.size W wx → wx.cell? ⟨b, 3, none⟩ = some va ∧ wx.cell? ⟨b, 4, none⟩ = some (.int .i64 old.length) ∧ wx.cell? ⟨b, 5, none⟩ = some (.bool o1.over)) := fun wx hb => by
                        obtain ⟨-, -, -, g3, g4, g5⟩ := (HPW.out.ld.below hb).low
                        exact ⟨g3, g4, g5⟩
                      have hbb : (o1.over != o1.over) = false := by simp
                      have HBD := keepG (below_drG (Below.refl W.heap.size W))
                      have HPD := keepG (HPW.out.below HBD.out)
                      refine tkGo [0, 1, 2, 3, 5, 6, 7, 8, 9, 10, 11, 12, 13] ?_
                      repeat (refine tkOne (v := ?_) rfl (by kernel_rfl) (by kernel_rfl) (by kernel_rfl) (fun _ _ _ h => h) (by assumption) (by rfl) ?_ ?_; rotate_left; (intro wy hSw; (try dsimp only at hSw); go_simp; (first | done | with_reducible rfl)); try simp only [Act.put, List.getElem_toArray, List.getElem_cons_zero, List.getElem_cons_succ, List.setIfInBounds_toArray, List.set_cons_zero, List.set_cons_succ])
                      refine tkEnd ?_
                      refine wpAnyH_ready (rs := [4]) (by kernel_rfl) (by simp) ?_
                      refine AllReadyH.cons rfl (fun KK hK => ?_) AllReadyH.nil
                      rw [if_pos (by rfl)]
                      go_simp
                      go_at_call 21
                      refine (HPD.out.la.waiting HLW rfl).mono ?_
                      rintro e wa ⟨aa, ac, rfl, hra, hba⟩
                      have HBA := keepG (HBD.out.trans hba)
                      have HPA := keepG (HPD.out.below hba)
                      have HRA := keepG hra.sees
                      clear hra hba
                      go_simp
                      refine hK.out _ _ (HTS.out wa HBA.out) (fun hHeld => ?_)
                      clear hK KK
                      try simp only [Act.put, List.getElem_toArray, List.getElem_cons_zero, List.getElem_cons_succ, List.setIfInBounds_toArray, List.set_cons_zero, List.set_cons_succ]
                      refine wpAnyH_ready (rs := [14]) (by kernel_rfl) (by simp) ?_
                      refine AllReadyH.cons rfl (fun KK hK => ?_) AllReadyH.nil
                      rw [if_pos (by rfl)]
                      go_simp
                      go_at_call 12
                      refine (wlines HRA.out (HSEE.out wa HPA.out.ld.all.sees)).mono ?_
                      rintro e wb ⟨rfl, hbb2⟩
                      have HBB := keepG (HBA.out.trans (hbb2.mono HBA.out.size))
                      have HPB := keepG (HPA.out.below hbb2)
                      clear hbb2
                      go_simp
                      refine hK.out _ _ (HTS.out wb HBB.out) (fun hHeld => ?_)
                      clear hK KK
                      try simp only [Act.put, List.getElem_toArray, List.getElem_cons_zero, List.getElem_cons_succ, List.setIfInBounds_toArray, List.set_cons_zero, List.set_cons_succ]
                      refine tkGo [15, 16, 17, 18, 20, 21, 22, 23] ?_
                      repeat (refine tkOne (v := ?_) rfl (by kernel_rfl) (by kernel_rfl) (by kernel_rfl) (fun _ _ _ h => h) (by assumption) (by rfl) ?_ ?_; rotate_left; (intro wy hSw; (try dsimp only at hSw); go_simp; (first | done | with_reducible rfl)); try simp only [Act.put, List.getElem_toArray, List.getElem_cons_zero, List.getElem_cons_succ, List.setIfInBounds_toArray, List.set_cons_zero, List.set_cons_succ])
                      refine tkEnd ?_
                      refine wpAnyH_ready (rs := [19]) (by kernel_rfl) (by simp) ?_
                      refine AllReadyH.cons rfl (fun KK hK => ?_) AllReadyH.nil
                      rw [if_pos (by rfl)]
                      go_simp
                      go_at_call 22
                      refine HPB.out.la.ended.mono ?_
                      rintro e wc ⟨rfl, rfl⟩
                      go_simp
                      refine hK.out _ _ (HTS.out wb HBB.out) (fun hHeld => ?_)
                      clear hK KK
                      try simp only [Act.put, List.getElem_toArray, List.getElem_cons_zero, List.getElem_cons_succ, List.setIfInBounds_toArray, List.set_cons_zero, List.set_cons_succ]
                      refine tkGo [24, 25] ?_
                      repeat (refine tkOne (v := ?_) rfl (by kernel_rfl) (by kernel_rfl) (by kernel_rfl) (fun _ _ _ h => h) (by assumption) (by rfl) ?_ ?_; rotate_left; (intro wy hSw; (try dsimp only at hSw); go_simp; (first | done | with_reducible rfl)); try simp only [Act.put, List.getElem_toArray, List.getElem_cons_zero, List.getElem_cons_succ, List.setIfInBounds_toArray, List.set_cons_zero, List.set_cons_succ])
                      refine tkEnd ?_
                      refine wpAnyH_done (by kernel_rfl) ?_ _
                      clear hHeld
                      go_wp2
                      go_roundw
                      case rel => exact ⟨j + 1, F, va, S, G, o1, old, by omega, by omega, by go_num, HPB.out, by have := HI.out.2.1; omega, (show (old ++ o1.ln).length ≤ 40 * (j + 1) by have := HI.out.2.2.1; omega), HI.out.2.2.2⟩
                      case measure => simp [intOf]; omega
                  · have hm0d : decide (xm < 0) = false := by simpa using hm0
                    by_cases hml : (es.length : Int) ≤ xm
                    · have hmld : decide ((es.length : Int) ≤ xm) = true := by simpa using hml
                      have hnm : o1.hasM xm = false := by have h0 := HI.out.2.2.2; have h9 : ¬ xm < (o1.st.length : Int) := (by omega); simp [On.hasM, h9]
                      as_aux_lemma =>
                        have HPQ : Hid ((if o1.hasM xm = true then ((0 : Int), (o1.sr xm).1) else (2, [])) = (2, [])) := by show _ = _; rw [if_neg (by rw [hnm]; decide)]
                        clear hnm
                        go_wp2_with (first
                          | (go_at_call 18; (try rw [HW1.out, HNX.out]); go_must (refine (HP1.out.la.pairs xm HPQ).mono ?_); rintro e W ⟨a6, c6, rfl, _, hb6⟩; go_must (have HPW := keepG (HP1.out.below hb6); have HQ6 := keepG (HQ1.out.below hb6 HQ1.out.lt); have g1 : W.cell? ⟨nx, 1, none⟩ = some (.int .i64 xm) := HQ6.out.cell (j := 1) rfl; obtain ⟨-, -, s2⟩ := HBC2.out W HPW.out.la.be; clear hb6))
                          | (rw [HW1.out, HNX.out]))
                        refine wp_region_held_drew (S := fun w' => w'.cell? ⟨b, 3, none⟩ = some va ∧ w'.cell? ⟨b, 4, none⟩ = some (.int .i64 old.length) ∧ w'.cell? ⟨b, 5, none⟩ = some (.bool o1.over)) (by kernel_rfl) (by obtain ⟨-, -, -, g3, g4, g5⟩ := HPW.out.ld.low; exact ⟨g3, g4, g5⟩) (fun hHeld => ?_)
                        obtain ⟨vq, hcut, hsee⟩ := cut_line HPW.out.ld.all
                        have HSEE := keepG hsee
                        clear hsee
                        obtain ⟨-, -, -, t3, t4, t5⟩ := HPW.out.ld.low
                        have HLW : Hid (o1.ln.length * 56 ≤ 140737488355328) := by show _ ≤ _; have := (show (old ++ o1.ln).length ≤ 40 * (j + 1) by have := HI.out.2.2.1; omega); rw [List.length_append] at this; omega
                        have HTS : Hid (∀ wx, Below W.heap.size W wx → wx.cell? ⟨b, 3, none⟩ = some va ∧ wx.cell? ⟨b, 4, none⟩ = some (.int .i64 old.length) ∧ wx.cell? ⟨b, 5, none⟩ = some (.bool o1.over)) := fun wx hb => by
                          obtain ⟨-, -, -, g3, g4, g5⟩ := (HPW.out.ld.below hb).low
                          exact ⟨g3, g4, g5⟩
                        have hbb : (o1.over != o1.over) = false := by simp
                        have HBD := keepG (below_drG (Below.refl W.heap.size W))
                        have HPD := keepG (HPW.out.below HBD.out)
                        refine tkGo [0, 1, 2, 3, 5, 6, 7, 8, 9, 10, 11, 12, 13] ?_
                        repeat (refine tkOne (v := ?_) rfl (by kernel_rfl) (by kernel_rfl) (by kernel_rfl) (fun _ _ _ h => h) (by assumption) (by rfl) ?_ ?_; rotate_left; (intro wy hSw; (try dsimp only at hSw); go_simp; (first | done | with_reducible rfl)); try simp only [Act.put, List.getElem_toArray, List.getElem_cons_zero, List.getElem_cons_succ, List.setIfInBounds_toArray, List.set_cons_zero, List.set_cons_succ])
                        refine tkEnd ?_
                        refine wpAnyH_ready (rs := [4]) (by kernel_rfl) (by simp) ?_
                        refine AllReadyH.cons rfl (fun KK hK => ?_) AllReadyH.nil
                        rw [if_pos (by rfl)]
                        go_simp
                        go_at_call 21
                        refine (HPD.out.la.waiting HLW rfl).mono ?_
                        rintro e wa ⟨aa, ac, rfl, hra, hba⟩
                        have HBA := keepG (HBD.out.trans hba)
                        have HPA := keepG (HPD.out.below hba)
                        have HRA := keepG hra.sees
                        clear hra hba
                        go_simp
                        refine hK.out _ _ (HTS.out wa HBA.out) (fun hHeld => ?_)
                        clear hK KK
                        try simp only [Act.put, List.getElem_toArray, List.getElem_cons_zero, List.getElem_cons_succ, List.setIfInBounds_toArray, List.set_cons_zero, List.set_cons_succ]
                        refine wpAnyH_ready (rs := [14]) (by kernel_rfl) (by simp) ?_
                        refine AllReadyH.cons rfl (fun KK hK => ?_) AllReadyH.nil
                        rw [if_pos (by rfl)]
                        go_simp
                        go_at_call 12
                        refine (wlines HRA.out (HSEE.out wa HPA.out.ld.all.sees)).mono ?_
                        rintro e wb ⟨rfl, hbb2⟩
                        have HBB := keepG (HBA.out.trans (hbb2.mono HBA.out.size))
                        have HPB := keepG (HPA.out.below hbb2)
                        clear hbb2
                        go_simp
                        refine hK.out _ _ (HTS.out wb HBB.out) (fun hHeld => ?_)
                        clear hK KK
                        try simp only [Act.put, List.getElem_toArray, List.getElem_cons_zero, List.getElem_cons_succ, List.setIfInBounds_toArray, List.set_cons_zero, List.set_cons_succ]
                        refine tkGo [15, 16, 17, 18, 20, 21, 22, 23] ?_
                        repeat (refine tkOne (v := ?_) rfl (by kernel_rfl) (by kernel_rfl) (by kernel_rfl) (fun _ _ _ h => h) (by assumption) (by rfl) ?_ ?_; rotate_left; (intro wy hSw; (try dsimp only at hSw); go_simp; (first | done | with_reducible rfl)); try simp only [Act.put, List.getElem_toArray, List.getElem_cons_zero, List.getElem_cons_succ, List.setIfInBounds_toArray, List.set_cons_zero, List.set_cons_succ])
                        refine tkEnd ?_
                        refine wpAnyH_ready (rs := [19]) (by kernel_rfl) (by simp) ?_
                        refine AllReadyH.cons rfl (fun KK hK => ?_) AllReadyH.nil
                        rw [if_pos (by rfl)]
                        go_simp
                        go_at_call 22
                        refine HPB.out.la.ended.mono ?_
                        rintro e wc ⟨rfl, rfl⟩
                        go_simp
                        refine hK.out _ _ (HTS.out wb HBB.out) (fun hHeld => ?_)
                        clear hK KK
                        try simp only [Act.put, List.getElem_toArray, List.getElem_cons_zero, List.getElem_cons_succ, List.setIfInBounds_toArray, List.set_cons_zero, List.set_cons_succ]
                        refine tkGo [24, 25] ?_
                        repeat (refine tkOne (v := ?_) rfl (by kernel_rfl) (by kernel_rfl) (by kernel_rfl) (fun _ _ _ h => h) (by assumption) (by rfl) ?_ ?_; rotate_left; (intro wy hSw; (try dsimp only at hSw); go_simp; (first | done | with_reducible rfl)); try simp only [Act.put, List.getElem_toArray, List.getElem_cons_zero, List.getElem_cons_succ, List.setIfInBounds_toArray, List.set_cons_zero, List.set_cons_succ])
                        refine tkEnd ?_
                        refine wpAnyH_done (by kernel_rfl) ?_ _
                        clear hHeld
                        go_wp2
                        go_roundw
                        case rel => exact ⟨j + 1, F, va, S, G, o1, old, by omega, by omega, by go_num, HPB.out, by have := HI.out.2.1; omega, (show (old ++ o1.ln).length ≤ 40 * (j + 1) by have := HI.out.2.2.1; omega), HI.out.2.2.2⟩
                        case measure => simp [intOf]; omega
                    · have hmld : decide ((es.length : Int) ≤ xm) = false := by simpa using hml
                      obtain ⟨k, rfl⟩ : ∃ k : Nat, xm = k := ⟨xm.toNat, by omega⟩
                      have hkl : k < o1.st.length := by have := HI.out.2.2.2; omega
                      have hkp : k < ps.length := by rw [HI.out.1.ld.lp]; exact hkl
                      have HKP := keepG hkp
                      have HPQ : Hid ((if o1.hasM (k : Int) = true then ((0 : Int), (o1.sr (k : Int)).1) else (2, [])) = (0, (o1.sk k).1)) := by show _ = _; rw [if_pos (On.hasM_of hkl)]; rfl
                      obtain ⟨pp, HPPE⟩ : ∃ pp, Hid ((o1.sk k).1 = pp) := ⟨_, rfl⟩
                      rw [HPPE.out] at HPQ
                      have HINV := keepG (HI.out.1.ld.inv k hkp)
                      have hcap := (HI.out.1.la.ok.inv k (by rw [← HI.out.1.la.ok.len]; exact hkl)).2
                      have HCAP : Hid ((o1.dk k).2 ≤ 16) := hcap
                      obtain ⟨vx, vc, evm⟩ := own_shape HI.out.1.ld.maps
                      have hkpI : (k : Int) < ps.length := by omega
                      clear hkl hcap
                      obtain ⟨pm, om, hxm, HCELL⟩ : ∃ pm om, vx = some ⟨pm, om, none⟩ ∧ Hid (∀ wx, Below W1.heap.size W1 wx → wx.cell? ⟨b, 2, none⟩ = some (.slice (some ⟨pm, om, none⟩) ps.length vc) ∧ wx.cell? ⟨nx, 1, none⟩ = some (.int .i64 k) ∧ wx.cell? ⟨pm, om + k, none⟩ = some (.pointer (some ⟨ps.getD k 0, 0, none⟩))) := by
                        subst evm
                        obtain ⟨a', cap', ev, _, _, _, hat⟩ := own_seesG ptC_len 0 HP1.out.ld.maps
                        injection ev with ev1 ev2 ev3
                        obtain ⟨p', off', ev', _, _⟩ := hat (fun e => by have := HKP.out; rw [e] at this; simp at this)
                        have evx : vx = some ⟨p', off', none⟩ := ev1.trans ev'
                        refine ⟨p', off', evx, fun wx hb => ?_⟩
                        have hd := HP1.out.ld.below hb
                        obtain ⟨a2, cap2, ev2', _, _, _, hat2⟩ := own_seesG ptC_len 0 hd.maps
                        injection ev2' with f1 f2 f3
                        obtain ⟨p2, off2, e2', _, hc2⟩ := hat2 (fun e => by have := HKP.out; rw [e] at this; simp at this)
                        have e3 := Option.some.inj (evx.symm.trans (f1.trans e2'))
                        injection e3 with e31 e32 _
                        have hcell := hc2 k HKP.out 0 (by omega)
                        rw [Nat.mul_one, Nat.add_zero, ← e31, ← e32] at hcell
                        rw [← evx]
                        exact ⟨hd.low.2.2.1, (HQ1.out.below hb HQ1.out.lt).cell (j := 1) rfl, hcell⟩
                      subst hxm
                      obtain ⟨pk, HPK⟩ : ∃ pk, Hid (ps.getD k 0 = pk) := ⟨_, rfl⟩
                      rw [HPK.out] at HCELL
                      clear hkp
                      as_aux_lemma =>
                        go_wp2_with (first
                          | (go_at_call 18; (try rw [HW1.out, HNX.out]); go_must (refine (HP1.out.la.pairs (k : Int) HPQ).mono ?_); rintro e w6 ⟨a6, c6, rfl, hr6, hb6⟩; go_must (have HP6 := keepG (HP1.out.below hb6); have HQ6 := keepG (HQ1.out.below hb6 HQ1.out.lt); have g1 : w6.cell? ⟨nx, 1, none⟩ = some (.int .i64 k) := HQ6.out.cell (j := 1) rfl; have HR6 := keepG (own_seesG ppC_len Pp.nil hr6); have HB16 := keepG hb6; obtain ⟨-, -, s2⟩ := HBC2.out w6 HP6.out.la.be; clear hr6 hb6))
                          | (rw [HW1.out, HNX.out]))
                        refine wp_region_held_drew (S := fun w' => w'.cell? ⟨b, 2, none⟩ = some (.slice (some ⟨pm, om, none⟩) ps.length vc) ∧ w'.cell? ⟨nx, 1, none⟩ = some (.int .i64 k) ∧ w'.cell? ⟨pm, om + k, none⟩ = some (.pointer (some ⟨pk, 0, none⟩))) (by kernel_rfl) (HCELL.out w6 HB16.out) (fun hHeld => ?_)
                        have HB6D := keepG (below_drG (Below.refl w6.heap.size w6))
                        have HP6D := keepG (HP6.out.below HB6D.out)
                        have HCP := keepG (Ds.pairs (HP6D.out.ld.fam.ob k HKP.out) (t := o1.sk k) HINV.out HCAP.out)
                        rw [HPPE.out, HPK.out] at HCP
                        refine tkGo [0, 1, 2, 3, 4, 5, 6, 7, 8, 9, 10, 11] ?_
                        repeat (refine tkOne (v := ?_) rfl (by kernel_rfl) (by kernel_rfl) (by kernel_rfl) (fun _ _ _ h => h) (by assumption) (by rfl) ?_ ?_; rotate_left; (intro wy hSw; (try dsimp only at hSw); go_simp; (first | done | with_reducible rfl)); try simp only [Act.put, List.getElem_toArray, List.getElem_cons_zero, List.getElem_cons_succ, List.setIfInBounds_toArray, List.set_cons_zero, List.set_cons_succ])
                        refine tkEnd ?_
                        refine wpAnyH_ready (rs := [12]) (by kernel_rfl) (by simp) ?_
                        refine AllReadyH.cons rfl (fun KK hK => ?_) AllReadyH.nil
                        rw [if_pos (by rfl)]
                        go_simp
                        go_at_call 20
                        refine HCP.out.mono ?_
                        rintro e w7 ⟨u7, rfl, hr7, hb7⟩
                        have HB7 := keepG (HB6D.out.trans hb7)
                        have HP7 := keepG (HP6D.out.below hb7)
                        have HS7 := keepG (own_seesG ppC_len Pp.nil hr7)
                        have HS6 := keepG (HR6.out.below HB7.out (Nat.le_refl _))
                        obtain ⟨ua7, uc7, ev⟩ := own_shape hr7
                        subst ev
                        clear hr7 hb7
                        go_simp
                        refine hK.out _ _ (HCELL.out w7 (HB16.out.trans (HB7.out.mono HB16.out.size))) (fun hHeld => ?_)
                        clear hK KK
                        try simp only [Act.put, List.getElem_toArray, List.getElem_cons_zero, List.getElem_cons_succ, List.setIfInBounds_toArray, List.set_cons_zero, List.set_cons_succ]
                        refine wpAnyH_ready (rs := [13]) (by kernel_rfl) (by simp) ?_
                        refine AllReadyH.cons rfl (fun KK hK => ?_) AllReadyH.nil
                        rw [if_pos (by rfl)]
                        go_simp
                        go_at_call 19
                        refine (wpairs22 HS6.out HS7.out).mono ?_
                        rintro e W ⟨rfl, hbW⟩
                        have HPW := keepG (HP7.out.below hbW)
                        have HBW := keepG (HB7.out.trans (hbW.mono HB7.out.size))
                        clear hbW
                        go_simp
                        refine hK.out _ _ (HCELL.out W (HB16.out.trans (HBW.out.mono HB16.out.size))) (fun hHeld => ?_)
                        clear hK KK
                        try simp only [Act.put, List.getElem_toArray, List.getElem_cons_zero, List.getElem_cons_succ, List.setIfInBounds_toArray, List.set_cons_zero, List.set_cons_succ]
                        refine tkGo [14, 15] ?_
                        repeat (refine tkOne (v := ?_) rfl (by kernel_rfl) (by kernel_rfl) (by kernel_rfl) (fun _ _ _ h => h) (by assumption) (by rfl) ?_ ?_; rotate_left; (intro wy hSw; (try dsimp only at hSw); go_simp; (first | done | with_reducible rfl)); try simp only [Act.put, List.getElem_toArray, List.getElem_cons_zero, List.getElem_cons_succ, List.setIfInBounds_toArray, List.set_cons_zero, List.set_cons_succ])
                        refine tkEnd ?_
                        refine wpAnyH_done (by kernel_rfl) ?_ _
                        clear hHeld
                        go_wp2
                        refine wp_region_held_drew (S := fun w' => w'.cell? ⟨b, 3, none⟩ = some va ∧ w'.cell? ⟨b, 4, none⟩ = some (.int .i64 old.length) ∧ w'.cell? ⟨b, 5, none⟩ = some (.bool o1.over)) (by kernel_rfl) (by obtain ⟨-, -, -, g3, g4, g5⟩ := HPW.out.ld.low; exact ⟨g3, g4, g5⟩) (fun hHeld => ?_)
                        obtain ⟨vq, hcut, hsee⟩ := cut_line HPW.out.ld.all
                        have HSEE := keepG hsee
                        clear hsee
                        obtain ⟨-, -, -, t3, t4, t5⟩ := HPW.out.ld.low
                        have HLW : Hid (o1.ln.length * 56 ≤ 140737488355328) := by show _ ≤ _; have := (show (old ++ o1.ln).length ≤ 40 * (j + 1) by have := HI.out.2.2.1; omega); rw [List.length_append] at this; omega
                        have HTS : Hid (∀ wx, Below W.heap.size W wx → wx.cell? ⟨b, 3, none⟩ = some va ∧ wx.cell? ⟨b, 4, none⟩ = some (.int .i64 old.length) ∧ wx.cell? ⟨b, 5, none⟩ = some (.bool o1.over)) := fun wx hb => by
                          obtain ⟨-, -, -, g3, g4, g5⟩ := (HPW.out.ld.below hb).low
                          exact ⟨g3, g4, g5⟩
                        have hbb : (o1.over != o1.over) = false := by simp
                        have HBD := keepG (below_drG (Below.refl W.heap.size W))
                        have HPD := keepG (HPW.out.below HBD.out)
                        refine tkGo [0, 1, 2, 3, 5, 6, 7, 8, 9, 10, 11, 12, 13] ?_
                        repeat (refine tkOne (v := ?_) rfl (by kernel_rfl) (by kernel_rfl) (by kernel_rfl) (fun _ _ _ h => h) (by assumption) (by rfl) ?_ ?_; rotate_left; (intro wy hSw; (try dsimp only at hSw); go_simp; (first | done | with_reducible rfl)); try simp only [Act.put, List.getElem_toArray, List.getElem_cons_zero, List.getElem_cons_succ, List.setIfInBounds_toArray, List.set_cons_zero, List.set_cons_succ])
                        refine tkEnd ?_
                        refine wpAnyH_ready (rs := [4]) (by kernel_rfl) (by simp) ?_
                        refine AllReadyH.cons rfl (fun KK hK => ?_) AllReadyH.nil
                        rw [if_pos (by rfl)]
                        go_simp
                        go_at_call 21
                        refine (HPD.out.la.waiting HLW rfl).mono ?_
                        rintro e wa ⟨aa, ac, rfl, hra, hba⟩
                        have HBA := keepG (HBD.out.trans hba)
                        have HPA := keepG (HPD.out.below hba)
                        have HRA := keepG hra.sees
                        clear hra hba
                        go_simp
                        refine hK.out _ _ (HTS.out wa HBA.out) (fun hHeld => ?_)
                        clear hK KK
                        try simp only [Act.put, List.getElem_toArray, List.getElem_cons_zero, List.getElem_cons_succ, List.setIfInBounds_toArray, List.set_cons_zero, List.set_cons_succ]
                        refine wpAnyH_ready (rs := [14]) (by kernel_rfl) (by simp) ?_
                        refine AllReadyH.cons rfl (fun KK hK => ?_) AllReadyH.nil
                        rw [if_pos (by rfl)]
                        go_simp
                        go_at_call 12
                        refine (wlines HRA.out (HSEE.out wa HPA.out.ld.all.sees)).mono ?_
                        rintro e wb ⟨rfl, hbb2⟩
                        have HBB := keepG (HBA.out.trans (hbb2.mono HBA.out.size))
                        have HPB := keepG (HPA.out.below hbb2)
                        clear hbb2
                        go_simp
                        refine hK.out _ _ (HTS.out wb HBB.out) (fun hHeld => ?_)
                        clear hK KK
                        try simp only [Act.put, List.getElem_toArray, List.getElem_cons_zero, List.getElem_cons_succ, List.setIfInBounds_toArray, List.set_cons_zero, List.set_cons_succ]
                        refine tkGo [15, 16, 17, 18, 20, 21, 22, 23] ?_
                        repeat (refine tkOne (v := ?_) rfl (by kernel_rfl) (by kernel_rfl) (by kernel_rfl) (fun _ _ _ h => h) (by assumption) (by rfl) ?_ ?_; rotate_left; (intro wy hSw; (try dsimp only at hSw); go_simp; (first | done | with_reducible rfl)); try simp only [Act.put, List.getElem_toArray, List.getElem_cons_zero, List.getElem_cons_succ, List.setIfInBounds_toArray, List.set_cons_zero, List.set_cons_succ])
                        refine tkEnd ?_
                        refine wpAnyH_ready (rs := [19]) (by kernel_rfl) (by simp) ?_
                        refine AllReadyH.cons rfl (fun KK hK => ?_) AllReadyH.nil
                        rw [if_pos (by rfl)]
                        go_simp
                        go_at_call 22
                        refine HPB.out.la.ended.mono ?_
                        rintro e wc ⟨rfl, rfl⟩
                        go_simp
                        refine hK.out _ _ (HTS.out wb HBB.out) (fun hHeld => ?_)
                        clear hK KK
                        try simp only [Act.put, List.getElem_toArray, List.getElem_cons_zero, List.getElem_cons_succ, List.setIfInBounds_toArray, List.set_cons_zero, List.set_cons_succ]
                        refine tkGo [24, 25] ?_
                        repeat (refine tkOne (v := ?_) rfl (by kernel_rfl) (by kernel_rfl) (by kernel_rfl) (fun _ _ _ h => h) (by assumption) (by rfl) ?_ ?_; rotate_left; (intro wy hSw; (try dsimp only at hSw); go_simp; (first | done | with_reducible rfl)); try simp only [Act.put, List.getElem_toArray, List.getElem_cons_zero, List.getElem_cons_succ, List.setIfInBounds_toArray, List.set_cons_zero, List.set_cons_succ])
                        refine tkEnd ?_
                        refine wpAnyH_done (by kernel_rfl) ?_ _
                        clear hHeld
                        go_wp2
                        go_roundw
                        case rel => exact ⟨j + 1, F, va, S, G, o1, old, by omega, by omega, by go_num, HPB.out, by have := HI.out.2.1; omega, (show (old ++ o1.ln).length ≤ 40 * (j + 1) by have := HI.out.2.2.1; omega), HI.out.2.2.2⟩
                        case measure => simp [intOf]; omega
        · have h3I : ¬ (j : Int) < 300 := by omega
          have h3d : decide ((j : Int) < 300) = false := by simpa using h3I
          go_wp2
          go_ret
          exact ⟨rfl, HEND.out _ HI.out.1.la.be⟩
      · have hltI : ¬ (j : Int) < is.length := by omega
        have hltd : decide ((j : Int) < is.length) = false := by simpa using hltI
        go_wp2
        go_ret
        exact ⟨rfl, HEND.out _ HI.out.1.la.be⟩
theorem ownerPlays_walk (s n : Int) (mv : Value) (es : List (Int × Int)) (sv : Value) (is : List Oq) (w : World) (hm : SeesG dfC 2 (0, 0) w mv es) (hb : es.length * 16 ≤ 140737488351232) (hs : Sc22 w sv is) (_ : is.length * 40 ≤ 140737488351232 ∧ ∀ x ∈ is, True) :
    Calls Try.prog 3 #[shV s n mv, sv] w fun e w' => e = .returned (.bool true) ∧ Below w.heap.size w w' := ownerPlays_ok s n mv es sv is w hm hb hs
end Go.Proofs.Ytpbfgebecgikjaa
