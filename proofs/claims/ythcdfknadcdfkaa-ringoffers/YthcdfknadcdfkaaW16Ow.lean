
/-
  RingOffers, walked. Condition: none but the arguments' reading.
-/
import Derived.Test.YthcdfknadcdfkaaTk
import Derived.Test.YthcdfknadcdfkaaW16Of
namespace Go.Proofs.Ythcdfknadcdfkaa
open Go.RowKit
set_option linter.unusedVariables false
set_option linter.unusedSimpArgs false
set_option maxRecDepth 100000

theorem ringOffers_no (n : Int) (sv : Value) (w : World) (h : n < 1 ∨ 16 < n) :
    Calls Try.prog 5 #[.int .i64 n, sv] w fun e w' => e = .returned (.bool true) ∧ Below w.heap.size w w' := by
  go_enter Try.func5, Try.ntmps5
  go_wp2_with (first
    | (go_at_call 7; go_must (refine (awake16_any w).mono ?_); rintro e w1 ⟨rfl, hb1⟩)
    | (go_at_call 8; go_must (refine (lrnew_no n h _ _).mono ?_); rintro e w2 ⟨rfl, rfl⟩))
  go_ret
  exact ⟨rfl, (hb1.trans ((below_allocG _ _).mono hb1.size)).trans ((below_allocG _ _).mono (by simp; have := hb1.size; omega))⟩
set_option maxHeartbeats 16000000 in
theorem ringOffers_ok (n : Nat) (h1 : 1 ≤ n) (h2 : n ≤ 16) (sv : Value) (es : List Ev) (w : World) (hs : SeesG evC 2 Ev.nil w sv es) (hlen : es.length * 16 ≤ 140737488351232) :
    Calls Try.prog 5 #[.int .i64 n, sv] w fun e w' => e = .returned (.bool true) ∧ Below w.heap.size w w' := by
  have HSS : Hid (∀ wr, Below w.heap.size w wr → SeesG evC 2 Ev.nil wr sv es) := fun wr hb => hs.below hb (Nat.le_refl _)
  obtain ⟨a, c, rfl, hc, hm, _, _⟩ := hs
  have hm' : c ≤ 9223372036854775807 := by unfold maxLen at hm; omega
  obtain ⟨i0, hi0, hz0, hzs, hzb⟩ := info_parts infoQe
  obtain ⟨k0, hk0, ky0, kys, kyb⟩ := info_parts infoEv
  obtain ⟨rn, HRN⟩ : ∃ rn, Hid (Rg.new n = rn) := ⟨_, rfl⟩
  have HO0 : Hid (Ob rn 0 0) := by rw [← HRN.out]; exact ⟨Rg.Ok.new h1 h2, Nat.le_refl _, Nat.le_refl _, Int.le_refl _, Int.le_refl _⟩
  obtain ⟨ns, r1, l1, HR⟩ : ∃ ns r1 l1, Hid (offR rn 0 es = (ns, r1, l1)) := ⟨_, _, _, rfl⟩
  have HO1 : Hid (Ob r1 l1 es.length) := by have := HO0.out.offs es; rw [HR.out, Nat.zero_add] at this; exact this
  have HRL : Hid (ns.length = es.length) := by have := offR_len es rn 0; rw [HR.out] at this; exact this
  have HC0 : Hid (rn.counts = (0, 0, 0, 0, 0)) := by rw [← HRN.out]; show _ = _; rfl
  have HNW : Hid (∀ wx, Calls Try.prog 8 #[.int .i64 n, .pointer (some ⟨wx.heap.size, 0, none⟩)] (wx.alloc (.cells #[.int .i64 0] 26)) fun e w' => ∃ b F, e = .returned (.tuple #[.pointer (some ⟨b, 0, none⟩), .int .i64 0]) ∧ Lr w' wx.heap.size b rn 0 F ∧ Since wx F ∧ Below wx.heap.size wx w') := fun wx => by rw [← HRN.out]; exact lrnew_any n h1 h2 wx
  have p1 : True := trivial
  go_enter Try.func5, Try.ntmps5
  go_wp2_with (first
    | (go_at_call 7; go_must (refine (awake16_any w).mono ?_); rintro e w1 ⟨rfl, hb1⟩)
    | (go_at_call 8; have hq := p1; clear hq; go_must (refine (HNW.out w1).mono ?_); rintro e w2 ⟨ra, Fa, rfl, hL, hS, hb2⟩; go_must (have HL2 := keepG hL; have HS2 := keepG hS; clear p1 hL hS))
    | (go_at_call 8; go_must (refine (HNW.out w2).mono ?_); rintro e w3 ⟨rb, Fb, rfl, hL3, hS3, hb3⟩; go_must (have HT3 := keepG (O2.new hb1 HL2.out hb2.size HS2.out hb2 hL3 hb3.size hS3 hb3); obtain ⟨vi, wi, hri, hoi, hgi, hni⟩ := run_append_seesG (P := Try.prog) (w3.alloc (.cells #[] 38)) w3.heap.size 57 57 38 k0 _ 2 16 Try.underlying57 hk0 ky0 kys kyb rfl (by decide) _ 0 [] (own_emptyE w3 _ 2) evC_len (HSS.out _ (HT3.out.below (below_allocG _ _)).be) (evflat_one es) (by unfold maxLen; omega) (by omega) (by simp); clear hL3 hS3))
    | (at_builtin; go_must (refine wpList_appG _ rfl (.tmp 47) (.tmp 48) 57 57 rfl _ _ rfl rfl hri ?_; rw [Nat.zero_add, List.nil_append] at hoi; obtain ⟨ia, ic, rfl⟩ := own_shape hoi; have hbi : Below w3.heap.size w3 wi := (chg_append hgi).below (fun k e => by cases e; exact Nat.le_refl _) (Nat.le_refl _); have HT4 := keepG (HT3.out.below hbi); have HIN := keepG hoi; have HAP := keepG (Apt.made HT3.out.lies (own_since hoi (Nat.le_refl _))); clear hri hoi hgi hni))
    | (go_at_call 21; go_must (refine (HT4.out.offer HO0.out (by omega) (own_seesG evC_len Ev.nil HIN.out) hlen HAP.out HR).mono ?_); rintro e w5 ⟨xv, rfl, hx5, F5, ht5, hot5, hn5⟩; go_must (have HT5 := keepG ht5; rw [HRL.out] at hx5; have HXR := keepG hx5; have HI5 := keepG (own_othG HIN.out hot5 (by decide) (by decide) (by decide)); obtain ⟨xa, xc, rfl⟩ := own_shape hx5; clear hx5 ht5 hn5 hot5))
    | (go_at_call 19; go_must (refine (HT5.out.swap.counts HO0.out.ok (by have := HO0.out.all; omega) HC0).mono ?_); rintro e w6 ⟨rfl, hb6⟩; go_must (have HT6 := keepG (HT5.out.below hb6); have HX6 := keepG (own_below HXR.out hb6 (Nat.le_refl _)); have HI6 := keepG (own_below HI5.out hb6 (Nat.le_refl _)))))
  go_loopw [11] (fun i wr => ∃ j : Nat, j ≤ es.length ∧ i = .int .i64 j ∧ ∃ G1, Hid (O2 w wr ra rb r1 (offR rn 0 (es.take j)).2.1 l1 (offR rn 0 (es.take j)).2.2 F5 G1) ∧ Hid (wr.ownsRow wi.heap.size 3 1 (.slice xa es.length xc) es.length (flatG nC ns)) ∧ Hid (wr.ownsRow w3.heap.size 38 2 (.slice ia es.length ic) es.length (flatG evC es))) (fun i _ => es.length - (intOf i).toNat)
  case atStart => exact ⟨0, by omega, rfl, Fb, HT6, HX6, HI6⟩
  case round =>
    obtain ⟨j, hj, rfl, G1, HM, HXW, HIW⟩ := hrel
    rename World => wr
    by_cases hlt : j < es.length
    · have hltI : (j : Int) < es.length := by omega
      have HCC : Hid (∀ wx, Below w.heap.size w wx → ∃ g off, a = some ⟨g, off, none⟩ ∧ wx.cell? ⟨g, off + j * 2, none⟩ = some (.int .u64 (es.getD j Ev.nil).a) ∧ wx.cell? ⟨g, off + j * 2 + 1, none⟩ = some (.int .u64 (es.getD j Ev.nil).b)) := by
        intro wx hb
        obtain ⟨a', c', ev, _, _, _, hcell⟩ := HSS.out wx hb
        simp only [Value.slice.injEq, true_and] at ev
        obtain ⟨rfl, rfl⟩ := ev
        obtain ⟨g, off, rfl, hg, hat⟩ := hcell (fun e => by rw [e] at hlt; simp at hlt)
        exact ⟨g, off, rfl, hat j hlt 0 (by omega), hat j hlt 1 (by omega)⟩
      obtain ⟨g, off, rfl, d0, d1⟩ := HCC.out _ HM.out.be
      have HKP : Hid (∀ wx, Below w.heap.size w wx → wx.cell? ⟨g, off + j * 2, none⟩ = some (.int .u64 (es.getD j Ev.nil).a) ∧ wx.cell? ⟨g, off + j * 2 + 1, none⟩ = some (.int .u64 (es.getD j Ev.nil).b)) := by
        intro wx hb
        obtain ⟨g', off', e1, q⟩ := HCC.out wx hb
        simp only [Option.some.injEq, Addr.mk.injEq, true_and, and_true] at e1
        obtain ⟨rfl, rfl⟩ := e1
        exact q
      obtain ⟨x, HX0⟩ : ∃ x, Hid (es.getD j Ev.nil = x) := ⟨_, rfl⟩
      have HT := keepG (offR_one rn 0 es hlt HX0.out)
      have HAT := keepG (offR_at rn 0 es hlt HX0.out)
      have hob := HO0.out.offs (es.take j)
      have htl := List.length_take_le j es
      obtain ⟨s1, HS1⟩ : ∃ s1, Hid ((offR rn 0 (es.take j)).2.1 = s1) := ⟨_, rfl⟩
      obtain ⟨l2, HL2⟩ : ∃ l2, Hid ((offR rn 0 (es.take j)).2.2 = l2) := ⟨_, rfl⟩
      rw [HS1.out, HL2.out] at HT HAT HM hob
      have HBD : Hid (s1.Ok ∧ 0 ≤ l2 ∧ l2 ≤ 1000000000000000000 ∧ s1.refused ≤ 1000000000000000000) := by
        have h1 := hob.l0
        have h2 := hob.ln
        have h3 := hob.ref
        exact ⟨hob.ok, h1, by omega, by omega⟩
      clear hob htl
      rw [HX0.out] at d0 d1 HKP
      have HX1 := HX0
      obtain ⟨xea, xeb⟩ := x
      simp only at d0 d1 HT HAT HKP
      obtain ⟨q, E, s2, HQ⟩ : ∃ q E s2, Hid (s1.accept xea xeb (l2 + 1) = (q, E, s2)) := ⟨_, _, _, rfl⟩
      obtain ⟨l3, HL3⟩ : ∃ l3, Hid ((if E = 0 then l2 + 1 else l2) = l3) := ⟨_, rfl⟩
      rw [HQ.out] at HT HAT
      simp only [lastA, HL3.out] at HT HAT
      rw [HR.out] at HAT
      simp only at HAT
      go_wp2_with (first
        | (go_at_call 10; go_must (refine (HM.out.swap.accept xea xeb HBD.out.1 HBD.out.2.1 HBD.out.2.2.1 HBD.out.2.2.2 HQ HL3).mono ?_); rintro e w7 ⟨rfl, G7, ht7, hot7⟩; go_must (have HM7 := keepG ht7.swap; have HX7 := keepG (own_othG HXW.out hot7 (by decide) (by decide) (by decide)); have HI7 := keepG (own_othG HIW.out hot7 (by decide) (by decide) (by decide)); clear ht7 hot7)))
      obtain ⟨e0, e1⟩ := HKP.out w7 HM7.out.be
      have HCE : Hid (∃ gn gi, xa = some ⟨gn, 0, none⟩ ∧ ia = some ⟨gi, 0, none⟩ ∧ es.length ≤ xc ∧ es.length ≤ ic ∧ xc ≤ 9223372036854775807 ∧ ic ≤ 9223372036854775807 ∧ w7.cell? ⟨gn, j, none⟩ = some (.int .i64 q) ∧ w7.cell? ⟨gi, j * 2, none⟩ = some (.int .u64 xea) ∧ w7.cell? ⟨gi, j * 2 + 1, none⟩ = some (.int .u64 xeb)) := by
        have hx7 := HX7.out
        rw [← HRL.out] at hx7
        obtain ⟨gn, cn, ev, _, _, qn1, qn2, hn⟩ := own_atG nC_len 0 hx7 (by rw [HRL.out]; omega)
        simp only [Value.slice.injEq, true_and] at ev
        obtain ⟨rfl, rfl⟩ := ev
        obtain ⟨gi, ci, ev, _, _, qi1, qi2, hi⟩ := own_atG evC_len Ev.nil HI7.out (by omega)
        simp only [Value.slice.injEq, true_and] at ev
        obtain ⟨rfl, rfl⟩ := ev
        have t0 := (hn j (by rw [HRL.out]; exact hlt) 0 (by omega)).1
        have s0 := (hi j hlt 0 (by omega)).1
        have s1 := (hi j hlt 1 (by omega)).1
        rw [HAT.out] at t0
        rw [HX1.out] at s0 s1
        simp only [List.getElem?_cons_zero, List.getElem?_cons_succ, Nat.add_zero, Nat.mul_one] at t0 s0 s1
        exact ⟨gn, gi, rfl, rfl, by rw [← HRL.out]; exact qn1, qi1, qn2, qi2, t0, s0, s1⟩
      obtain ⟨gn, gi, rfl, rfl, y1, y2, y3, y4, t0, s0, s1'⟩ := HCE.out
      clear HCE
      refine wp_region_held_drew (S := fun w' => w'.cell? ⟨gn, j, none⟩ = some (.int .i64 q) ∧ w'.cell? ⟨gi, j * 2, none⟩ = some (.int .u64 xea) ∧ w'.cell? ⟨gi, j * 2 + 1, none⟩ = some (.int .u64 xeb) ∧ w'.cell? ⟨g, off + j * 2, none⟩ = some (.int .u64 xea) ∧ w'.cell? ⟨g, off + j * 2 + 1, none⟩ = some (.int .u64 xeb)) (by kernel_rfl) ⟨t0, s0, s1', e0, e1⟩ (fun hHeld => ?_)
      refine tkGo [0, 1, 2, 3, 4, 5, 6, 7, 8, 9, 10, 11, 12, 13, 14, 15, 16] ?_
      repeat (refine tkOne (v := ?_) rfl (by kernel_rfl) (by kernel_rfl) (by kernel_rfl) (fun _ _ _ h => h) (by assumption) (by rfl) ?_ ?_; rotate_left; (intro wy hSw; (try dsimp only at hSw); go_simp; (first | done | with_reducible rfl)); try simp only [Act.put, List.getElem_toArray, List.getElem_cons_zero, List.getElem_cons_succ, List.setIfInBounds_toArray, List.set_cons_zero, List.set_cons_succ])
      refine tkEnd ?_
      refine wpAnyH_done (by kernel_rfl) ?_ _
      clear hHeld
      have HM8 : Hid (O2 w w7.drew ra rb r1 (offR rn 0 (es.take (j + 1))).2.1 l1 (offR rn 0 (es.take (j + 1))).2.2 F5 G7) := by rw [HT.out]; exact HM7.out.drewN 1
      go_wp2
      first
        | (go_roundw
           case rel => exact ⟨j + 1, by omega, by go_num, G7, HM8, HX7, HI7⟩
           case measure => simp [intOf]; omega)
        | exact ⟨⟨j + 1, by omega, by go_num, G7, HM8, HX7, HI7⟩, by simp [intOf]; omega⟩
    · have hltI : ¬ (j : Int) < es.length := by omega
      have hT : es.take j = es := List.take_of_length_le (by omega)
      rw [hT, HR.out] at HM
      simp only at HM
      obtain ⟨A, HA⟩ : ∃ A, Hid (r1.waits = A) := ⟨_, rfl⟩
      have hA16 : A.length ≤ 16 := by have h3 := HO1.out.ok.waits_le; have h4 := HO1.out.ok.room.2; rw [HA.out] at h3; omega
      have HAll : Hid (r1.all.length ≤ 1000000000000000) := by have := HO1.out.all; show _ ≤ _; omega
      obtain ⟨c0, c1, c2, c3, c4, HC1⟩ : ∃ a b c d e, Hid (r1.counts = (a, b, c, d, e)) := ⟨_, _, _, _, _, rfl⟩
      clear hT
      go_wp2_with (first
        | (go_at_call 17; go_must (refine (HM.out.waits HO1.out.ok HA).mono ?_); rintro e w8 ⟨u8, rfl, hu8, hb8⟩; go_must (have HM8 := keepG (HM.out.below hb8); have HU8 := keepG hu8; have HAF := keepG (Apt.made HM.out.lies (own_since hu8 (Nat.le_refl _))); have HAG := keepG (Apt.made HM.out.swap.lies (own_since hu8 (Nat.le_refl _))); obtain ⟨ua, uc, rfl⟩ := own_shape hu8; clear hu8)))
      go_loopw [15] (fun i wv => ∃ k : Nat, k ≤ A.length ∧ i = .int .i64 k ∧ ∃ X : List Qe, Hid (X.length = A.length) ∧ Hid (wr.heap.size ≤ wv.heap.size) ∧ Hid (wv.ownsRow wr.heap.size 46 3 (.slice ua A.length uc) X.length (flatG qeC X)) ∧ Hid (O2 w wv ra rb r1 r1 l1 l1 F5 G1)) (fun i _ => A.length - (intOf i).toNat)
      case atStart => exact ⟨0, by omega, rfl, A, rfl, hb8.size, HU8, HM8⟩
      case round =>
        obtain ⟨k, hk, rfl, X, HXL, HZV, HXO, HP⟩ := hrel
        rename World => wv
        by_cases hkl : k < A.length
        · have hkI : (k : Int) < A.length := by omega
          have HCE : Hid (∃ gx, ∃ p : Qe, ua = some ⟨gx, 0, none⟩ ∧ wr.heap.size ≤ gx ∧ A.length ≤ uc ∧ uc ≤ 9223372036854775807 ∧ wv.cell? ⟨gx, k * 3, none⟩ = some (.int .i64 p.n) ∧ wv.cell? ⟨gx, k * 3 + 1, none⟩ = some (.int .u64 p.a) ∧ wv.cell? ⟨gx, k * 3 + 2, none⟩ = some (.int .u64 p.b) ∧ wv.frozen? ⟨gx, k * 3, none⟩ = false ∧ wv.frozen? ⟨gx, k * 3 + 1, none⟩ = false ∧ wv.frozen? ⟨gx, k * 3 + 2, none⟩ = false) := by
            have hx := HXO.out
            rw [← HXL.out] at hx
            obtain ⟨gx, cx, ev, qb, _, qn1, qn2, hn⟩ := own_atG qeC_len Qe.nil hx (by rw [HXL.out]; omega)
            simp only [Value.slice.injEq, true_and] at ev
            obtain ⟨rfl, rfl⟩ := ev
            have t0 := hn k (by rw [HXL.out]; exact hkl) 0 (by omega)
            have t1 := hn k (by rw [HXL.out]; exact hkl) 1 (by omega)
            have t2 := hn k (by rw [HXL.out]; exact hkl) 2 (by omega)
            simp only [List.getElem?_cons_zero, List.getElem?_cons_succ, Nat.add_zero] at t0 t1 t2
            exact ⟨gx, _, rfl, qb, by rw [← HXL.out]; exact qn1, qn2, t0.1, t1.1, t2.1, t0.2, t1.2, t2.2⟩
          obtain ⟨gx, p, rfl, hgx, y1, y3, t0, t1, t2, f0, f1, f2⟩ := HCE.out
          obtain ⟨Y, hYl, hYo⟩ : ∃ Y : List Qe, Y.length = A.length ∧ (((wv.setCell ⟨gx, k * 3, none⟩ (.int .i64 (-1))).setCell ⟨gx, k * 3 + 1, none⟩ (.int .u64 0)).setCell ⟨gx, k * 3 + 2, none⟩ (.int .u64 0)).ownsRow wr.heap.size 46 3 (.slice (some ⟨gx, 0, none⟩) A.length uc) Y.length (flatG qeC Y) := by
            have hx := HXO.out
            rw [← HXL.out] at hx
            obtain ⟨Y, q1, q2⟩ := own_set3 hx (by rw [HXL.out]; exact hkl) ⟨-1, 0, 0⟩
            rw [HXL.out] at q1 q2
            exact ⟨Y, q1, q2⟩
          have hch : Chg wv (((wv.setCell ⟨gx, k * 3, none⟩ (.int .i64 (-1))).setCell ⟨gx, k * 3 + 1, none⟩ (.int .u64 0)).setCell ⟨gx, k * 3 + 2, none⟩ (.int .u64 0)) (fun q => q = gx) := ((Chg.set wv gx _ _).trans (Chg.set _ gx _ _) (fun _ _ e => e)).trans (Chg.set _ gx _ _) (fun _ _ e => e)
          have HYL := keepG hYl
          have HYO := keepG hYo
          have HP2 := keepG (HP.out.chg hch (fun q e f => HAF.out q f (by rw [e]; rfl)) (fun q e f => HAG.out q f (by rw [e]; rfl)) (fun q e => by have := HM.out.be.size; omega))
          have HZ2 : Hid (wr.heap.size ≤ (((wv.setCell ⟨gx, k * 3, none⟩ (.int .i64 (-1))).setCell ⟨gx, k * 3 + 1, none⟩ (.int .u64 0)).setCell ⟨gx, k * 3 + 2, none⟩ (.int .u64 0)).heap.size) := Nat.le_trans HZV.out hch.size
          clear HCE hYl hYo hch
          go_wp2
          first
            | (go_roundw
               case rel => exact ⟨k + 1, by omega, by go_num, Y, HYL, HZ2, HYO, HP2⟩
               case measure => simp [intOf]; omega)
            | exact ⟨⟨k + 1, by omega, by go_num, Y, HYL, HZ2, HYO, HP2⟩, by simp [intOf]; omega⟩
        · have hkI : ¬ (k : Int) < A.length := by omega
          rw [HXL.out] at HXO
          have HR0 : Hid (offR r1 l1 [] = ([], r1, l1)) := rfl
          have p2 : True := trivial
          have p3 : True := trivial
          have HQ2 : Hid (∀ u ∈ qeC Qe.nil ++ qeC Qe.nil, u.oneCell' = true) := by
            intro u hu
            rcases List.mem_append.1 hu with e | e <;> exact qe_one _ u e
          go_wp2_with (first
            | (at_builtin; go_must (refine wpList_append_own_at _ rfl (.tmp 108) (.tmp 111) 50 rfl wr.heap.size 46 i0 _ 3 24 Try.underlying50 hi0 hz0 hzs hzb rfl (by decide) (.slice ua A.length uc) A.length (flatG qeC X) rfl (HXO.out.alloc _) ⟨_, 0, none⟩ 2 2 (qeC Qe.nil ++ qeC Qe.nil) rfl rfl (cells_new _ (qeC Qe.nil ++ qeC Qe.nil) _ _ rfl) HQ2.out (by unfold maxLen; omega) (by omega) (by have h8 := HZV.out; simp; omega) ?_); intro v9 w9 hown hgr _ hbk; go_must (have HM9 := keepG (HP.out.chg (chg_append hgr) (fun q e f => HAF.out q f e) (fun q e f => HAG.out q f e) (fun q e => Nat.le_trans HM.out.be.size (HXO.out.lt q e).1)); obtain ⟨xa9, xc9, rfl⟩ := own_shape hown; clear hown hgr hbk))
            | (go_at_call 17; have hq := p2; clear hq; go_must (refine (HM9.out.waits HO1.out.ok HA).mono ?_); rintro e wa ⟨va, rfl, hva, hba⟩; go_must (have HMa := keepG (HM9.out.below hba); have HVa := keepG (own_seesG qeC_len Qe.nil hva); clear hva p2))
            | (go_at_call 17; go_must (refine (HMa.out.swap.waits HO1.out.ok HA).mono ?_); rintro e wb ⟨vb, rfl, hvb, hbb⟩; go_must (have HMb := keepG (HMa.out.below hbb); have HVb := keepG (own_seesG qeC_len Qe.nil hvb); have HVc := keepG (HVa.out.below hbb (Nat.le_refl _)); clear hvb))
            | (go_at_call 14; go_must (refine (wqueued16 HVc.out HVb.out).mono ?_); rintro e wc ⟨rfl, mc, rfl⟩; go_must (have HMc := keepG (HMb.out.drewN mc)))
            | (go_at_call 19; have hq := p3; clear hq; go_must (refine (HMc.out.counts HO1.out.ok HAll.out HC1).mono ?_); rintro e wd ⟨rfl, hbd⟩; go_must (have HMd := keepG (HMc.out.below hbd); clear p3))
            | (go_at_call 19; go_must (refine (HMd.out.swap.counts HO1.out.ok HAll.out HC1).mono ?_); rintro e we ⟨rfl, hbe⟩; go_must (have HMe := keepG (HMd.out.below hbe)))
            | (go_at_call 21; go_must (refine (HMe.out.offer HO1.out (by simp; omega) (SeesG.nil _ _) (by simp) (fun k _ e => by cases e) HR0).mono ?_); rintro e wf ⟨vf, rfl, hvf, Ff, htf, _, _⟩; go_must (have HMf := keepG htf; obtain ⟨fa, fc, rfl⟩ := own_shape hvf; clear htf hvf))
            | (go_at_call 15; go_must (refine (HMf.out.shut HO1.out.ok HAll.out HA).mono ?_); rintro e wg ⟨vg, Fg, rfl, hvg, htg, hag, hbg⟩; go_must (have HMg := keepG htg; have HUg := keepG hvg; have HAFg := keepG hag; have HAGg := keepG hbg; obtain ⟨ga, gc, rfl⟩ := own_shape hvg; clear htg hvg hag hbg)))
          go_loopw [17] (fun i wv => ∃ k : Nat, k ≤ A.length ∧ i = .int .i64 k ∧ ∃ X : List Qe, Hid (X.length = A.length) ∧ Hid (wv.ownsRow wf.heap.size 46 3 (.slice ga A.length gc) X.length (flatG qeC X)) ∧ Hid (O2 w wv ra rb r1.shut.2 r1 l1 l1 Fg G1)) (fun i _ => A.length - (intOf i).toNat)
          case atStart => exact ⟨0, by omega, rfl, A, rfl, HUg, HMg⟩
          case round =>
            obtain ⟨k, hk, rfl, X, HXL, HXO, HP⟩ := hrel
            rename World => wv
            by_cases hkl : k < A.length
            · have hkI : (k : Int) < A.length := by omega
              have HCE : Hid (∃ gx, ∃ p : Qe, ga = some ⟨gx, 0, none⟩ ∧ wf.heap.size ≤ gx ∧ A.length ≤ gc ∧ gc ≤ 9223372036854775807 ∧ wv.cell? ⟨gx, k * 3, none⟩ = some (.int .i64 p.n) ∧ wv.cell? ⟨gx, k * 3 + 1, none⟩ = some (.int .u64 p.a) ∧ wv.cell? ⟨gx, k * 3 + 2, none⟩ = some (.int .u64 p.b) ∧ wv.frozen? ⟨gx, k * 3, none⟩ = false ∧ wv.frozen? ⟨gx, k * 3 + 1, none⟩ = false ∧ wv.frozen? ⟨gx, k * 3 + 2, none⟩ = false) := by
                have hx := HXO.out
                rw [← HXL.out] at hx
                obtain ⟨gx, cx, ev, qb, _, qn1, qn2, hn⟩ := own_atG qeC_len Qe.nil hx (by rw [HXL.out]; omega)
                simp only [Value.slice.injEq, true_and] at ev
                obtain ⟨rfl, rfl⟩ := ev
                have t0 := hn k (by rw [HXL.out]; exact hkl) 0 (by omega)
                have t1 := hn k (by rw [HXL.out]; exact hkl) 1 (by omega)
                have t2 := hn k (by rw [HXL.out]; exact hkl) 2 (by omega)
                simp only [List.getElem?_cons_zero, List.getElem?_cons_succ, Nat.add_zero] at t0 t1 t2
                exact ⟨gx, _, rfl, qb, by rw [← HXL.out]; exact qn1, qn2, t0.1, t1.1, t2.1, t0.2, t1.2, t2.2⟩
              obtain ⟨gx, p, rfl, hgx, y1, y3, t0, t1, t2, f0, f1, f2⟩ := HCE.out
              obtain ⟨Y, hYl, hYo⟩ : ∃ Y : List Qe, Y.length = A.length ∧ (((wv.setCell ⟨gx, k * 3, none⟩ (.int .i64 (-2))).setCell ⟨gx, k * 3 + 1, none⟩ (.int .u64 0)).setCell ⟨gx, k * 3 + 2, none⟩ (.int .u64 0)).ownsRow wf.heap.size 46 3 (.slice (some ⟨gx, 0, none⟩) A.length gc) Y.length (flatG qeC Y) := by
                have hx := HXO.out
                rw [← HXL.out] at hx
                obtain ⟨Y, q1, q2⟩ := own_set3 hx (by rw [HXL.out]; exact hkl) ⟨-2, 0, 0⟩
                rw [HXL.out] at q1 q2
                exact ⟨Y, q1, q2⟩
              have hch : Chg wv (((wv.setCell ⟨gx, k * 3, none⟩ (.int .i64 (-2))).setCell ⟨gx, k * 3 + 1, none⟩ (.int .u64 0)).setCell ⟨gx, k * 3 + 2, none⟩ (.int .u64 0)) (fun q => q = gx) := ((Chg.set wv gx _ _).trans (Chg.set _ gx _ _) (fun _ _ e => e)).trans (Chg.set _ gx _ _) (fun _ _ e => e)
              have HYL := keepG hYl
              have HYO := keepG hYo
              have HP2 := keepG (HP.out.chg hch (fun q e f => HAFg.out q f (by rw [e]; rfl)) (fun q e f => HAGg.out q f (by rw [e]; rfl)) (fun q e => by have := HMf.out.be.size; omega))
              clear HCE hYl hYo hch
              go_wp2
              first
                | (go_roundw
                   case rel => exact ⟨k + 1, by omega, by go_num, Y, HYL, HYO, HP2⟩
                   case measure => simp [intOf]; omega)
                | exact ⟨⟨k + 1, by omega, by go_num, Y, HYL, HYO, HP2⟩, by simp [intOf]; omega⟩
            · have hkI : ¬ (k : Int) < A.length := by omega
              rw [HXL.out] at HXO
              have HA2 : Hid (r1.shut.2.waits = []) := Rg.waits_shut
              have HAl2 : Hid (r1.shut.2.all.length ≤ 1000000000000000) := HAll.out
              have p4 : True := trivial
              go_wp2_with (first
                | (go_at_call 15; have hq := p4; clear hq; go_must (refine (HP.out.swap.shut HO1.out.ok HAll.out HA).mono ?_); rintro e wh ⟨vh, Gh, rfl, hvh, hth, _, _⟩; go_must (have HMh := keepG hth.swap; obtain ⟨ha, hcp, rfl⟩ := own_shape hvh; clear hth hvh p4))
                | (go_at_call 15; go_must (refine (HMh.out.shut HO1.out.ok.shut HAl2.out HA2).mono ?_); rintro e wk ⟨vk, Gk, rfl, hvk, htk, _, _⟩; go_must (have HMk := keepG htk; obtain ⟨ka, kcp, rfl⟩ := own_shape hvk; clear htk hvk)))
              go_ret
              exact ⟨rfl, HMk.out.be⟩
/-- RingOffers. -/
theorem ringOffers_walk (n : Int) (sv : Value) (es : List Ev) (w : World) {P0 : Prop} (_ : P0) (hs : SeesG evC 2 Ev.nil w sv es) (hlen : es.length * 16 ≤ 140737488351232) :
    Calls Try.prog 5 #[.int .i64 n, sv] w fun e w' => e = .returned (.bool true) ∧ Below w.heap.size w w' := by
  by_cases h : n < 1 ∨ 16 < n
  · exact ringOffers_no n sv w h
  · obtain ⟨m, rfl⟩ : ∃ m : Nat, n = m := ⟨n.toNat, by omega⟩
    exact ringOffers_ok m (by omega) (by omega) sv es w hs hlen
end Go.Proofs.Ythcdfknadcdfkaa
