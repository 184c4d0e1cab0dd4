
/-
  RingWhole, walked. Condition: none but the arguments' reading.
-/
import Derived.Test.YthcdfknadcdfkaaTk
import Derived.Test.YthcdfknadcdfkaaW16Wh
namespace Go.Proofs.Ythcdfknadcdfkaa
open Go.RowKit
set_option linter.unusedVariables false
set_option linter.unusedSimpArgs false
set_option maxRecDepth 100000

theorem ringWhole_no (n : Int) (sv : Value) (w : World) (h : n < 1 ∨ 16 < n) :
    Calls Try.prog 6 #[.int .i64 n, sv] w fun e w' => e = .returned (.bool true) ∧ Below w.heap.size w w' := by
  go_enter Try.func6, Try.ntmps6
  go_wp2_with (first
    | (go_at_call 7; go_must (refine (awake16_any w).mono ?_); rintro e w1 ⟨rfl, hb1⟩)
    | (go_at_call 8; go_must (refine (lrnew_no n h _ _).mono ?_); rintro e w2 ⟨rfl, rfl⟩))
  go_ret
  exact ⟨rfl, hb1.trans ((below_allocG _ _).mono hb1.size)⟩
/-- The ring and the two rows, behind j calls. -/
structure Ws (r : Rg) (L : List Qe) (E : List Ev) (j n : Nat) : Prop where
  ok : r.Ok
  cl : r.closed = false
  out : L = r.all.take r.taken
  inn : E = r.all.map Qe.ev
  all : r.all.length ≤ j
  ref : r.refused ≤ j
  num : r.Nums
theorem Ws.lenE {r : Rg} {L : List Qe} {E : List Ev} {j n : Nat} (h : Ws r L E j n) : E.length = r.all.length := by rw [h.inn]; simp
theorem Ws.lenL {r : Rg} {L : List Qe} {E : List Ev} {j n : Nat} (h : Ws r L E j n) : L.length = r.taken ∧ r.taken ≤ r.all.length := by
  have := h.ok.taken
  rw [h.out, List.length_take]
  omega
theorem Ws.le {r : Rg} {L : List Qe} {E : List Ev} {j n : Nat} (h : Ws r L E j n) : Ws r L E (j + 1) n := ⟨h.ok, h.cl, h.out, h.inn, Nat.le_succ_of_le h.all, Nat.le_succ_of_le h.ref, h.num⟩
theorem Ws.take {r : Rg} {L : List Qe} {E : List Ev} {j n : Nat} (h : Ws r L E j n) {p : Qe} {l : List Qe} (hw : r.waits = p :: l) : ∃ r', r.take = (p, true, r') ∧ Ws r' (L ++ [p]) E (j + 1) n ∧ r'.all.length = r.all.length := by
  obtain ⟨hcl, htl, htk, hwl⟩ := Rg.take_some hw
  refine ⟨_, htk, ⟨?_, h.cl, ?_, h.inn, Nat.le_succ_of_le h.all, Nat.le_succ_of_le h.ref, h.num⟩, rfl⟩
  · have := h.ok.take
    rw [htk] at this
    exact this
  · show L ++ [p] = r.all.take (r.taken + 1)
    rw [Rg.take_more hw, h.out]
theorem Ws.full {r : Rg} {L : List Qe} {E : List Ev} {j n : Nat} (h : Ws r L E j n) (hf : r.waits.length = r.room) (a b : Int) : ∃ r', r.accept a b ((r.all.length : Int) + 1) = (0, 40, r') ∧ Ws r' L E (j + 1) n ∧ r'.all.length = r.all.length := by
  refine ⟨_, h.ok.accept_full h.cl hf _ _ _, ⟨?_, h.cl, h.out, h.inn, Nat.le_succ_of_le h.all, Nat.succ_le_succ h.ref, h.num⟩, rfl⟩
  have := h.ok.accept a b ((r.all.length : Int) + 1)
  rw [h.ok.accept_full h.cl hf] at this
  exact this
theorem Ws.yes {r : Rg} {L : List Qe} {E : List Ev} {j n : Nat} (h : Ws r L E j n) (hf : r.waits.length ≠ r.room) (a b : Int) : ∃ r', r.accept a b ((r.all.length : Int) + 1) = ((r.all.length : Int) + 1, 0, r') ∧ Ws r' L (E ++ [⟨a, b⟩]) (j + 1) n ∧ r'.all.length = r.all.length + 1 := by
  have ht := h.ok.taken
  refine ⟨_, h.ok.accept_yes h.cl hf _ _ _, ⟨?_, h.cl, ?_, ?_, ?_, Nat.le_succ_of_le h.ref, h.num.more a b⟩, by simp⟩
  · have := h.ok.accept a b ((r.all.length : Int) + 1)
    rw [h.ok.accept_yes h.cl hf] at this
    exact this
  · show L = (r.all ++ [_]).take r.taken
    rw [List.take_append_of_le_length ht, h.out]
  · show E ++ _ = (r.all ++ [_]).map Qe.ev
    rw [List.map_append, h.inn]
    rfl
  · have := h.all
    simp
    omega
theorem Ws.end {r : Rg} {L : List Qe} {E : List Ev} {j n : Nat} (h : Ws r L E j n) : L ++ r.waits = r.all := by
  have hw : r.waits = r.all.drop r.taken := by
    unfold Rg.waits
    rw [h.cl, if_neg (by decide)]
  rw [hw, h.out, List.take_append_drop]
set_option maxHeartbeats 16000000 in
theorem ringWhole_ok (n : Nat) (h1 : 1 ≤ n) (h2 : n ≤ 16) (sv : Value) (is : List Oc) (w : World) (hs : SeesG ocC 4 Oc.nil w sv is) (hlen : is.length * 32 ≤ 140737488351232) :
    Calls Try.prog 6 #[.int .i64 n, sv] w fun e w' => e = .returned (.bool true) ∧ Below w.heap.size w w' := by
  have HSS : Hid (∀ wr, Below w.heap.size w wr → SeesG ocC 4 Oc.nil wr sv is) := fun wr hb => hs.below hb (Nat.le_refl _)
  obtain ⟨a, c, rfl, hc, hm, _, _⟩ := hs
  have hm' : c ≤ 9223372036854775807 := by unfold maxLen at hm; omega
  obtain ⟨i0, hi0, hz0, hzs, hzb⟩ := info_parts infoQe
  obtain ⟨k0, hk0, ky0, kys, kyb⟩ := info_parts infoEv
  have hko : (Rg.new n).Ok := Rg.Ok.new h1 h2
  go_enter Try.func6, Try.ntmps6
  go_wp2_with (first
    | (go_at_call 7; go_must (refine (awake16_any w).mono ?_); rintro e w1 ⟨rfl, hb1⟩)
    | (go_at_call 8; go_must (refine (lrnew_any n h1 h2 w1).mono ?_); rintro e w2 ⟨b, F, rfl, hL, hS, hb2⟩; go_must (have HT2 : Hid (Wh w w2 b (Rg.new n) 0 (.slice none 0 0) [] (.slice none 0 0) []) := ⟨Rc.new (w0 := w) hb1 hL hb2.size hS hb2, World.ownsRow_nil _ _ _ _⟩; clear hL hS)))
  go_loopw [7, 8, 9] (fun vi vo i wr => ∃ j : Nat, j ≤ is.length ∧ i = .int .i64 j ∧ ∃ r L E, Hid (Wh w wr b r r.all.length vo L vi E) ∧ Hid (Ws r L E j n)) (fun _ _ i _ => is.length - (intOf i).toNat)
  case atStart => exact ⟨0, by omega, rfl, Rg.new n, [], [], HT2, ⟨hko, rfl, rfl, rfl, Nat.le_refl _, Nat.le_refl _, fun k hk => by cases hk⟩⟩
  case round =>
    obtain ⟨j, hj, rfl, r, L, E, HM, HW⟩ := hrel
    rename World => wr
    obtain ⟨la, lc, ev, hlc, hlm⟩ := HM.out.rc.ln.shape
    subst ev
    obtain ⟨ea, ec, ev⟩ := own_shape HM.out.re
    subst ev
    have hall := HW.out.all
    have href := HW.out.ref
    have hlE := HW.out.lenE
    have hlL := HW.out.lenL
    have HLN : Hid (L.length ≤ j ∧ E.length ≤ j ∧ r.all.length ≤ j ∧ r.refused ≤ j) := ⟨by omega, by omega, hall, href⟩
    clear hall href hlE hlL
    by_cases hlt : j < is.length
    · have hltI : (j : Int) < is.length := by omega
      have HCC : Hid (∀ wx, Below w.heap.size w wx → ∃ g off, a = some ⟨g, off, none⟩ ∧ wx.cell? ⟨g, off + j * 4, none⟩ = some (.int .i64 (is.getD j Oc.nil).k) ∧ wx.cell? ⟨g, off + j * 4 + 2, none⟩ = some (.int .u64 (is.getD j Oc.nil).a) ∧ wx.cell? ⟨g, off + j * 4 + 3, none⟩ = some (.int .u64 (is.getD j Oc.nil).b)) := by
        intro wx hb
        obtain ⟨a', c', ev, _, _, _, hcell⟩ := HSS.out wx hb
        simp only [Value.slice.injEq, true_and] at ev
        obtain ⟨rfl, rfl⟩ := ev
        obtain ⟨g, off, rfl, hg, hat⟩ := hcell (fun e => by rw [e] at hlt; simp at hlt)
        exact ⟨g, off, rfl, hat j hlt 0 (by omega), hat j hlt 2 (by omega), hat j hlt 3 (by omega)⟩
      obtain ⟨g, off, rfl, d0, d2, d3⟩ := HCC.out _ HM.out.rc.be
      have HKP : Hid (∀ wx, Below w.heap.size w wx → wx.cell? ⟨g, off + j * 4, none⟩ = some (.int .i64 (is.getD j Oc.nil).k) ∧ wx.cell? ⟨g, off + j * 4 + 2, none⟩ = some (.int .u64 (is.getD j Oc.nil).a) ∧ wx.cell? ⟨g, off + j * 4 + 3, none⟩ = some (.int .u64 (is.getD j Oc.nil).b)) := by
        intro wx hb
        obtain ⟨g', off', e1, q⟩ := HCC.out wx hb
        simp only [Option.some.injEq, Addr.mk.injEq, true_and, and_true] at e1
        obtain ⟨rfl, rfl⟩ := e1
        exact q
      obtain ⟨x, HX0⟩ : ∃ x, Hid (is.getD j Oc.nil = x) := ⟨_, rfl⟩
      rw [HX0.out] at d0 d2 d3 HKP
      obtain ⟨xk, xo, xa, xb⟩ := x
      simp only at d0 d2 d3 HKP
      by_cases hk1 : xk = 1
      · subst hk1
        cases hw : r.waits with
        | nil =>
          have HQt : Hid (r.take = (Qe.nil, false, r)) := Rg.take_none hw
          have HW2 := keepG HW.out.le
          clear hw
          go_wp2_with (first
            | (go_at_call 12; go_must (refine (HM.out.take HW.out.ok (by have := HLN.out.2.2.1; omega) HQt).mono ?_); rintro e w4 ⟨rfl, ht4⟩; go_must (have HM4 := keepG (ht4.below (below_allocG _ (.cells #[.int .i64 0, .int .u64 0, .int .u64 0] 46))); clear ht4)))
          first
            | (go_roundw
               case rel => exact ⟨j + 1, by omega, by go_num, r, L, E, HM4, HW2⟩
               case measure => simp [intOf]; omega)
            | exact ⟨⟨j + 1, by omega, by go_num, r, L, E, HM4, HW2⟩, by simp [intOf]; omega⟩
        | cons p l =>
          obtain ⟨r', htk, hws, hal⟩ := HW.out.take hw
          have HQt := keepG htk
          have HW2 := keepG hws
          have HAL := keepG hal
          clear hw htk hws hal
          obtain ⟨pn, pa, pb⟩ := p
          go_wp2_with (first
            | (go_at_call 12; go_must (refine (HM.out.take HW.out.ok (by have := HLN.out.2.2.1; omega) HQt).mono ?_); rintro e w4 ⟨rfl, ht4⟩; go_must (obtain ⟨Z, HZ, hbZ, hpZ⟩ := que_box w4 ⟨pn, pa, pb⟩; have HMZ := keepG (ht4.below hbZ); have z0 := hpZ.out.cell (j := 0) rfl; have z1 := hpZ.out.cell (j := 1) rfl; have z2 := hpZ.out.cell (j := 2) rfl; rw [← HZ.out] at z0 z1 z2; clear ht4))
            | (at_builtin; rw [HZ.out]; go_must (refine wpList_append_cut _ rfl (.tmp 54) (.tmp 56) 50 rfl w.heap.size 46 i0 _ 3 24 Try.underlying50 hi0 hz0 hzs hzb rfl (by decide) (.slice la L.length lc) L.length (flatG qeC L) rfl (HMZ.out.below (below_allocG _ _)).rc.ln ⟨_, 0, none⟩ 1 1 (qeC ⟨pn, pa, pb⟩) rfl rfl (cells_new _ (qeC ⟨pn, pa, pb⟩) _ _ (by rw [← HZ.out]; simp)) (qe_one _) (by have := HLN.out.1; unfold maxLen; omega) (by have := HLN.out.1; omega) (HMZ.out.below (below_allocG _ _)).rc.be.size (by omega) ?_); intro v6 w6 hct hch hbk; go_must (have HM6 := keepG (Wh.line (L' := L ++ [⟨pn, pa, pb⟩]) (HMZ.out.below (below_allocG _ _)) hch (hbk.imp id (fun e => ⟨_, e, Nat.le_refl _⟩)) (by rw [flatG_more, List.length_append]; exact hct)); obtain ⟨va6, vc6, ev6, _, _⟩ := hct.shape; subst ev6; clear hct hch hbk)))
          first
            | (go_roundw
               case rel => exact ⟨j + 1, by omega, by go_num, r', _, E, by rw [HAL.out]; exact HM6.out, HW2⟩
               case measure => simp [intOf]; omega)
            | exact ⟨⟨j + 1, by omega, by go_num, r', _, E, by rw [HAL.out]; exact HM6.out, HW2⟩, by simp [intOf]; omega⟩
      · by_cases hfl : r.waits.length = r.room
        · obtain ⟨r', htk, hws, hal⟩ := HW.out.full hfl xa xb
          have HQa := keepG htk
          have HW2 := keepG hws
          have HAL := keepG hal
          have HLa : Hid ((if (40 : Int) = 0 then (r.all.length : Int) + 1 else r.all.length) = (r.all.length : Int)) := rfl
          clear htk hws hal hfl
          go_wp2_with (first
            | (go_at_call 10; go_must (refine (HM.out.accept xa xb HW.out.ok (by omega) (by have := HLN.out.2.2.1; omega) (by have := HLN.out.2.2.2; omega) HQa HLa).mono ?_); rintro e w4 ⟨rfl, ht4⟩; go_must (have HM4 := keepG ht4; clear ht4)))
          first
            | (go_roundw
               case rel => exact ⟨j + 1, by omega, by go_num, r', L, E, by rw [HAL.out]; exact HM4.out, HW2⟩
               case measure => simp [intOf]; omega)
            | exact ⟨⟨j + 1, by omega, by go_num, r', L, E, by rw [HAL.out]; exact HM4.out, HW2⟩, by simp [intOf]; omega⟩
        · obtain ⟨r', htk, hws, hal⟩ := HW.out.yes hfl xa xb
          have HQa := keepG htk
          have HW2 := keepG hws
          have HAL : Hid ((r'.all.length : Int) = (r.all.length : Int) + 1) := show _ = _ by omega
          have HLa : Hid ((if (0 : Int) = 0 then (r.all.length : Int) + 1 else r.all.length) = (r.all.length : Int) + 1) := rfl
          clear htk hws hal hfl
          go_wp2_with (first
            | (go_at_call 10; go_must (refine (HM.out.accept xa xb HW.out.ok (by omega) (by have := HLN.out.2.2.1; omega) (by have := HLN.out.2.2.2; omega) HQa HLa).mono ?_); rintro e w4 ⟨rfl, ht4⟩; go_must (have HM4 := keepG ht4; obtain ⟨_, f2, f3⟩ := HKP.out w4 ht4.rc.be; clear ht4))
            | (at_builtin; go_must (refine wpList_append_own_at _ rfl (.tmp 70) (.tmp 76) 57 rfl w.heap.size 38 k0 _ 2 16 Try.underlying57 hk0 ky0 kys kyb rfl (by decide) (.slice ea E.length ec) E.length (flatG evC E) rfl (HM4.out.below (below_allocG _ _)).re ⟨_, 0, none⟩ 1 1 (evC ⟨xa, xb⟩) rfl rfl (cells_new _ (evC ⟨xa, xb⟩) _ _ rfl) (ev_one _) (by have := HLN.out.2.1; unfold maxLen; omega) (by have := HLN.out.2.1; omega) (HM4.out.below (below_allocG _ _)).rc.be.size ?_); intro v6 w6 hct hgr _ hbk; go_must (have HM6 := keepG (Wh.evs (E' := E ++ [⟨xa, xb⟩]) (HM4.out.below (below_allocG _ _)) (Chg.of_grown' hgr (fun _ e => e)) (own_moreG hct)); obtain ⟨va6, vc6, ev6⟩ := own_shape hct; subst ev6; clear hct hgr hbk)))
          first
            | (go_roundw
               case rel => exact ⟨j + 1, by omega, by go_num, r', L, _, by rw [HAL.out]; exact HM6.out, HW2⟩
               case measure => simp [intOf]; omega)
            | exact ⟨⟨j + 1, by omega, by go_num, r', L, _, by rw [HAL.out]; exact HM6.out, HW2⟩, by simp [intOf]; omega⟩
    · have hltI : ¬ (j : Int) < is.length := by omega
      obtain ⟨A, HA⟩ : ∃ A, Hid (r.waits = A) := ⟨_, rfl⟩
      have HAll : Hid (L ++ A = r.all) := by show _ = _; rw [← HA.out]; exact HW.out.end
      obtain ⟨O, HO⟩ : ∃ O, Hid (L ++ A = O) := ⟨_, rfl⟩
      have HOL : Hid (L.length + A.length = O.length) := by show _ = _; rw [← HO.out, List.length_append]
      have HOE : Hid (O.length = E.length) := by show _ = _; rw [← HO.out, HAll.out, HW.out.lenE]
      have HON : Hid (∀ k, k < E.length → (O.getD k Qe.nil).n = (k : Int) + 1 ∧ (O.getD k Qe.nil).ev = E.getD k Ev.nil) := by
        intro k hk
        rw [HOE.out.symm, ← HO.out, HAll.out] at hk
        rw [← HO.out, HAll.out]
        refine ⟨HW.out.num k hk, ?_⟩
        rw [HW.out.inn, List.getD_eq_getElem?_getD, List.getD_eq_getElem?_getD, List.getElem?_map, List.getElem?_eq_getElem hk]
        rfl
      have hEl : E.length ≤ is.length := by have := HLN.out.2.1; omega
      have hOl : O.length ≤ is.length := by have := HOE.out; omega
      have HOF : Hid (flatG qeC L ++ flatG qeC A = flatG qeC O) := by show _ = _; rw [← HO.out, flatG_app]
      go_wp2_with (first
        | (go_at_call 15; go_must (refine (HM.out.shut HW.out.ok (by have := HLN.out.2.2.1; omega) HA).mono ?_); rintro e w4 ⟨u, rfl, hu4, ht4⟩; go_must (have HM4 := keepG ht4; obtain ⟨v6, w6, hr6, hct, hch, hbk⟩ := run_append_cut_sees (P := Try.prog) w4 w.heap.size 50 50 46 i0 _ 3 24 Try.underlying50 hi0 hz0 hzs hzb rfl (by decide) (flatG qeC L) ht4.rc.ln qeC_len hu4 (qflat_one A) (by have := HOL.out; unfold maxLen; omega) (by have := HOL.out; omega) ht4.rc.be.size; obtain ⟨ua, uc, rfl, _, _⟩ := hu4.shape; clear ht4 hu4))
        | (at_builtin; go_must (refine wpList_appG _ rfl (.tmp 78) (.tmp 80) 50 50 rfl _ _ rfl rfl hr6 ?_; rw [HOF.out, HOL.out] at hct; have HM6 := keepG (Wh.line (L' := O) HM4.out hch (hbk.imp id (fun e => ⟨_, e, Nat.le_refl _⟩)) hct); obtain ⟨va6, vc6, ev6, _, _⟩ := hct.shape; subst ev6; rw [HOE.out] at HM6 ⊢; clear hr6 hct hch hbk)))
      go_loopw [14] (fun i wv => ∃ k : Nat, k ≤ E.length ∧ i = .int .i64 k ∧ Hid (Wh w wv b r.shut.2 r.all.length (.slice va6 E.length vc6) O (.slice ea E.length ec) E)) (fun i _ => E.length - (intOf i).toNat)
      case atStart => exact ⟨0, by omega, rfl, HM6⟩
      case round =>
        obtain ⟨k, hk, rfl, HP⟩ := hrel
        rename World => wv
        by_cases hkl : k < E.length
        · have hkI : (k : Int) < E.length := by omega
          obtain ⟨hn, he⟩ := HON.out k hkl
          have HCE : Hid (∃ g1 o1 g2, va6 = some ⟨g1, o1, none⟩ ∧ ea = some ⟨g2, 0, none⟩ ∧ wv.cell? ⟨g1, o1 + k * 3, none⟩ = some (.int .i64 ((k : Int) + 1)) ∧ wv.cell? ⟨g1, o1 + k * 3 + 1, none⟩ = some (.int .u64 (E.getD k Ev.nil).a) ∧ wv.cell? ⟨g1, o1 + k * 3 + 2, none⟩ = some (.int .u64 (E.getD k Ev.nil).b) ∧ wv.cell? ⟨g2, k * 2, none⟩ = some (.int .u64 (E.getD k Ev.nil).a) ∧ wv.cell? ⟨g2, k * 2 + 1, none⟩ = some (.int .u64 (E.getD k Ev.nil).b)) := by
            obtain ⟨a1, c1, ev, _, _, _, hcl1⟩ := HP.out.rc.sees
            simp only [Value.slice.injEq] at ev
            obtain ⟨rfl, _, rfl⟩ := ev
            have hkO : k < O.length := by rw [HOE.out]; exact hkl
            obtain ⟨g1, o1, rfl, _, hat⟩ := hcl1 (fun e => by rw [e] at hkO; simp at hkO)
            obtain ⟨g2, c2, ev, _, _, _, _, hat2⟩ := own_atG evC_len Ev.nil HP.out.re (by omega)
            simp only [Value.slice.injEq, true_and] at ev
            obtain ⟨rfl, rfl⟩ := ev
            have t0 := hat k hkO 0 (by omega)
            have t1 := hat k hkO 1 (by omega)
            have t2 := hat k hkO 2 (by omega)
            have s0 := (hat2 k hkl 0 (by omega)).1
            have s1 := (hat2 k hkl 1 (by omega)).1
            simp only [List.getElem?_cons_zero, List.getElem?_cons_succ, Nat.add_zero] at t0 t1 t2 s0 s1
            rw [hn] at t0
            have ea1 : (O.getD k Qe.nil).a = (E.getD k Ev.nil).a := by rw [← he]; rfl
            have eb1 : (O.getD k Qe.nil).b = (E.getD k Ev.nil).b := by rw [← he]; rfl
            rw [ea1] at t1
            rw [eb1] at t2
            exact ⟨g1, o1, g2, rfl, rfl, t0, t1, t2, s0, s1⟩
          obtain ⟨g1, o1, g2, rfl, rfl, t0, t1, t2, s0, s1⟩ := HCE.out
          obtain ⟨y, HY0⟩ : ∃ y, Hid (E.getD k Ev.nil = y) := ⟨_, rfl⟩
          rw [HY0.out] at t1 t2 s0 s1
          obtain ⟨ya, yb⟩ := y
          simp only at t1 t2 s0 s1
          have hlc6 : E.length ≤ vc6 := by obtain ⟨_, _, ev, q, _⟩ := HP.out.rc.ln.shape; injection ev with e1 e2 e3; have := HOE.out; omega
          have hkw : IntKind.i64.wrap ((k : Int) + 1) = (k : Int) + 1 := by rw [IntKind.wrap_i64]; omega
          clear hn he HCE
          go_wp2
          refine wp_region_held_drew (S := fun w' => w'.cell? ⟨g1, o1 + k * 3, none⟩ = some (.int .i64 ((k : Int) + 1)) ∧ w'.cell? ⟨g1, o1 + k * 3 + 1, none⟩ = some (.int .u64 ya) ∧ w'.cell? ⟨g1, o1 + k * 3 + 2, none⟩ = some (.int .u64 yb) ∧ w'.cell? ⟨g2, k * 2, none⟩ = some (.int .u64 ya) ∧ w'.cell? ⟨g2, k * 2 + 1, none⟩ = some (.int .u64 yb)) (by kernel_rfl) ⟨t0, t1, t2, s0, s1⟩ (fun hHeld => ?_)
          refine tkGo [0, 1, 2, 3, 4, 5, 6, 7, 8, 9, 10, 11, 12, 13, 14, 15, 16, 17, 18, 19] ?_
          repeat (refine tkOne (v := ?_) rfl (by kernel_rfl) (by kernel_rfl) (by kernel_rfl) (fun _ _ _ h => h) (by assumption) (by rfl) ?_ ?_; rotate_left; (intro wy hSw; (try dsimp only at hSw); go_simp; (first | done | with_reducible rfl)); try simp only [Act.put, List.getElem_toArray, List.getElem_cons_zero, List.getElem_cons_succ, List.setIfInBounds_toArray, List.set_cons_zero, List.set_cons_succ])
          refine tkEnd ?_
          refine wpAnyH_done (by kernel_rfl) ?_ _
          clear hHeld
          go_wp2
          first
            | (go_roundw
               case rel => exact ⟨k + 1, by omega, by go_num, HP.out.below ⟨rfl, rfl, rfl, Nat.le_refl _, fun _ _ => rfl⟩⟩
               case measure => simp [intOf]; omega)
            | exact ⟨⟨k + 1, by omega, by go_num, HP.out.below ⟨rfl, rfl, rfl, Nat.le_refl _, fun _ _ => rfl⟩⟩, by simp [intOf]; omega⟩
        · have hkI : ¬ (k : Int) < E.length := by omega
          have HWE : Hid (r.shut.2.waits = []) := Rg.waits_shut
          go_wp2_with (first
            | (go_at_call 17; go_must (refine (HP.out.rc.waits HW.out.ok.shut HWE).mono ?_); rintro e w8 ⟨u, rfl, hu8, hb8⟩; go_must (obtain ⟨ua8, uc8, rfl⟩ := own_shape hu8; have HB8 := keepG (HP.out.rc.below hb8).be; clear hu8)))
          go_ret
          exact ⟨rfl, HB8.out⟩
/-- RingWhole. -/
theorem ringWhole_walk (n : Int) (sv : Value) (is : List Oc) (w : World) {P0 : Prop} (_ : P0) (hs : SeesG ocC 4 Oc.nil w sv is) (hlen : is.length * 32 ≤ 140737488351232) :
    Calls Try.prog 6 #[.int .i64 n, sv] w fun e w' => e = .returned (.bool true) ∧ Below w.heap.size w w' := by
  by_cases h : n < 1 ∨ 16 < n
  · exact ringWhole_no n sv w h
  · obtain ⟨m, rfl⟩ : ∃ m : Nat, n = m := ⟨n.toNat, by omega⟩
    exact ringWhole_ok m (by omega) (by omega) sv is w hs hlen
end Go.Proofs.Ythcdfknadcdfkaa
