
/-
  BookFills, walked. Condition: none but the arguments' reading.
-/
import Derived.Test.YtlinfpnkeiahlaaW13Two
import Derived.Test.YtlinfpnkeiahlaaGSees
namespace Go.Proofs.Ytlinfpnkeiahlaa
open Go.RowKit
set_option linter.unusedVariables false
set_option linter.unusedSimpArgs false
set_option maxRecDepth 100000

theorem bookFills_no (cap : Int) (sv : Value) (w : World) (hc : cap < 1 ∨ 16 < cap) :
    Calls Try.prog 5 #[.int .i64 cap, sv] w fun e w' => e = .returned (.bool true) ∧ Below w.heap.size w w' := by
  go_enter Try.func5, Try.ntmps5
  go_wp2_with (first
    | (go_at_call 7; go_must (refine (wawake w).mono ?_); rintro e w1 ⟨rfl, hb1⟩)
    | (go_at_call 8; go_must (refine (lnew_no cap hc w1).mono ?_); rintro e w2 ⟨rfl, rfl⟩))
  go_ret
  exact ⟨rfl, hb1⟩
/-- The slice that is written out with nothing in it. -/
theorem own_empty (w : World) (t : TypeId) : (w.alloc (.cells #[] t)).ownsRow w.heap.size t 2 (.slice (some ⟨w.heap.size, 0, none⟩) 0 0) 0 [] := by
  refine ⟨rfl, .inr ⟨w.heap.size, 0, #[], rfl, Nat.le_refl _, heap_alloc_new w _, Nat.le_refl _, by simp [maxLen], rfl, rfl⟩⟩
set_option maxHeartbeats 8000000 in
theorem bookFills_ok (n : Nat) (h1 : 1 ≤ n) (h2 : n ≤ 16) (sv : Value) (ps : List Pp) (w : World) (hs : SeesG ppC 2 Pp.nil w sv ps) (hlen : ps.length * 16 ≤ 140737488351232) :
    Calls Try.prog 5 #[.int .i64 n, sv] w fun e w' => e = .returned (.bool true) ∧ Below w.heap.size w w' := by
  have HSS : Hid (∀ wr, Below w.heap.size w wr → SeesG ppC 2 Pp.nil wr sv ps) := fun wr hb => hs.below hb (Nat.le_refl _)
  obtain ⟨a, c, rfl, hc, hm, hnil, _⟩ := hs
  have hm' : c ≤ 9223372036854775807 := by unfold maxLen at hm; omega
  obtain ⟨i0, hi0, hz0, hzs, hzb⟩ := info_parts infoPr
  obtain ⟨m, HM⟩ : ∃ m, Hid ((fillS n [] ps).1 = m) := ⟨_, rfl⟩
  go_enter Try.func5, Try.ntmps5
  go_wp2_with (first
    | (go_at_call 7; go_must (refine (wawake w).mono ?_); rintro e w1 ⟨rfl, hb1⟩)
    | (go_at_call 8; have hq := hp2; clear hq; go_must (refine (lnew_ok n h1 h2 w2).mono ?_); rintro e w3 ⟨rfl, hp3, hb3, hz3⟩; go_must (have HT3 := keepG (Tw.new hb1 hb2 HZ2.out hp2.out hb3 hp3 h2); clear hp3 hz3; obtain ⟨vi, wi, hri, hoi, hgi, hni⟩ := run_append_seesG (P := Try.prog) (w3.alloc (.cells #[] 47)) w3.heap.size 40 40 47 i0 _ 2 16 Try.underlying40 hi0 hz0 hzs hzb rfl (by decide) _ 0 [] (own_empty w3 _) ppC_len (HSS.out _ (HT3.out.below (below_allocG _ _)).be) (flat_one ps) (by unfold maxLen; omega) (by omega) (by simp)))
    | (go_at_call 8; go_must (refine (lnew_ok n h1 h2 w1).mono ?_); rintro e w2 ⟨rfl, hp2', hb2, hz2⟩; go_must (have hp2 := keepG hp2'; have HZ2 := keepG hz2; clear hp2' hz2))
    | (at_builtin; go_must (refine wpList_appG _ rfl (.tmp 47) (.tmp 48) 40 40 rfl _ _ rfl rfl hri ?_; rw [Nat.zero_add, List.nil_append] at hoi; obtain ⟨ia, ic, rfl⟩ := own_shape hoi; have HT4 := keepG (HT3.out.with ((chg_append hgi).below (fun k e => by cases e; exact Nat.le_refl _) (Nat.le_refl _)) (Nat.le_refl _) hoi); clear hri hoi hgi hni))
    | (go_at_call 17; go_must (refine (HT4.out.fillA (by omega) HM).mono ?_); rintro e w5 ⟨rfl, ht5⟩; go_must (have HT5 := keepG ht5; clear ht5))
    | (go_at_call 13; go_must (refine HT5.out.swap.lenA_any.mono ?_); rintro e w6 ⟨rfl, rfl⟩)
    | (go_at_call 14; go_must (refine (wpairs_same HT5.out.see (HSS.out _ HT5.out.be)).mono ?_); rintro e w7 ⟨rfl, m7, rfl⟩))
  have HTl := keepG (HT5.out.drewN m7)
  obtain ⟨A1, HA1⟩ : ∃ A1, Hid ((fillS n [] ps).2 = A1) := ⟨_, rfl⟩
  rw [HA1.out] at HTl
  go_loopw [11, 12] (fun t i wr => ∃ j k : Nat, j ≤ ps.length ∧ i = .int .i64 j ∧ t = .int .i64 k ∧ Hid ((fillS n [] (ps.take j)).1 = k) ∧ k ≤ j ∧ Hid (Tw w wr w1.heap.size w2.heap.size n A1 (fillS n [] (ps.take j)).2 (.slice ia ps.length ic) ps)) (fun t i _ => ps.length - (intOf i).toNat)
  case atStart => exact ⟨0, 0, by omega, rfl, rfl, rfl, Nat.le_refl _, HTl.out⟩
  case round =>
    obtain ⟨j, k, hj, rfl, rfl, HK, hkj, HT⟩ := hrel
    by_cases hlt : j < ps.length
    · have hltI : (j : Int) < ps.length := by omega
      have HCC : Hid (∀ wx, Below w.heap.size w wx → ∃ g off, a = some ⟨g, off, none⟩ ∧ wx.cell? ⟨g, off + j * 2, none⟩ = some (.int .u64 (ps.getD j Pp.nil).k) ∧ wx.cell? ⟨g, off + j * 2 + 1, none⟩ = some (.int .u64 (ps.getD j Pp.nil).v)) := by
        intro wx hb
        obtain ⟨a', c', ev, _, _, _, hcell⟩ := HSS.out wx hb
        simp only [Value.slice.injEq, true_and] at ev
        obtain ⟨rfl, rfl⟩ := ev
        obtain ⟨g, off, rfl, hg, hat⟩ := hcell (fun e => by rw [e] at hlt; simp at hlt)
        exact ⟨g, off, rfl, hat j hlt 0 (by omega), hat j hlt 1 (by omega)⟩
      obtain ⟨g, off, rfl, d0, d1⟩ := HCC.out _ HT.out.be
      have HKP : Hid (∀ wx, Below w.heap.size w wx → wx.cell? ⟨g, off + j * 2, none⟩ = some (.int .u64 (ps.getD j Pp.nil).k) ∧ wx.cell? ⟨g, off + j * 2 + 1, none⟩ = some (.int .u64 (ps.getD j Pp.nil).v)) := by
        intro wx hb
        obtain ⟨g', off', ea, q⟩ := HCC.out wx hb
        simp only [Option.some.injEq, Addr.mk.injEq, true_and, and_true] at ea
        obtain ⟨rfl, rfl⟩ := ea
        exact q
      obtain ⟨p, HP⟩ : ∃ p, Hid (ps.getD j Pp.nil = p) := ⟨_, rfl⟩
      rw [HP.out] at d0 d1 HKP
      have HF : Hid (fillS n [] (ps.take (j + 1)) = (k + (if (doS n (fillS n [] (ps.take j)).2 2 p.k p.v).1.E = 0 then 1 else 0), (doS n (fillS n [] (ps.take j)).2 2 p.k p.v).2)) := by
        show _ = _
        rw [take_more hlt, HP.out, fillS_app, HK.out]
      obtain ⟨M, HMM⟩ : ∃ M, Hid ((fillS n [] (ps.take j)).2 = M) := ⟨_, rfl⟩
      rw [HMM.out] at HF HT
      obtain ⟨E, HE⟩ : ∃ E, Hid ((doS n M 2 p.k p.v).1.E = E) := ⟨_, rfl⟩
      rw [HE.out] at HF
      have hkI : IntKind.i64.wrap ((k : Int) + 1) = (k : Int) + 1 := by rw [IntKind.wrap_i64]; omega
      go_wp2
      refine wp_region_held_drew (S := fun w' => w'.cell? ⟨g, off + j * 2, none⟩ = some (.int .u64 p.k) ∧ w'.cell? ⟨g, off + j * 2 + 1, none⟩ = some (.int .u64 p.v)) (by kernel_rfl) ⟨d0, d1⟩ (fun hHeld => ?_)
      refine wpAnyH_take (i := 0) (v := ?v2) rfl (by kernel_rfl) (by kernel_rfl) (by kernel_rfl) (fun _ _ _ h => h) (Or.inl ⟨by rfl, ?hy2⟩) (by assumption) ?rest2
      case hy2 => (intro wy hSw; (try dsimp only at hSw); go_simp; (first | done | with_reducible rfl))
      try simp only [Act.put, List.getElem_toArray, List.getElem_cons_zero, List.getElem_cons_succ, List.setIfInBounds_toArray, List.set_cons_zero, List.set_cons_succ]
      refine wpAnyH_take (i := 1) (v := ?v3) rfl (by kernel_rfl) (by kernel_rfl) (by kernel_rfl) (fun _ _ _ h => h) (Or.inl ⟨by rfl, ?hy3⟩) (by assumption) ?rest3
      case hy3 => (intro wy hSw; (try dsimp only at hSw); go_simp; (first | done | with_reducible rfl))
      try simp only [Act.put, List.getElem_toArray, List.getElem_cons_zero, List.getElem_cons_succ, List.setIfInBounds_toArray, List.set_cons_zero, List.set_cons_succ]
      refine wpAnyH_take (i := 2) (v := ?v4) rfl (by kernel_rfl) (by kernel_rfl) (by kernel_rfl) (fun _ _ _ h => h) (Or.inl ⟨by rfl, ?hy4⟩) (by assumption) ?rest4
      case hy4 => (intro wy hSw; (try dsimp only at hSw); go_simp; (first | done | with_reducible rfl))
      try simp only [Act.put, List.getElem_toArray, List.getElem_cons_zero, List.getElem_cons_succ, List.setIfInBounds_toArray, List.set_cons_zero, List.set_cons_succ]
      refine wpAnyH_take (i := 3) (v := ?v5) rfl (by kernel_rfl) (by kernel_rfl) (by kernel_rfl) (fun _ _ _ h => h) (Or.inl ⟨by rfl, ?hy5⟩) (by assumption) ?rest5
      case hy5 => (intro wy hSw; (try dsimp only at hSw); go_simp; (first | done | with_reducible rfl))
      try simp only [Act.put, List.getElem_toArray, List.getElem_cons_zero, List.getElem_cons_succ, List.setIfInBounds_toArray, List.set_cons_zero, List.set_cons_succ]
      refine wpAnyH_take (i := 4) (v := ?v6) rfl (by kernel_rfl) (by kernel_rfl) (by kernel_rfl) (fun _ _ _ h => h) (Or.inl ⟨by rfl, ?hy6⟩) (by assumption) ?rest6
      case hy6 => (intro wy hSw; (try dsimp only at hSw); go_simp; (first | done | with_reducible rfl))
      try simp only [Act.put, List.getElem_toArray, List.getElem_cons_zero, List.getElem_cons_succ, List.setIfInBounds_toArray, List.set_cons_zero, List.set_cons_succ]
      refine wpAnyH_take (i := 5) (v := ?v7) rfl (by kernel_rfl) (by kernel_rfl) (by kernel_rfl) (fun _ _ _ h => h) (Or.inl ⟨by rfl, ?hy7⟩) (by assumption) ?rest7
      case hy7 => (intro wy hSw; (try dsimp only at hSw); go_simp; (first | done | with_reducible rfl))
      try simp only [Act.put, List.getElem_toArray, List.getElem_cons_zero, List.getElem_cons_succ, List.setIfInBounds_toArray, List.set_cons_zero, List.set_cons_succ]
      refine wpAnyH_take (i := 6) (v := ?v8) rfl (by kernel_rfl) (by kernel_rfl) (by kernel_rfl) (fun _ _ _ h => h) (Or.inl ⟨by rfl, ?hy8⟩) (by assumption) ?rest8
      case hy8 => (intro wy hSw; (try dsimp only at hSw); go_simp; (first | done | with_reducible rfl))
      try simp only [Act.put, List.getElem_toArray, List.getElem_cons_zero, List.getElem_cons_succ, List.setIfInBounds_toArray, List.set_cons_zero, List.set_cons_succ]
      refine wpAnyH_take (i := 7) (v := ?v9) rfl (by kernel_rfl) (by kernel_rfl) (by kernel_rfl) (fun _ _ _ h => h) (Or.inl ⟨by rfl, ?hy9⟩) (by assumption) ?rest9
      case hy9 => (intro wy hSw; (try dsimp only at hSw); go_simp; (first | done | with_reducible rfl))
      try simp only [Act.put, List.getElem_toArray, List.getElem_cons_zero, List.getElem_cons_succ, List.setIfInBounds_toArray, List.set_cons_zero, List.set_cons_succ]
      refine wpAnyH_take (i := 8) (v := ?v10) rfl (by kernel_rfl) (by kernel_rfl) (by kernel_rfl) (fun _ _ _ h => h) (Or.inl ⟨by rfl, ?hy10⟩) (by assumption) ?rest10
      case hy10 => (intro wy hSw; (try dsimp only at hSw); go_simp; (first | done | with_reducible rfl))
      try simp only [Act.put, List.getElem_toArray, List.getElem_cons_zero, List.getElem_cons_succ, List.setIfInBounds_toArray, List.set_cons_zero, List.set_cons_succ]
      refine wpAnyH_take (i := 9) (v := ?v11) rfl (by kernel_rfl) (by kernel_rfl) (by kernel_rfl) (fun _ _ _ h => h) (Or.inl ⟨by rfl, ?hy11⟩) (by assumption) ?rest11
      case hy11 => (intro wy hSw; (try dsimp only at hSw); go_simp; (first | done | with_reducible rfl))
      try simp only [Act.put, List.getElem_toArray, List.getElem_cons_zero, List.getElem_cons_succ, List.setIfInBounds_toArray, List.set_cons_zero, List.set_cons_succ]
      refine wpAnyH_take (i := 10) (v := ?v12) rfl (by kernel_rfl) (by kernel_rfl) (by kernel_rfl) (fun _ _ _ h => h) (Or.inl ⟨by rfl, ?hy12⟩) (by assumption) ?rest12
      case hy12 => (intro wy hSw; (try dsimp only at hSw); go_simp; (first | done | with_reducible rfl))
      try simp only [Act.put, List.getElem_toArray, List.getElem_cons_zero, List.getElem_cons_succ, List.setIfInBounds_toArray, List.set_cons_zero, List.set_cons_succ]
      refine wpAnyH_ready (rs := [11]) (by kernel_rfl) (by simp) ?_
      refine AllReadyH.cons rfl (fun KK hK => ?_) AllReadyH.nil
      rw [if_pos (by rfl)]
      go_simp
      go_at_call 11
      refine ((HT.out.drewN 1).doB 2 p.k p.v).mono ?_
      rintro e w8 ⟨rfl, ht8⟩
      have HT8 : Hid (Tw w w8 w1.heap.size w2.heap.size n A1 (fillS n [] (ps.take (j + 1))).2 (.slice ia ps.length ic) ps) := by rw [HF.out]; exact ht8
      clear ht8
      rw [HE.out]
      go_simp
      refine hK.out _ _ (HKP.out w8 HT8.out.be) (fun hHeld => ?_)
      clear hK KK
      try simp only [Act.put, List.getElem_toArray, List.getElem_cons_zero, List.getElem_cons_succ, List.setIfInBounds_toArray, List.set_cons_zero, List.set_cons_succ]
      refine wpAnyH_take (i := 12) (v := .int .i64 E) rfl (by kernel_rfl) (by kernel_rfl) (by kernel_rfl) (fun _ _ _ h => h) (Or.inl ⟨by rfl, fun wy hSw => ?_⟩) (by assumption) ?_
      · first
          | (go_simp; done)
          | (go_simp; rw [run_fieldR0]; rfl)
          | (show ((Instr.field 36 (resG _ _ _ _ _ _) 0).run Try.prog wy).andThen _ = _; rw [run_fieldR0]; rfl)
      try simp only [Act.put, List.getElem_toArray, List.getElem_cons_zero, List.getElem_cons_succ, List.setIfInBounds_toArray, List.set_cons_zero, List.set_cons_succ]
      refine wpAnyH_take (i := 13) (v := ?v1) rfl (by kernel_rfl) (by kernel_rfl) (by kernel_rfl) (fun _ _ _ h => h) (Or.inl ⟨by rfl, ?hy1⟩) (by assumption) ?rest1
      case hy1 => (intro wy hSw; (try dsimp only at hSw); go_simp; (first | done | with_reducible rfl))
      try simp only [Act.put, List.getElem_toArray, List.getElem_cons_zero, List.getElem_cons_succ, List.setIfInBounds_toArray, List.set_cons_zero, List.set_cons_succ]
      refine wpAnyH_done (by kernel_rfl) ?_ _
      by_cases hE : E = 0
      · have hEb : (E == 0) = true := by simpa using hE
        have HK2 : Hid ((fillS n [] (ps.take (j + 1))).1 = k + 1) := by show _ = _; rw [HF.out, if_pos hE]
        go_wp2
        go_roundw
        case rel => exact ⟨j + 1, k + 1, by omega, by go_num, by go_num, HK2.out, by omega, HT8.out⟩
        case measure => simp [intOf]; omega
      · have hEb : (E == 0) = false := by simpa using hE
        have HK2 : Hid ((fillS n [] (ps.take (j + 1))).1 = k) := by show _ = _; rw [HF.out, if_neg hE]; rfl
        go_wp2
        go_roundw
        case rel => exact ⟨j + 1, k, by omega, by go_num, rfl, HK2.out, by omega, HT8.out⟩
        case measure => simp [intOf]; omega
    · have hltI : ¬ (j : Int) < ps.length := by omega
      have hT : ps.take j = ps := List.take_of_length_le (by omega)
      rw [hT] at HK HT
      rw [HA1.out] at HT
      have hkm : k = m := HK.out.symm.trans HM.out
      subst hkm
      have hA16 : A1.length ≤ 16 := Nat.le_trans HT.out.lenA h2
      go_wp2_with (go_at_call 15; go_must (refine HT.out.pairsA.mono ?_); rintro e wx ⟨ux, rfl, hux, hbx⟩; go_must (have HUX := keepG hux; clear hux))
      obtain ⟨xa, xc, rfl⟩ := own_shape HUX.out
      obtain ⟨wq, hwq⟩ : ∃ wq, wq = wr := ⟨_, rfl⟩
      subst hwq
      go_loopw [14] (fun i wr3 => ∃ q : Nat, q ≤ A1.length ∧ i = .int .i64 q ∧ (∃ X : List Pp, X.length = A1.length ∧ Hid (wr3.ownsRow wq.heap.size 47 2 (.slice xa A1.length xc) X.length (flatG ppC X))) ∧ Below wq.heap.size wq wr3) (fun i _ => A1.length - (intOf i).toNat)
      case atStart => exact ⟨0, by omega, rfl, ⟨A1, rfl, HUX.out⟩, hbx⟩
      case round =>
        obtain ⟨q, hq, rfl, ⟨X, hX, HO⟩, hbw⟩ := hrel
        have hzw := hbw.size
        by_cases hlt2 : q < A1.length
        · have hlt2I : (q : Int) < A1.length := by omega
          rw [← hX] at HO
          obtain ⟨g, c2, ev, hgB, hgw, hgc, hcm, hat⟩ := own_atG ppC_len Pp.nil HO.out (by omega)
          simp only [Value.slice.injEq, true_and] at ev
          obtain ⟨rfl, rfl⟩ := ev
          have d0 := hat q (by omega) 0 (by omega)
          have d1 := hat q (by omega) 1 (by omega)
          simp only [List.getElem?_cons_zero, List.getElem?_cons_succ, Nat.add_zero] at d0 d1
          obtain ⟨d0, f0⟩ := d0
          obtain ⟨d1, f1⟩ := d1
          have HS2 := keepG (own_setPair ⟨77, 77⟩ HO.out (i := q) (by omega))
          clear hat
          go_wp2
          go_roundw
          case rel => exact ⟨q + 1, by omega, by go_num, ⟨X.set q ⟨77, 77⟩, by simpa using hX, by have hh := HS2.out.1; rw [hX] at hh; exact hh⟩, hbw.trans (HS2.out.2.below (fun k e => by omega) hzw)⟩
          case measure => simp [intOf]; omega
        · have hlt2I : ¬ (q : Int) < A1.length := by omega
          rw [← hX] at HO
          have hX16 : X.length ≤ 16 := by omega
          have hXI : (X.length : Int) = (A1.length : Int) := by omega
          have hXw : IntKind.i64.wrap ((A1.length : Int) + 1) = (A1.length : Int) + 1 := by rw [IntKind.wrap_i64]; omega
          go_wp2_with (first
            | (at_builtin; go_must (refine wpList_append_own_at _ rfl (.tmp 96) (.tmp 98) 40 rfl wq.heap.size 47 i0 _ 2 16 Try.underlying40 hi0 hz0 hzs hzb rfl (by decide) _ X.length (flatG ppC X) (by rw [hX]; rfl) (HO.out.alloc _) ⟨_, 0, none⟩ 1 1 (ppC ⟨1, 0⟩) rfl rfl (cells_new wr (ppC ⟨1, 0⟩) _ _ rfl) (pp_one ⟨1, 0⟩) (by unfold maxLen; omega) (by omega) (by simp; omega) ?_); intro v' w' hown hgr _ hnew; go_must (obtain ⟨va, vc, rfl⟩ := own_shape hown; have hbw2 : Below wq.heap.size wq w' := hbw.trans (below_append hgr (fun j hj => (HO.out.lt j hj).1) hzw); have HTa := keepG (HT.out.below hbw2); clear hown hgr hnew))
            | (go_at_call 15; have hq := HTb; clear hq; go_must (refine HTb.out.swap.pairsA.mono ?_); rintro e wy ⟨uy, rfl, huy, hby⟩; go_must (have HTc := keepG (HTb.out.below hby); have HUy := keepG (own_seesG ppC_len Pp.nil huy); have HUz := keepG (HUb.out.below hby (Nat.le_refl _)); clear huy))
            | (go_at_call 15; go_must (refine HTa.out.pairsA.mono ?_); rintro e wz ⟨uz, rfl, huz, hbz⟩; go_must (have HTb := keepG (HTa.out.below hbz); have HUb := keepG (own_seesG ppC_len Pp.nil huz); clear huz))
            | (go_at_call 14; go_must (refine (wpairs_same HUz.out HUy.out).mono ?_); rintro e wp ⟨rfl, mp, rfl⟩; go_must (have HTd := keepG (HTc.out.drewN mp)))
            | (go_at_call 17; go_must (refine HTd.out.fill0.mono ?_); rintro e wf ⟨rfl, htf⟩; go_must (have HTf := keepG htf; clear htf))
            | (go_at_call 13; go_must (refine HTf.out.lenA_any.mono ?_); rintro e wg ⟨rfl, rfl⟩))
          go_ret
          exact ⟨rfl, HTf.out.be⟩
/-- BookFills. -/
theorem bookFills_walk (cap : Int) (sv : Value) (ps : List Pp) (w : World) {P0 : Prop} (_ : P0) (hs : SeesG ppC 2 Pp.nil w sv ps) (hlen : ps.length * 16 ≤ 140737488351232) :
    Calls Try.prog 5 #[.int .i64 cap, sv] w fun e w' => e = .returned (.bool true) ∧ Below w.heap.size w w' := by
  by_cases h : cap < 1 ∨ 16 < cap
  · exact bookFills_no cap sv w h
  · obtain ⟨n, rfl⟩ : ∃ n : Nat, cap = n := ⟨cap.toNat, by omega⟩
    exact bookFills_ok n (by omega) (by omega) sv ps w hs hlen
end Go.Proofs.Ytlinfpnkeiahlaa
