
/-
  LruFills, walked. Condition: none but the arguments' reading.
-/
import Derived.Test.YtoaceadfdelgfaaW14P2
import Derived.Test.YtoaceadfdelgfaaL14Awake
namespace Go.Proofs.Ytoaceadfdelgfaa
open Go.RowKit
set_option linter.unusedVariables false
set_option linter.unusedSimpArgs false
set_option maxRecDepth 100000

theorem lruFills_no (cap : Int) (sv kv : Value) (w : World) (hc : cap < 1 ∨ 16 < cap) :
    Calls Try.prog 5 #[.int .i64 cap, sv, kv] w fun e w' => e = .returned (.bool true) ∧ Below w.heap.size w w' := by
  go_enter Try.func5, Try.ntmps5
  go_wp2_with (first
    | (go_at_call 7; go_must (refine (awake14_any w).mono ?_); rintro e w1 ⟨rfl, hb1⟩)
    | (go_at_call 8; go_must (refine (llnew_no cap hc w1).mono ?_); rintro e w2 ⟨rfl, rfl⟩))
  go_ret
  exact ⟨rfl, hb1⟩
theorem flat_oneP (T : List Pp) : ∀ u ∈ flatG ppC T, u.oneCell' = true := flat_one T
set_option maxHeartbeats 8000000 in
/-- Where the lists are too long, nothing is said. -/
theorem lruFills_long (n : Nat) (h1 : 1 ≤ n) (h2 : n ≤ 16) (sv kv : Value) (ps : List Pp) (ks : List Int) (w : World) (hs : SeesG ppC 2 Pp.nil w sv ps) (hk : SeesG uC 1 0 w kv ks) (hl : 3000 < ps.length ∨ 3000 < ks.length) :
    Calls Try.prog 5 #[.int .i64 n, sv, kv] w fun e w' => e = .returned (.bool true) ∧ Below w.heap.size w w' := by
  obtain ⟨a, c, rfl, hc, hm, _, _⟩ := hs
  obtain ⟨a2, c2, rfl, hc2, hm2, _, _⟩ := hk
  have hm' : c ≤ 9223372036854775807 := by unfold maxLen at hm; omega
  have hm2' : c2 ≤ 9223372036854775807 := by unfold maxLen at hm2; omega
  by_cases h3 : 3000 < ps.length
  · have h3I : (3000 : Int) < ps.length := by omega
    have P1 : True := trivial
    go_enter Try.func5, Try.ntmps5
    go_wp2_with (first
      | (go_at_call 7; go_must (refine (awake14_any w).mono ?_); rintro e w1 ⟨rfl, hb1⟩)
      | (go_at_call 8; have hq := P1; clear hq; go_must (refine (lunew_ok n h1 h2 w1).mono ?_); rintro e w2 ⟨l, F, rfl, hL2, hs2, hb2⟩; go_must (clear P1 hL2 hs2))
      | (go_at_call 8; go_must (refine (lunew_ok n h1 h2 w2).mono ?_); rintro e w3 ⟨l3, F3, rfl, hL3, hs3, hb3⟩; go_must (clear hL3 hs3)))
    go_ret
    exact ⟨rfl, (hb1.trans (hb2.mono hb1.size)).trans (hb3.mono (Nat.le_trans hb1.size hb2.size))⟩
  · have h3I : ¬ (3000 : Int) < ps.length := by omega
    have h4I : (3000 : Int) < ks.length := by omega
    have P1 : True := trivial
    go_enter Try.func5, Try.ntmps5
    go_wp2_with (first
      | (go_at_call 7; go_must (refine (awake14_any w).mono ?_); rintro e w1 ⟨rfl, hb1⟩)
      | (go_at_call 8; have hq := P1; clear hq; go_must (refine (lunew_ok n h1 h2 w1).mono ?_); rintro e w2 ⟨l, F, rfl, hL2, hs2, hb2⟩; go_must (clear P1 hL2 hs2))
      | (go_at_call 8; go_must (refine (lunew_ok n h1 h2 w2).mono ?_); rintro e w3 ⟨l3, F3, rfl, hL3, hs3, hb3⟩; go_must (clear hL3 hs3)))
    go_ret
    exact ⟨rfl, (hb1.trans (hb2.mono hb1.size)).trans (hb3.mono (Nat.le_trans hb1.size hb2.size))⟩
set_option maxHeartbeats 16000000 in
theorem lruFills_ok (n : Nat) (h1 : 1 ≤ n) (h2 : n ≤ 16) (sv kv : Value) (ps : List Pp) (ks : List Int) (w : World) (hs : SeesG ppC 2 Pp.nil w sv ps) (hk : SeesG uC 1 0 w kv ks) (hpl : ps.length ≤ 3000) (hkl : ks.length ≤ 3000) :
    Calls Try.prog 5 #[.int .i64 n, sv, kv] w fun e w' => e = .returned (.bool true) ∧ Below w.heap.size w w' := by
  have HSS : Hid (∀ wr, Below w.heap.size w wr → SeesG ppC 2 Pp.nil wr sv ps) := fun wr hb => hs.below hb (Nat.le_refl _)
  have HKS : Hid (∀ wr, Below w.heap.size w wr → SeesG uC 1 0 wr kv ks) := fun wr hb => hk.below hb (Nat.le_refl _)
  obtain ⟨a, c, rfl, hc, hm, _, _⟩ := hs
  obtain ⟨a2, c2, rfl, hc2, hm2, _, _⟩ := hk
  have hm' : c ≤ 9223372036854775807 := by unfold maxLen at hm; omega
  have hm2' : c2 ≤ 9223372036854775807 := by unfold maxLen at hm2; omega
  have h3I : ¬ (3000 : Int) < ps.length := by omega
  have h4I : ¬ (3000 : Int) < ks.length := by omega
  obtain ⟨i0, hi0, hz0, hzs, hzb⟩ := info_parts infoPr
  obtain ⟨j0, hj0, hy0, hys, hyb⟩ := info_parts infoU14
  obtain ⟨sF, HSF⟩ : ∃ sF, Hid (fillA n ([], []) ps = sF) := ⟨_, rfl⟩
  obtain ⟨cn, S2, R2, HST⟩ : ∃ cn S2 R2, Hid (touchA n sF ks = (cn, (S2, R2))) := ⟨_, _, _, rfl⟩
  have P1 : True := trivial
  go_enter Try.func5, Try.ntmps5
  go_wp2_with (first
    | (go_at_call 7; go_must (refine (awake14_any w).mono ?_); rintro e w1 ⟨rfl, hb1⟩)
    | (go_at_call 8; have hq := P1; clear hq; go_must (refine (lunew_ok n h1 h2 w1).mono ?_); rintro e w2 ⟨la, Fa, rfl, hL2, hs2, hb2⟩; go_must (have HL2 := keepG hL2; have HS2 := keepG hs2; clear P1 hL2 hs2))
    | (go_at_call 8; go_must (refine (lunew_ok n h1 h2 w2).mono ?_); rintro e w3 ⟨lb, Fb, rfl, hL3, hs3, hb3⟩; go_must (have HT3 := keepG (P2.new h1 hb1 HL2.out hb2.size HS2.out hb2 hL3 hb3.size hs3 hb3 h2); obtain ⟨vi, wi, hri, hoi, hgi, hni⟩ := run_append_seesG (P := Try.prog) (w3.alloc (.cells #[] 58)) w3.heap.size 44 44 58 i0 _ 2 16 Try.underlying44 hi0 hz0 hzs hzb rfl (by decide) _ 0 [] (own_emptyZ w3 _ 2) ppC_len (HSS.out _ (HT3.out.below (below_allocG _ _)).be) (flat_oneP ps) (by unfold maxLen; omega) (by omega) (by simp); clear hL3 hs3))
    | (at_builtin; go_must (refine wpList_appG _ rfl (.tmp 58) (.tmp 59) 44 44 rfl _ _ rfl rfl hri ?_; rw [Nat.zero_add, List.nil_append] at hoi; obtain ⟨ia, ic, rfl⟩ := own_shape hoi; have hbi : Below w3.heap.size w3 wi := (chg_append hgi).below (fun k e => by cases e; exact Nat.le_refl _) (Nat.le_refl _); have HT4 := keepG (HT3.out.below hbi); have HIN := keepG hoi; have HAP := keepG (Apt.made HT3.out.lies (own_since hoi (Nat.le_refl _))); clear hri hoi hgi hni))
    | (go_at_call 21; go_must (refine (HT4.out.fill (own_seesG ppC_len Pp.nil HIN.out) (by omega) HAP.out).mono ?_); rintro e w5 ⟨rfl, F5, ht5, hx5⟩; go_must (rw [HSF.out] at ht5; have HT5 := keepG ht5; have HI5 := keepG (own_seesG ppC_len Pp.nil (own_keeps HIN.out hx5.chg HAP.out)); obtain ⟨d5, y5, hl5, HL5⟩ := ht5.swap.inner; clear ht5 hx5))
    | (go_at_call 13; go_must (refine (HL5.out w5 (Below.refl _ _)).1.mono ?_); rintro e w6 ⟨rfl, rfl⟩)
    | (go_at_call 15; go_must (refine HT5.out.swap.order.mono ?_); rintro e w6 ⟨u6, rfl, ho6, hb6⟩; go_must (have HT6 := keepG (HT5.out.below hb6); have HI6 := keepG (HI5.out.below hb6 (Nat.le_refl _)); obtain ⟨ua, uc, rfl⟩ := own_shape ho6; clear ho6))
    | (go_at_call 17; go_must (refine (wpairs14 HI6.out (HSS.out _ HT6.out.be)).mono ?_); rintro e w7 ⟨rfl, m7, rfl⟩))
  have HT7 := keepG (HT6.out.drewN m7)
  go_loopw [13] (fun i wr => ∃ j : Nat, j ≤ ps.length ∧ i = .int .i64 j ∧ ∃ G, Hid (P2 w wr la lb n sF (fillA n ([], []) (ps.take j)) F5 G)) (fun i _ => ps.length - (intOf i).toNat)
  case atStart => exact ⟨0, by omega, rfl, Fb, HT7.out⟩
  case round =>
    obtain ⟨j, hj, rfl, G1, HT⟩ := hrel
    by_cases hlt : j < ps.length
    · have hltI : (j : Int) < ps.length := by omega
      have HCC : Hid (∀ wx, Below w.heap.size w wx → ∃ g off, a = some ⟨g, off, none⟩ ∧ wx.cell? ⟨g, off + j * 2, none⟩ = some (.int .u64 (ps.getD j Pp.nil).k) ∧ wx.cell? ⟨g, off + j * 2 + 1, none⟩ = some (.int .u64 (ps.getD j Pp.nil).v)) := by
        intro wx hb
        obtain ⟨a', c', ev, _, _, _, hcell⟩ := HSS.out wx hb
        simp only [Value.slice.injEq, true_and] at ev
        obtain ⟨rfl, rfl⟩ := ev
        obtain ⟨g, off, rfl, hg, hat⟩ := hcell (fun e => by rw [e] at hlt; simp at hlt)
        exact ⟨g, off, rfl, hat j hlt 0 (by omega), hat j hlt 1 (by omega)⟩
      obtain ⟨g, off, rfl, d0, d1⟩ := HCC.out _ HT.out.be
      have HKP : Hid (∀ wx, Below w.heap.size w wx → wx.cell? ⟨g, off + j * 2, none⟩ = some (.int .u64 (ps.getD j Pp.nil).k) ∧ wx.cell? ⟨g, off + j * 2 + 1, none⟩ = some (.int .u64 (ps.getD j Pp.nil).v)) := by
        intro wx hb
        obtain ⟨g', off', ea, q⟩ := HCC.out wx hb
        simp only [Option.some.injEq, Addr.mk.injEq, true_and, and_true] at ea
        obtain ⟨rfl, rfl⟩ := ea
        exact q
      obtain ⟨p, HP⟩ : ∃ p, Hid (ps.getD j Pp.nil = p) := ⟨_, rfl⟩
      rw [HP.out] at d0 d1 HKP
      have HF : Hid (fillA n ([], []) (ps.take (j + 1)) = (doA n (fillA n ([], []) (ps.take j)).1 (fillA n ([], []) (ps.take j)).2 2 p.k p.v).2) := by
        show _ = _
        rw [take_more hlt, HP.out, fillA_app]
      obtain ⟨q, s2, HQ⟩ : ∃ q s2, Hid (doA n (fillA n ([], []) (ps.take j)).1 (fillA n ([], []) (ps.take j)).2 2 p.k p.v = (q, s2)) := ⟨_, _, rfl⟩
      rw [HQ.out] at HF
      go_wp2
      refine wp_region_held_drew (S := fun w' => w'.cell? ⟨g, off + j * 2, none⟩ = some (.int .u64 p.k) ∧ w'.cell? ⟨g, off + j * 2 + 1, none⟩ = some (.int .u64 p.v)) (by kernel_rfl) ⟨d0, d1⟩ (fun hHeld => ?_)
      refine wpAnyH_take (i := 0) (v := ?v1) rfl (by kernel_rfl) (by kernel_rfl) (by kernel_rfl) (fun _ _ _ h => h) (Or.inl ⟨by rfl, ?hy1⟩) (by assumption) ?rest1
      case hy1 => (intro wy hSw; (try dsimp only at hSw); go_simp; (first | done | with_reducible rfl))
      try simp only [Act.put, List.getElem_toArray, List.getElem_cons_zero, List.getElem_cons_succ, List.setIfInBounds_toArray, List.set_cons_zero, List.set_cons_succ]
      refine wpAnyH_take (i := 1) (v := ?v2) rfl (by kernel_rfl) (by kernel_rfl) (by kernel_rfl) (fun _ _ _ h => h) (Or.inl ⟨by rfl, ?hy2⟩) (by assumption) ?rest2
      case hy2 => (intro wy hSw; (try dsimp only at hSw); go_simp; (first | done | with_reducible rfl))
      try simp only [Act.put, List.getElem_toArray, List.getElem_cons_zero, List.getElem_cons_succ, List.setIfInBounds_toArray, List.set_cons_zero, List.set_cons_succ]
      refine wpAnyH_take (i := 2) (v := ?v3) rfl (by kernel_rfl) (by kernel_rfl) (by kernel_rfl) (fun _ _ _ h => h) (Or.inl ⟨by rfl, ?hy3⟩) (by assumption) ?rest3
      case hy3 => (intro wy hSw; (try dsimp only at hSw); go_simp; (first | done | with_reducible rfl))
      try simp only [Act.put, List.getElem_toArray, List.getElem_cons_zero, List.getElem_cons_succ, List.setIfInBounds_toArray, List.set_cons_zero, List.set_cons_succ]
      refine wpAnyH_take (i := 3) (v := ?v4) rfl (by kernel_rfl) (by kernel_rfl) (by kernel_rfl) (fun _ _ _ h => h) (Or.inl ⟨by rfl, ?hy4⟩) (by assumption) ?rest4
      case hy4 => (intro wy hSw; (try dsimp only at hSw); go_simp; (first | done | with_reducible rfl))
      try simp only [Act.put, List.getElem_toArray, List.getElem_cons_zero, List.getElem_cons_succ, List.setIfInBounds_toArray, List.set_cons_zero, List.set_cons_succ]
      refine wpAnyH_take (i := 4) (v := ?v5) rfl (by kernel_rfl) (by kernel_rfl) (by kernel_rfl) (fun _ _ _ h => h) (Or.inl ⟨by rfl, ?hy5⟩) (by assumption) ?rest5
      case hy5 => (intro wy hSw; (try dsimp only at hSw); go_simp; (first | done | with_reducible rfl))
      try simp only [Act.put, List.getElem_toArray, List.getElem_cons_zero, List.getElem_cons_succ, List.setIfInBounds_toArray, List.set_cons_zero, List.set_cons_succ]
      refine wpAnyH_take (i := 5) (v := ?v6) rfl (by kernel_rfl) (by kernel_rfl) (by kernel_rfl) (fun _ _ _ h => h) (Or.inl ⟨by rfl, ?hy6⟩) (by assumption) ?rest6
      case hy6 => (intro wy hSw; (try dsimp only at hSw); go_simp; (first | done | with_reducible rfl))
      try simp only [Act.put, List.getElem_toArray, List.getElem_cons_zero, List.getElem_cons_succ, List.setIfInBounds_toArray, List.set_cons_zero, List.set_cons_succ]
      refine wpAnyH_take (i := 6) (v := ?v7) rfl (by kernel_rfl) (by kernel_rfl) (by kernel_rfl) (fun _ _ _ h => h) (Or.inl ⟨by rfl, ?hy7⟩) (by assumption) ?rest7
      case hy7 => (intro wy hSw; (try dsimp only at hSw); go_simp; (first | done | with_reducible rfl))
      try simp only [Act.put, List.getElem_toArray, List.getElem_cons_zero, List.getElem_cons_succ, List.setIfInBounds_toArray, List.set_cons_zero, List.set_cons_succ]
      refine wpAnyH_take (i := 7) (v := ?v8) rfl (by kernel_rfl) (by kernel_rfl) (by kernel_rfl) (fun _ _ _ h => h) (Or.inl ⟨by rfl, ?hy8⟩) (by assumption) ?rest8
      case hy8 => (intro wy hSw; (try dsimp only at hSw); go_simp; (first | done | with_reducible rfl))
      try simp only [Act.put, List.getElem_toArray, List.getElem_cons_zero, List.getElem_cons_succ, List.setIfInBounds_toArray, List.set_cons_zero, List.set_cons_succ]
      refine wpAnyH_take (i := 8) (v := ?v9) rfl (by kernel_rfl) (by kernel_rfl) (by kernel_rfl) (fun _ _ _ h => h) (Or.inl ⟨by rfl, ?hy9⟩) (by assumption) ?rest9
      case hy9 => (intro wy hSw; (try dsimp only at hSw); go_simp; (first | done | with_reducible rfl))
      try simp only [Act.put, List.getElem_toArray, List.getElem_cons_zero, List.getElem_cons_succ, List.setIfInBounds_toArray, List.set_cons_zero, List.set_cons_succ]
      refine wpAnyH_take (i := 9) (v := ?v10) rfl (by kernel_rfl) (by kernel_rfl) (by kernel_rfl) (fun _ _ _ h => h) (Or.inl ⟨by rfl, ?hy10⟩) (by assumption) ?rest10
      case hy10 => (intro wy hSw; (try dsimp only at hSw); go_simp; (first | done | with_reducible rfl))
      try simp only [Act.put, List.getElem_toArray, List.getElem_cons_zero, List.getElem_cons_succ, List.setIfInBounds_toArray, List.set_cons_zero, List.set_cons_succ]
      refine wpAnyH_take (i := 10) (v := ?v11) rfl (by kernel_rfl) (by kernel_rfl) (by kernel_rfl) (fun _ _ _ h => h) (Or.inl ⟨by rfl, ?hy11⟩) (by assumption) ?rest11
      case hy11 => (intro wy hSw; (try dsimp only at hSw); go_simp; (first | done | with_reducible rfl))
      try simp only [Act.put, List.getElem_toArray, List.getElem_cons_zero, List.getElem_cons_succ, List.setIfInBounds_toArray, List.set_cons_zero, List.set_cons_succ]
      refine wpAnyH_ready (rs := [11]) (by kernel_rfl) (by simp) ?_
      refine AllReadyH.cons rfl (fun KK hK => ?_) AllReadyH.nil
      rw [if_pos (by rfl)]
      go_simp
      go_at_call 11
      refine ((HT.out.drewN 1).swap.do HQ).mono ?_
      rintro e w8 ⟨rfl, G8, ht8, hx8⟩
      have HT8 : Hid (P2 w w8 la lb n sF (fillA n ([], []) (ps.take (j + 1))) F5 G8) := by rw [HF.out]; exact ht8.swap
      clear ht8 hx8
      go_simp
      refine hK.out _ _ (HKP.out w8 HT8.out.be) (fun hHeld => ?_)
      clear hK KK
      try simp only [Act.put, List.getElem_toArray, List.getElem_cons_zero, List.getElem_cons_succ, List.setIfInBounds_toArray, List.set_cons_zero, List.set_cons_succ]
      refine wpAnyH_done (by kernel_rfl) ?_ _
      go_wp2
      first
        | (go_roundw
           case rel => exact ⟨j + 1, by omega, by go_num, G8, HT8.out⟩
           case measure => simp [intOf]; omega)
        | exact ⟨⟨j + 1, by omega, by go_num, G8, HT8.out⟩, by simp [intOf]; omega⟩
    · have hltI : ¬ (j : Int) < ps.length := by omega
      have hT : ps.take j = ps := List.take_of_length_le (by omega)
      rw [hT, HSF.out] at HT
      clear hT
      go_wp2
      go_loopw [14, 15] (fun t i wr => ∃ j m : Nat, j ≤ ks.length ∧ i = .int .i64 j ∧ t = .int .i64 m ∧ Hid ((touchA n sF (ks.take j)).1 = m) ∧ m ≤ j ∧ ∃ G, Hid (P2 w wr la lb n sF (touchA n sF (ks.take j)).2 F5 G)) (fun _ i _ => ks.length - (intOf i).toNat)
      case atStart => exact ⟨0, 0, by omega, rfl, rfl, rfl, by omega, G1, HT.out⟩
      case round =>
        obtain ⟨j3, m3, hj3, rfl, rfl, HM3, hm3, G3, HT9⟩ := hrel
        rename World => wy
        by_cases hlt3 : j3 < ks.length
        · have hlt3I : (j3 : Int) < ks.length := by omega
          obtain ⟨a', c', ev, _, _, _, hcell⟩ := HKS.out _ HT9.out.be
          simp only [Value.slice.injEq, true_and] at ev
          obtain ⟨rfl, rfl⟩ := ev
          obtain ⟨g3, o3, rfl, hg3, hat3⟩ := hcell (fun e => by rw [e] at hlt3; simp at hlt3)
          have d3 := hat3 j3 hlt3 0 (by omega)
          simp only [List.getElem?_cons_zero, Nat.add_zero, Nat.mul_one] at d3
          clear hat3 hcell
          obtain ⟨p3, HP3⟩ : ∃ p3, Hid (ks.getD j3 0 = p3) := ⟨_, rfl⟩
          rw [HP3.out] at d3
          have HF3 : Hid (touchA n sF (ks.take (j3 + 1)) = (m3 + (if (doA n (touchA n sF (ks.take j3)).2.1 (touchA n sF (ks.take j3)).2.2 0 p3 5).1.f = true then 1 else 0), (doA n (touchA n sF (ks.take j3)).2.1 (touchA n sF (ks.take j3)).2.2 0 p3 5).2)) := by
            show _ = _
            rw [take_moreI hlt3, HP3.out, touchA_app, HM3.out, doA_get n _ _ p3 0 5]
          obtain ⟨q3, s3, HQ3⟩ : ∃ q3 s3, Hid (doA n (touchA n sF (ks.take j3)).2.1 (touchA n sF (ks.take j3)).2.2 0 p3 5 = (q3, s3)) := ⟨_, _, rfl⟩
          rw [HQ3.out] at HF3
          obtain ⟨f3, HFF⟩ : ∃ f3, Hid (q3.f = f3) := ⟨_, rfl⟩
          have hmI : IntKind.i64.wrap ((m3 : Int) + 1) = (m3 : Int) + 1 := by rw [IntKind.wrap_i64]; omega
          cases f3 with
          | true =>
            have HM4 : Hid ((touchA n sF (ks.take (j3 + 1))).1 = m3 + 1) := by
              show _ = _
              rw [HF3.out]
              show m3 + (if q3.f = true then 1 else 0) = m3 + 1
              rw [HFF.out]
              rfl
            go_wp2_with (first | (go_at_call 11; go_must (refine (HT9.out.swap.do HQ3).mono ?_); rintro e w8 ⟨rfl, G8, ht8, hx8⟩; go_must (rw [HFF.out]; have HT8 : Hid (P2 w w8 la lb n sF (touchA n sF (ks.take (j3 + 1))).2 F5 G8) := (by rw [HF3.out]; exact ht8.swap); clear ht8 hx8)) | (rw [run_fieldR1]))
            first
              | (go_roundw
                 case rel => exact ⟨j3 + 1, m3 + 1, by omega, by go_num, by go_num, HM4.out, by omega, G8, HT8.out⟩
                 case measure => simp [intOf]; omega)
              | exact ⟨⟨j3 + 1, m3 + 1, by omega, by go_num, by go_num, HM4.out, by omega, G8, HT8.out⟩, by simp [intOf]; omega⟩
          | false =>
            have HM4 : Hid ((touchA n sF (ks.take (j3 + 1))).1 = m3) := by
              show _ = _
              rw [HF3.out]
              show m3 + (if q3.f = true then 1 else 0) = m3
              rw [HFF.out]
              rfl
            go_wp2_with (first | (go_at_call 11; go_must (refine (HT9.out.swap.do HQ3).mono ?_); rintro e w8 ⟨rfl, G8, ht8, hx8⟩; go_must (rw [HFF.out]; have HT8 : Hid (P2 w w8 la lb n sF (touchA n sF (ks.take (j3 + 1))).2 F5 G8) := (by rw [HF3.out]; exact ht8.swap); clear ht8 hx8)) | (rw [run_fieldR1]))
            first
              | (go_roundw
                 case rel => exact ⟨j3 + 1, m3, by omega, by go_num, rfl, HM4.out, by omega, G8, HT8.out⟩
                 case measure => simp [intOf]; omega)
              | exact ⟨⟨j3 + 1, m3, by omega, by go_num, rfl, HM4.out, by omega, G8, HT8.out⟩, by simp [intOf]; omega⟩
        · have hlt3I : ¬ (j3 : Int) < ks.length := by omega
          have hT3 : ks.take j3 = ks := List.take_of_length_le (by omega)
          rw [hT3, HST.out] at HT9
          rw [hT3, HST.out] at HM3
          obtain rfl : cn = m3 := HM3.out
          clear hT3
          obtain ⟨vi, wi, hri, hoi, hgi, hni⟩ := run_append_seesG (P := Try.prog) (wy.alloc (.cells #[] 36)).drew wy.heap.size 33 33 36 j0 _ 1 8 Try.underlying33 hj0 hy0 hys hyb rfl (by decide) _ 0 [] (own_drewG (own_emptyZ wy _ 1)) uC_len (HKS.out _ ((HT9.out.below (below_allocG wy (.cells #[] 36))).drewN 1).be) (flat_oneU ks) (by unfold maxLen; omega) (by omega) (by simp)
          rw [Nat.zero_add, List.nil_append] at hoi
          obtain ⟨ja, jc, rfl⟩ := own_shape hoi
          have hbi : Below wy.heap.size wy wi := (chg_append (grown_undrew hgi)).below (fun k e => by cases e; exact Nat.le_refl _) (Nat.le_refl _)
          have HTi := keepG (HT9.out.below hbi)
          have HKi := keepG hoi
          have HAP2 := keepG (Apt.made HT9.out.lies (w := wy) (own_since hoi (Nat.le_refl _)))
          clear hoi hgi hni
          go_wp2
          refine wp_region_held_drew (S := fun _ => True) (by kernel_rfl) trivial (fun hHeld => ?_)
          refine wpAnyH_take (i := 0) (v := ?v12) rfl (by kernel_rfl) (by kernel_rfl) (by kernel_rfl) (fun _ _ _ h => h) (Or.inl ⟨by rfl, ?hy12⟩) (by assumption) ?rest12
          case hy12 => (intro wy hSw; (try dsimp only at hSw); go_simp; (first | done | with_reducible rfl))
          try simp only [Act.put, List.getElem_toArray, List.getElem_cons_zero, List.getElem_cons_succ, List.setIfInBounds_toArray, List.set_cons_zero, List.set_cons_succ]
          refine wpAnyH_take (i := 2) (v := ?v13) rfl (by kernel_rfl) (by kernel_rfl) (by kernel_rfl) (fun _ _ _ h => h) (Or.inl ⟨by rfl, ?hy13⟩) (by assumption) ?rest13
          case hy13 => (intro wy hSw; (try dsimp only at hSw); go_simp; (first | done | with_reducible rfl))
          try simp only [Act.put, List.getElem_toArray, List.getElem_cons_zero, List.getElem_cons_succ, List.setIfInBounds_toArray, List.set_cons_zero, List.set_cons_succ]
          refine wpAnyH_take (i := 5) (v := ?v14) rfl (by kernel_rfl) (by kernel_rfl) (by kernel_rfl) (fun _ _ _ h => h) (Or.inl ⟨by rfl, ?hy14⟩) (by assumption) ?rest14
          case hy14 => (intro wy hSw; (try dsimp only at hSw); go_simp; (first | done | with_reducible rfl))
          try simp only [Act.put, List.getElem_toArray, List.getElem_cons_zero, List.getElem_cons_succ, List.setIfInBounds_toArray, List.set_cons_zero, List.set_cons_succ]
          refine wpAnyH_ready (rs := [1]) (by kernel_rfl) (by simp) ?_
          refine AllReadyH.cons rfl (fun KK hK => ?_) AllReadyH.nil
          rw [if_pos (by rfl)]
          go_simp
          refine hK.out _ _ trivial (fun hHeld => ?_)
          clear hK KK
          try simp only [Act.put, List.getElem_toArray, List.getElem_cons_zero, List.getElem_cons_succ, List.setIfInBounds_toArray, List.set_cons_zero, List.set_cons_succ]
          refine wpAnyH_ready (rs := [3]) (by kernel_rfl) (by simp) ?_
          refine AllReadyH.cons rfl (fun KK hK => ?_) AllReadyH.nil
          rw [if_pos (by rfl)]
          refine wp_appG _ (.tmp 122) (.tmp 123) 33 33 rfl _ _ rfl rfl hri ?_
          refine hK.out _ _ trivial (fun hHeld => ?_)
          clear hK KK hri
          try simp only [Act.put, List.getElem_toArray, List.getElem_cons_zero, List.getElem_cons_succ, List.setIfInBounds_toArray, List.set_cons_zero, List.set_cons_succ]
          refine wpAnyH_ready (rs := [4]) (by kernel_rfl) (by simp) ?_
          refine AllReadyH.cons rfl (fun KK hK => ?_) AllReadyH.nil
          rw [if_pos (by rfl)]
          go_simp
          go_at_call 22
          refine (HTi.out.touch (own_seesG uC_len 0 HKi.out) (by omega) HAP2.out HST).mono ?_
          rintro e w8 ⟨rfl, F8, ht8, hx8⟩
          have HT8 := keepG ht8
          clear ht8 hx8
          go_simp
          refine hK.out _ _ trivial (fun hHeld => ?_)
          clear hK KK
          try simp only [Act.put, List.getElem_toArray, List.getElem_cons_zero, List.getElem_cons_succ, List.setIfInBounds_toArray, List.set_cons_zero, List.set_cons_succ]
          refine wpAnyH_take (i := 6) (v := ?v15) rfl (by kernel_rfl) (by kernel_rfl) (by kernel_rfl) (fun _ _ _ h => h) (Or.inl ⟨by rfl, ?hy15⟩) (by assumption) ?rest15
          case hy15 => (intro wy hSw; (try dsimp only at hSw); go_simp; (first | done | with_reducible rfl))
          try simp only [Act.put, List.getElem_toArray, List.getElem_cons_zero, List.getElem_cons_succ, List.setIfInBounds_toArray, List.set_cons_zero, List.set_cons_succ]
          refine wpAnyH_take (i := 7) (v := ?v16) rfl (by kernel_rfl) (by kernel_rfl) (by kernel_rfl) (fun _ _ _ h => h) (Or.inl ⟨by rfl, ?hy16⟩) (by assumption) ?rest16
          case hy16 => (intro wy hSw; (try dsimp only at hSw); go_simp; (first | done | with_reducible rfl))
          try simp only [Act.put, List.getElem_toArray, List.getElem_cons_zero, List.getElem_cons_succ, List.setIfInBounds_toArray, List.set_cons_zero, List.set_cons_succ]
          refine wpAnyH_take (i := 8) (v := ?v17) rfl (by kernel_rfl) (by kernel_rfl) (by kernel_rfl) (fun _ _ _ h => h) (Or.inl ⟨by rfl, ?hy17⟩) (by assumption) ?rest17
          case hy17 => (intro wy hSw; (try dsimp only at hSw); go_simp; (first | done | with_reducible rfl))
          try simp only [Act.put, List.getElem_toArray, List.getElem_cons_zero, List.getElem_cons_succ, List.setIfInBounds_toArray, List.set_cons_zero, List.set_cons_succ]
          refine wpAnyH_take (i := 10) (v := ?v18) rfl (by kernel_rfl) (by kernel_rfl) (by kernel_rfl) (fun _ _ _ h => h) (Or.inl ⟨by rfl, ?hy18⟩) (by assumption) ?rest18
          case hy18 => (intro wy hSw; (try dsimp only at hSw); go_simp; (first | done | with_reducible rfl))
          try simp only [Act.put, List.getElem_toArray, List.getElem_cons_zero, List.getElem_cons_succ, List.setIfInBounds_toArray, List.set_cons_zero, List.set_cons_succ]
          refine wpAnyH_ready (rs := [9]) (by kernel_rfl) (by simp) ?_
          refine AllReadyH.cons rfl (fun KK hK => ?_) AllReadyH.nil
          rw [if_pos (by rfl)]
          go_simp
          go_at_call 15
          refine HT8.out.order.mono ?_
          rintro e w9 ⟨u9, rfl, ho9, hb9⟩
          have HT10 := keepG (HT8.out.below hb9)
          have HU9 : Hid (w9.ownsRow w8.heap.size 36 1 u9 R2.length (flatG uC R2)) := ho9
          obtain ⟨ua9, uc9, rfl⟩ := own_shape HU9.out
          clear ho9
          go_simp
          refine hK.out _ _ trivial (fun hHeld => ?_)
          clear hK KK
          try simp only [Act.put, List.getElem_toArray, List.getElem_cons_zero, List.getElem_cons_succ, List.setIfInBounds_toArray, List.set_cons_zero, List.set_cons_succ]
          refine wpAnyH_ready (rs := [11]) (by kernel_rfl) (by simp) ?_
          refine AllReadyH.cons rfl (fun KK hK => ?_) AllReadyH.nil
          rw [if_pos (by rfl)]
          go_simp
          go_at_call 15
          refine HT10.out.swap.order.mono ?_
          rintro e w10 ⟨u10, rfl, ho10, hb10⟩
          have HT11 := keepG (HT10.out.below hb10)
          have HV10 : Hid (w10.ownsRow w9.heap.size 36 1 u10 R2.length (flatG uC R2)) := ho10
          have HU10 := keepG ((own_seesG uC_len 0 HU9.out).below hb10 (Nat.le_refl _))
          obtain ⟨ua10, uc10, rfl⟩ := own_shape HV10.out
          clear ho10
          go_simp
          refine hK.out _ _ trivial (fun hHeld => ?_)
          clear hK KK
          try simp only [Act.put, List.getElem_toArray, List.getElem_cons_zero, List.getElem_cons_succ, List.setIfInBounds_toArray, List.set_cons_zero, List.set_cons_succ]
          refine wpAnyH_ready (rs := [12]) (by kernel_rfl) (by simp) ?_
          refine AllReadyH.cons rfl (fun KK hK => ?_) AllReadyH.nil
          rw [if_pos (by rfl)]
          go_simp
          go_at_call 14
          refine (wnums_same HU10.out (own_seesG uC_len 0 HV10.out)).mono ?_
          rintro e wn ⟨rfl, mn, rfl⟩
          go_simp
          refine hK.out _ _ trivial (fun hHeld => ?_)
          clear hK KK
          try simp only [Act.put, List.getElem_toArray, List.getElem_cons_zero, List.getElem_cons_succ, List.setIfInBounds_toArray, List.set_cons_zero, List.set_cons_succ]
          refine wpAnyH_take (i := 13) (v := ?v19) rfl (by kernel_rfl) (by kernel_rfl) (by kernel_rfl) (fun _ _ _ h => h) (Or.inl ⟨by rfl, ?hy19⟩) (by assumption) ?rest19
          case hy19 => (intro wy hSw; (try dsimp only at hSw); go_simp; (first | done | with_reducible rfl))
          try simp only [Act.put, List.getElem_toArray, List.getElem_cons_zero, List.getElem_cons_succ, List.setIfInBounds_toArray, List.set_cons_zero, List.set_cons_succ]
          refine wpAnyH_take (i := 14) (v := ?v20) rfl (by kernel_rfl) (by kernel_rfl) (by kernel_rfl) (fun _ _ _ h => h) (Or.inl ⟨by rfl, ?hy20⟩) (by assumption) ?rest20
          case hy20 => (intro wy hSw; (try dsimp only at hSw); go_simp; (first | done | with_reducible rfl))
          try simp only [Act.put, List.getElem_toArray, List.getElem_cons_zero, List.getElem_cons_succ, List.setIfInBounds_toArray, List.set_cons_zero, List.set_cons_succ]
          refine wpAnyH_take (i := 15) (v := ?v21) rfl (by kernel_rfl) (by kernel_rfl) (by kernel_rfl) (fun _ _ _ h => h) (Or.inl ⟨by rfl, ?hy21⟩) (by assumption) ?rest21
          case hy21 => (intro wy hSw; (try dsimp only at hSw); go_simp; (first | done | with_reducible rfl))
          try simp only [Act.put, List.getElem_toArray, List.getElem_cons_zero, List.getElem_cons_succ, List.setIfInBounds_toArray, List.set_cons_zero, List.set_cons_succ]
          refine wpAnyH_take (i := 16) (v := ?v22) rfl (by kernel_rfl) (by kernel_rfl) (by kernel_rfl) (fun _ _ _ h => h) (Or.inl ⟨by rfl, ?hy22⟩) (by assumption) ?rest22
          case hy22 => (intro wy hSw; (try dsimp only at hSw); go_simp; (first | done | with_reducible rfl))
          try simp only [Act.put, List.getElem_toArray, List.getElem_cons_zero, List.getElem_cons_succ, List.setIfInBounds_toArray, List.set_cons_zero, List.set_cons_succ]
          refine wpAnyH_take (i := 17) (v := ?v23) rfl (by kernel_rfl) (by kernel_rfl) (by kernel_rfl) (fun _ _ _ h => h) (Or.inl ⟨by rfl, ?hy23⟩) (by assumption) ?rest23
          case hy23 => (intro wy hSw; (try dsimp only at hSw); go_simp; (first | done | with_reducible rfl))
          try simp only [Act.put, List.getElem_toArray, List.getElem_cons_zero, List.getElem_cons_succ, List.setIfInBounds_toArray, List.set_cons_zero, List.set_cons_succ]
          refine wpAnyH_take (i := 18) (v := ?v24) rfl (by kernel_rfl) (by kernel_rfl) (by kernel_rfl) (fun _ _ _ h => h) (Or.inl ⟨by rfl, ?hy24⟩) (by assumption) ?rest24
          case hy24 => (intro wy hSw; (try dsimp only at hSw); go_simp; (first | done | with_reducible rfl))
          try simp only [Act.put, List.getElem_toArray, List.getElem_cons_zero, List.getElem_cons_succ, List.setIfInBounds_toArray, List.set_cons_zero, List.set_cons_succ]
          refine wpAnyH_take (i := 21) (v := ?v25) rfl (by kernel_rfl) (by kernel_rfl) (by kernel_rfl) (fun _ _ _ h => h) (Or.inl ⟨by rfl, ?hy25⟩) (by assumption) ?rest25
          case hy25 => (intro wy hSw; (try dsimp only at hSw); go_simp; (first | done | with_reducible rfl))
          try simp only [Act.put, List.getElem_toArray, List.getElem_cons_zero, List.getElem_cons_succ, List.setIfInBounds_toArray, List.set_cons_zero, List.set_cons_succ]
          refine wpAnyH_take (i := 22) (v := ?v26) rfl (by kernel_rfl) (by kernel_rfl) (by kernel_rfl) (fun _ _ _ h => h) (Or.inl ⟨by rfl, ?hy26⟩) (by assumption) ?rest26
          case hy26 => (intro wy hSw; (try dsimp only at hSw); go_simp; (first | done | with_reducible rfl))
          try simp only [Act.put, List.getElem_toArray, List.getElem_cons_zero, List.getElem_cons_succ, List.setIfInBounds_toArray, List.set_cons_zero, List.set_cons_succ]
          refine wpAnyH_take (i := 23) (v := ?v27) rfl (by kernel_rfl) (by kernel_rfl) (by kernel_rfl) (fun _ _ _ h => h) (Or.inl ⟨by rfl, ?hy27⟩) (by assumption) ?rest27
          case hy27 => (intro wy hSw; (try dsimp only at hSw); go_simp; (first | done | with_reducible rfl))
          try simp only [Act.put, List.getElem_toArray, List.getElem_cons_zero, List.getElem_cons_succ, List.setIfInBounds_toArray, List.set_cons_zero, List.set_cons_succ]
          have HTn := keepG (HT11.out.drewN mn)
          have hbn : Below w10.heap.size w10 (w10.drewN mn) := ⟨rfl, rfl, rfl, Nat.le_refl _, fun _ _ => rfl⟩
          obtain ⟨da, ya, hla, HLa⟩ := HT11.out.inner
          obtain ⟨db, yb, hlb, HLb⟩ := HT11.out.swap.inner
          refine wpAnyH_ready (rs := [19, 24]) (by kernel_rfl) (by simp) ?_
          refine AllReadyH.cons rfl (fun KK hK => ?_) (AllReadyH.cons rfl (fun KK hK => ?_) AllReadyH.nil) <;> rw [if_pos (by rfl)]
          · go_simp
            refine hK.out _ _ trivial (fun hHeld => ?_)
            clear hK KK
            try simp only [Act.put, List.getElem_toArray, List.getElem_cons_zero, List.getElem_cons_succ, List.setIfInBounds_toArray, List.set_cons_zero, List.set_cons_succ]
            refine wpAnyH_ready (rs := [20, 24]) (by kernel_rfl) (by simp) ?_
            refine AllReadyH.cons rfl (fun KK hK => ?_) (AllReadyH.cons rfl (fun KK hK => ?_) AllReadyH.nil) <;> rw [if_pos (by rfl)]
            · go_simp
              go_at_call 18
              refine (HLa.out (w10.drewN mn) hbn).2.2.mono ?_
              rintro e w11 ⟨u11, rfl, ho11, hb11⟩
              have HT12 := keepG (HTn.out.below hb11)
              have HU11 : Hid (SeesG ppC 2 Pp.nil w11 u11 S2) := own_seesG ppC_len Pp.nil ho11
              have yb11 : w11.cell? ⟨lb, 0, none⟩ = some (.pointer (some ⟨db, 0, none⟩)) := (hb11.cell (p := ⟨lb, 0, none⟩) hlb).trans yb
              have HLb11 := keepG (HLb.out w11 (hbn.trans hb11))
              clear ho11
              go_simp
              refine hK.out _ _ trivial (fun hHeld => ?_)
              clear hK KK
              try simp only [Act.put, List.getElem_toArray, List.getElem_cons_zero, List.getElem_cons_succ, List.setIfInBounds_toArray, List.set_cons_zero, List.set_cons_succ]
              refine wpAnyH_ready (rs := [24]) (by kernel_rfl) (by simp) ?_
              refine AllReadyH.cons rfl (fun KK hK => ?_) AllReadyH.nil
              rw [if_pos (by rfl)]
              go_simp
              refine hK.out _ _ trivial (fun hHeld => ?_)
              clear hK KK
              try simp only [Act.put, List.getElem_toArray, List.getElem_cons_zero, List.getElem_cons_succ, List.setIfInBounds_toArray, List.set_cons_zero, List.set_cons_succ]
              refine wpAnyH_ready (rs := [25]) (by kernel_rfl) (by simp) ?_
              refine AllReadyH.cons rfl (fun KK hK => ?_) AllReadyH.nil
              rw [if_pos (by rfl)]
              go_simp
              go_at_call 18
              refine HLb11.out.2.2.mono ?_
              rintro e w12 ⟨u12, rfl, ho12, hb12⟩
              have HT13 := keepG (HT12.out.below hb12)
              have HU12 : Hid (SeesG ppC 2 Pp.nil w12 u12 S2) := own_seesG ppC_len Pp.nil ho12
              have HV12 := keepG (HU11.out.below hb12 (Nat.le_refl _))
              clear ho12
              go_simp
              refine hK.out _ _ trivial (fun hHeld => ?_)
              clear hK KK
              try simp only [Act.put, List.getElem_toArray, List.getElem_cons_zero, List.getElem_cons_succ, List.setIfInBounds_toArray, List.set_cons_zero, List.set_cons_succ]
              refine wpAnyH_ready (rs := [26]) (by kernel_rfl) (by simp) ?_
              refine AllReadyH.cons rfl (fun KK hK => ?_) AllReadyH.nil
              rw [if_pos (by rfl)]
              go_simp
              go_at_call 17
              refine (wpairs14 HV12.out HU12.out).mono ?_
              rintro e wp ⟨rfl, mp, rfl⟩
              have HTz := keepG (HT13.out.drewN mp)
              go_simp
              refine hK.out _ _ trivial (fun hHeld => ?_)
              clear hK KK
              try simp only [Act.put, List.getElem_toArray, List.getElem_cons_zero, List.getElem_cons_succ, List.setIfInBounds_toArray, List.set_cons_zero, List.set_cons_succ]
              refine wpAnyH_take (i := 27) (v := ?v28) rfl (by kernel_rfl) (by kernel_rfl) (by kernel_rfl) (fun _ _ _ h => h) (Or.inl ⟨by rfl, ?hy28⟩) (by assumption) ?rest28
              case hy28 => (intro wy hSw; (try dsimp only at hSw); go_simp; (first | done | with_reducible rfl))
              try simp only [Act.put, List.getElem_toArray, List.getElem_cons_zero, List.getElem_cons_succ, List.setIfInBounds_toArray, List.set_cons_zero, List.set_cons_succ]
              refine wpAnyH_take (i := 28) (v := ?v29) rfl (by kernel_rfl) (by kernel_rfl) (by kernel_rfl) (fun _ _ _ h => h) (Or.inl ⟨by rfl, ?hy29⟩) (by assumption) ?rest29
              case hy29 => (intro wy hSw; (try dsimp only at hSw); go_simp; (first | done | with_reducible rfl))
              try simp only [Act.put, List.getElem_toArray, List.getElem_cons_zero, List.getElem_cons_succ, List.setIfInBounds_toArray, List.set_cons_zero, List.set_cons_succ]
              refine wpAnyH_done (by kernel_rfl) ?_ _
              obtain ⟨wz, HWZ⟩ : ∃ wz, Hid (w12.drewN mp = wz) := ⟨_, rfl⟩
              rw [HWZ.out] at HTz
              rw [HWZ.out]
              have HRS : Hid (S2.length = R2.length) := HTz.out.ia.length.symm
              have hR16 : R2.length ≤ 16 := by
                have h8 : S2.length ≤ n := HTz.out.ia.len
                have h9 := HRS.out
                omega
              go_wp2_with (go_at_call 15; go_must (refine HTz.out.order.mono ?_); rintro e wx ⟨ux, rfl, hux, hbx⟩; go_must (have HUX : Hid (wx.ownsRow wz.heap.size 36 1 ux R2.length (flatG uC R2)) := hux; clear hux; obtain ⟨xa, xc, rfl⟩ := own_shape HUX.out))
              go_loopw [17] (fun i wr3 => ∃ q : Nat, q ≤ R2.length ∧ i = .int .i64 q ∧ (∃ X : List Int, X.length = R2.length ∧ Hid (wr3.ownsRow wz.heap.size 36 1 (.slice xa R2.length xc) X.length (flatG uC X))) ∧ Below wz.heap.size wz wr3) (fun i _ => R2.length - (intOf i).toNat)
              case atStart => exact ⟨0, by omega, rfl, ⟨R2, rfl, HUX.out⟩, hbx⟩
              case round =>
                obtain ⟨q, hq, rfl, ⟨X, hX, HO⟩, hbw⟩ := hrel
                rename World => wv
                have hzw := hbw.size
                by_cases hlt2 : q < R2.length
                · have hlt2I : (q : Int) < R2.length := by omega
                  rw [← hX] at HO
                  obtain ⟨g8, c8, ev8, hgB, hgw, hgc, hcm, hat8⟩ := own_atG uC_len 0 HO.out (by omega)
                  simp only [Value.slice.injEq, true_and] at ev8
                  obtain ⟨rfl, rfl⟩ := ev8
                  have d0 := hat8 q (by omega) 0 (by omega)
                  simp only [List.getElem?_cons_zero, Nat.add_zero, Nat.mul_one] at d0
                  obtain ⟨d0, f0⟩ := d0
                  have HS2 := keepG (own_setU 12345 HO.out (i := q) (by omega))
                  clear hat8
                  go_wp2
                  go_roundw
                  case rel => exact ⟨q + 1, by omega, by go_num, ⟨X.set q 12345, by simpa using hX, by have hh := HS2.out.1; rw [hX] at hh; exact hh⟩, hbw.trans (HS2.out.2.below (fun k e => by omega) hzw)⟩
                  case measure => simp [intOf]; omega
                · have hlt2I : ¬ (q : Int) < R2.length := by omega
                  rw [← hX] at HO
                  have hX16 : X.length ≤ 16 := by omega
                  have hXI : (X.length : Int) = (R2.length : Int) := by omega
                  have hXw : IntKind.i64.wrap ((R2.length : Int) + 1) = (R2.length : Int) + 1 := by rw [IntKind.wrap_i64]; omega
                  have P6 : True := trivial
                  go_wp2_with (first
                    | (at_builtin; go_must (refine wpList_append_own_at _ rfl (.tmp 161) (.tmp 162) 33 rfl wz.heap.size 36 j0 _ 1 8 Try.underlying33 hj0 hy0 hys hyb rfl (by decide) _ X.length (flatG uC X) (by rw [hX]; rfl) (HO.out.alloc _) ⟨_, 0, none⟩ 1 1 (uC 1) rfl rfl (cells_new wv (uC 1) _ _ rfl) (uC_one 1) (by unfold maxLen; omega) (by omega) (by simp; omega) ?_); intro v' w' hown hgr _ hnew; go_must (obtain ⟨va, vc, rfl⟩ := own_shape hown; have hbw2 : Below wz.heap.size wz w' := hbw.trans ((chg_append hgr).below (fun k e => (HO.out.lt k e).1) hzw); have HTa := keepG (HTz.out.below hbw2); clear hown hgr hnew))
                    | (go_at_call 15; have hq := P6; clear hq; go_must (refine HTa.out.order.mono ?_); rintro e wb ⟨ub, rfl, hub, hbb⟩; go_must (have HTb := keepG (HTa.out.below hbb); have HUb : Hid (SeesG uC 1 0 wb ub R2) := own_seesG uC_len 0 hub; clear hub P6))
                    | (go_at_call 15; go_must (refine HTb.out.swap.order.mono ?_); rintro e wc ⟨uc, rfl, huc, hbc⟩; go_must (have HTc := keepG (HTb.out.below hbc); have HUc : Hid (SeesG uC 1 0 wc uc R2) := own_seesG uC_len 0 huc; have HVc := keepG (HUb.out.below hbc (Nat.le_refl _)); obtain ⟨dc, yc, hlc, HLc⟩ := HTc.out.swap.inner; clear huc))
                    | (go_at_call 14; go_must (refine (wnums_same HVc.out HUc.out).mono ?_); rintro e wd ⟨rfl, md, rfl⟩; go_must (have HTd := keepG (HTc.out.drewN md); have hbd : Below wc.heap.size wc (wc.drewN md) := ⟨rfl, rfl, rfl, Nat.le_refl _, fun _ _ => rfl⟩))
                    | (go_at_call 13; go_must (refine (HLc.out (wc.drewN md) hbd).1.mono ?_); rintro e we ⟨rfl, rfl⟩; go_must (rw [show ((S2, R2).1).length = R2.length from HRS.out]))
                    | (go_at_call 21; go_must (refine (HTd.out.fill (ps := []) (SeesG.nil Pp.nil _) (by simp) (fun k _ e => by cases e)).mono ?_); rintro e wf ⟨rfl, Ff, htf, _⟩; go_must (have HTf : Hid (P2 w wf la lb n (S2, R2) (S2, R2) Ff G3) := htf; clear htf))
                    | (go_at_call 22; go_must (refine (HTf.out.touch (ks := []) (n := 0) (s' := (S2, R2)) (SeesG.nil (0 : Int) _) (by simp) (fun k _ e => by cases e) (show Hid _ from rfl)).mono ?_); rintro e wg ⟨rfl, Fg, htg, _⟩; go_must (have HTg := keepG htg; clear htg)))
                  go_ret
                  exact ⟨rfl, HTg.out.be⟩
            · go_simp
              refine hK.out _ _ trivial (fun hHeld => ?_)
              clear hK KK
              try simp only [Act.put, List.getElem_toArray, List.getElem_cons_zero, List.getElem_cons_succ, List.setIfInBounds_toArray, List.set_cons_zero, List.set_cons_succ]
              refine wpAnyH_ready (rs := [20]) (by kernel_rfl) (by simp) ?_
              refine AllReadyH.cons rfl (fun KK hK => ?_) AllReadyH.nil
              rw [if_pos (by rfl)]
              go_simp
              go_at_call 18
              refine (HLa.out (w10.drewN mn) hbn).2.2.mono ?_
              rintro e w11 ⟨u11, rfl, ho11, hb11⟩
              have HT12 := keepG (HTn.out.below hb11)
              have HU11 : Hid (SeesG ppC 2 Pp.nil w11 u11 S2) := own_seesG ppC_len Pp.nil ho11
              have yb11 : w11.cell? ⟨lb, 0, none⟩ = some (.pointer (some ⟨db, 0, none⟩)) := (hb11.cell (p := ⟨lb, 0, none⟩) hlb).trans yb
              have HLb11 := keepG (HLb.out w11 (hbn.trans hb11))
              clear ho11
              go_simp
              refine hK.out _ _ trivial (fun hHeld => ?_)
              clear hK KK
              try simp only [Act.put, List.getElem_toArray, List.getElem_cons_zero, List.getElem_cons_succ, List.setIfInBounds_toArray, List.set_cons_zero, List.set_cons_succ]
              refine wpAnyH_ready (rs := [25]) (by kernel_rfl) (by simp) ?_
              refine AllReadyH.cons rfl (fun KK hK => ?_) AllReadyH.nil
              rw [if_pos (by rfl)]
              go_simp
              go_at_call 18
              refine HLb11.out.2.2.mono ?_
              rintro e w12 ⟨u12, rfl, ho12, hb12⟩
              have HT13 := keepG (HT12.out.below hb12)
              have HU12 : Hid (SeesG ppC 2 Pp.nil w12 u12 S2) := own_seesG ppC_len Pp.nil ho12
              have HV12 := keepG (HU11.out.below hb12 (Nat.le_refl _))
              clear ho12
              go_simp
              refine hK.out _ _ trivial (fun hHeld => ?_)
              clear hK KK
              try simp only [Act.put, List.getElem_toArray, List.getElem_cons_zero, List.getElem_cons_succ, List.setIfInBounds_toArray, List.set_cons_zero, List.set_cons_succ]
              refine wpAnyH_ready (rs := [26]) (by kernel_rfl) (by simp) ?_
              refine AllReadyH.cons rfl (fun KK hK => ?_) AllReadyH.nil
              rw [if_pos (by rfl)]
              go_simp
              go_at_call 17
              refine (wpairs14 HV12.out HU12.out).mono ?_
              rintro e wp ⟨rfl, mp, rfl⟩
              have HTz := keepG (HT13.out.drewN mp)
              go_simp
              refine hK.out _ _ trivial (fun hHeld => ?_)
              clear hK KK
              try simp only [Act.put, List.getElem_toArray, List.getElem_cons_zero, List.getElem_cons_succ, List.setIfInBounds_toArray, List.set_cons_zero, List.set_cons_succ]
              refine wpAnyH_take (i := 27) (v := ?v30) rfl (by kernel_rfl) (by kernel_rfl) (by kernel_rfl) (fun _ _ _ h => h) (Or.inl ⟨by rfl, ?hy30⟩) (by assumption) ?rest30
              case hy30 => (intro wy hSw; (try dsimp only at hSw); go_simp; (first | done | with_reducible rfl))
              try simp only [Act.put, List.getElem_toArray, List.getElem_cons_zero, List.getElem_cons_succ, List.setIfInBounds_toArray, List.set_cons_zero, List.set_cons_succ]
              refine wpAnyH_take (i := 28) (v := ?v31) rfl (by kernel_rfl) (by kernel_rfl) (by kernel_rfl) (fun _ _ _ h => h) (Or.inl ⟨by rfl, ?hy31⟩) (by assumption) ?rest31
              case hy31 => (intro wy hSw; (try dsimp only at hSw); go_simp; (first | done | with_reducible rfl))
              try simp only [Act.put, List.getElem_toArray, List.getElem_cons_zero, List.getElem_cons_succ, List.setIfInBounds_toArray, List.set_cons_zero, List.set_cons_succ]
              refine wpAnyH_done (by kernel_rfl) ?_ _
              obtain ⟨wz, HWZ⟩ : ∃ wz, Hid (w12.drewN mp = wz) := ⟨_, rfl⟩
              rw [HWZ.out] at HTz
              rw [HWZ.out]
              have HRS : Hid (S2.length = R2.length) := HTz.out.ia.length.symm
              have hR16 : R2.length ≤ 16 := by
                have h8 : S2.length ≤ n := HTz.out.ia.len
                have h9 := HRS.out
                omega
              go_wp2_with (go_at_call 15; go_must (refine HTz.out.order.mono ?_); rintro e wx ⟨ux, rfl, hux, hbx⟩; go_must (have HUX : Hid (wx.ownsRow wz.heap.size 36 1 ux R2.length (flatG uC R2)) := hux; clear hux; obtain ⟨xa, xc, rfl⟩ := own_shape HUX.out))
              go_loopw [17] (fun i wr3 => ∃ q : Nat, q ≤ R2.length ∧ i = .int .i64 q ∧ (∃ X : List Int, X.length = R2.length ∧ Hid (wr3.ownsRow wz.heap.size 36 1 (.slice xa R2.length xc) X.length (flatG uC X))) ∧ Below wz.heap.size wz wr3) (fun i _ => R2.length - (intOf i).toNat)
              case atStart => exact ⟨0, by omega, rfl, ⟨R2, rfl, HUX.out⟩, hbx⟩
              case round =>
                obtain ⟨q, hq, rfl, ⟨X, hX, HO⟩, hbw⟩ := hrel
                rename World => wv
                have hzw := hbw.size
                by_cases hlt2 : q < R2.length
                · have hlt2I : (q : Int) < R2.length := by omega
                  rw [← hX] at HO
                  obtain ⟨g8, c8, ev8, hgB, hgw, hgc, hcm, hat8⟩ := own_atG uC_len 0 HO.out (by omega)
                  simp only [Value.slice.injEq, true_and] at ev8
                  obtain ⟨rfl, rfl⟩ := ev8
                  have d0 := hat8 q (by omega) 0 (by omega)
                  simp only [List.getElem?_cons_zero, Nat.add_zero, Nat.mul_one] at d0
                  obtain ⟨d0, f0⟩ := d0
                  have HS2 := keepG (own_setU 12345 HO.out (i := q) (by omega))
                  clear hat8
                  go_wp2
                  go_roundw
                  case rel => exact ⟨q + 1, by omega, by go_num, ⟨X.set q 12345, by simpa using hX, by have hh := HS2.out.1; rw [hX] at hh; exact hh⟩, hbw.trans (HS2.out.2.below (fun k e => by omega) hzw)⟩
                  case measure => simp [intOf]; omega
                · have hlt2I : ¬ (q : Int) < R2.length := by omega
                  rw [← hX] at HO
                  have hX16 : X.length ≤ 16 := by omega
                  have hXI : (X.length : Int) = (R2.length : Int) := by omega
                  have hXw : IntKind.i64.wrap ((R2.length : Int) + 1) = (R2.length : Int) + 1 := by rw [IntKind.wrap_i64]; omega
                  have P6 : True := trivial
                  go_wp2_with (first
                    | (at_builtin; go_must (refine wpList_append_own_at _ rfl (.tmp 161) (.tmp 162) 33 rfl wz.heap.size 36 j0 _ 1 8 Try.underlying33 hj0 hy0 hys hyb rfl (by decide) _ X.length (flatG uC X) (by rw [hX]; rfl) (HO.out.alloc _) ⟨_, 0, none⟩ 1 1 (uC 1) rfl rfl (cells_new wv (uC 1) _ _ rfl) (uC_one 1) (by unfold maxLen; omega) (by omega) (by simp; omega) ?_); intro v' w' hown hgr _ hnew; go_must (obtain ⟨va, vc, rfl⟩ := own_shape hown; have hbw2 : Below wz.heap.size wz w' := hbw.trans ((chg_append hgr).below (fun k e => (HO.out.lt k e).1) hzw); have HTa := keepG (HTz.out.below hbw2); clear hown hgr hnew))
                    | (go_at_call 15; have hq := P6; clear hq; go_must (refine HTa.out.order.mono ?_); rintro e wb ⟨ub, rfl, hub, hbb⟩; go_must (have HTb := keepG (HTa.out.below hbb); have HUb : Hid (SeesG uC 1 0 wb ub R2) := own_seesG uC_len 0 hub; clear hub P6))
                    | (go_at_call 15; go_must (refine HTb.out.swap.order.mono ?_); rintro e wc ⟨uc, rfl, huc, hbc⟩; go_must (have HTc := keepG (HTb.out.below hbc); have HUc : Hid (SeesG uC 1 0 wc uc R2) := own_seesG uC_len 0 huc; have HVc := keepG (HUb.out.below hbc (Nat.le_refl _)); obtain ⟨dc, yc, hlc, HLc⟩ := HTc.out.swap.inner; clear huc))
                    | (go_at_call 14; go_must (refine (wnums_same HVc.out HUc.out).mono ?_); rintro e wd ⟨rfl, md, rfl⟩; go_must (have HTd := keepG (HTc.out.drewN md); have hbd : Below wc.heap.size wc (wc.drewN md) := ⟨rfl, rfl, rfl, Nat.le_refl _, fun _ _ => rfl⟩))
                    | (go_at_call 13; go_must (refine (HLc.out (wc.drewN md) hbd).1.mono ?_); rintro e we ⟨rfl, rfl⟩; go_must (rw [show ((S2, R2).1).length = R2.length from HRS.out]))
                    | (go_at_call 21; go_must (refine (HTd.out.fill (ps := []) (SeesG.nil Pp.nil _) (by simp) (fun k _ e => by cases e)).mono ?_); rintro e wf ⟨rfl, Ff, htf, _⟩; go_must (have HTf : Hid (P2 w wf la lb n (S2, R2) (S2, R2) Ff G3) := htf; clear htf))
                    | (go_at_call 22; go_must (refine (HTf.out.touch (ks := []) (n := 0) (s' := (S2, R2)) (SeesG.nil (0 : Int) _) (by simp) (fun k _ e => by cases e) (show Hid _ from rfl)).mono ?_); rintro e wg ⟨rfl, Fg, htg, _⟩; go_must (have HTg := keepG htg; clear htg)))
                  go_ret
                  exact ⟨rfl, HTg.out.be⟩
          · go_simp
            refine hK.out _ _ trivial (fun hHeld => ?_)
            clear hK KK
            try simp only [Act.put, List.getElem_toArray, List.getElem_cons_zero, List.getElem_cons_succ, List.setIfInBounds_toArray, List.set_cons_zero, List.set_cons_succ]
            refine wpAnyH_ready (rs := [19]) (by kernel_rfl) (by simp) ?_
            refine AllReadyH.cons rfl (fun KK hK => ?_) AllReadyH.nil
            rw [if_pos (by rfl)]
            go_simp
            refine hK.out _ _ trivial (fun hHeld => ?_)
            clear hK KK
            try simp only [Act.put, List.getElem_toArray, List.getElem_cons_zero, List.getElem_cons_succ, List.setIfInBounds_toArray, List.set_cons_zero, List.set_cons_succ]
            refine wpAnyH_ready (rs := [20]) (by kernel_rfl) (by simp) ?_
            refine AllReadyH.cons rfl (fun KK hK => ?_) AllReadyH.nil
            rw [if_pos (by rfl)]
            go_simp
            go_at_call 18
            refine (HLa.out (w10.drewN mn) hbn).2.2.mono ?_
            rintro e w11 ⟨u11, rfl, ho11, hb11⟩
            have HT12 := keepG (HTn.out.below hb11)
            have HU11 : Hid (SeesG ppC 2 Pp.nil w11 u11 S2) := own_seesG ppC_len Pp.nil ho11
            have yb11 : w11.cell? ⟨lb, 0, none⟩ = some (.pointer (some ⟨db, 0, none⟩)) := (hb11.cell (p := ⟨lb, 0, none⟩) hlb).trans yb
            have HLb11 := keepG (HLb.out w11 (hbn.trans hb11))
            clear ho11
            go_simp
            refine hK.out _ _ trivial (fun hHeld => ?_)
            clear hK KK
            try simp only [Act.put, List.getElem_toArray, List.getElem_cons_zero, List.getElem_cons_succ, List.setIfInBounds_toArray, List.set_cons_zero, List.set_cons_succ]
            refine wpAnyH_ready (rs := [25]) (by kernel_rfl) (by simp) ?_
            refine AllReadyH.cons rfl (fun KK hK => ?_) AllReadyH.nil
            rw [if_pos (by rfl)]
            go_simp
            go_at_call 18
            refine HLb11.out.2.2.mono ?_
            rintro e w12 ⟨u12, rfl, ho12, hb12⟩
            have HT13 := keepG (HT12.out.below hb12)
            have HU12 : Hid (SeesG ppC 2 Pp.nil w12 u12 S2) := own_seesG ppC_len Pp.nil ho12
            have HV12 := keepG (HU11.out.below hb12 (Nat.le_refl _))
            clear ho12
            go_simp
            refine hK.out _ _ trivial (fun hHeld => ?_)
            clear hK KK
            try simp only [Act.put, List.getElem_toArray, List.getElem_cons_zero, List.getElem_cons_succ, List.setIfInBounds_toArray, List.set_cons_zero, List.set_cons_succ]
            refine wpAnyH_ready (rs := [26]) (by kernel_rfl) (by simp) ?_
            refine AllReadyH.cons rfl (fun KK hK => ?_) AllReadyH.nil
            rw [if_pos (by rfl)]
            go_simp
            go_at_call 17
            refine (wpairs14 HV12.out HU12.out).mono ?_
            rintro e wp ⟨rfl, mp, rfl⟩
            have HTz := keepG (HT13.out.drewN mp)
            go_simp
            refine hK.out _ _ trivial (fun hHeld => ?_)
            clear hK KK
            try simp only [Act.put, List.getElem_toArray, List.getElem_cons_zero, List.getElem_cons_succ, List.setIfInBounds_toArray, List.set_cons_zero, List.set_cons_succ]
            refine wpAnyH_take (i := 27) (v := ?v32) rfl (by kernel_rfl) (by kernel_rfl) (by kernel_rfl) (fun _ _ _ h => h) (Or.inl ⟨by rfl, ?hy32⟩) (by assumption) ?rest32
            case hy32 => (intro wy hSw; (try dsimp only at hSw); go_simp; (first | done | with_reducible rfl))
            try simp only [Act.put, List.getElem_toArray, List.getElem_cons_zero, List.getElem_cons_succ, List.setIfInBounds_toArray, List.set_cons_zero, List.set_cons_succ]
            refine wpAnyH_take (i := 28) (v := ?v33) rfl (by kernel_rfl) (by kernel_rfl) (by kernel_rfl) (fun _ _ _ h => h) (Or.inl ⟨by rfl, ?hy33⟩) (by assumption) ?rest33
            case hy33 => (intro wy hSw; (try dsimp only at hSw); go_simp; (first | done | with_reducible rfl))
            try simp only [Act.put, List.getElem_toArray, List.getElem_cons_zero, List.getElem_cons_succ, List.setIfInBounds_toArray, List.set_cons_zero, List.set_cons_succ]
            refine wpAnyH_done (by kernel_rfl) ?_ _
            obtain ⟨wz, HWZ⟩ : ∃ wz, Hid (w12.drewN mp = wz) := ⟨_, rfl⟩
            rw [HWZ.out] at HTz
            rw [HWZ.out]
            have HRS : Hid (S2.length = R2.length) := HTz.out.ia.length.symm
            have hR16 : R2.length ≤ 16 := by
              have h8 : S2.length ≤ n := HTz.out.ia.len
              have h9 := HRS.out
              omega
            go_wp2_with (go_at_call 15; go_must (refine HTz.out.order.mono ?_); rintro e wx ⟨ux, rfl, hux, hbx⟩; go_must (have HUX : Hid (wx.ownsRow wz.heap.size 36 1 ux R2.length (flatG uC R2)) := hux; clear hux; obtain ⟨xa, xc, rfl⟩ := own_shape HUX.out))
            go_loopw [17] (fun i wr3 => ∃ q : Nat, q ≤ R2.length ∧ i = .int .i64 q ∧ (∃ X : List Int, X.length = R2.length ∧ Hid (wr3.ownsRow wz.heap.size 36 1 (.slice xa R2.length xc) X.length (flatG uC X))) ∧ Below wz.heap.size wz wr3) (fun i _ => R2.length - (intOf i).toNat)
            case atStart => exact ⟨0, by omega, rfl, ⟨R2, rfl, HUX.out⟩, hbx⟩
            case round =>
              obtain ⟨q, hq, rfl, ⟨X, hX, HO⟩, hbw⟩ := hrel
              rename World => wv
              have hzw := hbw.size
              by_cases hlt2 : q < R2.length
              · have hlt2I : (q : Int) < R2.length := by omega
                rw [← hX] at HO
                obtain ⟨g8, c8, ev8, hgB, hgw, hgc, hcm, hat8⟩ := own_atG uC_len 0 HO.out (by omega)
                simp only [Value.slice.injEq, true_and] at ev8
                obtain ⟨rfl, rfl⟩ := ev8
                have d0 := hat8 q (by omega) 0 (by omega)
                simp only [List.getElem?_cons_zero, Nat.add_zero, Nat.mul_one] at d0
                obtain ⟨d0, f0⟩ := d0
                have HS2 := keepG (own_setU 12345 HO.out (i := q) (by omega))
                clear hat8
                go_wp2
                go_roundw
                case rel => exact ⟨q + 1, by omega, by go_num, ⟨X.set q 12345, by simpa using hX, by have hh := HS2.out.1; rw [hX] at hh; exact hh⟩, hbw.trans (HS2.out.2.below (fun k e => by omega) hzw)⟩
                case measure => simp [intOf]; omega
              · have hlt2I : ¬ (q : Int) < R2.length := by omega
                rw [← hX] at HO
                have hX16 : X.length ≤ 16 := by omega
                have hXI : (X.length : Int) = (R2.length : Int) := by omega
                have hXw : IntKind.i64.wrap ((R2.length : Int) + 1) = (R2.length : Int) + 1 := by rw [IntKind.wrap_i64]; omega
                have P6 : True := trivial
                go_wp2_with (first
                  | (at_builtin; go_must (refine wpList_append_own_at _ rfl (.tmp 161) (.tmp 162) 33 rfl wz.heap.size 36 j0 _ 1 8 Try.underlying33 hj0 hy0 hys hyb rfl (by decide) _ X.length (flatG uC X) (by rw [hX]; rfl) (HO.out.alloc _) ⟨_, 0, none⟩ 1 1 (uC 1) rfl rfl (cells_new wv (uC 1) _ _ rfl) (uC_one 1) (by unfold maxLen; omega) (by omega) (by simp; omega) ?_); intro v' w' hown hgr _ hnew; go_must (obtain ⟨va, vc, rfl⟩ := own_shape hown; have hbw2 : Below wz.heap.size wz w' := hbw.trans ((chg_append hgr).below (fun k e => (HO.out.lt k e).1) hzw); have HTa := keepG (HTz.out.below hbw2); clear hown hgr hnew))
                  | (go_at_call 15; have hq := P6; clear hq; go_must (refine HTa.out.order.mono ?_); rintro e wb ⟨ub, rfl, hub, hbb⟩; go_must (have HTb := keepG (HTa.out.below hbb); have HUb : Hid (SeesG uC 1 0 wb ub R2) := own_seesG uC_len 0 hub; clear hub P6))
                  | (go_at_call 15; go_must (refine HTb.out.swap.order.mono ?_); rintro e wc ⟨uc, rfl, huc, hbc⟩; go_must (have HTc := keepG (HTb.out.below hbc); have HUc : Hid (SeesG uC 1 0 wc uc R2) := own_seesG uC_len 0 huc; have HVc := keepG (HUb.out.below hbc (Nat.le_refl _)); obtain ⟨dc, yc, hlc, HLc⟩ := HTc.out.swap.inner; clear huc))
                  | (go_at_call 14; go_must (refine (wnums_same HVc.out HUc.out).mono ?_); rintro e wd ⟨rfl, md, rfl⟩; go_must (have HTd := keepG (HTc.out.drewN md); have hbd : Below wc.heap.size wc (wc.drewN md) := ⟨rfl, rfl, rfl, Nat.le_refl _, fun _ _ => rfl⟩))
                  | (go_at_call 13; go_must (refine (HLc.out (wc.drewN md) hbd).1.mono ?_); rintro e we ⟨rfl, rfl⟩; go_must (rw [show ((S2, R2).1).length = R2.length from HRS.out]))
                  | (go_at_call 21; go_must (refine (HTd.out.fill (ps := []) (SeesG.nil Pp.nil _) (by simp) (fun k _ e => by cases e)).mono ?_); rintro e wf ⟨rfl, Ff, htf, _⟩; go_must (have HTf : Hid (P2 w wf la lb n (S2, R2) (S2, R2) Ff G3) := htf; clear htf))
                  | (go_at_call 22; go_must (refine (HTf.out.touch (ks := []) (n := 0) (s' := (S2, R2)) (SeesG.nil (0 : Int) _) (by simp) (fun k _ e => by cases e) (show Hid _ from rfl)).mono ?_); rintro e wg ⟨rfl, Fg, htg, _⟩; go_must (have HTg := keepG htg; clear htg)))
                go_ret
                exact ⟨rfl, HTg.out.be⟩
/-- LruFills. -/
theorem lruFills_walk (cap : Int) (sv : Value) (ps : List Pp) (kv : Value) (ks : List Int) (w : World) {P0 : Prop} (_ : P0) (hs : SeesG ppC 2 Pp.nil w sv ps) (hpl : ps.length * 16 ≤ 140737488351232) (hk : SeesG uC 1 0 w kv ks) (hkl : ks.length * 8 ≤ 140737488351232) :
    Calls Try.prog 5 #[.int .i64 cap, sv, kv] w fun e w' => e = .returned (.bool true) ∧ Below w.heap.size w w' := by
  by_cases h : cap < 1 ∨ 16 < cap
  · exact lruFills_no cap sv kv w h
  · obtain ⟨n, rfl⟩ : ∃ n : Nat, cap = n := ⟨cap.toNat, by omega⟩
    by_cases hl : 3000 < ps.length ∨ 3000 < ks.length
    · exact lruFills_long n (by omega) (by omega) sv kv ps ks w hs hk hl
    · exact lruFills_ok n (by omega) (by omega) sv kv ps ks w hs hk (by omega) (by omega)
end Go.Proofs.Ytoaceadfdelgfaa
