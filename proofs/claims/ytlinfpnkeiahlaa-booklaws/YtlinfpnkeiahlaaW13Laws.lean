
/-
  BookLaws, walked. Condition: none but the arguments' reading.
-/
import Derived.Test.YtlinfpnkeiahlaaW13St
namespace Go.Proofs.Ytlinfpnkeiahlaa
open Go.RowKit
set_option linter.unusedVariables false
set_option linter.unusedSimpArgs false
set_option maxRecDepth 100000

theorem bookLaws_no (cap : Int) (sv : Value) (key : Int) (w : World) (hc : cap < 1 ∨ 16 < cap) :
    Calls Try.prog 4 #[.int .i64 cap, sv, .int .u64 key] w fun e w' => e = .returned (.bool true) ∧ Below w.heap.size w w' := by
  go_enter Try.func4, Try.ntmps4
  go_wp2_with (first
    | (go_at_call 7; go_must (refine (wawake w).mono ?_); rintro e w1 ⟨rfl, hb1⟩)
    | (go_at_call 8; go_must (refine (lnew_no cap hc w1).mono ?_); rintro e w2 ⟨rfl, rfl⟩))
  go_ret
  exact ⟨rfl, hb1⟩
set_option maxHeartbeats 8000000 in
theorem bookLaws_ok (n : Nat) (h1 : 1 ≤ n) (h2 : n ≤ 16) (sv : Value) (ds : List Dc) (key : Int) (w : World) (hs : SeesG dcC 3 Dc.nil w sv ds) (hlen : ds.length ≤ 4611686018427387904) :
    Calls Try.prog 4 #[.int .i64 n, sv, .int .u64 key] w fun e w' => e = .returned (.bool true) ∧ Below w.heap.size w w' := by
  have HSS : Hid (∀ wr, Below w.heap.size w wr → SeesG dcC 3 Dc.nil wr sv ds) := fun wr hb => hs.below hb (Nat.le_refl _)
  obtain ⟨a, c, rfl, hc, hm, _, _⟩ := hs
  have hm' : c ≤ 9223372036854775807 := by unfold maxLen at hm; omega
  obtain ⟨x7, h7⟩ : ∃ x, IntKind.u64.wrap (key * 7) = x := ⟨_, rfl⟩
  obtain ⟨val, hval⟩ : ∃ x, IntKind.u64.wrap (x7 + 1) = x := ⟨_, rfl⟩
  obtain ⟨s, hsum⟩ : ∃ x, IntKind.u64.wrap (val + 3) = x := ⟨_, rfl⟩
  have HS : Hid ((val + 3) % 18446744073709551616 = s) := by show _ = _; rw [← hsum, IntKind.wrap_u64]
  go_enter Try.func4, Try.ntmps4
  go_wp2_with (first
    | (go_at_call 7; go_must (refine (wawake w).mono ?_); rintro e w1 ⟨rfl, hb1⟩)
    | (go_at_call 8; go_must (refine (lnew_ok n h1 h2 w1).mono ?_); rintro e w2 ⟨rfl, hp2, hb2, hz2⟩; go_must (have HT2 := keepG (St.new hb1 hb2 hp2 h2); clear hp2)))
  go_loopw [10] (fun i wr => ∃ j : Nat, j ≤ ds.length ∧ i = .int .i64 j ∧ Hid (St w wr w1.heap.size n (runS n [] (ds.take j)) (.slice none 0 0) [])) (fun i _ => ds.length - (intOf i).toNat)
  case atStart => exact ⟨0, by omega, rfl, HT2.out⟩
  case round =>
    obtain ⟨j, hj, rfl, HT⟩ := hrel
    rename_i wr _
    by_cases hlt : j < ds.length
    · have hltI : (j : Int) < ds.length := by omega
      have HCC : Hid (∀ wx, Below w.heap.size w wx → ∃ g off, a = some ⟨g, off, none⟩ ∧ wx.cell? ⟨g, off + j * 3, none⟩ = some (.int .i64 (ds.getD j Dc.nil).op) ∧ wx.cell? ⟨g, off + j * 3 + 1, none⟩ = some (.int .u64 (ds.getD j Dc.nil).k) ∧ wx.cell? ⟨g, off + j * 3 + 2, none⟩ = some (.int .u64 (ds.getD j Dc.nil).v)) := by
        intro wx hb
        obtain ⟨a', c', ev, _, _, _, hcell⟩ := HSS.out wx hb
        simp only [Value.slice.injEq, true_and] at ev
        obtain ⟨rfl, rfl⟩ := ev
        obtain ⟨g, off, rfl, hg, hat⟩ := hcell (fun e => by rw [e] at hlt; simp at hlt)
        exact ⟨g, off, rfl, hat j hlt 0 (by omega), hat j hlt 1 (by omega), hat j hlt 2 (by omega)⟩
      obtain ⟨g, off, rfl, d0, d1, d2⟩ := HCC.out wr HT.out.be
      have HKP : Hid (∀ wx, Below w.heap.size w wx → wx.cell? ⟨g, off + j * 3, none⟩ = some (.int .i64 (ds.getD j Dc.nil).op) ∧ wx.cell? ⟨g, off + j * 3 + 1, none⟩ = some (.int .u64 (ds.getD j Dc.nil).k) ∧ wx.cell? ⟨g, off + j * 3 + 2, none⟩ = some (.int .u64 (ds.getD j Dc.nil).v)) := by
        intro wx hb
        obtain ⟨g', off', ea, q⟩ := HCC.out wx hb
        simp only [Option.some.injEq, Addr.mk.injEq, true_and, and_true] at ea
        obtain ⟨rfl, rfl⟩ := ea
        exact q
      obtain ⟨d, HD⟩ : ∃ d, Hid (ds.getD j Dc.nil = d) := ⟨_, rfl⟩
      rw [HD.out] at d0 d1 d2 HKP
      have HR : Hid ((doS n (runS n [] (ds.take j)) d.op d.k d.v).2 = runS n [] (ds.take (j + 1))) := by show _ = _; rw [take_moreD hlt, HD.out, runS_app]
      go_wp2
      refine wp_region_held_drew (S := fun w' => w'.cell? ⟨g, off + j * 3, none⟩ = some (.int .i64 d.op) ∧ w'.cell? ⟨g, off + j * 3 + 1, none⟩ = some (.int .u64 d.k) ∧ w'.cell? ⟨g, off + j * 3 + 2, none⟩ = some (.int .u64 d.v)) (by kernel_rfl) ⟨d0, d1, d2⟩ (fun hHeld => ?_)
      refine wpAnyH_take (i := 0) (v := ?v1) rfl (by kernel_rfl) (by kernel_rfl) (by kernel_rfl) (fun _ _ _ h => h) (Or.inl ⟨by rfl, ?hy1⟩) (by assumption) ?rest1
      case hy1 => (intro wy hSw; (try dsimp only at hSw); go_simp; (first | done | with_reducible rfl))
      try simp only [Act.put, List.getElem_toArray, List.getElem_cons_zero, List.getElem_cons_succ, List.setIfInBounds_toArray, List.set_cons_zero, List.set_cons_succ]
      refine wpAnyH_take (i := 1) (v := ?v2) rfl (by kernel_rfl) (by kernel_rfl) (by kernel_rfl) (fun _ _ _ h => h) (Or.inl ⟨by rfl, ?hy2⟩) (by assumption) ?rest2
      case hy2 => (intro wy hSw; (try dsimp only at hSw); go_simp; (first | done | with_reducible rfl))
      try simp only [Act.put, List.getElem_toArray, List.getElem_cons_zero, List.getElem_cons_succ, List.setIfInBounds_toArray, List.set_cons_zero, List.set_cons_succ]
      refine wpAnyH_take (i := 2) (v := ?v3) rfl (by kernel_rfl) (by kernel_rfl) (by kernel_rfl) (fun _ _ _ h => h) (Or.inl ⟨by rfl, ?hy3⟩) (by assumption) ?rest3
      case hy3 => (intro wy hSw; (try dsimp only at hSw); go_simp; (first | done | with_reducible rfl))
      try simp only [Act.put, List.getElem_toArray, List.getElem_cons_zero, List.getElem_cons_succ, List.setIfInBounds_toArray, List.set_cons_zero, List.set_cons_succ]
      refine wpAnyH_take (i := 3) (v := ?v4) rfl (by kernel_rfl) (by kernel_rfl) (by kernel_rfl) (fun _ _ _ h => h) (Or.inl ⟨by rfl, ?hy4⟩) (by assumption) ?rest4
      case hy4 => (intro wy hSw; (try dsimp only at hSw); go_simp; (first | done | with_reducible rfl))
      try simp only [Act.put, List.getElem_toArray, List.getElem_cons_zero, List.getElem_cons_succ, List.setIfInBounds_toArray, List.set_cons_zero, List.set_cons_succ]
      refine wpAnyH_take (i := 4) (v := ?v5) rfl (by kernel_rfl) (by kernel_rfl) (by kernel_rfl) (fun _ _ _ h => h) (Or.inl ⟨by rfl, ?hy5⟩) (by assumption) ?rest5
      case hy5 => (intro wy hSw; (try dsimp only at hSw); go_simp; (first | done | with_reducible rfl))
      try simp only [Act.put, List.getElem_toArray, List.getElem_cons_zero, List.getElem_cons_succ, List.setIfInBounds_toArray, List.set_cons_zero, List.set_cons_succ]
      refine wpAnyH_take (i := 5) (v := ?v6) rfl (by kernel_rfl) (by kernel_rfl) (by kernel_rfl) (fun _ _ _ h => h) (Or.inl ⟨by rfl, ?hy6⟩) (by assumption) ?rest6
      case hy6 => (intro wy hSw; (try dsimp only at hSw); go_simp; (first | done | with_reducible rfl))
      try simp only [Act.put, List.getElem_toArray, List.getElem_cons_zero, List.getElem_cons_succ, List.setIfInBounds_toArray, List.set_cons_zero, List.set_cons_succ]
      refine wpAnyH_take (i := 6) (v := ?v7) rfl (by kernel_rfl) (by kernel_rfl) (by kernel_rfl) (fun _ _ _ h => h) (Or.inl ⟨by rfl, ?hy7⟩) (by assumption) ?rest7
      case hy7 => (intro wy hSw; (try dsimp only at hSw); go_simp; (first | done | with_reducible rfl))
      try simp only [Act.put, List.getElem_toArray, List.getElem_cons_zero, List.getElem_cons_succ, List.setIfInBounds_toArray, List.set_cons_zero, List.set_cons_succ]
      refine wpAnyH_take (i := 7) (v := ?v8) rfl (by kernel_rfl) (by kernel_rfl) (by kernel_rfl) (fun _ _ _ h => h) (Or.inl ⟨by rfl, ?hy8⟩) (by assumption) ?rest8
      case hy8 => (intro wy hSw; (try dsimp only at hSw); go_simp; (first | done | with_reducible rfl))
      try simp only [Act.put, List.getElem_toArray, List.getElem_cons_zero, List.getElem_cons_succ, List.setIfInBounds_toArray, List.set_cons_zero, List.set_cons_succ]
      refine wpAnyH_take (i := 8) (v := ?v9) rfl (by kernel_rfl) (by kernel_rfl) (by kernel_rfl) (fun _ _ _ h => h) (Or.inl ⟨by rfl, ?hy9⟩) (by assumption) ?rest9
      case hy9 => (intro wy hSw; (try dsimp only at hSw); go_simp; (first | done | with_reducible rfl))
      try simp only [Act.put, List.getElem_toArray, List.getElem_cons_zero, List.getElem_cons_succ, List.setIfInBounds_toArray, List.set_cons_zero, List.set_cons_succ]
      refine wpAnyH_take (i := 9) (v := ?v10) rfl (by kernel_rfl) (by kernel_rfl) (by kernel_rfl) (fun _ _ _ h => h) (Or.inl ⟨by rfl, ?hy10⟩) (by assumption) ?rest10
      case hy10 => (intro wy hSw; (try dsimp only at hSw); go_simp; (first | done | with_reducible rfl))
      try simp only [Act.put, List.getElem_toArray, List.getElem_cons_zero, List.getElem_cons_succ, List.setIfInBounds_toArray, List.set_cons_zero, List.set_cons_succ]
      refine wpAnyH_take (i := 10) (v := ?v11) rfl (by kernel_rfl) (by kernel_rfl) (by kernel_rfl) (fun _ _ _ h => h) (Or.inl ⟨by rfl, ?hy11⟩) (by assumption) ?rest11
      case hy11 => (intro wy hSw; (try dsimp only at hSw); go_simp; (first | done | with_reducible rfl))
      try simp only [Act.put, List.getElem_toArray, List.getElem_cons_zero, List.getElem_cons_succ, List.setIfInBounds_toArray, List.set_cons_zero, List.set_cons_succ]
      refine wpAnyH_take (i := 11) (v := ?v12) rfl (by kernel_rfl) (by kernel_rfl) (by kernel_rfl) (fun _ _ _ h => h) (Or.inl ⟨by rfl, ?hy12⟩) (by assumption) ?rest12
      case hy12 => (intro wy hSw; (try dsimp only at hSw); go_simp; (first | done | with_reducible rfl))
      try simp only [Act.put, List.getElem_toArray, List.getElem_cons_zero, List.getElem_cons_succ, List.setIfInBounds_toArray, List.set_cons_zero, List.set_cons_succ]
      refine wpAnyH_take (i := 12) (v := ?v13) rfl (by kernel_rfl) (by kernel_rfl) (by kernel_rfl) (fun _ _ _ h => h) (Or.inl ⟨by rfl, ?hy13⟩) (by assumption) ?rest13
      case hy13 => (intro wy hSw; (try dsimp only at hSw); go_simp; (first | done | with_reducible rfl))
      try simp only [Act.put, List.getElem_toArray, List.getElem_cons_zero, List.getElem_cons_succ, List.setIfInBounds_toArray, List.set_cons_zero, List.set_cons_succ]
      refine wpAnyH_take (i := 13) (v := ?v14) rfl (by kernel_rfl) (by kernel_rfl) (by kernel_rfl) (fun _ _ _ h => h) (Or.inl ⟨by rfl, ?hy14⟩) (by assumption) ?rest14
      case hy14 => (intro wy hSw; (try dsimp only at hSw); go_simp; (first | done | with_reducible rfl))
      try simp only [Act.put, List.getElem_toArray, List.getElem_cons_zero, List.getElem_cons_succ, List.setIfInBounds_toArray, List.set_cons_zero, List.set_cons_succ]
      refine wpAnyH_take (i := 14) (v := ?v15) rfl (by kernel_rfl) (by kernel_rfl) (by kernel_rfl) (fun _ _ _ h => h) (Or.inl ⟨by rfl, ?hy15⟩) (by assumption) ?rest15
      case hy15 => (intro wy hSw; (try dsimp only at hSw); go_simp; (first | done | with_reducible rfl))
      try simp only [Act.put, List.getElem_toArray, List.getElem_cons_zero, List.getElem_cons_succ, List.setIfInBounds_toArray, List.set_cons_zero, List.set_cons_succ]
      refine wpAnyH_take (i := 15) (v := ?v16) rfl (by kernel_rfl) (by kernel_rfl) (by kernel_rfl) (fun _ _ _ h => h) (Or.inl ⟨by rfl, ?hy16⟩) (by assumption) ?rest16
      case hy16 => (intro wy hSw; (try dsimp only at hSw); go_simp; (first | done | with_reducible rfl))
      try simp only [Act.put, List.getElem_toArray, List.getElem_cons_zero, List.getElem_cons_succ, List.setIfInBounds_toArray, List.set_cons_zero, List.set_cons_succ]
      refine wpAnyH_ready (rs := [16]) (by kernel_rfl) (by simp) ?_
      refine AllReadyH.cons rfl (fun KK hK => ?_) AllReadyH.nil
      rw [if_pos (by rfl)]
      go_simp
      go_at_call 11
      refine ((HT.out.drewN 1).do_any d.op d.k d.v).mono ?_
      rintro e w3 ⟨rfl, ht3, _⟩
      have HT3 : Hid (St w w3 w1.heap.size n (runS n [] (ds.take (j + 1))) (.slice none 0 0) []) := by rw [← HR.out]; exact ht3
      clear ht3
      go_simp
      refine hK.out _ _ (HKP.out w3 HT3.out.be) (fun hHeld => ?_)
      clear hK KK
      try simp only [Act.put, List.getElem_toArray, List.getElem_cons_zero, List.getElem_cons_succ, List.setIfInBounds_toArray, List.set_cons_zero, List.set_cons_succ]
      refine wpAnyH_done (by kernel_rfl) ?_ _
      go_wp2
      go_roundw
      case rel => exact ⟨j + 1, by omega, by go_num, HT3.out⟩
      case measure => simp [intOf]; omega
    · have hltI : ¬ (j : Int) < ds.length := by omega
      obtain ⟨L, HL⟩ : ∃ L, Hid (runS n [] (ds.take j) = L) := ⟨_, rfl⟩
      have HSr : Hid (Srt L) := by rw [← HL.out]; exact srt_run _ List.Pairwise.nil
      rw [HL.out] at HT
      have hLn := HT.out.len
      have hnl : ¬ n < L.length := by omega
      go_wp2_with (first
        | (go_at_call 15; go_must (refine HT.out.pairs_any.mono ?_); rintro e w3 ⟨u, rfl, hu3, hb3⟩; go_must (obtain ⟨ua, uc, rfl⟩ := own_shape hu3; have HT3 := keepG ((HT.out.below hb3).with HT.out hb3 (Nat.le_refl _) hu3); clear hu3))
        | (go_at_call 13; go_must (refine HT3.out.len_any.mono ?_); rintro e w4 ⟨rfl, rfl⟩))
      go_loopw [6, 12] (fun _ i wr2 => ∃ q : Nat, (q = 0 ∨ q < L.length) ∧ i = .int .i64 ((q : Int) + 1) ∧ ∃ m, wr2 = w3.drewN m) (fun _ i _ => L.length + 1 - (intOf i).toNat)
      case atStart => exact ⟨0, .inl rfl, rfl, 0, rfl⟩
      case round =>
        obtain ⟨q, hq, rfl, m, rfl⟩ := hrel
        have HTm := keepG (HT3.out.drewN m)
        have hqs : IntKind.i64.wrap ((q : Int) + 1 - 1) = (q : Int) := by rw [IntKind.wrap_i64]; omega
        have hqq : IntKind.i64.wrap (q : Int) = (q : Int) := by rw [IntKind.wrap_i64]; omega
        have hqw : IntKind.i64.wrap ((q : Int) + 1) = (q : Int) + 1 := by rw [IntKind.wrap_i64]; omega
        by_cases hlt2 : q + 1 < L.length
        · have hlt2I : (q : Int) + 1 < L.length := by omega
          have hlt3I : (q : Int) < L.length := by omega
          have hnn : (0 : Int) ≤ (q : Int) + 1 := by omega
          have htn : ((q : Int) + 1).toNat = q + 1 := by omega
          obtain ⟨a', c', ev, _, hcm, _, hcell⟩ := HTm.out.see
          simp only [Value.slice.injEq, true_and] at ev
          obtain ⟨rfl, rfl⟩ := ev
          unfold maxLen at hcm
          obtain ⟨g, off, rfl, hg, hat⟩ := hcell (fun e => by rw [e] at hlt2; simp at hlt2)
          have d0 := hat q (by omega) 0 (by omega)
          have d1 := hat (q + 1) hlt2 0 (by omega)
          have hrise := srt_at HSr.out hlt2
          simp only [List.getElem?_cons_zero, Nat.add_zero] at d0 d1
          generalize (L.getD q Pp.nil).k = xa at d0 hrise
          generalize (L.getD (q + 1) Pp.nil).k = xb at d1 hrise
          have hge : ¬ xb ≤ xa := by omega
          clear hat hcell
          go_wp2
          refine wp_region_held_drew (S := fun w' => w'.cell? ⟨g, off + q * 2, none⟩ = some (.int .u64 xa) ∧ w'.cell? ⟨g, off + (q + 1) * 2, none⟩ = some (.int .u64 xb)) (by kernel_rfl) ⟨d0, d1⟩ (fun hHeld => ?_)
          refine wpAnyH_take (i := 0) (v := ?v17) rfl (by kernel_rfl) (by kernel_rfl) (by kernel_rfl) (fun _ _ _ h => h) (Or.inl ⟨by rfl, ?hy17⟩) (by assumption) ?rest17
          case hy17 => (intro wy hSw; (try dsimp only at hSw); go_simp; (first | done | with_reducible rfl))
          try simp only [Act.put, List.getElem_toArray, List.getElem_cons_zero, List.getElem_cons_succ, List.setIfInBounds_toArray, List.set_cons_zero, List.set_cons_succ]
          refine wpAnyH_take (i := 1) (v := ?v18) rfl (by kernel_rfl) (by kernel_rfl) (by kernel_rfl) (fun _ _ _ h => h) (Or.inl ⟨by rfl, ?hy18⟩) (by assumption) ?rest18
          case hy18 => (intro wy hSw; (try dsimp only at hSw); go_simp; (first | done | with_reducible rfl))
          try simp only [Act.put, List.getElem_toArray, List.getElem_cons_zero, List.getElem_cons_succ, List.setIfInBounds_toArray, List.set_cons_zero, List.set_cons_succ]
          refine wpAnyH_take (i := 2) (v := ?v19) rfl (by kernel_rfl) (by kernel_rfl) (by kernel_rfl) (fun _ _ _ h => h) (Or.inl ⟨by rfl, ?hy19⟩) (by assumption) ?rest19
          case hy19 => (intro wy hSw; (try dsimp only at hSw); go_simp; (first | done | with_reducible rfl))
          try simp only [Act.put, List.getElem_toArray, List.getElem_cons_zero, List.getElem_cons_succ, List.setIfInBounds_toArray, List.set_cons_zero, List.set_cons_succ]
          refine wpAnyH_take (i := 3) (v := ?v20) rfl (by kernel_rfl) (by kernel_rfl) (by kernel_rfl) (fun _ _ _ h => h) (Or.inl ⟨by rfl, ?hy20⟩) (by assumption) ?rest20
          case hy20 => (intro wy hSw; (try dsimp only at hSw); go_simp; (first | done | with_reducible rfl))
          try simp only [Act.put, List.getElem_toArray, List.getElem_cons_zero, List.getElem_cons_succ, List.setIfInBounds_toArray, List.set_cons_zero, List.set_cons_succ]
          refine wpAnyH_take (i := 4) (v := ?v21) rfl (by kernel_rfl) (by kernel_rfl) (by kernel_rfl) (fun _ _ _ h => h) (Or.inl ⟨by rfl, ?hy21⟩) (by assumption) ?rest21
          case hy21 => (intro wy hSw; (try dsimp only at hSw); go_simp; (first | done | with_reducible rfl))
          try simp only [Act.put, List.getElem_toArray, List.getElem_cons_zero, List.getElem_cons_succ, List.setIfInBounds_toArray, List.set_cons_zero, List.set_cons_succ]
          refine wpAnyH_take (i := 5) (v := ?v22) rfl (by kernel_rfl) (by kernel_rfl) (by kernel_rfl) (fun _ _ _ h => h) (Or.inl ⟨by rfl, ?hy22⟩) (by assumption) ?rest22
          case hy22 => (intro wy hSw; (try dsimp only at hSw); go_simp; (first | done | with_reducible rfl))
          try simp only [Act.put, List.getElem_toArray, List.getElem_cons_zero, List.getElem_cons_succ, List.setIfInBounds_toArray, List.set_cons_zero, List.set_cons_succ]
          refine wpAnyH_take (i := 6) (v := ?v23) rfl (by kernel_rfl) (by kernel_rfl) (by kernel_rfl) (fun _ _ _ h => h) (Or.inl ⟨by rfl, ?hy23⟩) (by assumption) ?rest23
          case hy23 => (intro wy hSw; (try dsimp only at hSw); go_simp; (first | done | with_reducible rfl))
          try simp only [Act.put, List.getElem_toArray, List.getElem_cons_zero, List.getElem_cons_succ, List.setIfInBounds_toArray, List.set_cons_zero, List.set_cons_succ]
          refine wpAnyH_take (i := 7) (v := ?v24) rfl (by kernel_rfl) (by kernel_rfl) (by kernel_rfl) (fun _ _ _ h => h) (Or.inl ⟨by rfl, ?hy24⟩) (by assumption) ?rest24
          case hy24 => (intro wy hSw; (try dsimp only at hSw); go_simp; (first | done | with_reducible rfl))
          try simp only [Act.put, List.getElem_toArray, List.getElem_cons_zero, List.getElem_cons_succ, List.setIfInBounds_toArray, List.set_cons_zero, List.set_cons_succ]
          refine wpAnyH_take (i := 8) (v := ?v25) rfl (by kernel_rfl) (by kernel_rfl) (by kernel_rfl) (fun _ _ _ h => h) (Or.inl ⟨by rfl, ?hy25⟩) (by assumption) ?rest25
          case hy25 => (intro wy hSw; (try dsimp only at hSw); go_simp; (first | done | with_reducible rfl))
          try simp only [Act.put, List.getElem_toArray, List.getElem_cons_zero, List.getElem_cons_succ, List.setIfInBounds_toArray, List.set_cons_zero, List.set_cons_succ]
          refine wpAnyH_take (i := 9) (v := ?v26) rfl (by kernel_rfl) (by kernel_rfl) (by kernel_rfl) (fun _ _ _ h => h) (Or.inl ⟨by rfl, ?hy26⟩) (by assumption) ?rest26
          case hy26 => (intro wy hSw; (try dsimp only at hSw); go_simp; (first | done | with_reducible rfl))
          try simp only [Act.put, List.getElem_toArray, List.getElem_cons_zero, List.getElem_cons_succ, List.setIfInBounds_toArray, List.set_cons_zero, List.set_cons_succ]
          refine wpAnyH_take (i := 10) (v := ?v27) rfl (by kernel_rfl) (by kernel_rfl) (by kernel_rfl) (fun _ _ _ h => h) (Or.inl ⟨by rfl, ?hy27⟩) (by assumption) ?rest27
          case hy27 => (intro wy hSw; (try dsimp only at hSw); go_simp; (first | done | with_reducible rfl))
          try simp only [Act.put, List.getElem_toArray, List.getElem_cons_zero, List.getElem_cons_succ, List.setIfInBounds_toArray, List.set_cons_zero, List.set_cons_succ]
          refine wpAnyH_take (i := 11) (v := ?v28) rfl (by kernel_rfl) (by kernel_rfl) (by kernel_rfl) (fun _ _ _ h => h) (Or.inl ⟨by rfl, ?hy28⟩) (by assumption) ?rest28
          case hy28 => (intro wy hSw; (try dsimp only at hSw); go_simp; (first | done | with_reducible rfl))
          try simp only [Act.put, List.getElem_toArray, List.getElem_cons_zero, List.getElem_cons_succ, List.setIfInBounds_toArray, List.set_cons_zero, List.set_cons_succ]
          refine wpAnyH_done (by kernel_rfl) ?_ _
          go_wp2
          go_roundw
          case rel => exact ⟨q + 1, .inr hlt2, by go_num, m + 1, rfl⟩
          case measure => simp [intOf]; omega
        · have hlt2I : ¬ (q : Int) + 1 < L.length := by omega
          by_cases hE : (doS n L 2 key val).1.E = 40
          · obtain ⟨e1, e2, e3⟩ := law_full HSr.out hLn val hE
            have e0 : doS n L 0 key 0 = (⟨0, false, hadS key L⟩, L) := by rw [do_get, e1]
            obtain ⟨hd, HHD⟩ : ∃ x, Hid (hadS key L = x) := ⟨_, rfl⟩
            rw [HHD.out] at e0
            have hnI : (L.length : Int) = (n : Int) := by omega
            clear hE
            go_wp2_with (first
              | (go_at_call 11; have hq := HT4; clear hq; go_must (refine ((HT4.out.below (below_allocG _ _)).do_any 2 key val).mono ?_); rintro e w5 ⟨rfl, ht, hk⟩; rw [e3] at ht ⊢; go_must (have HT5 := keepG ht; have HB5 := hk.box HB4.out; have hl5 := HB5.lt; have y0 := (HB5.alloc (.cells #[.int .i64 40, .bool false, .int .u64 0, .bool false, .int .u64 0, .int .u64 0] 36)).cell (j := 1) rfl; have y1 := HB5.cell (j := 1) rfl; clear HB5 ht hk; dsimp only [resG]))
              | (go_at_call 11; go_must (refine (HTm.out.do_any 0 key 0).mono ?_); rintro e w4 ⟨rfl, ht, hk⟩; rw [e0] at ht ⊢; go_must (have HT4 := keepG ht; have HB4 := keepG (Hp.new w4 (resCG 0 false hd false 0 0) 36); clear ht hk; dsimp only [resG]))
              | (go_at_call 15; go_must (refine (HT5.out.below (below_allocG _ _)).pairs_any.mono ?_); rintro e w6 ⟨u6, rfl, hu6, hb6⟩; go_must (have HT6 := keepG ((HT5.out.below (below_allocG _ _)).below hb6); have HU6 := keepG (own_seesG ppC_len Pp.nil hu6); clear hu6))
              | (go_at_call 14; go_must (refine (wpairs_same HU6.out HT6.out.see).mono ?_); rintro e w7 ⟨rfl, m7, rfl⟩))
            go_ret
            exact ⟨rfl, (HT6.out.drewN m7).be⟩
          · obtain ⟨f, x, L1, L2, L3, e0, e1, e2, e3, e4, e5, e6, e7⟩ := law_room HSr.out hE HS.out
            have HF3 := keepG e7
            clear hE e7
            go_wp2_with (first
              | (go_at_call 11; have hq := HT9; clear hq; go_must (refine (HT9.out.do_any 3 key 9).mono ?_); rintro e wA ⟨rfl, ht, hk⟩; rw [e6] at ht ⊢; go_must (have HTA := keepG ht; clear ht hk; dsimp only [resG]))
              | (go_at_call 11; have hq := HT8; clear hq; go_must (refine (HT8.out.do_any 3 key 9).mono ?_); rintro e w9 ⟨rfl, ht, hk⟩; rw [e5] at ht ⊢; go_must (have HT9 := keepG ht; clear ht hk; dsimp only [resG]))
              | (go_at_call 11; have hq := HT7; clear hq; go_must (refine (HT7.out.do_any 4 key 3).mono ?_); rintro e w8 ⟨rfl, ht, hk⟩; rw [e4] at ht ⊢; go_must (have HT8 := keepG ht; clear ht hk; dsimp only [resG]))
              | (go_at_call 11; have hq := HT6; clear hq; go_must (refine (HT6.out.do_any 1 key 1).mono ?_); rintro e w7 ⟨rfl, ht, hk⟩; rw [e3] at ht ⊢; go_must (have HT7 := keepG ht; clear ht hk; dsimp only [resG]))
              | (go_at_call 11; have hq := HT5; clear hq; go_must (refine ((HT5.out.below (below_allocG _ _)).do_any 0 key 1).mono ?_); rintro e w6 ⟨rfl, ht, hk⟩; rw [e2] at ht ⊢; go_must (have HT6 := keepG ht; clear ht hk; dsimp only [resG]))
              | (go_at_call 11; have hq := HT4; clear hq; go_must (refine ((HT4.out.below (below_allocG _ _)).do_any 2 key val).mono ?_); rintro e w5 ⟨rfl, ht, hk⟩; rw [e1] at ht ⊢; go_must (have HT5 := keepG ht; have HB5 := hk.box HB4.out; have hl5 := HB5.lt; have HBX := HB5.alloc (.cells #[.int .i64 0, .bool f, .int .u64 x, .bool false, .int .u64 0, .int .u64 0] 36); have y0 := HBX.cell (j := 0) rfl; have y1 := HBX.cell (j := 1) rfl; have y2 := HBX.cell (j := 2) rfl; have y3 := HBX.cell (j := 3) rfl; have y4 := HBX.cell (j := 4) rfl; have y5 := HBX.cell (j := 5) rfl; clear HBX HB5; clear ht hk; dsimp only [resG]))
              | (go_at_call 11; go_must (refine (HTm.out.do_any 0 key 0).mono ?_); rintro e w4 ⟨rfl, ht, hk⟩; rw [e0] at ht ⊢; go_must (have HT4 := keepG ht; have HB4 := keepG (Hp.new w4 (resCG 0 f x false 0 0) 36); clear ht hk; dsimp only [resG])))
            have hL16 : L.length ≤ 16 := by omega
            obtain ⟨i0, hi0, hz0, hzs, hzb⟩ := info_parts infoPr
            have HTA3 := HTA
            go_loopw [15, 16] (fun lv i wr3 => ∃ k : Nat, k ≤ L.length ∧ i = .int .i64 k ∧ Hid (wr3.ownsRow wA.heap.size 47 2 lv ((L.take k).filter (fun p => decide (p.k ≠ key))).length (flatG ppC ((L.take k).filter (fun p => decide (p.k ≠ key))))) ∧ Below wA.heap.size wA wr3) (fun _ i _ => L.length - (intOf i).toNat)
            case atStart => exact ⟨0, by omega, rfl, World.ownsRow_nil _ _ _ _, Below.refl _ _⟩
            case round =>
              obtain ⟨k, hk, rfl, HO, hbw⟩ := hrel
              have HTw := keepG (HTA.out.below hbw)
              have hzw := hbw.size
              by_cases hlt3 : k < L.length
              · have hlt3I : (k : Int) < L.length := by omega
                obtain ⟨a', c', ev, _, hcm, _, hcell⟩ := HTw.out.see
                simp only [Value.slice.injEq, true_and] at ev
                obtain ⟨rfl, rfl⟩ := ev
                unfold maxLen at hcm
                obtain ⟨g, off, rfl, hg, hat⟩ := hcell (fun e => by rw [e] at hlt3; simp at hlt3)
                have d0 := hat k hlt3 0 (by omega)
                have d1 := hat k hlt3 1 (by omega)
                simp only [List.getElem?_cons_zero, List.getElem?_cons_succ, Nat.add_zero] at d0 d1
                obtain ⟨p, HP⟩ : ∃ p, Hid (L.getD k Pp.nil = p) := ⟨_, rfl⟩
                rw [HP.out] at d0 d1
                clear hat hcell
                have HT1 : Hid ((L.take (k + 1)).filter (fun p => decide (p.k ≠ key)) = (L.take k).filter (fun p => decide (p.k ≠ key)) ++ (if p.k ≠ key then [p] else [])) := by
                  show _ = _
                  rw [take_more hlt3, HP.out, List.filter_append]
                  congr 1
                  by_cases e : p.k ≠ key
                  · rw [if_pos e, List.filter_cons_of_pos (by simpa using e)]
                    rfl
                  · rw [if_neg e, List.filter_cons_of_neg (by simpa using e)]
                    rfl
                obtain ⟨M, HM⟩ : ∃ M, Hid ((L.take k).filter (fun p => decide (p.k ≠ key)) = M) := ⟨_, rfl⟩
                have hMl : M.length ≤ 16 := by
                  rw [← HM.out]
                  have := List.length_filter_le (fun p : Pp => decide (p.k ≠ key)) (L.take k)
                  have := List.length_take_le k L
                  omega
                rw [HM.out] at HO HT1
                by_cases he : p.k = key
                · have heb : (p.k == key) = true := by simpa using he
                  rw [if_neg (by simpa using he), List.append_nil] at HT1
                  rw [← HT1.out] at HO
                  go_wp2
                  go_roundw
                  case rel => exact ⟨k + 1, by omega, by go_num, HO.out, hbw⟩
                  case measure => simp [intOf]; omega
                · have heb : (p.k == key) = false := by simpa using he
                  rw [if_pos he] at HT1
                  go_wp2_with (at_builtin; go_must (refine wpList_append_own_at _ rfl _ _ 40 rfl wA.heap.size 47 i0 _ 2 16 Try.underlying40 hi0 hz0 hzs hzb rfl (by decide) _ M.length (flatG ppC M) rfl (HO.out.alloc _) ⟨_, 0, none⟩ 1 1 (ppC p) rfl rfl (cells_new wr (ppC p) _ _ rfl) (pp_one p) (by unfold maxLen; omega) (by omega) (by simp; omega) ?_); intro v' w' hown hgr _ hnew; go_must (have HOW : Hid _ := own_moreG hown; have hbw2 : Below wA.heap.size wA w' := hbw.trans (below_append hgr (fun j hj => (HO.out.lt j hj).1) hzw); clear hown hgr hnew; obtain ⟨va, vc, rfl⟩ := own_shape HOW.out))
                  have eM : (M ++ [p]).length = M.length + 1 := by simp
                  go_roundw
                  case rel => exact ⟨k + 1, by omega, by go_num, by have hh := HOW.out; rw [HT1.out]; show World.ownsRow _ _ _ _ _ _ _; rw [eM] at hh ⊢; exact hh, hbw2⟩
                  case measure => simp [intOf]; omega
              · have hlt3I : ¬ (k : Int) < L.length := by omega
                have hT : L.take k = L := List.take_of_length_le (by omega)
                rw [hT, HF3.out] at HO
                obtain ⟨va, vc, ev⟩ := own_shape HO.out
                subst ev
                go_wp2_with (first
                  | (go_at_call 15; go_must (refine HTw.out.pairs_any.mono ?_); rintro e wB ⟨uB, rfl, huB, hbB⟩; go_must (have HTB := keepG (HTw.out.below hbB); have HUB := keepG (own_seesG ppC_len Pp.nil huB); have HVB := keepG ((own_seesG ppC_len Pp.nil HO.out).below hbB (Nat.le_refl _)); clear huB))
                  | (go_at_call 14; go_must (refine (wpairs_same HUB.out HVB.out).mono ?_); rintro e wC ⟨rfl, mC, rfl⟩))
                go_ret
                exact ⟨rfl, (HTB.out.drewN mC).be⟩
/-- BookLaws. -/
theorem bookLaws_walk (cap : Int) (sv : Value) (ds : List Dc) (key : Int) (w : World) {P0 P2 : Prop} (_ : P0) (hs : SeesG dcC 3 Dc.nil w sv ds) (hlen : ds.length * 24 ≤ 140737488351232) (_ : P2) :
    Calls Try.prog 4 #[.int .i64 cap, sv, .int .u64 key] w fun e w' => e = .returned (.bool true) ∧ Below w.heap.size w w' := by
  by_cases h : cap < 1 ∨ 16 < cap
  · exact bookLaws_no cap sv key w h
  · obtain ⟨n, rfl⟩ : ∃ n : Nat, cap = n := ⟨cap.toNat, by omega⟩
    exact bookLaws_ok n (by omega) (by omega) sv ds key w hs (by omega)
end Go.Proofs.Ytlinfpnkeiahlaa
