
/-
  LruBook, walked. Condition: none but the arguments' reading.
-/
import Derived.Test.YtoaceadfdelgfaaW14Two
import Derived.Test.YtoaceadfdelgfaaL14Awake
namespace Go.Proofs.Ytoaceadfdelgfaa
open Go.RowKit
set_option linter.unusedVariables false
set_option linter.unusedSimpArgs false
set_option maxRecDepth 100000

theorem lruBook_no (cap : Int) (sv : Value) (w : World) (hc : cap < 1 ∨ 16 < cap) :
    Calls Try.prog 6 #[.int .i64 cap, sv] w fun e w' => e = .returned (.bool true) ∧ Below w.heap.size w w' := by
  go_enter Try.func6, Try.ntmps6
  go_wp2_with (first
    | (go_at_call 7; go_must (refine (awake14_any w).mono ?_); rintro e w1 ⟨rfl, hb1⟩)
    | (go_at_call 8; go_must (refine (llnew_no cap hc w1).mono ?_); rintro e w2 ⟨rfl, rfl⟩)
    | (go_at_call 23; go_must (refine (lnew_no cap hc w1).mono ?_); rintro e w2 ⟨rfl, rfl⟩))
  go_ret
  exact ⟨rfl, hb1⟩
set_option maxHeartbeats 8000000 in
theorem lruBook_ok (n : Nat) (h1 : 1 ≤ n) (h2 : n ≤ 16) (sv : Value) (ds : List Dc) (w : World) (hs : SeesG dcC 3 Dc.nil w sv ds) (hlen : ds.length ≤ 4611686018427387904) :
    Calls Try.prog 6 #[.int .i64 n, sv] w fun e w' => e = .returned (.bool true) ∧ Below w.heap.size w w' := by
  have HSS : Hid (∀ wr, Below w.heap.size w wr → SeesG dcC 3 Dc.nil wr sv ds) := fun wr hb => hs.below hb (Nat.le_refl _)
  obtain ⟨a, c, rfl, hc, hm, _, _⟩ := hs
  have hm' : c ≤ 9223372036854775807 := by unfold maxLen at hm; omega
  go_enter Try.func6, Try.ntmps6
  go_wp2_with (first
    | (go_at_call 7; go_must (refine (awake14_any w).mono ?_); rintro e w1 ⟨rfl, hb1⟩)
    | (go_at_call 8; go_must (refine (lunew_ok n h1 h2 w1).mono ?_); rintro e w2 ⟨l, F, rfl, hL2, hs2, hb2⟩; go_must (have HL2 := keepG hL2; have HS2 := keepG hs2; clear hL2 hs2))
    | (go_at_call 23; go_must (refine (lnew_ok n h1 h2 w2).mono ?_); rintro e w3 ⟨rfl, hp3, hb3, hz3⟩; go_must (have HT3 := keepG (Pb.new hb1 HL2.out hb2.size HS2.out hb2 hp3 hb3 h2); clear hp3 hz3)))
  go_loopw [9] (fun i wr => ∃ j : Nat, j ≤ ds.length ∧ i = .int .i64 j ∧ ∃ S R, Hid (Pb w wr l w2.heap.size n S R S) ∧ Hid (InvA n S R)) (fun i _ => ds.length - (intOf i).toNat)
  case atStart => exact ⟨0, by omega, rfl, [], [], HT3.out, InvA.new h1⟩
  case round =>
    obtain ⟨j, hj, rfl, S, R, HT, HI⟩ := hrel
    have hSl := HI.out.len
    by_cases hno : j < ds.length ∧ j < 3000
    · obtain ⟨hlt, h3000⟩ := hno
      have hltI : (j : Int) < ds.length := by omega
      have h3I : (j : Int) < 3000 := by omega
      have hcells : ∃ g off, a = some ⟨g, off, none⟩ ∧ wr.cell? ⟨g, off + j * 3, none⟩ = some (.int .i64 (ds.getD j Dc.nil).op) ∧ wr.cell? ⟨g, off + j * 3 + 1, none⟩ = some (.int .u64 (ds.getD j Dc.nil).k) ∧ wr.cell? ⟨g, off + j * 3 + 2, none⟩ = some (.int .u64 (ds.getD j Dc.nil).v) := by
        obtain ⟨a', c', ev, _, _, _, hcell⟩ := HSS.out wr HT.out.be
        simp only [Value.slice.injEq, true_and] at ev
        obtain ⟨rfl, rfl⟩ := ev
        obtain ⟨g, off, rfl, hg, hat⟩ := hcell (fun e => by rw [e] at hlt; simp at hlt)
        exact ⟨g, off, rfl, hat j hlt 0 (by omega), hat j hlt 1 (by omega), hat j hlt 2 (by omega)⟩
      obtain ⟨g, off, rfl, d0, d1, d2⟩ := hcells
      obtain ⟨d, HDD⟩ : ∃ d, Hid (ds.getD j Dc.nil = d) := ⟨_, rfl⟩
      rw [HDD.out] at d0 d1 d2
      obtain ⟨E, f, x, T', HQ⟩ : ∃ E f x T', Hid (doS n S d.op d.k d.v = (⟨E, f, x⟩, T')) := ⟨_, _, _, _, rfl⟩
      obtain ⟨X, HX, hbX, hpX⟩ : ∃ X, Hid (wr.alloc (.cells #[.int .i64 d.op, .int .u64 d.k, .int .u64 d.v] 38) = X) ∧ Below wr.heap.size wr X ∧ Hid (Hp X wr.heap.size 38 (dcC d)) := ⟨_, rfl, below_allocG _ _, Hp.new wr (dcC d) _⟩
      have HTX := keepG (HT.out.below hbX)
      have hi := HI.out.do d.op d.k d.v
      cases he : evA n S d.op d.k with
      | true =>
        have hE : E = 40 := by have := (e40 HI.out d.op d.k d.v).2 he; rw [HQ.out] at this; exact this
        subst hE
        obtain ⟨k1, k2, k3, k4⟩ := doA_evict HI.out he d.v
        obtain ⟨q, S', R', HA⟩ : ∃ q S' R', Hid (doA n S R d.op d.k d.v = (q, S', R')) := ⟨_, _, _, rfl⟩
        rw [HA.out] at k1 k2 k3 k4 hi
        obtain ⟨qE, qf, qv, qo, qk, qu⟩ := q
        simp only at k1 k2 k3
        subst k1 k2 k3
        have K4 := keepG k4
        have hl4 : S'.length ≤ n := hi.len
        clear k4 hi
        go_wp2_with (first
          | (go_at_call 24; rw [HX.out]; go_must (refine (HTX.out.doB HQ hSl).mono ?_); rintro e w5 ⟨rfl, ht5, hk5⟩; go_must (have HP5 := keepG (hk5 _ _ _ (.inl rfl) hpX.out); obtain ⟨Y, HY, hbY⟩ : ∃ Y, Hid (w5.alloc (.cells #[.int .i64 40, .bool f, .int .u64 x, .bool false, .int .u64 0, .int .u64 0] 40) = Y) ∧ Below w5.heap.size w5 Y := ⟨_, rfl, below_allocG _ _⟩; have HTY := keepG (ht5.below hbY); have p0 := HP5.out.cell (j := 0) rfl; have p1 := HP5.out.cell (j := 1) rfl; have p2 := HP5.out.cell (j := 2) rfl; have hl5 := HP5.out.lt; clear ht5 hk5))
          | (go_at_call 11; rw [HY.out]; go_must (refine (HTY.out.doL HA HI.out).mono ?_); rintro e w6 ⟨rfl, ht6, hk6⟩; go_must (have HT6 := keepG ht6; obtain ⟨dd, y0, hdl, HLn⟩ := ht6.inner hl4; obtain ⟨Z, HZ, hbZ⟩ : ∃ Z, Hid (w6.alloc (.cells #[.int .i64 0, .bool false, .int .u64 qv, .bool true, .int .u64 qk, .int .u64 qu] 40) = Z) ∧ Below w6.heap.size w6 Z := ⟨_, rfl, below_allocG _ _⟩; have HTZ := keepG (ht6.below hbZ); clear ht6 hk6))
          | (go_at_call 13; rw [HZ.out]; go_must (refine (HLn.out Z hbZ).1.mono ?_); rintro e w7 ⟨rfl, rfl⟩; go_must (rw [K4.out])))
        go_ret
        exact ⟨rfl, HTZ.out.be⟩
      | false =>
        have hE : E ≠ 40 := fun e => by have := (e40 HI.out d.op d.k d.v).1 (by rw [HQ.out]; exact e); rw [he] at this; cases this
        have hEb : (E == 40) = false := by simpa using hE
        obtain ⟨k1, k2⟩ := doA_book (R := R) he d.v
        rw [HQ.out] at k1 k2
        obtain ⟨R', HA⟩ : ∃ R', Hid (doA n S R d.op d.k d.v = (⟨E, f, x, false, 0, 0⟩, T', R')) := ⟨(doA n S R d.op d.k d.v).2.2, Prod.ext k1 (Prod.ext k2 rfl)⟩
        rw [HA.out] at hi
        have HI2 := keepG hi
        have HKP : Hid (∀ wx, Hp wx wr.heap.size 38 (dcC d) → ∀ m, Hp wx m 40 (resCG E f x false 0 0) → wx.cell? ⟨wr.heap.size, 0, none⟩ = some (.int .i64 d.op) ∧ wx.cell? ⟨wr.heap.size, 1, none⟩ = some (.int .u64 d.k) ∧ wx.cell? ⟨wr.heap.size, 2, none⟩ = some (.int .u64 d.v) ∧ wx.cell? ⟨m, 0, none⟩ = some (.int .i64 E) ∧ wx.cell? ⟨m, 1, none⟩ = some (.bool f) ∧ wx.cell? ⟨m, 2, none⟩ = some (.int .u64 x) ∧ wx.cell? ⟨m, 3, none⟩ = some (.bool false) ∧ wx.cell? ⟨m, 4, none⟩ = some (.int .u64 0) ∧ wx.cell? ⟨m, 5, none⟩ = some (.int .u64 0)) := fun wx hp m hm => ⟨hp.cell (j := 0) rfl, hp.cell (j := 1) rfl, hp.cell (j := 2) rfl, hm.cell (j := 0) rfl, hm.cell (j := 1) rfl, hm.cell (j := 2) rfl, hm.cell (j := 3) rfl, hm.cell (j := 4) rfl, hm.cell (j := 5) rfl⟩
        clear k1 k2 hi hE
        go_wp2_with (go_at_call 24; rw [HX.out]; go_must (refine (HTX.out.doB HQ hSl).mono ?_); rintro e w5 ⟨rfl, ht5, hk5⟩; go_must (have HP5 := keepG (hk5 _ _ _ (.inl rfl) hpX.out); obtain ⟨Y, HY, hbY, HpY⟩ : ∃ Y, Hid (w5.alloc (.cells #[.int .i64 E, .bool f, .int .u64 x, .bool false, .int .u64 0, .int .u64 0] 40) = Y) ∧ Below w5.heap.size w5 Y ∧ Hid (Hp Y w5.heap.size 40 (resCG E f x false 0 0)) := ⟨_, rfl, below_allocG _ _, Hp.new w5 (resCG E f x false 0 0) _⟩; have HTY := keepG (ht5.below hbY); have HPY := keepG (HP5.out.below hbY HP5.out.lt); clear ht5 hk5))
        rw [HY.out]
        refine wp_region_held_drew (S := fun w' => w'.cell? ⟨wr.heap.size, 0, none⟩ = some (.int .i64 d.op) ∧ w'.cell? ⟨wr.heap.size, 1, none⟩ = some (.int .u64 d.k) ∧ w'.cell? ⟨wr.heap.size, 2, none⟩ = some (.int .u64 d.v) ∧ w'.cell? ⟨w5.heap.size, 0, none⟩ = some (.int .i64 E) ∧ w'.cell? ⟨w5.heap.size, 1, none⟩ = some (.bool f) ∧ w'.cell? ⟨w5.heap.size, 2, none⟩ = some (.int .u64 x) ∧ w'.cell? ⟨w5.heap.size, 3, none⟩ = some (.bool false) ∧ w'.cell? ⟨w5.heap.size, 4, none⟩ = some (.int .u64 0) ∧ w'.cell? ⟨w5.heap.size, 5, none⟩ = some (.int .u64 0)) (by kernel_rfl) (HKP.out _ HPY.out.drew _ HpY.out.drew) (fun hHeld => ?_)
        refine wpAnyH_take (i := 0) (v := ?v2) rfl (by kernel_rfl) (by kernel_rfl) (by kernel_rfl) (fun _ _ _ h => h) (Or.inl ⟨by rfl, ?hy2⟩) (by assumption) ?rest2
        case hy2 => (intro wy hSw; (try dsimp only at hSw); go_simp; (first | done | with_reducible rfl))
        try simp only [Act.put, List.getElem_toArray, List.getElem_cons_zero, List.getElem_cons_succ, List.setIfInBounds_toArray, List.set_cons_zero, List.set_cons_succ]
        refine wpAnyH_take (i := 1) (v := ?v3) rfl (by kernel_rfl) (by kernel_rfl) (by kernel_rfl) (fun _ _ _ h => h) (Or.inl ⟨by rfl, ?hy3⟩) (by assumption) ?rest3
        case hy3 => (intro wy hSw; (try dsimp only at hSw); go_simp; (first | done | with_reducible rfl))
        try simp only [Act.put, List.getElem_toArray, List.getElem_cons_zero, List.getElem_cons_succ, List.setIfInBounds_toArray, List.set_cons_zero, List.set_cons_succ]
        refine wpAnyH_take (i := 2) (v := ?v4) rfl (by kernel_rfl) (by kernel_rfl) (by kernel_rfl) (fun _ _ _ h => h) (Or.inl ⟨by rfl, ?hy4⟩) (by assumption) ?rest4
        case hy4 => (intro wy hSw; (try dsimp only at hSw); go_simp; (first | done | with_reducible rfl))
        try simp only [Act.put, List.getElem_toArray, List.getElem_cons_zero, List.getElem_cons_succ, List.setIfInBounds_toArray, List.set_cons_zero, List.set_cons_succ]
        refine wpAnyH_take (i := 3) (v := ?v5) rfl (by kernel_rfl) (by kernel_rfl) (by kernel_rfl) (fun _ _ _ h => h) (Or.inl ⟨by rfl, ?hy5⟩) (by assumption) ?rest5
        case hy5 => (intro wy hSw; (try dsimp only at hSw); go_simp; (first | done | with_reducible rfl))
        try simp only [Act.put, List.getElem_toArray, List.getElem_cons_zero, List.getElem_cons_succ, List.setIfInBounds_toArray, List.set_cons_zero, List.set_cons_succ]
        refine wpAnyH_take (i := 4) (v := ?v6) rfl (by kernel_rfl) (by kernel_rfl) (by kernel_rfl) (fun _ _ _ h => h) (Or.inl ⟨by rfl, ?hy6⟩) (by assumption) ?rest6
        case hy6 => (intro wy hSw; (try dsimp only at hSw); go_simp; (first | done | with_reducible rfl))
        try simp only [Act.put, List.getElem_toArray, List.getElem_cons_zero, List.getElem_cons_succ, List.setIfInBounds_toArray, List.set_cons_zero, List.set_cons_succ]
        refine wpAnyH_take (i := 5) (v := ?v7) rfl (by kernel_rfl) (by kernel_rfl) (by kernel_rfl) (fun _ _ _ h => h) (Or.inl ⟨by rfl, ?hy7⟩) (by assumption) ?rest7
        case hy7 => (intro wy hSw; (try dsimp only at hSw); go_simp; (first | done | with_reducible rfl))
        try simp only [Act.put, List.getElem_toArray, List.getElem_cons_zero, List.getElem_cons_succ, List.setIfInBounds_toArray, List.set_cons_zero, List.set_cons_succ]
        refine wpAnyH_take (i := 6) (v := ?v8) rfl (by kernel_rfl) (by kernel_rfl) (by kernel_rfl) (fun _ _ _ h => h) (Or.inl ⟨by rfl, ?hy8⟩) (by assumption) ?rest8
        case hy8 => (intro wy hSw; (try dsimp only at hSw); go_simp; (first | done | with_reducible rfl))
        try simp only [Act.put, List.getElem_toArray, List.getElem_cons_zero, List.getElem_cons_succ, List.setIfInBounds_toArray, List.set_cons_zero, List.set_cons_succ]
        refine wpAnyH_take (i := 8) (v := ?v9) rfl (by kernel_rfl) (by kernel_rfl) (by kernel_rfl) (fun _ _ _ h => h) (Or.inl ⟨by rfl, ?hy9⟩) (by assumption) ?rest9
        case hy9 => (intro wy hSw; (try dsimp only at hSw); go_simp; (first | done | with_reducible rfl))
        try simp only [Act.put, List.getElem_toArray, List.getElem_cons_zero, List.getElem_cons_succ, List.setIfInBounds_toArray, List.set_cons_zero, List.set_cons_succ]
        refine wpAnyH_ready (rs := [7]) (by kernel_rfl) (by simp) ?_
        refine AllReadyH.cons rfl (fun KK hK => ?_) AllReadyH.nil
        rw [if_pos (by rfl)]
        go_simp
        go_at_call 11
        refine ((HTY.out.drewN 1).doL HA HI.out).mono ?_
        rintro e w6 ⟨rfl, ht6, hk6⟩
        have HP6 := keepG (hk6 _ _ _ (.inl rfl) HPY.out.drew)
        have HQ6 := keepG (hk6 _ _ _ (.inr rfl) HpY.out.drew)
        have HT6 := keepG ht6
        clear ht6 hk6
        go_simp
        refine hK.out _ _ (HKP.out _ HP6.out _ HQ6.out) (fun hHeld => ?_)
        clear hK KK
        try simp only [Act.put, List.getElem_toArray, List.getElem_cons_zero, List.getElem_cons_succ, List.setIfInBounds_toArray, List.set_cons_zero, List.set_cons_succ]
        dsimp only [resG]
        refine wpAnyH_take (i := 9) (v := ?v1) rfl (by kernel_rfl) (by kernel_rfl) (by kernel_rfl) (fun _ _ _ h => h) (Or.inl ⟨by rfl, ?hy1⟩) (by assumption) ?rest1
        case hy1 => (intro wy hSw; (try dsimp only at hSw); go_simp; (first | done | with_reducible rfl))
        try simp only [Act.put, List.getElem_toArray, List.getElem_cons_zero, List.getElem_cons_succ, List.setIfInBounds_toArray, List.set_cons_zero, List.set_cons_succ]
        refine wpAnyH_done (by kernel_rfl) ?_ _
        go_wp2
        first
          | (go_roundw
             case rel => exact ⟨j + 1, by omega, by go_num, T', R', HT6.out, HI2.out⟩
             case measure => simp [intOf]; omega)
          | exact ⟨⟨j + 1, by omega, by go_num, T', R', HT6.out, HI2.out⟩, by simp [intOf]; omega⟩
    · have HRl : Hid (R.length = S.length) := HI.out.length
      by_cases hA : j < ds.length
      · have hltI : (j : Int) < ds.length := by omega
        have h3I : ¬ (j : Int) < 3000 := by omega
        obtain ⟨dd, y0, hdl, HLn⟩ := HT.out.inner hSl
        have P1 : True := trivial
        have P2 : True := trivial
        have P3 : True := trivial
        have P4 : True := trivial
        have P5 : True := trivial
        go_wp2_with (first
          | (go_at_call 18; have hq := P1; clear hq; go_must (refine (HLn.out wr (Below.refl _ _)).2.2.mono ?_); rintro e w4 ⟨u4, rfl, ho4, hb4⟩; go_must (have HT4 := keepG (HT.out.below hb4); have HU4 := keepG (own_seesG ppC_len Pp.nil ho4); clear ho4 P1))
          | (go_at_call 18; have hq := P2; clear hq; go_must (refine (HT4.out.pairs hSl).mono ?_); rintro e w5 ⟨u5, rfl, ho5, hb5⟩; go_must (have HT5 := keepG (HT4.out.below hb5); have HU5 := keepG (own_seesG ppC_len Pp.nil ho5); have HV5 := keepG (HU4.out.below hb5 (Nat.le_refl _)); clear ho5 P2))
          | (go_at_call 17; go_must (refine (wpairs14 HV5.out HU5.out).mono ?_); rintro e wp ⟨rfl, mp, rfl⟩; go_must (have HTd := keepG (HT5.out.drewN mp); obtain ⟨d5, y5, hdl5, HL5⟩ := HT5.out.inner hSl; have hbm : Below w5.heap.size w5 (w5.drewN mp) := ⟨rfl, rfl, rfl, Nat.le_refl _, fun _ _ => rfl⟩))
          | (go_at_call 13; have hq := P3; clear hq; go_must (refine (HL5.out (w5.drewN mp) hbm).1.mono ?_); rintro e w7 ⟨rfl, rfl⟩; go_must (clear P3))
          | (go_at_call 13; have hq := P4; clear hq; go_must (refine HTd.out.len.mono ?_); rintro e w7 ⟨rfl, rfl⟩; go_must (clear P4))
          | (go_at_call 15; go_must (refine (HTd.out.order HI.out).mono ?_); rintro e w8 ⟨u8, rfl, ho8, hb8⟩; go_must (have HT8 := keepG (HTd.out.below hb8); obtain ⟨ua, uc, rfl⟩ := own_shape ho8; rw [HRl.out]; clear ho8))
          | (go_at_call 13; have hq := P5; clear hq; go_must (refine HT8.out.len.mono ?_); rintro e w7 ⟨rfl, rfl⟩; go_must (clear P5)))
        go_ret
        exact ⟨rfl, HT8.out.be⟩
      · have hltI : ¬ (j : Int) < ds.length := by omega
        obtain ⟨dd, y0, hdl, HLn⟩ := HT.out.inner hSl
        have P1 : True := trivial
        have P2 : True := trivial
        have P3 : True := trivial
        have P4 : True := trivial
        have P5 : True := trivial
        go_wp2_with (first
          | (go_at_call 18; have hq := P1; clear hq; go_must (refine (HLn.out wr (Below.refl _ _)).2.2.mono ?_); rintro e w4 ⟨u4, rfl, ho4, hb4⟩; go_must (have HT4 := keepG (HT.out.below hb4); have HU4 := keepG (own_seesG ppC_len Pp.nil ho4); clear ho4 P1))
          | (go_at_call 18; have hq := P2; clear hq; go_must (refine (HT4.out.pairs hSl).mono ?_); rintro e w5 ⟨u5, rfl, ho5, hb5⟩; go_must (have HT5 := keepG (HT4.out.below hb5); have HU5 := keepG (own_seesG ppC_len Pp.nil ho5); have HV5 := keepG (HU4.out.below hb5 (Nat.le_refl _)); clear ho5 P2))
          | (go_at_call 17; go_must (refine (wpairs14 HV5.out HU5.out).mono ?_); rintro e wp ⟨rfl, mp, rfl⟩; go_must (have HTd := keepG (HT5.out.drewN mp); obtain ⟨d5, y5, hdl5, HL5⟩ := HT5.out.inner hSl; have hbm : Below w5.heap.size w5 (w5.drewN mp) := ⟨rfl, rfl, rfl, Nat.le_refl _, fun _ _ => rfl⟩))
          | (go_at_call 13; have hq := P3; clear hq; go_must (refine (HL5.out (w5.drewN mp) hbm).1.mono ?_); rintro e w7 ⟨rfl, rfl⟩; go_must (clear P3))
          | (go_at_call 13; have hq := P4; clear hq; go_must (refine HTd.out.len.mono ?_); rintro e w7 ⟨rfl, rfl⟩; go_must (clear P4))
          | (go_at_call 15; go_must (refine (HTd.out.order HI.out).mono ?_); rintro e w8 ⟨u8, rfl, ho8, hb8⟩; go_must (have HT8 := keepG (HTd.out.below hb8); obtain ⟨ua, uc, rfl⟩ := own_shape ho8; rw [HRl.out]; clear ho8))
          | (go_at_call 13; have hq := P5; clear hq; go_must (refine HT8.out.len.mono ?_); rintro e w7 ⟨rfl, rfl⟩; go_must (clear P5)))
        go_ret
        exact ⟨rfl, HT8.out.be⟩
/-- LruBook. -/
theorem lruBook_walk (cap : Int) (sv : Value) (ds : List Dc) (w : World) {P0 : Prop} (_ : P0) (hs : SeesG dcC 3 Dc.nil w sv ds) (hlen : ds.length * 24 ≤ 140737488351232) :
    Calls Try.prog 6 #[.int .i64 cap, sv] w fun e w' => e = .returned (.bool true) ∧ Below w.heap.size w w' := by
  by_cases h : cap < 1 ∨ 16 < cap
  · exact lruBook_no cap sv w h
  · obtain ⟨n, rfl⟩ : ∃ n : Nat, cap = n := ⟨cap.toNat, by omega⟩
    exact lruBook_ok n (by omega) (by omega) sv ds w hs (by omega)
end Go.Proofs.Ytoaceadfdelgfaa
