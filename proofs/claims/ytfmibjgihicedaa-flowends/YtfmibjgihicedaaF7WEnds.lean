/-
  FlowEnds, walked: it answers true. Condition: the code and the turns take up no more bytes than an argument may.
-/
import Derived.Test.YtfmibjgihicedaaF7WWay
namespace Go.Proofs.Ytfmibjgihicedaa
open Go.RowKit Go.Deep
set_option linter.unusedVariables false
set_option maxRecDepth 20000

set_option maxHeartbeats 6400000 in
theorem ends_walk (v : Value) (xs : List In) (tv : Value) (ts : List Int) (w : World) (hs : SeesI w v xs) (hz : xs.length * 40 ≤ 140737488355328) (ht : Sees .i64 w tv ts) (htz : ts.length * 8 ≤ 140737488351232) :
    Calls Try.prog 6 #[v, tv] w fun e w' => e = .returned (.bool true) ∧ Below w.heap.size w w' := by
  have HS : Hid (SeesI w v xs) := hs
  have HZ : Hid (xs.length * 40 ≤ 140737488355328) := hz
  clear hz
  have HWf : Hid (∀ x ∈ ts, (Lit.int .i64 x).wf = true) := ht.wf
  obtain ⟨at_, capt, rfl, hct, hmt, hnt, _, hcellt⟩ := ht
  have HCt : Hid (ts ≠ [] → ∃ b off, at_ = some ⟨b, off, none⟩ ∧ b < w.heap.size ∧ ∀ i, i < ts.length → w.cell? ⟨b, off + i, none⟩ = some (.int .i64 (ts.getD i 0))) := hcellt
  clear hcellt hnt
  obtain ⟨E, HE⟩ : ∃ E, Hid (E = errL xs) := ⟨_, rfl⟩
  obtain ⟨C, HC⟩ : ∃ C, Hid (C = costA xs) := ⟨_, rfl⟩
  by_cases hE : E = 0
  case neg =>
    have hEb : (E != 0) = true := by simpa using hE
    have hC0 : C = 0 := by rw [HC.out]; unfold costA; rw [if_neg (by rw [← HE.out]; exact hE)]
    subst hC0
    obtain ⟨a, cap, rfl⟩ := hs.shape
    clear hs
    go_enter Try.func6, Try.ntmps6
    go_wp2_with (first
      | (go_at_call 8; go_must (refine (awake_any _).mono ?_); rintro e w1 ⟨rfl, hb1⟩)
      | (go_at_call 9; go_must (refine (copied_any _ xs _ (HS.out.below hb1) HZ.out).mono ?_); rintro e w2 ⟨u, rfl, hown, hb2⟩; go_must (have HU : Hid (SeesI w2 u xs) := own_seesI hown; have hB2 := hb1.trans (hb2.mono hb1.size); obtain ⟨au, cu, rfl⟩ := HU.out.shape; clear hb2 hown))
      | (go_at_call 19; go_must (refine (lcost_any _ xs _ HU.out HC HE).mono ?_); rintro e w3 ⟨rfl, hb3⟩; go_must (have hB3 := hB2.trans (hb3.mono hB2.size); clear hb3)))
    go_ret
    exact ⟨rfl, hB3⟩
  subst hE
  have HT : Hid (Taken xs) := check_ok.1 (show errL xs = 0 from HE.out.symm)
  have hN0 := HT.out.pos
  have hN1 := HT.out.top
  have hCb : 0 ≤ C ∧ C ≤ 256 := by have := cost_top HT.out; rw [HC.out]; omega
  have HCt2 : Hid (C = costT (loopsL xs) xs.length) := by show _ = _; rw [HC.out]; exact (cost_top HT.out).2.2
  obtain ⟨a, cap, rfl, hc, hm, hn0, hcell⟩ := hs
  obtain ⟨b, off, rfl, hb, hat⟩ := hcell (fun h => by rw [h] at hN0; simp at hN0)
  have HAll : Hid (∀ w1, Below w.heap.size w w1 → ∀ k, k < xs.length → At w1 b (off + k * 5) (xs.getD k In.nil)) := fun w1 h1 k hk => (hat k hk).below h1 hb
  clear hat hcell hn0
  have hmk := run_make_row' (P := Try.prog) 34 3 (.int .i64 0) 8 Try.underlying34 Try.infoInt7 rfl .i64 .i64 xs.length (by omega) (by omega)
  go_enter Try.func6, Try.ntmps6
  go_wp2_with (first
    | (go_at_call 8; go_must (refine (awake_any _).mono ?_); rintro e w1 ⟨rfl, hb1⟩)
    | (go_at_call 9; go_must (refine (copied_any _ xs _ (HS.out.below hb1) HZ.out).mono ?_); rintro e w2 ⟨u, rfl, hown, hb2⟩; go_must (have HU : Hid (SeesI w2 u xs) := own_seesI hown; have hB2 := hb1.trans (hb2.mono hb1.size); obtain ⟨au, cu, rfl⟩ := HU.out.shape; clear hb2 hown))
    | (go_at_call 19; go_must (refine (lcost_any _ xs _ HU.out HC HE).mono ?_); rintro e w3 ⟨rfl, hb3⟩; go_must (have hB3 := hB2.trans (hb3.mono hB2.size); have hsz3 := hB3.size; clear hb3 HU)))
  clear hmk
  go_loopw [9, 8] (fun i q wr => ∃ (n k : Nat) (c : Int → Int), i = .int .i64 n ∧ q = .int .i64 k ∧ k < xs.length ∧ Hid (Wy w w3.heap.size xs C n k c wr)) (fun i _ _ => (C - intOf i).toNat)
  case atStart =>
    refine ⟨0, 0, fun _ => 0, rfl, rfl, by omega, ?_⟩
    have hcnt : Cnt (loopsL xs) (fun _ => 0) := fun l hl => ⟨by simp, by have := bnd_ok HT.out.place l hl; simp; omega⟩
    refine ⟨hcnt, ?_, World.rowIs_made _ _ _ _, hB3.alloc hsz3 _⟩
    have := left_cost (p := ((0 : Nat) : Int)) hcnt (bnd_ok HT.out.place) xs.length
    rw [HCt2.out]
    simpa using this
  case round =>
    rename World => w0
    obtain ⟨n, k, c, rfl, rfl, hk, HW⟩ := hrel
    have hnC := HW.out.lt HT.out hk
    have HWb : Hid (Below w.heap.size w w0) := HW.out.below
    have hBlt := HW.out.row.lt
    have hnle : (n : Int) ≤ C := by omega
    have HA0 : Hid ((0 : Int) = askL xs k) := by
      show _ = _
      unfold askL
      rw [← HE.out, if_neg (by simp), if_neg (by omega)]
    obtain ⟨⟨op, d, aa, bb, imm⟩, HI⟩ : ∃ i, Hid (nth xs k = i) := ⟨_, rfl⟩
    have HA : Hid (∀ w1, Below w.heap.size w w1 → At w1 b (off + k * 5) ⟨op, d, aa, bb, imm⟩) := fun w1 h1 => by have := HAll.out w1 h1 k hk; rw [show xs.getD k In.nil = _ from HI.out] at this; exact this
    have hp := place_ok hk (HT.out.place k hk)
    have HNx : Hid (nextA xs k = nextL (nth xs k) k) := by show _ = _; unfold nextA; rw [if_pos HA0.out.symm]; rfl
    have hg := goes_parts (nth xs k)
    rw [HI.out] at hp hg HNx
    have HP : Hid _ := hp
    clear hp
    have HWn : Hid (∀ w1 to, Below w0.heap.size w0 w1 → op ≠ 20 → ((to = (k : Int) + 1 ∧ (⟨op, d, aa, bb, imm⟩ : In).on = true) ∨ (to = k + (⟨op, d, aa, bb, imm⟩ : In).far ∧ (⟨op, d, aa, bb, imm⟩ : In).leads = true)) → ∃ k' : Nat, to = (k' : Int) ∧ k' < xs.length ∧ Wy w w3.heap.size xs C (n + 1) k' c w1) := fun w1 to h1 h2 h3 => HW.out.on HT.out hk h1 (by rw [HI.out]; exact h2) (by rw [HI.out]; exact h3)
    have HWl : Hid (∀ w1 to x, Below w0.heap.size w0 w1 → op = 20 → ((to = (k : Int) + 1 ∧ x = 0) ∨ (to = k + (⟨op, d, aa, bb, imm⟩ : In).far ∧ c k < imm ∧ x = c k + 1)) → ∃ (k' : Nat) (c' : Int → Int), to = (k' : Int) ∧ k' < xs.length ∧ Wy w w3.heap.size xs C (n + 1) k' c' (w1.setCell ⟨w3.heap.size, k, none⟩ (.int .i64 x))) := fun w1 to x h1 h2 h3 => HW.out.loop HT.out hk h1 (by rw [HI.out]; exact h2) hsz3 (by rw [HI.out]; exact h3)
    rcases hg with hg | hg | hg | hg
    · exact absurd (HP.out.1) (by rw [hg.1]; simp)
    · obtain ⟨g1, g2, g3, g4, g5, g6, g7, g8⟩ := hg
      have h20 : op ≠ 20 := by simp only at g3; omega
      have h20b : (op == 20) = false := by simpa using h20
      by_cases h15 : op = 15
      · have HN : Hid (nextA xs k = [(k : Int) + (d + 1)]) := by
          show _ = _
          rw [HNx.out]
          unfold nextL
          rw [g5, g6, g4]
          simp [h15]
        have G : Hid ((⟨op, d, aa, bb, imm⟩ : In).far = d + 1 ∧ (⟨op, d, aa, bb, imm⟩ : In).leads = true) := ⟨g4, g5⟩
        clear g1 g2 g3 g4 g5 g6 h15
        simp only at g7 g8
        by_cases hnt : n < ts.length
        · obtain ⟨bt, offt, rfl, hbt, hatt⟩ := HCt.out (fun h => by rw [h] at hnt; simp at hnt)
          obtain ⟨t, HTt⟩ : ∃ t, Hid (ts.getD n 0 = t) := ⟨_, rfl⟩
          have HTc : Hid (∀ w1, Below w.heap.size w w1 → w1.cell? ⟨bt, offt + n, none⟩ = some (.int .i64 t)) := fun w1 h1 => by rw [← HTt.out, h1.cell (p := ⟨bt, offt + n, none⟩) hbt]; exact hatt n hnt
          have htw := bounds_i64 (HWf.out t (by rw [← HTt.out]; exact getD_mem ts n hnt))
          clear hatt
          go_wp2_with (go_at_call 12; go_must (refine (lnext_any _ xs _ _ (HS.out.below HWb.out) HA0).mono ?_); rintro e w4 ⟨u, rfl, hown, hb4⟩; go_must (rw [HN.out] at hown; obtain ⟨g, capg, rfl, hg0, hg1, hgc, d0⟩ := own_one hown; have hBe := HWb.out.trans (hb4.mono HWb.out.size); have hsz4 := hBe.size; have hb04 := hb4.size; obtain ⟨c0, c1, _, _, c4⟩ := HA.out w4 hBe; have e0 := HTc.out w4 hBe; clear hown))
          obtain ⟨k', e1, e2, e3⟩ := HWn.out w4 _ hb4 h20 (.inr ⟨by rw [G.out.1], G.out.2⟩)
          go_roundw
          case rel => exact ⟨n + 1, k', c, by go_num, congrArg _ e1, e2, e3⟩
          case measure => simp [intOf]; omega
        · go_wp2_with (go_at_call 12; go_must (refine (lnext_any _ xs _ _ (HS.out.below HWb.out) HA0).mono ?_); rintro e w4 ⟨u, rfl, hown, hb4⟩; go_must (rw [HN.out] at hown; obtain ⟨g, capg, rfl, hg0, hg1, hgc, d0⟩ := own_one hown; have hBe := HWb.out.trans (hb4.mono HWb.out.size); have hsz4 := hBe.size; have hb04 := hb4.size; obtain ⟨c0, c1, _, _, c4⟩ := HA.out w4 hBe;  clear hown))
          obtain ⟨k', e1, e2, e3⟩ := HWn.out w4 _ hb4 h20 (.inr ⟨by rw [G.out.1], G.out.2⟩)
          go_roundw
          case rel => exact ⟨n + 1, k', c, by go_num, congrArg _ e1, e2, e3⟩
          case measure => simp [intOf]; omega
      · by_cases hd0 : d = 0
        · have HN : Hid (nextA xs k = [(k : Int) + 1]) := by
            show _ = _
            rw [HNx.out]
            unfold nextL
            rw [g5, g6, g4]
            simp [h15, hd0]
          have G : Hid ((⟨op, d, aa, bb, imm⟩ : In).on = true) := by show _ = _; rw [g6]; simpa using h15
          clear g1 g2 g3 g4 g5 g6 h15
          simp only at g7 g8
          by_cases hnt : n < ts.length
          · obtain ⟨bt, offt, rfl, hbt, hatt⟩ := HCt.out (fun h => by rw [h] at hnt; simp at hnt)
            obtain ⟨t, HTt⟩ : ∃ t, Hid (ts.getD n 0 = t) := ⟨_, rfl⟩
            have HTc : Hid (∀ w1, Below w.heap.size w w1 → w1.cell? ⟨bt, offt + n, none⟩ = some (.int .i64 t)) := fun w1 h1 => by rw [← HTt.out, h1.cell (p := ⟨bt, offt + n, none⟩) hbt]; exact hatt n hnt
            have htw := bounds_i64 (HWf.out t (by rw [← HTt.out]; exact getD_mem ts n hnt))
            clear hatt
            go_wp2_with (go_at_call 12; go_must (refine (lnext_any _ xs _ _ (HS.out.below HWb.out) HA0).mono ?_); rintro e w4 ⟨u, rfl, hown, hb4⟩; go_must (rw [HN.out] at hown; obtain ⟨g, capg, rfl, hg0, hg1, hgc, d0⟩ := own_one hown; have hBe := HWb.out.trans (hb4.mono HWb.out.size); have hsz4 := hBe.size; have hb04 := hb4.size; obtain ⟨c0, c1, _, _, c4⟩ := HA.out w4 hBe; have e0 := HTc.out w4 hBe; clear hown))
            obtain ⟨k', e1, e2, e3⟩ := HWn.out w4 _ hb4 h20 (.inl ⟨rfl, G.out⟩)
            go_roundw
            case rel => exact ⟨n + 1, k', c, by go_num, congrArg _ e1, e2, e3⟩
            case measure => simp [intOf]; omega
          · go_wp2_with (go_at_call 12; go_must (refine (lnext_any _ xs _ _ (HS.out.below HWb.out) HA0).mono ?_); rintro e w4 ⟨u, rfl, hown, hb4⟩; go_must (rw [HN.out] at hown; obtain ⟨g, capg, rfl, hg0, hg1, hgc, d0⟩ := own_one hown; have hBe := HWb.out.trans (hb4.mono HWb.out.size); have hsz4 := hBe.size; have hb04 := hb4.size; obtain ⟨c0, c1, _, _, c4⟩ := HA.out w4 hBe;  clear hown))
            obtain ⟨k', e1, e2, e3⟩ := HWn.out w4 _ hb4 h20 (.inl ⟨rfl, G.out⟩)
            go_roundw
            case rel => exact ⟨n + 1, k', c, by go_num, congrArg _ e1, e2, e3⟩
            case measure => simp [intOf]; omega
        · obtain ⟨X, HX⟩ : ∃ X, Hid ((k : Int) + 1 = X) := ⟨_, rfl⟩
          obtain ⟨Y, HY⟩ : ∃ Y, Hid ((k : Int) + (d + 1) = Y) := ⟨_, rfl⟩
          have HN : Hid (nextA xs k = [X, Y]) := by
            show _ = _
            rw [HNx.out, ← HX.out, ← HY.out]
            unfold nextL
            rw [g5, g6, g4]
            simp only at g7
            have e1 : min ((k : Int) + (d + 1)) (k + 1) = k + 1 := by omega
            have e2 : max ((k : Int) + (d + 1)) (k + 1) = k + (d + 1) := by omega
            simp only [h15, e1, e2, ne_eq, not_false_eq_true, decide_true, if_true, Bool.true_eq_false, if_false]
            rw [if_neg (by omega)]
          have G : Hid ((⟨op, d, aa, bb, imm⟩ : In).on = true ∧ (⟨op, d, aa, bb, imm⟩ : In).far = d + 1 ∧ (⟨op, d, aa, bb, imm⟩ : In).leads = true) := ⟨by rw [g6]; simpa using h15, g4, g5⟩
          have hXY : (X != Y) = true := by have h1 := HX.out; have h2 := HY.out; simp only at g7; simp; omega
          have hYX : (Y != X) = true := by have h1 := HX.out; have h2 := HY.out; simp only at g7; simp; omega
          clear g1 g2 g3 g4 g5 g6 g7 g8 h15 hd0
          by_cases hnt : n < ts.length
          · obtain ⟨bt, offt, rfl, hbt, hatt⟩ := HCt.out (fun h => by rw [h] at hnt; simp at hnt)
            obtain ⟨t, HTt⟩ : ∃ t, Hid (ts.getD n 0 = t) := ⟨_, rfl⟩
            have HTc : Hid (∀ w1, Below w.heap.size w w1 → w1.cell? ⟨bt, offt + n, none⟩ = some (.int .i64 t)) := fun w1 h1 => by rw [← HTt.out, h1.cell (p := ⟨bt, offt + n, none⟩) hbt]; exact hatt n hnt
            have htw := bounds_i64 (HWf.out t (by rw [← HTt.out]; exact getD_mem ts n hnt))
            clear hatt
            go_wp2_with (go_at_call 12; go_must (refine (lnext_any _ xs _ _ (HS.out.below HWb.out) HA0).mono ?_); rintro e w4 ⟨u, rfl, hown, hb4⟩; go_must (rw [HN.out] at hown; obtain ⟨g, capg, rfl, hg0, hg1, hgc, d0, d1⟩ := own_two hown; have hBe := HWb.out.trans (hb4.mono HWb.out.size); have hsz4 := hBe.size; have hb04 := hb4.size; obtain ⟨c0, c1, _, _, c4⟩ := HA.out w4 hBe; have e0 := HTc.out w4 hBe; clear hown))
            all_goals
              go_roundw
              case rel =>
                first
                | (obtain ⟨k', e1, e2, e3⟩ := HWn.out w4 X hb4 h20 (.inl ⟨HX.out.symm, G.out.1⟩); exact ⟨n + 1, k', c, by go_num, congrArg _ e1, e2, e3⟩)
                | (obtain ⟨k', e1, e2, e3⟩ := HWn.out w4 Y hb4 h20 (.inr ⟨by rw [G.out.2.1]; exact HY.out.symm, G.out.2.2⟩); exact ⟨n + 1, k', c, by go_num, congrArg _ e1, e2, e3⟩)
              case measure => simp [intOf]; omega
          · go_wp2_with (go_at_call 12; go_must (refine (lnext_any _ xs _ _ (HS.out.below HWb.out) HA0).mono ?_); rintro e w4 ⟨u, rfl, hown, hb4⟩; go_must (rw [HN.out] at hown; obtain ⟨g, capg, rfl, hg0, hg1, hgc, d0, d1⟩ := own_two hown; have hBe := HWb.out.trans (hb4.mono HWb.out.size); have hsz4 := hBe.size; have hb04 := hb4.size; obtain ⟨c0, c1, _, _, c4⟩ := HA.out w4 hBe;  clear hown))
            all_goals
              go_roundw
              case rel =>
                first
                | (obtain ⟨k', e1, e2, e3⟩ := HWn.out w4 X hb4 h20 (.inl ⟨HX.out.symm, G.out.1⟩); exact ⟨n + 1, k', c, by go_num, congrArg _ e1, e2, e3⟩)
                | (obtain ⟨k', e1, e2, e3⟩ := HWn.out w4 Y hb4 h20 (.inr ⟨by rw [G.out.2.1]; exact HY.out.symm, G.out.2.2⟩); exact ⟨n + 1, k', c, by go_num, congrArg _ e1, e2, e3⟩)
              case measure => simp [intOf]; omega
    · obtain ⟨g1, g2, g3, g4, g5, g6, g7, g8, g9⟩ := hg
      simp only at g2 g6 g7 g8 g9
      subst g2
      obtain ⟨X, hX⟩ : ∃ X, (k : Int) - d = X := ⟨_, rfl⟩
      obtain ⟨Y, hY⟩ : ∃ Y, (k : Int) + 1 = Y := ⟨_, rfl⟩
      have HN : Hid (nextA xs k = [X, Y]) := by
        show _ = _
        rw [HNx.out, ← hX, ← hY]
        unfold nextL
        rw [g4, g5, g3]
        have e1 : min ((k : Int) + -d) (k + 1) = k - d := by omega
        have e2 : max ((k : Int) + -d) (k + 1) = k + 1 := by omega
        simp only [e1, e2, if_true, Bool.true_eq_false, if_false]
        rw [if_neg (by omega)]
      have hXY : (X != Y) = true := by simp; omega
      have hYX : (Y != X) = true := by simp; omega
      have G : Hid ((⟨20, d, aa, bb, imm⟩ : In).far = -d) := g3
      obtain ⟨ck, Hck⟩ : ∃ ck, Hid (c k = ck) := ⟨_, rfl⟩
      have hckb : 0 ≤ ck ∧ ck ≤ imm := by
        have h := HW.out.cnt (lpAt xs k) (loopsU_mem.2 ⟨k, hk, by rw [HI.out], rfl⟩)
        simp only [lpAt] at h
        rw [Hck.out, HI.out] at h
        exact h
      have HRow : Hid (∀ w1, Below w0.heap.size w0 w1 → w1.cell? ⟨w3.heap.size, k, none⟩ = some (.int .i64 ck) ∧ w1.frozen? ⟨w3.heap.size, k, none⟩ = false) := fun w1 h1 => by
        have hr := HW.out.row.of_block (h1.block _ HW.out.row.lt)
        have h := hr.cell hk
        simp only [Hck.out] at h
        exact ⟨h, hr.frozen k⟩
      clear g1 g3 g4 g5
      by_cases hnt : n < ts.length
      · obtain ⟨bt, offt, rfl, hbt, hatt⟩ := HCt.out (fun h => by rw [h] at hnt; simp at hnt)
        obtain ⟨t, HTt⟩ : ∃ t, Hid (ts.getD n 0 = t) := ⟨_, rfl⟩
        have HTc : Hid (∀ w1, Below w.heap.size w w1 → w1.cell? ⟨bt, offt + n, none⟩ = some (.int .i64 t)) := fun w1 h1 => by rw [← HTt.out, h1.cell (p := ⟨bt, offt + n, none⟩) hbt]; exact hatt n hnt
        have htw := bounds_i64 (HWf.out t (by rw [← HTt.out]; exact getD_mem ts n hnt))
        clear hatt
        by_cases h4 : (t.tmod 4 != 0) = true
        case neg =>
          have h4 : (t.tmod 4 != 0) = false := by simpa using h4
          go_wp2_with (go_at_call 12; go_must (refine (lnext_any _ xs _ _ (HS.out.below HWb.out) HA0).mono ?_); rintro e w4 ⟨u, rfl, hown, hb4⟩; go_must (rw [HN.out] at hown; obtain ⟨g, capg, rfl, hg0, hg1, hgc, d0, d1⟩ := own_two hown; have hBe := HWb.out.trans (hb4.mono HWb.out.size); have hsz4 := hBe.size; have hb04 := hb4.size; have hBg : w3.heap.size < g := (by omega); obtain ⟨c0, c1, _, _, c4⟩ := HA.out w4 hBe; obtain ⟨r0, rf⟩ := HRow.out w4 hb4; have e0 := HTc.out w4 hBe; clear hown))
          all_goals
            go_region
            go_wp2
            go_roundw
            case rel =>
              obtain ⟨k', c', e1, e2, e3⟩ := HWl.out w4.drew Y 0 (below_dr hb4) (by trivial) (.inl ⟨by omega, rfl⟩)
              exact ⟨n + 1, k', c', by go_num, congrArg _ e1, e2, e3⟩
            case measure => simp [intOf]; omega
        by_cases hci : ck < imm
        case neg =>
          go_wp2_with (go_at_call 12; go_must (refine (lnext_any _ xs _ _ (HS.out.below HWb.out) HA0).mono ?_); rintro e w4 ⟨u, rfl, hown, hb4⟩; go_must (rw [HN.out] at hown; obtain ⟨g, capg, rfl, hg0, hg1, hgc, d0, d1⟩ := own_two hown; have hBe := HWb.out.trans (hb4.mono HWb.out.size); have hsz4 := hBe.size; have hb04 := hb4.size; have hBg : w3.heap.size < g := (by omega); obtain ⟨c0, c1, _, _, c4⟩ := HA.out w4 hBe; obtain ⟨r0, rf⟩ := HRow.out w4 hb4; have e0 := HTc.out w4 hBe; clear hown))
          all_goals
            go_region_held3 (fun w' => w'.cell? ⟨w3.heap.size, k, none⟩ = some (.int .i64 ck) ∧ w'.cell? ⟨b, off + k * 5 + 4, none⟩ = some (.int .i64 imm)) (exact ⟨r0, c4⟩) (fail)
            go_wp2
            go_roundw
            case rel =>
              obtain ⟨k', c', e1, e2, e3⟩ := HWl.out w4.drew Y 0 (below_dr hb4) (by trivial) (.inl ⟨by omega, rfl⟩)
              exact ⟨n + 1, k', c', by go_num, congrArg _ e1, e2, e3⟩
            case measure => simp [intOf]; omega
        go_wp2_with (go_at_call 12; go_must (refine (lnext_any _ xs _ _ (HS.out.below HWb.out) HA0).mono ?_); rintro e w4 ⟨u, rfl, hown, hb4⟩; go_must (rw [HN.out] at hown; obtain ⟨g, capg, rfl, hg0, hg1, hgc, d0, d1⟩ := own_two hown; have hBe := HWb.out.trans (hb4.mono HWb.out.size); have hsz4 := hBe.size; have hb04 := hb4.size; have hBg : w3.heap.size < g := (by omega); obtain ⟨c0, c1, _, _, c4⟩ := HA.out w4 hBe; obtain ⟨r0, rf⟩ := HRow.out w4 hb4; have e0 := HTc.out w4 hBe; clear hown))
        all_goals
          go_region_held3 (fun w' => w'.cell? ⟨w3.heap.size, k, none⟩ = some (.int .i64 ck) ∧ w'.cell? ⟨b, off + k * 5 + 4, none⟩ = some (.int .i64 imm)) (exact ⟨r0, c4⟩) (fail)
          go_wp2
          go_roundw
          case rel =>
            obtain ⟨k', c', e1, e2, e3⟩ := HWl.out w4.drew X (ck + 1) (below_dr hb4) (by trivial) (.inr ⟨by rw [G.out]; omega, by rw [Hck.out]; exact hci, by rw [Hck.out]⟩)
            exact ⟨n + 1, k', c', by go_num, congrArg _ e1, e2, e3⟩
          case measure => simp [intOf]; omega
      · go_wp2_with (go_at_call 12; go_must (refine (lnext_any _ xs _ _ (HS.out.below HWb.out) HA0).mono ?_); rintro e w4 ⟨u, rfl, hown, hb4⟩; go_must (rw [HN.out] at hown; obtain ⟨g, capg, rfl, hg0, hg1, hgc, d0, d1⟩ := own_two hown; have hBe := HWb.out.trans (hb4.mono HWb.out.size); have hsz4 := hBe.size; have hb04 := hb4.size; have hBg : w3.heap.size < g := (by omega); obtain ⟨c0, c1, _, _, c4⟩ := HA.out w4 hBe; obtain ⟨r0, rf⟩ := HRow.out w4 hb4;  clear hown))
        all_goals
          go_region
          go_wp2
          go_roundw
          case rel =>
            obtain ⟨k', c', e1, e2, e3⟩ := HWl.out w4.drew Y 0 (below_dr hb4) (by trivial) (.inl ⟨by omega, rfl⟩)
            exact ⟨n + 1, k', c', by go_num, congrArg _ e1, e2, e3⟩
          case measure => simp [intOf]; omega
    · obtain ⟨g1, g2, g3, g4, g5⟩ := hg
      have h20 : op ≠ 20 := by simp only at g2; omega
      have h20b : (op == 20) = false := by simpa using h20
      by_cases h22 : op = 22
      · have HN : Hid (nextA xs k = []) := by
          show _ = _
          rw [HNx.out]
          unfold nextL
          rw [g4, g5]
          simp [h22]
        clear g1 g2 g3 g4 g5 h22 h20 h20b
        go_wp2_with (go_at_call 12; go_must (refine (lnext_any _ xs _ _ (HS.out.below HWb.out) HA0).mono ?_); rintro e w4 ⟨u, rfl, hown, hb4⟩; go_must (rw [HN.out] at hown; obtain ⟨au, cu, ev, _⟩ := Sees.own (xs := []) hown (by simp); subst ev; have hBe := HWb.out.trans (hb4.mono HWb.out.size); clear hown))
        go_ret
        exact ⟨rb (by simp), hBe⟩
      · have HN : Hid (nextA xs k = [(k : Int) + 1]) := by
          show _ = _
          rw [HNx.out]
          unfold nextL
          rw [g4, g5]
          simp [h22]
        have G : Hid ((⟨op, d, aa, bb, imm⟩ : In).on = true) := by show _ = _; rw [g5]; simpa using h22
        clear g1 g2 g3 g4 g5 h22
        by_cases hnt : n < ts.length
        · obtain ⟨bt, offt, rfl, hbt, hatt⟩ := HCt.out (fun h => by rw [h] at hnt; simp at hnt)
          obtain ⟨t, HTt⟩ : ∃ t, Hid (ts.getD n 0 = t) := ⟨_, rfl⟩
          have HTc : Hid (∀ w1, Below w.heap.size w w1 → w1.cell? ⟨bt, offt + n, none⟩ = some (.int .i64 t)) := fun w1 h1 => by rw [← HTt.out, h1.cell (p := ⟨bt, offt + n, none⟩) hbt]; exact hatt n hnt
          have htw := bounds_i64 (HWf.out t (by rw [← HTt.out]; exact getD_mem ts n hnt))
          clear hatt
          go_wp2_with (go_at_call 12; go_must (refine (lnext_any _ xs _ _ (HS.out.below HWb.out) HA0).mono ?_); rintro e w4 ⟨u, rfl, hown, hb4⟩; go_must (rw [HN.out] at hown; obtain ⟨g, capg, rfl, hg0, hg1, hgc, d0⟩ := own_one hown; have hBe := HWb.out.trans (hb4.mono HWb.out.size); have hsz4 := hBe.size; have hb04 := hb4.size; obtain ⟨c0, c1, _, _, c4⟩ := HA.out w4 hBe; have e0 := HTc.out w4 hBe; clear hown))
          obtain ⟨k', e1, e2, e3⟩ := HWn.out w4 _ hb4 h20 (.inl ⟨rfl, G.out⟩)
          go_roundw
          case rel => exact ⟨n + 1, k', c, by go_num, congrArg _ e1, e2, e3⟩
          case measure => simp [intOf]; omega
        · go_wp2_with (go_at_call 12; go_must (refine (lnext_any _ xs _ _ (HS.out.below HWb.out) HA0).mono ?_); rintro e w4 ⟨u, rfl, hown, hb4⟩; go_must (rw [HN.out] at hown; obtain ⟨g, capg, rfl, hg0, hg1, hgc, d0⟩ := own_one hown; have hBe := HWb.out.trans (hb4.mono HWb.out.size); have hsz4 := hBe.size; have hb04 := hb4.size; obtain ⟨c0, c1, _, _, c4⟩ := HA.out w4 hBe;  clear hown))
          obtain ⟨k', e1, e2, e3⟩ := HWn.out w4 _ hb4 h20 (.inl ⟨rfl, G.out⟩)
          go_roundw
          case rel => exact ⟨n + 1, k', c, by go_num, congrArg _ e1, e2, e3⟩
          case measure => simp [intOf]; omega
end Go.Proofs.Ytfmibjgihicedaa
