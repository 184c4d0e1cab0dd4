
/-
  LruEvicts, walked. Condition: none but the arguments' reading.
-/
import Derived.Test.YtoaceadfdelgfaaW14Ps
import Derived.Test.YtoaceadfdelgfaaL14Awake
namespace Go.Proofs.Ytoaceadfdelgfaa
open Go.RowKit
set_option linter.unusedVariables false
set_option linter.unusedSimpArgs false
set_option maxRecDepth 100000

theorem lruEvicts_no (cap : Int) (sv : Value) (w : World) (hc : cap < 1 ∨ 16 < cap) :
    Calls Try.prog 4 #[.int .i64 cap, sv] w fun e w' => e = .returned (.bool true) ∧ Below w.heap.size w w' := by
  go_enter Try.func4, Try.ntmps4
  go_wp2_with (first
    | (go_at_call 7; go_must (refine (awake14_any w).mono ?_); rintro e w1 ⟨rfl, hb1⟩)
    | (go_at_call 8; go_must (refine (llnew_no cap hc w1).mono ?_); rintro e w2 ⟨rfl, rfl⟩))
  go_ret
  exact ⟨rfl, hb1⟩
theorem lunew_as (n : Nat) (h1 : 1 ≤ n) (h2 : n ≤ 16) {C : Int} (HC : Hid (C = (n : Int))) (w : World) : Calls Try.prog 8 #[.int .i64 C] w fun e w' => ∃ l F, e = .returned (.tuple #[.pointer (some ⟨l, 0, none⟩), .int .i64 0]) ∧ Lu w' w.heap.size l n [] [] F ∧ Since w F ∧ Below w.heap.size w w' := by
  rw [HC.out]
  exact lunew_ok n h1 h2 w
set_option maxHeartbeats 16000000 in
theorem lruEvicts_ok (n : Nat) (h1 : 1 ≤ n) (h2 : n ≤ 16) (C : Int) (HC : Hid (C = (n : Int))) (sv : Value) (ds : List Dc) (w : World) (hs : SeesG dcC 3 Dc.nil w sv ds) (hlen : ds.length ≤ 4611686018427387904) :
    Calls Try.prog 4 #[.int .i64 C, sv] w fun e w' => e = .returned (.bool true) ∧ Below w.heap.size w w' := by
  obtain ⟨i0, hi0, hz0, hzs, hzb⟩ := info_parts infoU14
  have HSS : Hid (∀ wr, Below w.heap.size w wr → SeesG dcC 3 Dc.nil wr sv ds) := fun wr hb => hs.below hb (Nat.le_refl _)
  obtain ⟨a, c, rfl, hc, hm, _, _⟩ := hs
  have hm' : c ≤ 9223372036854775807 := by unfold maxLen at hm; omega
  go_enter Try.func4, Try.ntmps4
  go_wp2_with (first
    | (go_at_call 7; go_must (refine (awake14_any w).mono ?_); rintro e w1 ⟨rfl, hb1⟩)
    | (go_at_call 8; go_must (refine (lunew_as n h1 h2 HC w1).mono ?_); rintro e w2 ⟨l, F, rfl, hL2, hs2, hb2⟩; go_must (have HT2 := keepG (Ps.new h1 hb1 hL2 hb2.size hs2 hb2 h2); clear hL2 hs2)))
  go_loopw [7] (fun i wr => ∃ j : Nat, j ≤ ds.length ∧ i = .int .i64 j ∧ ∃ S R F, Hid (Ps w wr l n S R F)) (fun i _ => ds.length - (intOf i).toNat)
  case atStart => exact ⟨0, by omega, rfl, [], [], F, HT2.out⟩
  case round =>
    obtain ⟨j, hj, rfl, S, R, F1, HT⟩ := hrel
    have hRn : R.length ≤ n := by
      have := HT.out.inv.length
      have := HT.out.inv.len
      omega
    by_cases hno : j < ds.length ∧ j < 3000
    · obtain ⟨hlt, h3000⟩ := hno
      have hltI : (j : Int) < ds.length := by omega
      have h3I : (j : Int) < 3000 := by omega
      have hcells : ∃ g off, a = some ⟨g, off, none⟩ ∧ wr.cell? ⟨g, off + j * 3, none⟩ = some (.int .i64 (ds.getD j Dc.nil).op) ∧ wr.cell? ⟨g, off + j * 3 + 1, none⟩ = some (.int .u64 (ds.getD j Dc.nil).k) ∧ wr.cell? ⟨g, off + j * 3 + 2, none⟩ = some (.int .u64 (ds.getD j Dc.nil).v) := by
        obtain ⟨a', c', ev, _, _, _, hcell⟩ := HSS.out wr HT.out.be
        simp only [Value.slice.injEq, true_and] at ev
        obtain ⟨rfl, rfl⟩ := ev
        obtain ⟨g, off, rfl, hg, hat⟩ := hcell (fun e => by rw [e] at hlt; simp at hlt)
        exact ⟨g, off, rfl, hat j hlt 0 (by omega), hat j hlt 1 (by omega), hat j hlt 2 (by omega)⟩
      obtain ⟨g, off, rfl, d0, d1, d2⟩ := hcells
      obtain ⟨⟨op, key, val⟩, HDD⟩ : ∃ d, Hid (ds.getD j Dc.nil = d) := ⟨_, rfl⟩
      rw [HDD.out] at d0 d1 d2
      simp only at d0 d1 d2
      obtain ⟨X, HX, hbX, hpX⟩ : ∃ X, Hid (wr.alloc (.cells #[.int .i64 op, .int .u64 key, .int .u64 val] 38) = X) ∧ Below wr.heap.size wr X ∧ Hid (Hp X wr.heap.size 38 (dcC ⟨op, key, val⟩)) := ⟨_, rfl, below_allocG _ _, Hp.new wr (dcC ⟨op, key, val⟩) _⟩
      have HTX := keepG (HT.out.below hbX)
      obtain ⟨na, HN⟩ : ∃ na, Hid (atI key R = na) := ⟨_, rfl⟩
      have hmem : decide (na ≥ 0) = decide (key ∈ R) := by rw [← HN.out]; exact decide_eq_decide.2 (atI_has key R)
      have hev := evA_iff HT.out.inv op key
      have htc := tchA_iff HT.out.inv op key
      have hord : (doA n S R op key val).2.2 = ordA n S R op key := rfl
      unfold ordA at hord
      have hzX := hpX.out.lt
      by_cases hop : op = 2
      · by_cases hin : key ∈ R
        · skip
          as_aux_lemma =>
            have hna : decide (na ≥ 0) = true := by rw [hmem]; exact decide_eq_true hin
            have hev2 : evA n S op key = false := by rw [hev]; simp [hop, hin]
            have htc2 : tchA S op key = true := by rw [htc]; simp [hop, hin]
            rw [htc2] at hord
            simp only [if_true] at hord
            have hout := out_no (R := R) hev2
            obtain ⟨E, f, x, S', R', HA⟩ : ∃ E f x S' R', Hid (doA n S R op key val = (⟨E, f, x, false, 0, 0⟩, S', R')) := doA_no hev2 val
            rw [hout] at hord
            clear hout
            rw [HA.out] at hord
            have HRR := keepG hord
            have hWl : R.length ≤ 16 := by omega
            clear hord hev htc hmem hev2 htc2 hin
            obtain rfl : op = 2 := hop
            have PX : True := trivial
            go_wp2_with (first
              | (go_at_call 15; have hq := PX; clear hq; rw [HX.out]; go_must (refine HTX.out.order.mono ?_); rintro e w4 ⟨u4, rfl, ho4, hb4⟩; go_must (have HT4 := keepG (HTX.out.below hb4); have HW4 := keepG ho4; have HP4 := keepG (hpX.out.below hb4 hzX); have HAP := keepG (Apt.made HTX.out.lies (own_since ho4 (Nat.le_refl _))); obtain ⟨ra, rc, rfl⟩ := own_shape ho4; have p0 := HP4.out.cell (j := 0) rfl; have p1 := HP4.out.cell (j := 1) rfl; have p2 := HP4.out.cell (j := 2) rfl; clear ho4 PX))
              | (go_at_call 20; go_must (refine (wat_any key (own_seesG uC_len 0 HW4.out) HN).mono ?_); rintro e w9 ⟨rfl, rfl⟩)
              | (go_at_call 11; go_must (refine (HT4.out.do HA).mono ?_); rintro e w5 ⟨rfl, F5, ht5, hx5, hk5⟩; go_must (have HW5 := keepG (own_keeps HW4.out hx5.chg HAP.out); have HP5 := keepG (hk5 _ _ _ (.inl rfl) HP4.out); obtain ⟨Y, HY, hbY, HpY⟩ : ∃ Y, Hid (w5.alloc (.cells #[.int .i64 E, .bool f, .int .u64 x, .bool false, .int .u64 0, .int .u64 0] 40) = Y) ∧ Below w5.heap.size w5 Y ∧ Hid (Hp Y w5.heap.size 40 (resCG E f x false 0 0)) := ⟨_, rfl, below_allocG _ _, Hp.new w5 (resCG E f x false 0 0) _⟩; have HTY := keepG (ht5.below hbY); have HPY := keepG (HP5.out.below hbY HP5.out.lt); have HWY := keepG (own_below HW5.out hbY (Nat.le_refl _)); clear ht5 hx5 hk5 p0 p1 p2))
              | (go_at_call 15; rw [HY.out]; go_must (refine HTY.out.order.mono ?_); rintro e w6 ⟨u6, rfl, ho6, hb6⟩; go_must (have HT6 := keepG (HTY.out.below hb6); have HO6 := keepG ho6; have HW6 := keepG (own_below HWY.out hb6 (Nat.le_refl _)); have HP6 := keepG (HPY.out.below hb6 HPY.out.lt); have HR6 := keepG (HpY.out.below hb6 HpY.out.lt); obtain ⟨d6, y6, hl6, HL6⟩ := HT6.out.inner; have HL := keepG HT6.out.inv.length; have hRn6 : R'.length ≤ n := (by have h8 := HT6.out.inv.len; have h9 := HL.out; omega); have hRn6I : ¬ C < R'.length := (by rw [HC.out]; omega); obtain ⟨oa, oc, rfl⟩ := own_shape ho6; have p0 := HP6.out.cell (j := 0) rfl; have p1 := HP6.out.cell (j := 1) rfl; have p2 := HP6.out.cell (j := 2) rfl; have r3 := HR6.out.cell (j := 3) rfl; have r4 := HR6.out.cell (j := 4) rfl; have r5 := HR6.out.cell (j := 5) rfl; clear ho6))
              | (go_at_call 13; go_must (refine (HL6.out w6 (Below.refl _ _)).1.mono ?_); rintro e w9 ⟨rfl, rfl⟩; go_must (rw [← HL.out])))
            have HWS : Hid (∀ wx, Below w6.heap.size w6 wx → SeesG uC 1 0 wx (.slice ra R.length rc) R) := fun wx hb => (own_seesG uC_len 0 HW6.out).below hb (Nat.le_refl _)
            have hl6 := HP6.out.lt
            go_loopw [14, 15] (fun rv i wx => ∃ k : Nat, k ≤ R.length ∧ i = .int .i64 k ∧ Hid (wx.ownsRow w6.heap.size 36 1 rv (fgt key (R.take k)).length (flatG uC (fgt key (R.take k)))) ∧ Below w6.heap.size w6 wx) (fun _ i _ => R.length - (intOf i).toNat)
            case atStart => exact ⟨0, by omega, rfl, World.ownsRow_nil _ _ _ _, Below.refl _ _⟩
            case round =>
              obtain ⟨k, hk, rfl, HA9, hb9⟩ := hrel
              rename World => wx
              have hz9 := hb9.size
              have HP9 := keepG (HP6.out.below hb9 hl6)
              have p0 := HP9.out.cell (j := 0) rfl
              have p1 := HP9.out.cell (j := 1) rfl
              obtain ⟨xa, xc, ev⟩ := own_shape HA9.out
              subst ev
              by_cases hlt9 : k < R.length
              · have hlt9I : (k : Int) < R.length := by omega
                have hltW : k < R.length := by omega
                obtain ⟨a', c', ev, _, _, _, hcell⟩ := HWS.out _ hb9
                simp only [Value.slice.injEq, true_and] at ev
                obtain ⟨rfl, rfl⟩ := ev
                obtain ⟨gb, ob, rfl, hgb, hat9⟩ := hcell (fun e => by rw [e] at hltW; simp at hltW)
                skip
                skip
                skip
                have dk := hat9 k hltW 0 (by omega)
                simp only [List.getElem?_cons_zero, Nat.add_zero, Nat.mul_one, Nat.zero_add] at dk
                have HM9 : Hid (fgt key (R.take (k + 1)) = fgt key (R.take k) ++ (if decide (R.getD k 0 ≠ key) = true then [R.getD k 0] else [])) := filter_moreI (p := fun k => decide (k ≠ key)) hltW
                clear hat9 hcell
                obtain ⟨y, HYY⟩ : ∃ y, Hid (R.getD k 0 = y) := ⟨_, rfl⟩
                rw [HYY.out] at dk HM9
                obtain ⟨N, HNN⟩ : ∃ N, Hid (fgt key (R.take k) = N) := ⟨_, rfl⟩
                have hNl : N.length ≤ 16 := by
                  rw [← HNN.out]
                  have h1 := List.length_filter_le (fun k => decide (k ≠ key)) (R.take k)
                  have h2 := List.length_take_le k R
                  unfold fgt
                  omega
                rw [HNN.out] at HA9 HM9 ⊢
                go_wp2
                refine wp_region_held_drew (S := fun w' => w'.cell? ⟨gb, ob + k, none⟩ = some (.int .u64 y) ∧ w'.cell? ⟨wr.heap.size, 1, none⟩ = some (.int .u64 key)) (by kernel_rfl) ⟨dk, p1⟩ (fun hHeld => ?_)
                refine wpAnyH_take (i := 0) (v := ?v3) rfl (by kernel_rfl) (by kernel_rfl) (by kernel_rfl) (fun _ _ _ h => h) (Or.inl ⟨by rfl, ?hy3⟩) (by assumption) ?rest3
                case hy3 => (intro wy hSw; (try dsimp only at hSw); go_simp; (first | done | with_reducible rfl))
                try simp only [Act.put, List.getElem_toArray, List.getElem_cons_zero, List.getElem_cons_succ, List.setIfInBounds_toArray, List.set_cons_zero, List.set_cons_succ]
                refine wpAnyH_take (i := 1) (v := ?v4) rfl (by kernel_rfl) (by kernel_rfl) (by kernel_rfl) (fun _ _ _ h => h) (Or.inl ⟨by rfl, ?hy4⟩) (by assumption) ?rest4
                case hy4 => (intro wy hSw; (try dsimp only at hSw); go_simp; (first | done | with_reducible rfl))
                try simp only [Act.put, List.getElem_toArray, List.getElem_cons_zero, List.getElem_cons_succ, List.setIfInBounds_toArray, List.set_cons_zero, List.set_cons_succ]
                refine wpAnyH_take (i := 2) (v := ?v5) rfl (by kernel_rfl) (by kernel_rfl) (by kernel_rfl) (fun _ _ _ h => h) (Or.inl ⟨by rfl, ?hy5⟩) (by assumption) ?rest5
                case hy5 => (intro wy hSw; (try dsimp only at hSw); go_simp; (first | done | with_reducible rfl))
                try simp only [Act.put, List.getElem_toArray, List.getElem_cons_zero, List.getElem_cons_succ, List.setIfInBounds_toArray, List.set_cons_zero, List.set_cons_succ]
                refine wpAnyH_take (i := 3) (v := ?v6) rfl (by kernel_rfl) (by kernel_rfl) (by kernel_rfl) (fun _ _ _ h => h) (Or.inl ⟨by rfl, ?hy6⟩) (by assumption) ?rest6
                case hy6 => (intro wy hSw; (try dsimp only at hSw); go_simp; (first | done | with_reducible rfl))
                try simp only [Act.put, List.getElem_toArray, List.getElem_cons_zero, List.getElem_cons_succ, List.setIfInBounds_toArray, List.set_cons_zero, List.set_cons_succ]
                refine wpAnyH_take (i := 4) (v := ?v7) rfl (by kernel_rfl) (by kernel_rfl) (by kernel_rfl) (fun _ _ _ h => h) (Or.inl ⟨by rfl, ?hy7⟩) (by assumption) ?rest7
                case hy7 => (intro wy hSw; (try dsimp only at hSw); go_simp; (first | done | with_reducible rfl))
                try simp only [Act.put, List.getElem_toArray, List.getElem_cons_zero, List.getElem_cons_succ, List.setIfInBounds_toArray, List.set_cons_zero, List.set_cons_succ]
                refine wpAnyH_take (i := 5) (v := ?v8) rfl (by kernel_rfl) (by kernel_rfl) (by kernel_rfl) (fun _ _ _ h => h) (Or.inl ⟨by rfl, ?hy8⟩) (by assumption) ?rest8
                case hy8 => (intro wy hSw; (try dsimp only at hSw); go_simp; (first | done | with_reducible rfl))
                try simp only [Act.put, List.getElem_toArray, List.getElem_cons_zero, List.getElem_cons_succ, List.setIfInBounds_toArray, List.set_cons_zero, List.set_cons_succ]
                refine wpAnyH_take (i := 6) (v := ?v9) rfl (by kernel_rfl) (by kernel_rfl) (by kernel_rfl) (fun _ _ _ h => h) (Or.inl ⟨by rfl, ?hy9⟩) (by assumption) ?rest9
                case hy9 => (intro wy hSw; (try dsimp only at hSw); go_simp; (first | done | with_reducible rfl))
                try simp only [Act.put, List.getElem_toArray, List.getElem_cons_zero, List.getElem_cons_succ, List.setIfInBounds_toArray, List.set_cons_zero, List.set_cons_succ]
                refine wpAnyH_done (by kernel_rfl) ?_ _
                by_cases he9 : y = key
                · have heb : (y == key) = true := by simpa using he9
                  rw [if_neg (by simpa using he9), List.append_nil] at HM9
                  clear he9
                  go_wp2
                  go_roundw
                  case rel => exact ⟨k + 1, by omega, by go_num, by rw [HM9.out]; exact HA9.out, below_drG hb9⟩
                  case measure => simp [intOf]; omega
                · have heb : (y == key) = false := by simpa using he9
                  rw [if_pos (by simpa using he9)] at HM9
                  clear he9
                  go_wp2_with (at_builtin; go_must (refine wpList_append_own_at _ rfl (.tmp 146) (.tmp 151) 33 rfl w6.heap.size 36 i0 _ 1 8 Try.underlying33 hi0 hz0 hzs hzb rfl (by decide) (.slice xa N.length xc) N.length (flatG uC N) rfl (own_drewG (HA9.out.alloc _)) ⟨_, 0, none⟩ 1 1 (uC y) rfl rfl (cells_newD wx (uC y) _ _ rfl) (uC_one y) (by unfold maxLen; omega) (by omega) (by simp; omega) ?_); intro v1 w7 hown hgr _ hnew; go_must (have HOW : Hid _ := own_moreG hown; have hb7 : Below w6.heap.size w6 w7 := hb9.trans ((chg_append (grown_undrew hgr)).below (fun k e => (HA9.out.lt k e).1) hz9); clear hown hgr hnew; obtain ⟨va1, vc1, rfl⟩ := own_shape HOW.out))
                  have eN : (N ++ [y]).length = N.length + 1 := by simp
                  go_roundw
                  case rel => exact ⟨k + 1, by omega, by go_num, by have hh := HOW.out; rw [HM9.out]; show World.ownsRow _ _ _ _ _ _ _; rw [eN] at hh ⊢; exact hh, hb7⟩
                  case measure => simp [intOf]; omega
              · have hlt9I : ¬ (k : Int) < R.length := by omega
                have hTT : R.take k = R := List.take_of_length_le (by omega)
                obtain ⟨T, HTT⟩ : ∃ T, Hid (fgt key (R.take k) = T) := ⟨_, rfl⟩
                rw [HTT.out] at HA9 ⊢
                rw [hTT] at HTT
                clear hTT
                have hTl : T.length ≤ 16 := by
                  rw [← HTT.out]
                  have h1 := List.length_filter_le (fun k => decide (k ≠ key)) R
                  unfold fgt
                  omega
                rw [HTT.out] at HRR
                obtain ⟨v8, w8, hr8, ho8, hg8, _⟩ := run_append_seesG (f := uC) (d := (0 : Int)) (P := Try.prog) (wx.alloc (.cells #[.int .u64 key] 36)) w6.heap.size 33 33 36 i0 _ 1 8 Try.underlying33 hi0 hz0 hzs hzb rfl (by decide) (.slice (some ⟨wx.heap.size, 0, none⟩) 1 1) 1 [.int .u64 key] (own_lowG (own_litU wx key) hz9) uC_len ((own_seesG uC_len 0 HA9.out).alloc _) (flat_oneU T) (by unfold maxLen; omega) (by omega) (by simp; omega)
                have hb8 : Below w6.heap.size w6 w8 := hb9.trans ((chg_append hg8).below (fun k e => by have h9 : wx.heap.size = k := Option.some.inj e; omega) hz9)
                obtain ⟨va8, vc8, rfl⟩ := own_shape ho8
                have HS8 : Hid (SeesG uC 1 0 w8 (.slice va8 (1 + T.length) vc8) R') := by
                  have e9 : 1 + T.length = R'.length := by rw [HRR.out]; simp; omega
                  have h9 : w8.ownsRow w6.heap.size 36 1 (.slice va8 (1 + T.length) vc8) R'.length (flatG uC R') := by
                    rw [← e9, HRR.out]
                    exact ho8
                  exact own_seesG uC_len 0 h9
                have HO8 : Hid (SeesG uC 1 0 w8 (.slice oa R'.length oc) R') := (own_seesG uC_len 0 HO6.out).below hb8 (Nat.le_refl _)
                have HR8 := keepG hr8
                clear hr8 ho8 hg8
                go_wp2_with (first
                  | (at_builtin; go_must (refine wpList_appG _ rfl (.tmp 164) (.tmp 165) 33 33 rfl _ _ rfl rfl HR8.out ?_))
                  | (go_at_call 14; go_must (refine (wnums_same HO8.out HS8.out).mono ?_); rintro e wz ⟨rfl, mz, rfl⟩))
                have HTE := keepG (HT6.out.below (w' := w8.drewN mz) ⟨hb8.os, hb8.tape, hb8.output, hb8.size, hb8.block⟩)
                go_roundw
                case rel => exact ⟨j + 1, by omega, by go_num, S', R', F5, HTE.out⟩
                case measure => simp [intOf]; omega
        · by_cases hfull : R.length = n
          · skip
            as_aux_lemma =>
              have hna : decide (na ≥ 0) = false := by rw [hmem]; exact decide_eq_false hin
              have hev2 : evA n S op key = true := by rw [hev]; simp [hop, hin, hfull]
              have htc2 : tchA S op key = true := by rw [htc]; simp [hop, hin]
              have hfb : ((R.length : Int) == C) = true := by rw [HC.out]; simp; omega
              have hCR : (R.length : Int) = C := by simpa using hfb
              rw [htc2] at hord
              simp only [if_true] at hord
              obtain ⟨hR0, -, hlast, hout⟩ := out_ev HT.out.inv hev2
              obtain ⟨E, f, x, uu, S', R', HA⟩ : ∃ E f x u S' R', Hid (doA n S R op key val = (⟨E, f, x, true, lastR R, u⟩, S', R')) := doA_ev hev2 val
              obtain ⟨kk, HKK⟩ : ∃ kk, Hid (lastR R = kk) := ⟨_, rfl⟩
              rw [HKK.out] at HA hlast
              have HLK : Hid (R.getD (R.length - 1) 0 = kk) := hlast.symm
              obtain ⟨W, HW⟩ : ∃ W, Hid (R.dropLast = W) := ⟨_, rfl⟩
              rw [hout, HW.out] at hord
              obtain ⟨m, HM⟩ : ∃ m, Hid (R.length - 1 = m) := ⟨_, rfl⟩
              have HWL : Hid (W.length = m) := by show _ = _; rw [← HW.out, ← HM.out]; exact List.length_dropLast
              have hm1 : m < R.length := by rw [← HM.out]; omega
              have hm1I : (m : Int) < C := by omega
              have hwr : IntKind.i64.wrap (C - 1) = (m : Int) := by rw [IntKind.wrap_i64, ← HM.out]; omega
              rw [HM.out] at HLK
              clear hlast hout
              rw [HA.out] at hord
              have HRR := keepG hord
              have hWl : W.length ≤ 16 := by rw [HWL.out]; omega
              clear hord hev htc hmem hev2 htc2 hfull hin
              obtain rfl : op = 2 := hop
              have PX : True := trivial
              go_wp2_with (first
                | (go_at_call 15; have hq := PX; clear hq; rw [HX.out]; go_must (refine HTX.out.order.mono ?_); rintro e w4 ⟨u4, rfl, ho4, hb4⟩; go_must (have HT4 := keepG (HTX.out.below hb4); have HW4 := keepG ho4; have HP4 := keepG (hpX.out.below hb4 hzX); have HAP := keepG (Apt.made HTX.out.lies (own_since ho4 (Nat.le_refl _))); obtain ⟨ra, rc, rfl⟩ := own_shape ho4; have p0 := HP4.out.cell (j := 0) rfl; have p1 := HP4.out.cell (j := 1) rfl; have p2 := HP4.out.cell (j := 2) rfl; clear ho4 PX))
                | (go_at_call 20; go_must (refine (wat_any key (own_seesG uC_len 0 HW4.out) HN).mono ?_); rintro e w9 ⟨rfl, rfl⟩)
                | (go_at_call 11; go_must (refine (HT4.out.do HA).mono ?_); rintro e w5 ⟨rfl, F5, ht5, hx5, hk5⟩; go_must (have HW5 := keepG (own_keeps HW4.out hx5.chg HAP.out); have HP5 := keepG (hk5 _ _ _ (.inl rfl) HP4.out); obtain ⟨Y, HY, hbY, HpY⟩ : ∃ Y, Hid (w5.alloc (.cells #[.int .i64 E, .bool f, .int .u64 x, .bool true, .int .u64 kk, .int .u64 uu] 40) = Y) ∧ Below w5.heap.size w5 Y ∧ Hid (Hp Y w5.heap.size 40 (resCG E f x true kk uu)) := ⟨_, rfl, below_allocG _ _, Hp.new w5 (resCG E f x true kk uu) _⟩; have HTY := keepG (ht5.below hbY); have HPY := keepG (HP5.out.below hbY HP5.out.lt); have HWY := keepG (own_below HW5.out hbY (Nat.le_refl _)); clear ht5 hx5 hk5 p0 p1 p2))
                | (go_at_call 15; rw [HY.out]; go_must (refine HTY.out.order.mono ?_); rintro e w6 ⟨u6, rfl, ho6, hb6⟩; go_must (have HT6 := keepG (HTY.out.below hb6); have HO6 := keepG ho6; have HW6 := keepG (own_below HWY.out hb6 (Nat.le_refl _)); have HP6 := keepG (HPY.out.below hb6 HPY.out.lt); have HR6 := keepG (HpY.out.below hb6 HpY.out.lt); obtain ⟨d6, y6, hl6, HL6⟩ := HT6.out.inner; have HL := keepG HT6.out.inv.length; have hRn6 : R'.length ≤ n := (by have h8 := HT6.out.inv.len; have h9 := HL.out; omega); have hRn6I : ¬ C < R'.length := (by rw [HC.out]; omega); obtain ⟨oa, oc, rfl⟩ := own_shape ho6; have p0 := HP6.out.cell (j := 0) rfl; have p1 := HP6.out.cell (j := 1) rfl; have p2 := HP6.out.cell (j := 2) rfl; have r3 := HR6.out.cell (j := 3) rfl; have r4 := HR6.out.cell (j := 4) rfl; have r5 := HR6.out.cell (j := 5) rfl; clear ho6))
                | (go_at_call 13; go_must (refine (HL6.out w6 (Below.refl _ _)).1.mono ?_); rintro e w9 ⟨rfl, rfl⟩; go_must (rw [← HL.out])))
              obtain ⟨ga, ca, ev9, _, hga, hnc, _, hat9⟩ := own_atG uC_len 0 HW6.out hR0
              simp only [Value.slice.injEq, true_and] at ev9
              obtain ⟨rfl, rfl⟩ := ev9
              have dl := (hat9 m hm1 0 (by omega)).1
              simp only [List.getElem?_cons_zero, Nat.add_zero, Nat.mul_one] at dl
              rw [HLK.out] at dl
              clear hat9
              have hsl : ∀ wx, (Instr.slice 33 (.slice (some ⟨ga, 0, none⟩) R.length rc) none (some (.int .i64 (m : Int))) none).run Try.prog wx = .ok (.slice (some ⟨ga, 0, none⟩) m rc) wx := fun wx => run_uptoZ (z := 1) Try.underlying33 (fun w => by kernel_rfl) ga 0 R.length rc m (by omega) wx
              have HWS : Hid (∀ wx, Below w6.heap.size w6 wx → SeesG uC 1 0 wx (.slice (some ⟨ga, 0, none⟩) m rc) W) := fun wx hb => by
                have h9 := (own_seesG uC_len 0 HW6.out).dropLast
                rw [HW.out, HWL.out] at h9
                exact h9.below hb (Nat.le_refl _)
              refine wp_region_held_drew (S := fun w' => w'.cell? ⟨w5.heap.size, 4, none⟩ = some (.int .u64 kk) ∧ w'.cell? ⟨ga, m, none⟩ = some (.int .u64 kk)) (by kernel_rfl) ⟨r4, dl⟩ (fun hHeld => ?_)
              refine wpAnyH_take (i := 0) (v := ?v10) rfl (by kernel_rfl) (by kernel_rfl) (by kernel_rfl) (fun _ _ _ h => h) (Or.inl ⟨by rfl, ?hy10⟩) (by assumption) ?rest10
              case hy10 => (intro wy hSw; (try dsimp only at hSw); go_simp; (first | done | with_reducible rfl))
              try simp only [Act.put, List.getElem_toArray, List.getElem_cons_zero, List.getElem_cons_succ, List.setIfInBounds_toArray, List.set_cons_zero, List.set_cons_succ]
              refine wpAnyH_take (i := 1) (v := ?v11) rfl (by kernel_rfl) (by kernel_rfl) (by kernel_rfl) (fun _ _ _ h => h) (Or.inl ⟨by rfl, ?hy11⟩) (by assumption) ?rest11
              case hy11 => (intro wy hSw; (try dsimp only at hSw); go_simp; (first | done | with_reducible rfl))
              try simp only [Act.put, List.getElem_toArray, List.getElem_cons_zero, List.getElem_cons_succ, List.setIfInBounds_toArray, List.set_cons_zero, List.set_cons_succ]
              refine wpAnyH_take (i := 2) (v := ?v12) rfl (by kernel_rfl) (by kernel_rfl) (by kernel_rfl) (fun _ _ _ h => h) (Or.inl ⟨by rfl, ?hy12⟩) (by assumption) ?rest12
              case hy12 => (intro wy hSw; (try dsimp only at hSw); go_simp; (first | done | with_reducible rfl))
              try simp only [Act.put, List.getElem_toArray, List.getElem_cons_zero, List.getElem_cons_succ, List.setIfInBounds_toArray, List.set_cons_zero, List.set_cons_succ]
              refine wpAnyH_take (i := 3) (v := ?v13) rfl (by kernel_rfl) (by kernel_rfl) (by kernel_rfl) (fun _ _ _ h => h) (Or.inl ⟨by rfl, ?hy13⟩) (by assumption) ?rest13
              case hy13 => (intro wy hSw; (try dsimp only at hSw); go_simp; (first | done | with_reducible rfl))
              try simp only [Act.put, List.getElem_toArray, List.getElem_cons_zero, List.getElem_cons_succ, List.setIfInBounds_toArray, List.set_cons_zero, List.set_cons_succ]
              refine wpAnyH_take (i := 4) (v := ?v14) rfl (by kernel_rfl) (by kernel_rfl) (by kernel_rfl) (fun _ _ _ h => h) (Or.inl ⟨by rfl, ?hy14⟩) (by assumption) ?rest14
              case hy14 => (intro wy hSw; (try dsimp only at hSw); go_simp; (first | done | with_reducible rfl))
              try simp only [Act.put, List.getElem_toArray, List.getElem_cons_zero, List.getElem_cons_succ, List.setIfInBounds_toArray, List.set_cons_zero, List.set_cons_succ]
              refine wpAnyH_take (i := 5) (v := ?v15) rfl (by kernel_rfl) (by kernel_rfl) (by kernel_rfl) (fun _ _ _ h => h) (Or.inl ⟨by rfl, ?hy15⟩) (by assumption) ?rest15
              case hy15 => (intro wy hSw; (try dsimp only at hSw); go_simp; (first | done | with_reducible rfl))
              try simp only [Act.put, List.getElem_toArray, List.getElem_cons_zero, List.getElem_cons_succ, List.setIfInBounds_toArray, List.set_cons_zero, List.set_cons_succ]
              refine wpAnyH_take (i := 6) (v := ?v16) rfl (by kernel_rfl) (by kernel_rfl) (by kernel_rfl) (fun _ _ _ h => h) (Or.inl ⟨by rfl, ?hy16⟩) (by assumption) ?rest16
              case hy16 => (intro wy hSw; (try dsimp only at hSw); go_simp; (first | done | with_reducible rfl))
              try simp only [Act.put, List.getElem_toArray, List.getElem_cons_zero, List.getElem_cons_succ, List.setIfInBounds_toArray, List.set_cons_zero, List.set_cons_succ]
              refine wpAnyH_take (i := 7) (v := ?v17) rfl (by kernel_rfl) (by kernel_rfl) (by kernel_rfl) (fun _ _ _ h => h) (Or.inl ⟨by rfl, ?hy17⟩) (by assumption) ?rest17
              case hy17 => (intro wy hSw; (try dsimp only at hSw); go_simp; (first | done | with_reducible rfl))
              try simp only [Act.put, List.getElem_toArray, List.getElem_cons_zero, List.getElem_cons_succ, List.setIfInBounds_toArray, List.set_cons_zero, List.set_cons_succ]
              refine wpAnyH_take (i := 8) (v := ?v18) rfl (by kernel_rfl) (by kernel_rfl) (by kernel_rfl) (fun _ _ _ h => h) (Or.inl ⟨by rfl, ?hy18⟩) (by assumption) ?rest18
              case hy18 => (intro wy hSw; (try dsimp only at hSw); go_simp; (first | done | with_reducible rfl))
              try simp only [Act.put, List.getElem_toArray, List.getElem_cons_zero, List.getElem_cons_succ, List.setIfInBounds_toArray, List.set_cons_zero, List.set_cons_succ]
              refine wpAnyH_done (by kernel_rfl) ?_ _
              go_wp2_with (rw [hsl])
              have hl6 := HP6.out.lt
              go_loopw [14, 15] (fun rv i wx => ∃ k : Nat, k ≤ m ∧ i = .int .i64 k ∧ Hid (wx.ownsRow w6.heap.size 36 1 rv (fgt key (W.take k)).length (flatG uC (fgt key (W.take k)))) ∧ Below w6.heap.size w6 wx) (fun _ i _ => m - (intOf i).toNat)
              case atStart => exact ⟨0, by omega, rfl, World.ownsRow_nil _ _ _ _, below_drG (Below.refl _ _)⟩
              case round =>
                obtain ⟨k, hk, rfl, HA9, hb9⟩ := hrel
                rename World => wx
                have hz9 := hb9.size
                have HP9 := keepG (HP6.out.below hb9 hl6)
                have p0 := HP9.out.cell (j := 0) rfl
                have p1 := HP9.out.cell (j := 1) rfl
                obtain ⟨xa, xc, ev⟩ := own_shape HA9.out
                subst ev
                by_cases hlt9 : k < m
                · have hlt9I : (k : Int) < m := by omega
                  have hltW : k < W.length := by have := HWL.out; omega
                  obtain ⟨a', c', ev, _, _, _, hcell⟩ := HWS.out _ hb9
                  simp only [Value.slice.injEq] at ev
                  obtain ⟨rfl, -, rfl⟩ := ev
                  obtain ⟨gb, ob, ew, hgb, hat9⟩ := hcell (fun e => by rw [e] at hltW; simp at hltW)
                  have ew := Option.some.inj ew
                  simp only [Addr.mk.injEq, true_and, and_true] at ew
                  obtain ⟨rfl, rfl⟩ := ew
                  have dk := hat9 k hltW 0 (by omega)
                  simp only [List.getElem?_cons_zero, Nat.add_zero, Nat.mul_one, Nat.zero_add] at dk
                  have HM9 : Hid (fgt key (W.take (k + 1)) = fgt key (W.take k) ++ (if decide (W.getD k 0 ≠ key) = true then [W.getD k 0] else [])) := filter_moreI (p := fun k => decide (k ≠ key)) hltW
                  clear hat9 hcell
                  obtain ⟨y, HYY⟩ : ∃ y, Hid (W.getD k 0 = y) := ⟨_, rfl⟩
                  rw [HYY.out] at dk HM9
                  obtain ⟨N, HNN⟩ : ∃ N, Hid (fgt key (W.take k) = N) := ⟨_, rfl⟩
                  have hNl : N.length ≤ 16 := by
                    rw [← HNN.out]
                    have h1 := List.length_filter_le (fun k => decide (k ≠ key)) (W.take k)
                    have h2 := List.length_take_le k W
                    unfold fgt
                    omega
                  rw [HNN.out] at HA9 HM9 ⊢
                  go_wp2
                  refine wp_region_held_drew (S := fun w' => w'.cell? ⟨ga, k, none⟩ = some (.int .u64 y) ∧ w'.cell? ⟨wr.heap.size, 1, none⟩ = some (.int .u64 key)) (by kernel_rfl) ⟨dk, p1⟩ (fun hHeld => ?_)
                  refine wpAnyH_take (i := 0) (v := ?v19) rfl (by kernel_rfl) (by kernel_rfl) (by kernel_rfl) (fun _ _ _ h => h) (Or.inl ⟨by rfl, ?hy19⟩) (by assumption) ?rest19
                  case hy19 => (intro wy hSw; (try dsimp only at hSw); go_simp; (first | done | with_reducible rfl))
                  try simp only [Act.put, List.getElem_toArray, List.getElem_cons_zero, List.getElem_cons_succ, List.setIfInBounds_toArray, List.set_cons_zero, List.set_cons_succ]
                  refine wpAnyH_take (i := 1) (v := ?v20) rfl (by kernel_rfl) (by kernel_rfl) (by kernel_rfl) (fun _ _ _ h => h) (Or.inl ⟨by rfl, ?hy20⟩) (by assumption) ?rest20
                  case hy20 => (intro wy hSw; (try dsimp only at hSw); go_simp; (first | done | with_reducible rfl))
                  try simp only [Act.put, List.getElem_toArray, List.getElem_cons_zero, List.getElem_cons_succ, List.setIfInBounds_toArray, List.set_cons_zero, List.set_cons_succ]
                  refine wpAnyH_take (i := 2) (v := ?v21) rfl (by kernel_rfl) (by kernel_rfl) (by kernel_rfl) (fun _ _ _ h => h) (Or.inl ⟨by rfl, ?hy21⟩) (by assumption) ?rest21
                  case hy21 => (intro wy hSw; (try dsimp only at hSw); go_simp; (first | done | with_reducible rfl))
                  try simp only [Act.put, List.getElem_toArray, List.getElem_cons_zero, List.getElem_cons_succ, List.setIfInBounds_toArray, List.set_cons_zero, List.set_cons_succ]
                  refine wpAnyH_take (i := 3) (v := ?v22) rfl (by kernel_rfl) (by kernel_rfl) (by kernel_rfl) (fun _ _ _ h => h) (Or.inl ⟨by rfl, ?hy22⟩) (by assumption) ?rest22
                  case hy22 => (intro wy hSw; (try dsimp only at hSw); go_simp; (first | done | with_reducible rfl))
                  try simp only [Act.put, List.getElem_toArray, List.getElem_cons_zero, List.getElem_cons_succ, List.setIfInBounds_toArray, List.set_cons_zero, List.set_cons_succ]
                  refine wpAnyH_take (i := 4) (v := ?v23) rfl (by kernel_rfl) (by kernel_rfl) (by kernel_rfl) (fun _ _ _ h => h) (Or.inl ⟨by rfl, ?hy23⟩) (by assumption) ?rest23
                  case hy23 => (intro wy hSw; (try dsimp only at hSw); go_simp; (first | done | with_reducible rfl))
                  try simp only [Act.put, List.getElem_toArray, List.getElem_cons_zero, List.getElem_cons_succ, List.setIfInBounds_toArray, List.set_cons_zero, List.set_cons_succ]
                  refine wpAnyH_take (i := 5) (v := ?v24) rfl (by kernel_rfl) (by kernel_rfl) (by kernel_rfl) (fun _ _ _ h => h) (Or.inl ⟨by rfl, ?hy24⟩) (by assumption) ?rest24
                  case hy24 => (intro wy hSw; (try dsimp only at hSw); go_simp; (first | done | with_reducible rfl))
                  try simp only [Act.put, List.getElem_toArray, List.getElem_cons_zero, List.getElem_cons_succ, List.setIfInBounds_toArray, List.set_cons_zero, List.set_cons_succ]
                  refine wpAnyH_take (i := 6) (v := ?v25) rfl (by kernel_rfl) (by kernel_rfl) (by kernel_rfl) (fun _ _ _ h => h) (Or.inl ⟨by rfl, ?hy25⟩) (by assumption) ?rest25
                  case hy25 => (intro wy hSw; (try dsimp only at hSw); go_simp; (first | done | with_reducible rfl))
                  try simp only [Act.put, List.getElem_toArray, List.getElem_cons_zero, List.getElem_cons_succ, List.setIfInBounds_toArray, List.set_cons_zero, List.set_cons_succ]
                  refine wpAnyH_done (by kernel_rfl) ?_ _
                  by_cases he9 : y = key
                  · have heb : (y == key) = true := by simpa using he9
                    rw [if_neg (by simpa using he9), List.append_nil] at HM9
                    clear he9
                    go_wp2
                    go_roundw
                    case rel => exact ⟨k + 1, by omega, by go_num, by rw [HM9.out]; exact HA9.out, below_drG hb9⟩
                    case measure => simp [intOf]; omega
                  · have heb : (y == key) = false := by simpa using he9
                    rw [if_pos (by simpa using he9)] at HM9
                    clear he9
                    go_wp2_with (at_builtin; go_must (refine wpList_append_own_at _ rfl (.tmp 146) (.tmp 151) 33 rfl w6.heap.size 36 i0 _ 1 8 Try.underlying33 hi0 hz0 hzs hzb rfl (by decide) (.slice xa N.length xc) N.length (flatG uC N) rfl (own_drewG (HA9.out.alloc _)) ⟨_, 0, none⟩ 1 1 (uC y) rfl rfl (cells_newD wx (uC y) _ _ rfl) (uC_one y) (by unfold maxLen; omega) (by omega) (by simp; omega) ?_); intro v1 w7 hown hgr _ hnew; go_must (have HOW : Hid _ := own_moreG hown; have hb7 : Below w6.heap.size w6 w7 := hb9.trans ((chg_append (grown_undrew hgr)).below (fun k e => (HA9.out.lt k e).1) hz9); clear hown hgr hnew; obtain ⟨va1, vc1, rfl⟩ := own_shape HOW.out))
                    have eN : (N ++ [y]).length = N.length + 1 := by simp
                    go_roundw
                    case rel => exact ⟨k + 1, by omega, by go_num, by have hh := HOW.out; rw [HM9.out]; show World.ownsRow _ _ _ _ _ _ _; rw [eN] at hh ⊢; exact hh, hb7⟩
                    case measure => simp [intOf]; omega
                · have hlt9I : ¬ (k : Int) < m := by omega
                  have hTT : W.take k = W := List.take_of_length_le (by have := HWL.out; omega)
                  obtain ⟨T, HTT⟩ : ∃ T, Hid (fgt key (W.take k) = T) := ⟨_, rfl⟩
                  rw [HTT.out] at HA9 ⊢
                  rw [hTT] at HTT
                  clear hTT
                  have hTl : T.length ≤ 16 := by
                    rw [← HTT.out]
                    have h1 := List.length_filter_le (fun k => decide (k ≠ key)) W
                    unfold fgt
                    omega
                  rw [HTT.out] at HRR
                  obtain ⟨v8, w8, hr8, ho8, hg8, _⟩ := run_append_seesG (f := uC) (d := (0 : Int)) (P := Try.prog) (wx.alloc (.cells #[.int .u64 key] 36)) w6.heap.size 33 33 36 i0 _ 1 8 Try.underlying33 hi0 hz0 hzs hzb rfl (by decide) (.slice (some ⟨wx.heap.size, 0, none⟩) 1 1) 1 [.int .u64 key] (own_lowG (own_litU wx key) hz9) uC_len ((own_seesG uC_len 0 HA9.out).alloc _) (flat_oneU T) (by unfold maxLen; omega) (by omega) (by simp; omega)
                  have hb8 : Below w6.heap.size w6 w8 := hb9.trans ((chg_append hg8).below (fun k e => by have h9 : wx.heap.size = k := Option.some.inj e; omega) hz9)
                  obtain ⟨va8, vc8, rfl⟩ := own_shape ho8
                  have HS8 : Hid (SeesG uC 1 0 w8 (.slice va8 (1 + T.length) vc8) R') := by
                    have e9 : 1 + T.length = R'.length := by rw [HRR.out]; simp; omega
                    have h9 : w8.ownsRow w6.heap.size 36 1 (.slice va8 (1 + T.length) vc8) R'.length (flatG uC R') := by
                      rw [← e9, HRR.out]
                      exact ho8
                    exact own_seesG uC_len 0 h9
                  have HO8 : Hid (SeesG uC 1 0 w8 (.slice oa R'.length oc) R') := (own_seesG uC_len 0 HO6.out).below hb8 (Nat.le_refl _)
                  have HR8 := keepG hr8
                  clear hr8 ho8 hg8
                  go_wp2_with (first
                    | (at_builtin; go_must (refine wpList_appG _ rfl (.tmp 164) (.tmp 165) 33 33 rfl _ _ rfl rfl HR8.out ?_))
                    | (go_at_call 14; go_must (refine (wnums_same HO8.out HS8.out).mono ?_); rintro e wz ⟨rfl, mz, rfl⟩))
                  have HTE := keepG (HT6.out.below (w' := w8.drewN mz) ⟨hb8.os, hb8.tape, hb8.output, hb8.size, hb8.block⟩)
                  go_roundw
                  case rel => exact ⟨j + 1, by omega, by go_num, S', R', F5, HTE.out⟩
                  case measure => simp [intOf]; omega
          · skip
            as_aux_lemma =>
              have hna : decide (na ≥ 0) = false := by rw [hmem]; exact decide_eq_false hin
              have hev2 : evA n S op key = false := by rw [hev]; simp [hop, hin, hfull]
              have htc2 : tchA S op key = true := by rw [htc]; simp [hop, hin]
              have hfb : ((R.length : Int) == C) = false := by rw [HC.out]; simp; omega
              rw [htc2] at hord
              simp only [if_true] at hord
              have hout := out_no (R := R) hev2
              obtain ⟨E, f, x, S', R', HA⟩ : ∃ E f x S' R', Hid (doA n S R op key val = (⟨E, f, x, false, 0, 0⟩, S', R')) := doA_no hev2 val
              rw [hout] at hord
              clear hout
              rw [HA.out] at hord
              have HRR := keepG hord
              have hWl : R.length ≤ 16 := by omega
              clear hord hev htc hmem hev2 htc2 hfull hin
              obtain rfl : op = 2 := hop
              have PX : True := trivial
              go_wp2_with (first
                | (go_at_call 15; have hq := PX; clear hq; rw [HX.out]; go_must (refine HTX.out.order.mono ?_); rintro e w4 ⟨u4, rfl, ho4, hb4⟩; go_must (have HT4 := keepG (HTX.out.below hb4); have HW4 := keepG ho4; have HP4 := keepG (hpX.out.below hb4 hzX); have HAP := keepG (Apt.made HTX.out.lies (own_since ho4 (Nat.le_refl _))); obtain ⟨ra, rc, rfl⟩ := own_shape ho4; have p0 := HP4.out.cell (j := 0) rfl; have p1 := HP4.out.cell (j := 1) rfl; have p2 := HP4.out.cell (j := 2) rfl; clear ho4 PX))
                | (go_at_call 20; go_must (refine (wat_any key (own_seesG uC_len 0 HW4.out) HN).mono ?_); rintro e w9 ⟨rfl, rfl⟩)
                | (go_at_call 11; go_must (refine (HT4.out.do HA).mono ?_); rintro e w5 ⟨rfl, F5, ht5, hx5, hk5⟩; go_must (have HW5 := keepG (own_keeps HW4.out hx5.chg HAP.out); have HP5 := keepG (hk5 _ _ _ (.inl rfl) HP4.out); obtain ⟨Y, HY, hbY, HpY⟩ : ∃ Y, Hid (w5.alloc (.cells #[.int .i64 E, .bool f, .int .u64 x, .bool false, .int .u64 0, .int .u64 0] 40) = Y) ∧ Below w5.heap.size w5 Y ∧ Hid (Hp Y w5.heap.size 40 (resCG E f x false 0 0)) := ⟨_, rfl, below_allocG _ _, Hp.new w5 (resCG E f x false 0 0) _⟩; have HTY := keepG (ht5.below hbY); have HPY := keepG (HP5.out.below hbY HP5.out.lt); have HWY := keepG (own_below HW5.out hbY (Nat.le_refl _)); clear ht5 hx5 hk5 p0 p1 p2))
                | (go_at_call 15; rw [HY.out]; go_must (refine HTY.out.order.mono ?_); rintro e w6 ⟨u6, rfl, ho6, hb6⟩; go_must (have HT6 := keepG (HTY.out.below hb6); have HO6 := keepG ho6; have HW6 := keepG (own_below HWY.out hb6 (Nat.le_refl _)); have HP6 := keepG (HPY.out.below hb6 HPY.out.lt); have HR6 := keepG (HpY.out.below hb6 HpY.out.lt); obtain ⟨d6, y6, hl6, HL6⟩ := HT6.out.inner; have HL := keepG HT6.out.inv.length; have hRn6 : R'.length ≤ n := (by have h8 := HT6.out.inv.len; have h9 := HL.out; omega); have hRn6I : ¬ C < R'.length := (by rw [HC.out]; omega); obtain ⟨oa, oc, rfl⟩ := own_shape ho6; have p0 := HP6.out.cell (j := 0) rfl; have p1 := HP6.out.cell (j := 1) rfl; have p2 := HP6.out.cell (j := 2) rfl; have r3 := HR6.out.cell (j := 3) rfl; have r4 := HR6.out.cell (j := 4) rfl; have r5 := HR6.out.cell (j := 5) rfl; clear ho6))
                | (go_at_call 13; go_must (refine (HL6.out w6 (Below.refl _ _)).1.mono ?_); rintro e w9 ⟨rfl, rfl⟩; go_must (rw [← HL.out])))
              have HWS : Hid (∀ wx, Below w6.heap.size w6 wx → SeesG uC 1 0 wx (.slice ra R.length rc) R) := fun wx hb => (own_seesG uC_len 0 HW6.out).below hb (Nat.le_refl _)
              have hl6 := HP6.out.lt
              go_loopw [14, 15] (fun rv i wx => ∃ k : Nat, k ≤ R.length ∧ i = .int .i64 k ∧ Hid (wx.ownsRow w6.heap.size 36 1 rv (fgt key (R.take k)).length (flatG uC (fgt key (R.take k)))) ∧ Below w6.heap.size w6 wx) (fun _ i _ => R.length - (intOf i).toNat)
              case atStart => exact ⟨0, by omega, rfl, World.ownsRow_nil _ _ _ _, Below.refl _ _⟩
              case round =>
                obtain ⟨k, hk, rfl, HA9, hb9⟩ := hrel
                rename World => wx
                have hz9 := hb9.size
                have HP9 := keepG (HP6.out.below hb9 hl6)
                have p0 := HP9.out.cell (j := 0) rfl
                have p1 := HP9.out.cell (j := 1) rfl
                obtain ⟨xa, xc, ev⟩ := own_shape HA9.out
                subst ev
                by_cases hlt9 : k < R.length
                · have hlt9I : (k : Int) < R.length := by omega
                  have hltW : k < R.length := by omega
                  obtain ⟨a', c', ev, _, _, _, hcell⟩ := HWS.out _ hb9
                  simp only [Value.slice.injEq, true_and] at ev
                  obtain ⟨rfl, rfl⟩ := ev
                  obtain ⟨gb, ob, rfl, hgb, hat9⟩ := hcell (fun e => by rw [e] at hltW; simp at hltW)
                  skip
                  skip
                  skip
                  have dk := hat9 k hltW 0 (by omega)
                  simp only [List.getElem?_cons_zero, Nat.add_zero, Nat.mul_one, Nat.zero_add] at dk
                  have HM9 : Hid (fgt key (R.take (k + 1)) = fgt key (R.take k) ++ (if decide (R.getD k 0 ≠ key) = true then [R.getD k 0] else [])) := filter_moreI (p := fun k => decide (k ≠ key)) hltW
                  clear hat9 hcell
                  obtain ⟨y, HYY⟩ : ∃ y, Hid (R.getD k 0 = y) := ⟨_, rfl⟩
                  rw [HYY.out] at dk HM9
                  obtain ⟨N, HNN⟩ : ∃ N, Hid (fgt key (R.take k) = N) := ⟨_, rfl⟩
                  have hNl : N.length ≤ 16 := by
                    rw [← HNN.out]
                    have h1 := List.length_filter_le (fun k => decide (k ≠ key)) (R.take k)
                    have h2 := List.length_take_le k R
                    unfold fgt
                    omega
                  rw [HNN.out] at HA9 HM9 ⊢
                  go_wp2
                  refine wp_region_held_drew (S := fun w' => w'.cell? ⟨gb, ob + k, none⟩ = some (.int .u64 y) ∧ w'.cell? ⟨wr.heap.size, 1, none⟩ = some (.int .u64 key)) (by kernel_rfl) ⟨dk, p1⟩ (fun hHeld => ?_)
                  refine wpAnyH_take (i := 0) (v := ?v26) rfl (by kernel_rfl) (by kernel_rfl) (by kernel_rfl) (fun _ _ _ h => h) (Or.inl ⟨by rfl, ?hy26⟩) (by assumption) ?rest26
                  case hy26 => (intro wy hSw; (try dsimp only at hSw); go_simp; (first | done | with_reducible rfl))
                  try simp only [Act.put, List.getElem_toArray, List.getElem_cons_zero, List.getElem_cons_succ, List.setIfInBounds_toArray, List.set_cons_zero, List.set_cons_succ]
                  refine wpAnyH_take (i := 1) (v := ?v27) rfl (by kernel_rfl) (by kernel_rfl) (by kernel_rfl) (fun _ _ _ h => h) (Or.inl ⟨by rfl, ?hy27⟩) (by assumption) ?rest27
                  case hy27 => (intro wy hSw; (try dsimp only at hSw); go_simp; (first | done | with_reducible rfl))
                  try simp only [Act.put, List.getElem_toArray, List.getElem_cons_zero, List.getElem_cons_succ, List.setIfInBounds_toArray, List.set_cons_zero, List.set_cons_succ]
                  refine wpAnyH_take (i := 2) (v := ?v28) rfl (by kernel_rfl) (by kernel_rfl) (by kernel_rfl) (fun _ _ _ h => h) (Or.inl ⟨by rfl, ?hy28⟩) (by assumption) ?rest28
                  case hy28 => (intro wy hSw; (try dsimp only at hSw); go_simp; (first | done | with_reducible rfl))
                  try simp only [Act.put, List.getElem_toArray, List.getElem_cons_zero, List.getElem_cons_succ, List.setIfInBounds_toArray, List.set_cons_zero, List.set_cons_succ]
                  refine wpAnyH_take (i := 3) (v := ?v29) rfl (by kernel_rfl) (by kernel_rfl) (by kernel_rfl) (fun _ _ _ h => h) (Or.inl ⟨by rfl, ?hy29⟩) (by assumption) ?rest29
                  case hy29 => (intro wy hSw; (try dsimp only at hSw); go_simp; (first | done | with_reducible rfl))
                  try simp only [Act.put, List.getElem_toArray, List.getElem_cons_zero, List.getElem_cons_succ, List.setIfInBounds_toArray, List.set_cons_zero, List.set_cons_succ]
                  refine wpAnyH_take (i := 4) (v := ?v30) rfl (by kernel_rfl) (by kernel_rfl) (by kernel_rfl) (fun _ _ _ h => h) (Or.inl ⟨by rfl, ?hy30⟩) (by assumption) ?rest30
                  case hy30 => (intro wy hSw; (try dsimp only at hSw); go_simp; (first | done | with_reducible rfl))
                  try simp only [Act.put, List.getElem_toArray, List.getElem_cons_zero, List.getElem_cons_succ, List.setIfInBounds_toArray, List.set_cons_zero, List.set_cons_succ]
                  refine wpAnyH_take (i := 5) (v := ?v31) rfl (by kernel_rfl) (by kernel_rfl) (by kernel_rfl) (fun _ _ _ h => h) (Or.inl ⟨by rfl, ?hy31⟩) (by assumption) ?rest31
                  case hy31 => (intro wy hSw; (try dsimp only at hSw); go_simp; (first | done | with_reducible rfl))
                  try simp only [Act.put, List.getElem_toArray, List.getElem_cons_zero, List.getElem_cons_succ, List.setIfInBounds_toArray, List.set_cons_zero, List.set_cons_succ]
                  refine wpAnyH_take (i := 6) (v := ?v32) rfl (by kernel_rfl) (by kernel_rfl) (by kernel_rfl) (fun _ _ _ h => h) (Or.inl ⟨by rfl, ?hy32⟩) (by assumption) ?rest32
                  case hy32 => (intro wy hSw; (try dsimp only at hSw); go_simp; (first | done | with_reducible rfl))
                  try simp only [Act.put, List.getElem_toArray, List.getElem_cons_zero, List.getElem_cons_succ, List.setIfInBounds_toArray, List.set_cons_zero, List.set_cons_succ]
                  refine wpAnyH_done (by kernel_rfl) ?_ _
                  by_cases he9 : y = key
                  · have heb : (y == key) = true := by simpa using he9
                    rw [if_neg (by simpa using he9), List.append_nil] at HM9
                    clear he9
                    go_wp2
                    go_roundw
                    case rel => exact ⟨k + 1, by omega, by go_num, by rw [HM9.out]; exact HA9.out, below_drG hb9⟩
                    case measure => simp [intOf]; omega
                  · have heb : (y == key) = false := by simpa using he9
                    rw [if_pos (by simpa using he9)] at HM9
                    clear he9
                    go_wp2_with (at_builtin; go_must (refine wpList_append_own_at _ rfl (.tmp 146) (.tmp 151) 33 rfl w6.heap.size 36 i0 _ 1 8 Try.underlying33 hi0 hz0 hzs hzb rfl (by decide) (.slice xa N.length xc) N.length (flatG uC N) rfl (own_drewG (HA9.out.alloc _)) ⟨_, 0, none⟩ 1 1 (uC y) rfl rfl (cells_newD wx (uC y) _ _ rfl) (uC_one y) (by unfold maxLen; omega) (by omega) (by simp; omega) ?_); intro v1 w7 hown hgr _ hnew; go_must (have HOW : Hid _ := own_moreG hown; have hb7 : Below w6.heap.size w6 w7 := hb9.trans ((chg_append (grown_undrew hgr)).below (fun k e => (HA9.out.lt k e).1) hz9); clear hown hgr hnew; obtain ⟨va1, vc1, rfl⟩ := own_shape HOW.out))
                    have eN : (N ++ [y]).length = N.length + 1 := by simp
                    go_roundw
                    case rel => exact ⟨k + 1, by omega, by go_num, by have hh := HOW.out; rw [HM9.out]; show World.ownsRow _ _ _ _ _ _ _; rw [eN] at hh ⊢; exact hh, hb7⟩
                    case measure => simp [intOf]; omega
                · have hlt9I : ¬ (k : Int) < R.length := by omega
                  have hTT : R.take k = R := List.take_of_length_le (by omega)
                  obtain ⟨T, HTT⟩ : ∃ T, Hid (fgt key (R.take k) = T) := ⟨_, rfl⟩
                  rw [HTT.out] at HA9 ⊢
                  rw [hTT] at HTT
                  clear hTT
                  have hTl : T.length ≤ 16 := by
                    rw [← HTT.out]
                    have h1 := List.length_filter_le (fun k => decide (k ≠ key)) R
                    unfold fgt
                    omega
                  rw [HTT.out] at HRR
                  obtain ⟨v8, w8, hr8, ho8, hg8, _⟩ := run_append_seesG (f := uC) (d := (0 : Int)) (P := Try.prog) (wx.alloc (.cells #[.int .u64 key] 36)) w6.heap.size 33 33 36 i0 _ 1 8 Try.underlying33 hi0 hz0 hzs hzb rfl (by decide) (.slice (some ⟨wx.heap.size, 0, none⟩) 1 1) 1 [.int .u64 key] (own_lowG (own_litU wx key) hz9) uC_len ((own_seesG uC_len 0 HA9.out).alloc _) (flat_oneU T) (by unfold maxLen; omega) (by omega) (by simp; omega)
                  have hb8 : Below w6.heap.size w6 w8 := hb9.trans ((chg_append hg8).below (fun k e => by have h9 : wx.heap.size = k := Option.some.inj e; omega) hz9)
                  obtain ⟨va8, vc8, rfl⟩ := own_shape ho8
                  have HS8 : Hid (SeesG uC 1 0 w8 (.slice va8 (1 + T.length) vc8) R') := by
                    have e9 : 1 + T.length = R'.length := by rw [HRR.out]; simp; omega
                    have h9 : w8.ownsRow w6.heap.size 36 1 (.slice va8 (1 + T.length) vc8) R'.length (flatG uC R') := by
                      rw [← e9, HRR.out]
                      exact ho8
                    exact own_seesG uC_len 0 h9
                  have HO8 : Hid (SeesG uC 1 0 w8 (.slice oa R'.length oc) R') := (own_seesG uC_len 0 HO6.out).below hb8 (Nat.le_refl _)
                  have HR8 := keepG hr8
                  clear hr8 ho8 hg8
                  go_wp2_with (first
                    | (at_builtin; go_must (refine wpList_appG _ rfl (.tmp 164) (.tmp 165) 33 33 rfl _ _ rfl rfl HR8.out ?_))
                    | (go_at_call 14; go_must (refine (wnums_same HO8.out HS8.out).mono ?_); rintro e wz ⟨rfl, mz, rfl⟩))
                  have HTE := keepG (HT6.out.below (w' := w8.drewN mz) ⟨hb8.os, hb8.tape, hb8.output, hb8.size, hb8.block⟩)
                  go_roundw
                  case rel => exact ⟨j + 1, by omega, by go_num, S', R', F5, HTE.out⟩
                  case measure => simp [intOf]; omega
      have ho2 := hop
      clear hop
      by_cases hop : op = 4
      · by_cases hin : key ∈ R
        · skip
          as_aux_lemma =>
            have hna : decide (na ≥ 0) = true := by rw [hmem]; exact decide_eq_true hin
            have hev2 : evA n S op key = false := by rw [hev]; simp [hop, hin]
            have htc2 : tchA S op key = true := by rw [htc]; simp [hop, hin]
            rw [htc2] at hord
            simp only [if_true] at hord
            have hout := out_no (R := R) hev2
            obtain ⟨E, f, x, S', R', HA⟩ : ∃ E f x S' R', Hid (doA n S R op key val = (⟨E, f, x, false, 0, 0⟩, S', R')) := doA_no hev2 val
            rw [hout] at hord
            clear hout
            rw [HA.out] at hord
            have HRR := keepG hord
            have hWl : R.length ≤ 16 := by omega
            clear hord hev htc hmem hev2 htc2 hin
            obtain rfl : op = 4 := hop
            have PX : True := trivial
            go_wp2_with (first
              | (go_at_call 15; have hq := PX; clear hq; rw [HX.out]; go_must (refine HTX.out.order.mono ?_); rintro e w4 ⟨u4, rfl, ho4, hb4⟩; go_must (have HT4 := keepG (HTX.out.below hb4); have HW4 := keepG ho4; have HP4 := keepG (hpX.out.below hb4 hzX); have HAP := keepG (Apt.made HTX.out.lies (own_since ho4 (Nat.le_refl _))); obtain ⟨ra, rc, rfl⟩ := own_shape ho4; have p0 := HP4.out.cell (j := 0) rfl; have p1 := HP4.out.cell (j := 1) rfl; have p2 := HP4.out.cell (j := 2) rfl; clear ho4 PX))
              | (go_at_call 20; go_must (refine (wat_any key (own_seesG uC_len 0 HW4.out) HN).mono ?_); rintro e w9 ⟨rfl, rfl⟩)
              | (go_at_call 11; go_must (refine (HT4.out.do HA).mono ?_); rintro e w5 ⟨rfl, F5, ht5, hx5, hk5⟩; go_must (have HW5 := keepG (own_keeps HW4.out hx5.chg HAP.out); have HP5 := keepG (hk5 _ _ _ (.inl rfl) HP4.out); obtain ⟨Y, HY, hbY, HpY⟩ : ∃ Y, Hid (w5.alloc (.cells #[.int .i64 E, .bool f, .int .u64 x, .bool false, .int .u64 0, .int .u64 0] 40) = Y) ∧ Below w5.heap.size w5 Y ∧ Hid (Hp Y w5.heap.size 40 (resCG E f x false 0 0)) := ⟨_, rfl, below_allocG _ _, Hp.new w5 (resCG E f x false 0 0) _⟩; have HTY := keepG (ht5.below hbY); have HPY := keepG (HP5.out.below hbY HP5.out.lt); have HWY := keepG (own_below HW5.out hbY (Nat.le_refl _)); clear ht5 hx5 hk5 p0 p1 p2))
              | (go_at_call 15; rw [HY.out]; go_must (refine HTY.out.order.mono ?_); rintro e w6 ⟨u6, rfl, ho6, hb6⟩; go_must (have HT6 := keepG (HTY.out.below hb6); have HO6 := keepG ho6; have HW6 := keepG (own_below HWY.out hb6 (Nat.le_refl _)); have HP6 := keepG (HPY.out.below hb6 HPY.out.lt); have HR6 := keepG (HpY.out.below hb6 HpY.out.lt); obtain ⟨d6, y6, hl6, HL6⟩ := HT6.out.inner; have HL := keepG HT6.out.inv.length; have hRn6 : R'.length ≤ n := (by have h8 := HT6.out.inv.len; have h9 := HL.out; omega); have hRn6I : ¬ C < R'.length := (by rw [HC.out]; omega); obtain ⟨oa, oc, rfl⟩ := own_shape ho6; have p0 := HP6.out.cell (j := 0) rfl; have p1 := HP6.out.cell (j := 1) rfl; have p2 := HP6.out.cell (j := 2) rfl; have r3 := HR6.out.cell (j := 3) rfl; have r4 := HR6.out.cell (j := 4) rfl; have r5 := HR6.out.cell (j := 5) rfl; clear ho6))
              | (go_at_call 13; go_must (refine (HL6.out w6 (Below.refl _ _)).1.mono ?_); rintro e w9 ⟨rfl, rfl⟩; go_must (rw [← HL.out])))
            have HWS : Hid (∀ wx, Below w6.heap.size w6 wx → SeesG uC 1 0 wx (.slice ra R.length rc) R) := fun wx hb => (own_seesG uC_len 0 HW6.out).below hb (Nat.le_refl _)
            have hl6 := HP6.out.lt
            go_loopw [14, 15] (fun rv i wx => ∃ k : Nat, k ≤ R.length ∧ i = .int .i64 k ∧ Hid (wx.ownsRow w6.heap.size 36 1 rv (fgt key (R.take k)).length (flatG uC (fgt key (R.take k)))) ∧ Below w6.heap.size w6 wx) (fun _ i _ => R.length - (intOf i).toNat)
            case atStart => exact ⟨0, by omega, rfl, World.ownsRow_nil _ _ _ _, Below.refl _ _⟩
            case round =>
              obtain ⟨k, hk, rfl, HA9, hb9⟩ := hrel
              rename World => wx
              have hz9 := hb9.size
              have HP9 := keepG (HP6.out.below hb9 hl6)
              have p0 := HP9.out.cell (j := 0) rfl
              have p1 := HP9.out.cell (j := 1) rfl
              obtain ⟨xa, xc, ev⟩ := own_shape HA9.out
              subst ev
              by_cases hlt9 : k < R.length
              · have hlt9I : (k : Int) < R.length := by omega
                have hltW : k < R.length := by omega
                obtain ⟨a', c', ev, _, _, _, hcell⟩ := HWS.out _ hb9
                simp only [Value.slice.injEq, true_and] at ev
                obtain ⟨rfl, rfl⟩ := ev
                obtain ⟨gb, ob, rfl, hgb, hat9⟩ := hcell (fun e => by rw [e] at hltW; simp at hltW)
                skip
                skip
                skip
                have dk := hat9 k hltW 0 (by omega)
                simp only [List.getElem?_cons_zero, Nat.add_zero, Nat.mul_one, Nat.zero_add] at dk
                have HM9 : Hid (fgt key (R.take (k + 1)) = fgt key (R.take k) ++ (if decide (R.getD k 0 ≠ key) = true then [R.getD k 0] else [])) := filter_moreI (p := fun k => decide (k ≠ key)) hltW
                clear hat9 hcell
                obtain ⟨y, HYY⟩ : ∃ y, Hid (R.getD k 0 = y) := ⟨_, rfl⟩
                rw [HYY.out] at dk HM9
                obtain ⟨N, HNN⟩ : ∃ N, Hid (fgt key (R.take k) = N) := ⟨_, rfl⟩
                have hNl : N.length ≤ 16 := by
                  rw [← HNN.out]
                  have h1 := List.length_filter_le (fun k => decide (k ≠ key)) (R.take k)
                  have h2 := List.length_take_le k R
                  unfold fgt
                  omega
                rw [HNN.out] at HA9 HM9 ⊢
                go_wp2
                refine wp_region_held_drew (S := fun w' => w'.cell? ⟨gb, ob + k, none⟩ = some (.int .u64 y) ∧ w'.cell? ⟨wr.heap.size, 1, none⟩ = some (.int .u64 key)) (by kernel_rfl) ⟨dk, p1⟩ (fun hHeld => ?_)
                refine wpAnyH_take (i := 0) (v := ?v33) rfl (by kernel_rfl) (by kernel_rfl) (by kernel_rfl) (fun _ _ _ h => h) (Or.inl ⟨by rfl, ?hy33⟩) (by assumption) ?rest33
                case hy33 => (intro wy hSw; (try dsimp only at hSw); go_simp; (first | done | with_reducible rfl))
                try simp only [Act.put, List.getElem_toArray, List.getElem_cons_zero, List.getElem_cons_succ, List.setIfInBounds_toArray, List.set_cons_zero, List.set_cons_succ]
                refine wpAnyH_take (i := 1) (v := ?v34) rfl (by kernel_rfl) (by kernel_rfl) (by kernel_rfl) (fun _ _ _ h => h) (Or.inl ⟨by rfl, ?hy34⟩) (by assumption) ?rest34
                case hy34 => (intro wy hSw; (try dsimp only at hSw); go_simp; (first | done | with_reducible rfl))
                try simp only [Act.put, List.getElem_toArray, List.getElem_cons_zero, List.getElem_cons_succ, List.setIfInBounds_toArray, List.set_cons_zero, List.set_cons_succ]
                refine wpAnyH_take (i := 2) (v := ?v35) rfl (by kernel_rfl) (by kernel_rfl) (by kernel_rfl) (fun _ _ _ h => h) (Or.inl ⟨by rfl, ?hy35⟩) (by assumption) ?rest35
                case hy35 => (intro wy hSw; (try dsimp only at hSw); go_simp; (first | done | with_reducible rfl))
                try simp only [Act.put, List.getElem_toArray, List.getElem_cons_zero, List.getElem_cons_succ, List.setIfInBounds_toArray, List.set_cons_zero, List.set_cons_succ]
                refine wpAnyH_take (i := 3) (v := ?v36) rfl (by kernel_rfl) (by kernel_rfl) (by kernel_rfl) (fun _ _ _ h => h) (Or.inl ⟨by rfl, ?hy36⟩) (by assumption) ?rest36
                case hy36 => (intro wy hSw; (try dsimp only at hSw); go_simp; (first | done | with_reducible rfl))
                try simp only [Act.put, List.getElem_toArray, List.getElem_cons_zero, List.getElem_cons_succ, List.setIfInBounds_toArray, List.set_cons_zero, List.set_cons_succ]
                refine wpAnyH_take (i := 4) (v := ?v37) rfl (by kernel_rfl) (by kernel_rfl) (by kernel_rfl) (fun _ _ _ h => h) (Or.inl ⟨by rfl, ?hy37⟩) (by assumption) ?rest37
                case hy37 => (intro wy hSw; (try dsimp only at hSw); go_simp; (first | done | with_reducible rfl))
                try simp only [Act.put, List.getElem_toArray, List.getElem_cons_zero, List.getElem_cons_succ, List.setIfInBounds_toArray, List.set_cons_zero, List.set_cons_succ]
                refine wpAnyH_take (i := 5) (v := ?v38) rfl (by kernel_rfl) (by kernel_rfl) (by kernel_rfl) (fun _ _ _ h => h) (Or.inl ⟨by rfl, ?hy38⟩) (by assumption) ?rest38
                case hy38 => (intro wy hSw; (try dsimp only at hSw); go_simp; (first | done | with_reducible rfl))
                try simp only [Act.put, List.getElem_toArray, List.getElem_cons_zero, List.getElem_cons_succ, List.setIfInBounds_toArray, List.set_cons_zero, List.set_cons_succ]
                refine wpAnyH_take (i := 6) (v := ?v39) rfl (by kernel_rfl) (by kernel_rfl) (by kernel_rfl) (fun _ _ _ h => h) (Or.inl ⟨by rfl, ?hy39⟩) (by assumption) ?rest39
                case hy39 => (intro wy hSw; (try dsimp only at hSw); go_simp; (first | done | with_reducible rfl))
                try simp only [Act.put, List.getElem_toArray, List.getElem_cons_zero, List.getElem_cons_succ, List.setIfInBounds_toArray, List.set_cons_zero, List.set_cons_succ]
                refine wpAnyH_done (by kernel_rfl) ?_ _
                by_cases he9 : y = key
                · have heb : (y == key) = true := by simpa using he9
                  rw [if_neg (by simpa using he9), List.append_nil] at HM9
                  clear he9
                  go_wp2
                  go_roundw
                  case rel => exact ⟨k + 1, by omega, by go_num, by rw [HM9.out]; exact HA9.out, below_drG hb9⟩
                  case measure => simp [intOf]; omega
                · have heb : (y == key) = false := by simpa using he9
                  rw [if_pos (by simpa using he9)] at HM9
                  clear he9
                  go_wp2_with (at_builtin; go_must (refine wpList_append_own_at _ rfl (.tmp 146) (.tmp 151) 33 rfl w6.heap.size 36 i0 _ 1 8 Try.underlying33 hi0 hz0 hzs hzb rfl (by decide) (.slice xa N.length xc) N.length (flatG uC N) rfl (own_drewG (HA9.out.alloc _)) ⟨_, 0, none⟩ 1 1 (uC y) rfl rfl (cells_newD wx (uC y) _ _ rfl) (uC_one y) (by unfold maxLen; omega) (by omega) (by simp; omega) ?_); intro v1 w7 hown hgr _ hnew; go_must (have HOW : Hid _ := own_moreG hown; have hb7 : Below w6.heap.size w6 w7 := hb9.trans ((chg_append (grown_undrew hgr)).below (fun k e => (HA9.out.lt k e).1) hz9); clear hown hgr hnew; obtain ⟨va1, vc1, rfl⟩ := own_shape HOW.out))
                  have eN : (N ++ [y]).length = N.length + 1 := by simp
                  go_roundw
                  case rel => exact ⟨k + 1, by omega, by go_num, by have hh := HOW.out; rw [HM9.out]; show World.ownsRow _ _ _ _ _ _ _; rw [eN] at hh ⊢; exact hh, hb7⟩
                  case measure => simp [intOf]; omega
              · have hlt9I : ¬ (k : Int) < R.length := by omega
                have hTT : R.take k = R := List.take_of_length_le (by omega)
                obtain ⟨T, HTT⟩ : ∃ T, Hid (fgt key (R.take k) = T) := ⟨_, rfl⟩
                rw [HTT.out] at HA9 ⊢
                rw [hTT] at HTT
                clear hTT
                have hTl : T.length ≤ 16 := by
                  rw [← HTT.out]
                  have h1 := List.length_filter_le (fun k => decide (k ≠ key)) R
                  unfold fgt
                  omega
                rw [HTT.out] at HRR
                obtain ⟨v8, w8, hr8, ho8, hg8, _⟩ := run_append_seesG (f := uC) (d := (0 : Int)) (P := Try.prog) (wx.alloc (.cells #[.int .u64 key] 36)) w6.heap.size 33 33 36 i0 _ 1 8 Try.underlying33 hi0 hz0 hzs hzb rfl (by decide) (.slice (some ⟨wx.heap.size, 0, none⟩) 1 1) 1 [.int .u64 key] (own_lowG (own_litU wx key) hz9) uC_len ((own_seesG uC_len 0 HA9.out).alloc _) (flat_oneU T) (by unfold maxLen; omega) (by omega) (by simp; omega)
                have hb8 : Below w6.heap.size w6 w8 := hb9.trans ((chg_append hg8).below (fun k e => by have h9 : wx.heap.size = k := Option.some.inj e; omega) hz9)
                obtain ⟨va8, vc8, rfl⟩ := own_shape ho8
                have HS8 : Hid (SeesG uC 1 0 w8 (.slice va8 (1 + T.length) vc8) R') := by
                  have e9 : 1 + T.length = R'.length := by rw [HRR.out]; simp; omega
                  have h9 : w8.ownsRow w6.heap.size 36 1 (.slice va8 (1 + T.length) vc8) R'.length (flatG uC R') := by
                    rw [← e9, HRR.out]
                    exact ho8
                  exact own_seesG uC_len 0 h9
                have HO8 : Hid (SeesG uC 1 0 w8 (.slice oa R'.length oc) R') := (own_seesG uC_len 0 HO6.out).below hb8 (Nat.le_refl _)
                have HR8 := keepG hr8
                clear hr8 ho8 hg8
                go_wp2_with (first
                  | (at_builtin; go_must (refine wpList_appG _ rfl (.tmp 164) (.tmp 165) 33 33 rfl _ _ rfl rfl HR8.out ?_))
                  | (go_at_call 14; go_must (refine (wnums_same HO8.out HS8.out).mono ?_); rintro e wz ⟨rfl, mz, rfl⟩))
                have HTE := keepG (HT6.out.below (w' := w8.drewN mz) ⟨hb8.os, hb8.tape, hb8.output, hb8.size, hb8.block⟩)
                go_roundw
                case rel => exact ⟨j + 1, by omega, by go_num, S', R', F5, HTE.out⟩
                case measure => simp [intOf]; omega
        · by_cases hfull : R.length = n
          · skip
            as_aux_lemma =>
              have hna : decide (na ≥ 0) = false := by rw [hmem]; exact decide_eq_false hin
              have hev2 : evA n S op key = true := by rw [hev]; simp [hop, hin, hfull]
              have htc2 : tchA S op key = true := by rw [htc]; simp [hop, hin]
              have hfb : ((R.length : Int) == C) = true := by rw [HC.out]; simp; omega
              have hCR : (R.length : Int) = C := by simpa using hfb
              rw [htc2] at hord
              simp only [if_true] at hord
              obtain ⟨hR0, -, hlast, hout⟩ := out_ev HT.out.inv hev2
              obtain ⟨E, f, x, uu, S', R', HA⟩ : ∃ E f x u S' R', Hid (doA n S R op key val = (⟨E, f, x, true, lastR R, u⟩, S', R')) := doA_ev hev2 val
              obtain ⟨kk, HKK⟩ : ∃ kk, Hid (lastR R = kk) := ⟨_, rfl⟩
              rw [HKK.out] at HA hlast
              have HLK : Hid (R.getD (R.length - 1) 0 = kk) := hlast.symm
              obtain ⟨W, HW⟩ : ∃ W, Hid (R.dropLast = W) := ⟨_, rfl⟩
              rw [hout, HW.out] at hord
              obtain ⟨m, HM⟩ : ∃ m, Hid (R.length - 1 = m) := ⟨_, rfl⟩
              have HWL : Hid (W.length = m) := by show _ = _; rw [← HW.out, ← HM.out]; exact List.length_dropLast
              have hm1 : m < R.length := by rw [← HM.out]; omega
              have hm1I : (m : Int) < C := by omega
              have hwr : IntKind.i64.wrap (C - 1) = (m : Int) := by rw [IntKind.wrap_i64, ← HM.out]; omega
              rw [HM.out] at HLK
              clear hlast hout
              rw [HA.out] at hord
              have HRR := keepG hord
              have hWl : W.length ≤ 16 := by rw [HWL.out]; omega
              clear hord hev htc hmem hev2 htc2 hfull hin
              obtain rfl : op = 4 := hop
              have PX : True := trivial
              go_wp2_with (first
                | (go_at_call 15; have hq := PX; clear hq; rw [HX.out]; go_must (refine HTX.out.order.mono ?_); rintro e w4 ⟨u4, rfl, ho4, hb4⟩; go_must (have HT4 := keepG (HTX.out.below hb4); have HW4 := keepG ho4; have HP4 := keepG (hpX.out.below hb4 hzX); have HAP := keepG (Apt.made HTX.out.lies (own_since ho4 (Nat.le_refl _))); obtain ⟨ra, rc, rfl⟩ := own_shape ho4; have p0 := HP4.out.cell (j := 0) rfl; have p1 := HP4.out.cell (j := 1) rfl; have p2 := HP4.out.cell (j := 2) rfl; clear ho4 PX))
                | (go_at_call 20; go_must (refine (wat_any key (own_seesG uC_len 0 HW4.out) HN).mono ?_); rintro e w9 ⟨rfl, rfl⟩)
                | (go_at_call 11; go_must (refine (HT4.out.do HA).mono ?_); rintro e w5 ⟨rfl, F5, ht5, hx5, hk5⟩; go_must (have HW5 := keepG (own_keeps HW4.out hx5.chg HAP.out); have HP5 := keepG (hk5 _ _ _ (.inl rfl) HP4.out); obtain ⟨Y, HY, hbY, HpY⟩ : ∃ Y, Hid (w5.alloc (.cells #[.int .i64 E, .bool f, .int .u64 x, .bool true, .int .u64 kk, .int .u64 uu] 40) = Y) ∧ Below w5.heap.size w5 Y ∧ Hid (Hp Y w5.heap.size 40 (resCG E f x true kk uu)) := ⟨_, rfl, below_allocG _ _, Hp.new w5 (resCG E f x true kk uu) _⟩; have HTY := keepG (ht5.below hbY); have HPY := keepG (HP5.out.below hbY HP5.out.lt); have HWY := keepG (own_below HW5.out hbY (Nat.le_refl _)); clear ht5 hx5 hk5 p0 p1 p2))
                | (go_at_call 15; rw [HY.out]; go_must (refine HTY.out.order.mono ?_); rintro e w6 ⟨u6, rfl, ho6, hb6⟩; go_must (have HT6 := keepG (HTY.out.below hb6); have HO6 := keepG ho6; have HW6 := keepG (own_below HWY.out hb6 (Nat.le_refl _)); have HP6 := keepG (HPY.out.below hb6 HPY.out.lt); have HR6 := keepG (HpY.out.below hb6 HpY.out.lt); obtain ⟨d6, y6, hl6, HL6⟩ := HT6.out.inner; have HL := keepG HT6.out.inv.length; have hRn6 : R'.length ≤ n := (by have h8 := HT6.out.inv.len; have h9 := HL.out; omega); have hRn6I : ¬ C < R'.length := (by rw [HC.out]; omega); obtain ⟨oa, oc, rfl⟩ := own_shape ho6; have p0 := HP6.out.cell (j := 0) rfl; have p1 := HP6.out.cell (j := 1) rfl; have p2 := HP6.out.cell (j := 2) rfl; have r3 := HR6.out.cell (j := 3) rfl; have r4 := HR6.out.cell (j := 4) rfl; have r5 := HR6.out.cell (j := 5) rfl; clear ho6))
                | (go_at_call 13; go_must (refine (HL6.out w6 (Below.refl _ _)).1.mono ?_); rintro e w9 ⟨rfl, rfl⟩; go_must (rw [← HL.out])))
              obtain ⟨ga, ca, ev9, _, hga, hnc, _, hat9⟩ := own_atG uC_len 0 HW6.out hR0
              simp only [Value.slice.injEq, true_and] at ev9
              obtain ⟨rfl, rfl⟩ := ev9
              have dl := (hat9 m hm1 0 (by omega)).1
              simp only [List.getElem?_cons_zero, Nat.add_zero, Nat.mul_one] at dl
              rw [HLK.out] at dl
              clear hat9
              have hsl : ∀ wx, (Instr.slice 33 (.slice (some ⟨ga, 0, none⟩) R.length rc) none (some (.int .i64 (m : Int))) none).run Try.prog wx = .ok (.slice (some ⟨ga, 0, none⟩) m rc) wx := fun wx => run_uptoZ (z := 1) Try.underlying33 (fun w => by kernel_rfl) ga 0 R.length rc m (by omega) wx
              have HWS : Hid (∀ wx, Below w6.heap.size w6 wx → SeesG uC 1 0 wx (.slice (some ⟨ga, 0, none⟩) m rc) W) := fun wx hb => by
                have h9 := (own_seesG uC_len 0 HW6.out).dropLast
                rw [HW.out, HWL.out] at h9
                exact h9.below hb (Nat.le_refl _)
              refine wp_region_held_drew (S := fun w' => w'.cell? ⟨w5.heap.size, 4, none⟩ = some (.int .u64 kk) ∧ w'.cell? ⟨ga, m, none⟩ = some (.int .u64 kk)) (by kernel_rfl) ⟨r4, dl⟩ (fun hHeld => ?_)
              refine wpAnyH_take (i := 0) (v := ?v40) rfl (by kernel_rfl) (by kernel_rfl) (by kernel_rfl) (fun _ _ _ h => h) (Or.inl ⟨by rfl, ?hy40⟩) (by assumption) ?rest40
              case hy40 => (intro wy hSw; (try dsimp only at hSw); go_simp; (first | done | with_reducible rfl))
              try simp only [Act.put, List.getElem_toArray, List.getElem_cons_zero, List.getElem_cons_succ, List.setIfInBounds_toArray, List.set_cons_zero, List.set_cons_succ]
              refine wpAnyH_take (i := 1) (v := ?v41) rfl (by kernel_rfl) (by kernel_rfl) (by kernel_rfl) (fun _ _ _ h => h) (Or.inl ⟨by rfl, ?hy41⟩) (by assumption) ?rest41
              case hy41 => (intro wy hSw; (try dsimp only at hSw); go_simp; (first | done | with_reducible rfl))
              try simp only [Act.put, List.getElem_toArray, List.getElem_cons_zero, List.getElem_cons_succ, List.setIfInBounds_toArray, List.set_cons_zero, List.set_cons_succ]
              refine wpAnyH_take (i := 2) (v := ?v42) rfl (by kernel_rfl) (by kernel_rfl) (by kernel_rfl) (fun _ _ _ h => h) (Or.inl ⟨by rfl, ?hy42⟩) (by assumption) ?rest42
              case hy42 => (intro wy hSw; (try dsimp only at hSw); go_simp; (first | done | with_reducible rfl))
              try simp only [Act.put, List.getElem_toArray, List.getElem_cons_zero, List.getElem_cons_succ, List.setIfInBounds_toArray, List.set_cons_zero, List.set_cons_succ]
              refine wpAnyH_take (i := 3) (v := ?v43) rfl (by kernel_rfl) (by kernel_rfl) (by kernel_rfl) (fun _ _ _ h => h) (Or.inl ⟨by rfl, ?hy43⟩) (by assumption) ?rest43
              case hy43 => (intro wy hSw; (try dsimp only at hSw); go_simp; (first | done | with_reducible rfl))
              try simp only [Act.put, List.getElem_toArray, List.getElem_cons_zero, List.getElem_cons_succ, List.setIfInBounds_toArray, List.set_cons_zero, List.set_cons_succ]
              refine wpAnyH_take (i := 4) (v := ?v44) rfl (by kernel_rfl) (by kernel_rfl) (by kernel_rfl) (fun _ _ _ h => h) (Or.inl ⟨by rfl, ?hy44⟩) (by assumption) ?rest44
              case hy44 => (intro wy hSw; (try dsimp only at hSw); go_simp; (first | done | with_reducible rfl))
              try simp only [Act.put, List.getElem_toArray, List.getElem_cons_zero, List.getElem_cons_succ, List.setIfInBounds_toArray, List.set_cons_zero, List.set_cons_succ]
              refine wpAnyH_take (i := 5) (v := ?v45) rfl (by kernel_rfl) (by kernel_rfl) (by kernel_rfl) (fun _ _ _ h => h) (Or.inl ⟨by rfl, ?hy45⟩) (by assumption) ?rest45
              case hy45 => (intro wy hSw; (try dsimp only at hSw); go_simp; (first | done | with_reducible rfl))
              try simp only [Act.put, List.getElem_toArray, List.getElem_cons_zero, List.getElem_cons_succ, List.setIfInBounds_toArray, List.set_cons_zero, List.set_cons_succ]
              refine wpAnyH_take (i := 6) (v := ?v46) rfl (by kernel_rfl) (by kernel_rfl) (by kernel_rfl) (fun _ _ _ h => h) (Or.inl ⟨by rfl, ?hy46⟩) (by assumption) ?rest46
              case hy46 => (intro wy hSw; (try dsimp only at hSw); go_simp; (first | done | with_reducible rfl))
              try simp only [Act.put, List.getElem_toArray, List.getElem_cons_zero, List.getElem_cons_succ, List.setIfInBounds_toArray, List.set_cons_zero, List.set_cons_succ]
              refine wpAnyH_take (i := 7) (v := ?v47) rfl (by kernel_rfl) (by kernel_rfl) (by kernel_rfl) (fun _ _ _ h => h) (Or.inl ⟨by rfl, ?hy47⟩) (by assumption) ?rest47
              case hy47 => (intro wy hSw; (try dsimp only at hSw); go_simp; (first | done | with_reducible rfl))
              try simp only [Act.put, List.getElem_toArray, List.getElem_cons_zero, List.getElem_cons_succ, List.setIfInBounds_toArray, List.set_cons_zero, List.set_cons_succ]
              refine wpAnyH_take (i := 8) (v := ?v48) rfl (by kernel_rfl) (by kernel_rfl) (by kernel_rfl) (fun _ _ _ h => h) (Or.inl ⟨by rfl, ?hy48⟩) (by assumption) ?rest48
              case hy48 => (intro wy hSw; (try dsimp only at hSw); go_simp; (first | done | with_reducible rfl))
              try simp only [Act.put, List.getElem_toArray, List.getElem_cons_zero, List.getElem_cons_succ, List.setIfInBounds_toArray, List.set_cons_zero, List.set_cons_succ]
              refine wpAnyH_done (by kernel_rfl) ?_ _
              go_wp2_with (rw [hsl])
              have hl6 := HP6.out.lt
              go_loopw [14, 15] (fun rv i wx => ∃ k : Nat, k ≤ m ∧ i = .int .i64 k ∧ Hid (wx.ownsRow w6.heap.size 36 1 rv (fgt key (W.take k)).length (flatG uC (fgt key (W.take k)))) ∧ Below w6.heap.size w6 wx) (fun _ i _ => m - (intOf i).toNat)
              case atStart => exact ⟨0, by omega, rfl, World.ownsRow_nil _ _ _ _, below_drG (Below.refl _ _)⟩
              case round =>
                obtain ⟨k, hk, rfl, HA9, hb9⟩ := hrel
                rename World => wx
                have hz9 := hb9.size
                have HP9 := keepG (HP6.out.below hb9 hl6)
                have p0 := HP9.out.cell (j := 0) rfl
                have p1 := HP9.out.cell (j := 1) rfl
                obtain ⟨xa, xc, ev⟩ := own_shape HA9.out
                subst ev
                by_cases hlt9 : k < m
                · have hlt9I : (k : Int) < m := by omega
                  have hltW : k < W.length := by have := HWL.out; omega
                  obtain ⟨a', c', ev, _, _, _, hcell⟩ := HWS.out _ hb9
                  simp only [Value.slice.injEq] at ev
                  obtain ⟨rfl, -, rfl⟩ := ev
                  obtain ⟨gb, ob, ew, hgb, hat9⟩ := hcell (fun e => by rw [e] at hltW; simp at hltW)
                  have ew := Option.some.inj ew
                  simp only [Addr.mk.injEq, true_and, and_true] at ew
                  obtain ⟨rfl, rfl⟩ := ew
                  have dk := hat9 k hltW 0 (by omega)
                  simp only [List.getElem?_cons_zero, Nat.add_zero, Nat.mul_one, Nat.zero_add] at dk
                  have HM9 : Hid (fgt key (W.take (k + 1)) = fgt key (W.take k) ++ (if decide (W.getD k 0 ≠ key) = true then [W.getD k 0] else [])) := filter_moreI (p := fun k => decide (k ≠ key)) hltW
                  clear hat9 hcell
                  obtain ⟨y, HYY⟩ : ∃ y, Hid (W.getD k 0 = y) := ⟨_, rfl⟩
                  rw [HYY.out] at dk HM9
                  obtain ⟨N, HNN⟩ : ∃ N, Hid (fgt key (W.take k) = N) := ⟨_, rfl⟩
                  have hNl : N.length ≤ 16 := by
                    rw [← HNN.out]
                    have h1 := List.length_filter_le (fun k => decide (k ≠ key)) (W.take k)
                    have h2 := List.length_take_le k W
                    unfold fgt
                    omega
                  rw [HNN.out] at HA9 HM9 ⊢
                  go_wp2
                  refine wp_region_held_drew (S := fun w' => w'.cell? ⟨ga, k, none⟩ = some (.int .u64 y) ∧ w'.cell? ⟨wr.heap.size, 1, none⟩ = some (.int .u64 key)) (by kernel_rfl) ⟨dk, p1⟩ (fun hHeld => ?_)
                  refine wpAnyH_take (i := 0) (v := ?v49) rfl (by kernel_rfl) (by kernel_rfl) (by kernel_rfl) (fun _ _ _ h => h) (Or.inl ⟨by rfl, ?hy49⟩) (by assumption) ?rest49
                  case hy49 => (intro wy hSw; (try dsimp only at hSw); go_simp; (first | done | with_reducible rfl))
                  try simp only [Act.put, List.getElem_toArray, List.getElem_cons_zero, List.getElem_cons_succ, List.setIfInBounds_toArray, List.set_cons_zero, List.set_cons_succ]
                  refine wpAnyH_take (i := 1) (v := ?v50) rfl (by kernel_rfl) (by kernel_rfl) (by kernel_rfl) (fun _ _ _ h => h) (Or.inl ⟨by rfl, ?hy50⟩) (by assumption) ?rest50
                  case hy50 => (intro wy hSw; (try dsimp only at hSw); go_simp; (first | done | with_reducible rfl))
                  try simp only [Act.put, List.getElem_toArray, List.getElem_cons_zero, List.getElem_cons_succ, List.setIfInBounds_toArray, List.set_cons_zero, List.set_cons_succ]
                  refine wpAnyH_take (i := 2) (v := ?v51) rfl (by kernel_rfl) (by kernel_rfl) (by kernel_rfl) (fun _ _ _ h => h) (Or.inl ⟨by rfl, ?hy51⟩) (by assumption) ?rest51
                  case hy51 => (intro wy hSw; (try dsimp only at hSw); go_simp; (first | done | with_reducible rfl))
                  try simp only [Act.put, List.getElem_toArray, List.getElem_cons_zero, List.getElem_cons_succ, List.setIfInBounds_toArray, List.set_cons_zero, List.set_cons_succ]
                  refine wpAnyH_take (i := 3) (v := ?v52) rfl (by kernel_rfl) (by kernel_rfl) (by kernel_rfl) (fun _ _ _ h => h) (Or.inl ⟨by rfl, ?hy52⟩) (by assumption) ?rest52
                  case hy52 => (intro wy hSw; (try dsimp only at hSw); go_simp; (first | done | with_reducible rfl))
                  try simp only [Act.put, List.getElem_toArray, List.getElem_cons_zero, List.getElem_cons_succ, List.setIfInBounds_toArray, List.set_cons_zero, List.set_cons_succ]
                  refine wpAnyH_take (i := 4) (v := ?v53) rfl (by kernel_rfl) (by kernel_rfl) (by kernel_rfl) (fun _ _ _ h => h) (Or.inl ⟨by rfl, ?hy53⟩) (by assumption) ?rest53
                  case hy53 => (intro wy hSw; (try dsimp only at hSw); go_simp; (first | done | with_reducible rfl))
                  try simp only [Act.put, List.getElem_toArray, List.getElem_cons_zero, List.getElem_cons_succ, List.setIfInBounds_toArray, List.set_cons_zero, List.set_cons_succ]
                  refine wpAnyH_take (i := 5) (v := ?v54) rfl (by kernel_rfl) (by kernel_rfl) (by kernel_rfl) (fun _ _ _ h => h) (Or.inl ⟨by rfl, ?hy54⟩) (by assumption) ?rest54
                  case hy54 => (intro wy hSw; (try dsimp only at hSw); go_simp; (first | done | with_reducible rfl))
                  try simp only [Act.put, List.getElem_toArray, List.getElem_cons_zero, List.getElem_cons_succ, List.setIfInBounds_toArray, List.set_cons_zero, List.set_cons_succ]
                  refine wpAnyH_take (i := 6) (v := ?v55) rfl (by kernel_rfl) (by kernel_rfl) (by kernel_rfl) (fun _ _ _ h => h) (Or.inl ⟨by rfl, ?hy55⟩) (by assumption) ?rest55
                  case hy55 => (intro wy hSw; (try dsimp only at hSw); go_simp; (first | done | with_reducible rfl))
                  try simp only [Act.put, List.getElem_toArray, List.getElem_cons_zero, List.getElem_cons_succ, List.setIfInBounds_toArray, List.set_cons_zero, List.set_cons_succ]
                  refine wpAnyH_done (by kernel_rfl) ?_ _
                  by_cases he9 : y = key
                  · have heb : (y == key) = true := by simpa using he9
                    rw [if_neg (by simpa using he9), List.append_nil] at HM9
                    clear he9
                    go_wp2
                    go_roundw
                    case rel => exact ⟨k + 1, by omega, by go_num, by rw [HM9.out]; exact HA9.out, below_drG hb9⟩
                    case measure => simp [intOf]; omega
                  · have heb : (y == key) = false := by simpa using he9
                    rw [if_pos (by simpa using he9)] at HM9
                    clear he9
                    go_wp2_with (at_builtin; go_must (refine wpList_append_own_at _ rfl (.tmp 146) (.tmp 151) 33 rfl w6.heap.size 36 i0 _ 1 8 Try.underlying33 hi0 hz0 hzs hzb rfl (by decide) (.slice xa N.length xc) N.length (flatG uC N) rfl (own_drewG (HA9.out.alloc _)) ⟨_, 0, none⟩ 1 1 (uC y) rfl rfl (cells_newD wx (uC y) _ _ rfl) (uC_one y) (by unfold maxLen; omega) (by omega) (by simp; omega) ?_); intro v1 w7 hown hgr _ hnew; go_must (have HOW : Hid _ := own_moreG hown; have hb7 : Below w6.heap.size w6 w7 := hb9.trans ((chg_append (grown_undrew hgr)).below (fun k e => (HA9.out.lt k e).1) hz9); clear hown hgr hnew; obtain ⟨va1, vc1, rfl⟩ := own_shape HOW.out))
                    have eN : (N ++ [y]).length = N.length + 1 := by simp
                    go_roundw
                    case rel => exact ⟨k + 1, by omega, by go_num, by have hh := HOW.out; rw [HM9.out]; show World.ownsRow _ _ _ _ _ _ _; rw [eN] at hh ⊢; exact hh, hb7⟩
                    case measure => simp [intOf]; omega
                · have hlt9I : ¬ (k : Int) < m := by omega
                  have hTT : W.take k = W := List.take_of_length_le (by have := HWL.out; omega)
                  obtain ⟨T, HTT⟩ : ∃ T, Hid (fgt key (W.take k) = T) := ⟨_, rfl⟩
                  rw [HTT.out] at HA9 ⊢
                  rw [hTT] at HTT
                  clear hTT
                  have hTl : T.length ≤ 16 := by
                    rw [← HTT.out]
                    have h1 := List.length_filter_le (fun k => decide (k ≠ key)) W
                    unfold fgt
                    omega
                  rw [HTT.out] at HRR
                  obtain ⟨v8, w8, hr8, ho8, hg8, _⟩ := run_append_seesG (f := uC) (d := (0 : Int)) (P := Try.prog) (wx.alloc (.cells #[.int .u64 key] 36)) w6.heap.size 33 33 36 i0 _ 1 8 Try.underlying33 hi0 hz0 hzs hzb rfl (by decide) (.slice (some ⟨wx.heap.size, 0, none⟩) 1 1) 1 [.int .u64 key] (own_lowG (own_litU wx key) hz9) uC_len ((own_seesG uC_len 0 HA9.out).alloc _) (flat_oneU T) (by unfold maxLen; omega) (by omega) (by simp; omega)
                  have hb8 : Below w6.heap.size w6 w8 := hb9.trans ((chg_append hg8).below (fun k e => by have h9 : wx.heap.size = k := Option.some.inj e; omega) hz9)
                  obtain ⟨va8, vc8, rfl⟩ := own_shape ho8
                  have HS8 : Hid (SeesG uC 1 0 w8 (.slice va8 (1 + T.length) vc8) R') := by
                    have e9 : 1 + T.length = R'.length := by rw [HRR.out]; simp; omega
                    have h9 : w8.ownsRow w6.heap.size 36 1 (.slice va8 (1 + T.length) vc8) R'.length (flatG uC R') := by
                      rw [← e9, HRR.out]
                      exact ho8
                    exact own_seesG uC_len 0 h9
                  have HO8 : Hid (SeesG uC 1 0 w8 (.slice oa R'.length oc) R') := (own_seesG uC_len 0 HO6.out).below hb8 (Nat.le_refl _)
                  have HR8 := keepG hr8
                  clear hr8 ho8 hg8
                  go_wp2_with (first
                    | (at_builtin; go_must (refine wpList_appG _ rfl (.tmp 164) (.tmp 165) 33 33 rfl _ _ rfl rfl HR8.out ?_))
                    | (go_at_call 14; go_must (refine (wnums_same HO8.out HS8.out).mono ?_); rintro e wz ⟨rfl, mz, rfl⟩))
                  have HTE := keepG (HT6.out.below (w' := w8.drewN mz) ⟨hb8.os, hb8.tape, hb8.output, hb8.size, hb8.block⟩)
                  go_roundw
                  case rel => exact ⟨j + 1, by omega, by go_num, S', R', F5, HTE.out⟩
                  case measure => simp [intOf]; omega
          · skip
            as_aux_lemma =>
              have hna : decide (na ≥ 0) = false := by rw [hmem]; exact decide_eq_false hin
              have hev2 : evA n S op key = false := by rw [hev]; simp [hop, hin, hfull]
              have htc2 : tchA S op key = true := by rw [htc]; simp [hop, hin]
              have hfb : ((R.length : Int) == C) = false := by rw [HC.out]; simp; omega
              rw [htc2] at hord
              simp only [if_true] at hord
              have hout := out_no (R := R) hev2
              obtain ⟨E, f, x, S', R', HA⟩ : ∃ E f x S' R', Hid (doA n S R op key val = (⟨E, f, x, false, 0, 0⟩, S', R')) := doA_no hev2 val
              rw [hout] at hord
              clear hout
              rw [HA.out] at hord
              have HRR := keepG hord
              have hWl : R.length ≤ 16 := by omega
              clear hord hev htc hmem hev2 htc2 hfull hin
              obtain rfl : op = 4 := hop
              have PX : True := trivial
              go_wp2_with (first
                | (go_at_call 15; have hq := PX; clear hq; rw [HX.out]; go_must (refine HTX.out.order.mono ?_); rintro e w4 ⟨u4, rfl, ho4, hb4⟩; go_must (have HT4 := keepG (HTX.out.below hb4); have HW4 := keepG ho4; have HP4 := keepG (hpX.out.below hb4 hzX); have HAP := keepG (Apt.made HTX.out.lies (own_since ho4 (Nat.le_refl _))); obtain ⟨ra, rc, rfl⟩ := own_shape ho4; have p0 := HP4.out.cell (j := 0) rfl; have p1 := HP4.out.cell (j := 1) rfl; have p2 := HP4.out.cell (j := 2) rfl; clear ho4 PX))
                | (go_at_call 20; go_must (refine (wat_any key (own_seesG uC_len 0 HW4.out) HN).mono ?_); rintro e w9 ⟨rfl, rfl⟩)
                | (go_at_call 11; go_must (refine (HT4.out.do HA).mono ?_); rintro e w5 ⟨rfl, F5, ht5, hx5, hk5⟩; go_must (have HW5 := keepG (own_keeps HW4.out hx5.chg HAP.out); have HP5 := keepG (hk5 _ _ _ (.inl rfl) HP4.out); obtain ⟨Y, HY, hbY, HpY⟩ : ∃ Y, Hid (w5.alloc (.cells #[.int .i64 E, .bool f, .int .u64 x, .bool false, .int .u64 0, .int .u64 0] 40) = Y) ∧ Below w5.heap.size w5 Y ∧ Hid (Hp Y w5.heap.size 40 (resCG E f x false 0 0)) := ⟨_, rfl, below_allocG _ _, Hp.new w5 (resCG E f x false 0 0) _⟩; have HTY := keepG (ht5.below hbY); have HPY := keepG (HP5.out.below hbY HP5.out.lt); have HWY := keepG (own_below HW5.out hbY (Nat.le_refl _)); clear ht5 hx5 hk5 p0 p1 p2))
                | (go_at_call 15; rw [HY.out]; go_must (refine HTY.out.order.mono ?_); rintro e w6 ⟨u6, rfl, ho6, hb6⟩; go_must (have HT6 := keepG (HTY.out.below hb6); have HO6 := keepG ho6; have HW6 := keepG (own_below HWY.out hb6 (Nat.le_refl _)); have HP6 := keepG (HPY.out.below hb6 HPY.out.lt); have HR6 := keepG (HpY.out.below hb6 HpY.out.lt); obtain ⟨d6, y6, hl6, HL6⟩ := HT6.out.inner; have HL := keepG HT6.out.inv.length; have hRn6 : R'.length ≤ n := (by have h8 := HT6.out.inv.len; have h9 := HL.out; omega); have hRn6I : ¬ C < R'.length := (by rw [HC.out]; omega); obtain ⟨oa, oc, rfl⟩ := own_shape ho6; have p0 := HP6.out.cell (j := 0) rfl; have p1 := HP6.out.cell (j := 1) rfl; have p2 := HP6.out.cell (j := 2) rfl; have r3 := HR6.out.cell (j := 3) rfl; have r4 := HR6.out.cell (j := 4) rfl; have r5 := HR6.out.cell (j := 5) rfl; clear ho6))
                | (go_at_call 13; go_must (refine (HL6.out w6 (Below.refl _ _)).1.mono ?_); rintro e w9 ⟨rfl, rfl⟩; go_must (rw [← HL.out])))
              have HWS : Hid (∀ wx, Below w6.heap.size w6 wx → SeesG uC 1 0 wx (.slice ra R.length rc) R) := fun wx hb => (own_seesG uC_len 0 HW6.out).below hb (Nat.le_refl _)
              have hl6 := HP6.out.lt
              go_loopw [14, 15] (fun rv i wx => ∃ k : Nat, k ≤ R.length ∧ i = .int .i64 k ∧ Hid (wx.ownsRow w6.heap.size 36 1 rv (fgt key (R.take k)).length (flatG uC (fgt key (R.take k)))) ∧ Below w6.heap.size w6 wx) (fun _ i _ => R.length - (intOf i).toNat)
              case atStart => exact ⟨0, by omega, rfl, World.ownsRow_nil _ _ _ _, Below.refl _ _⟩
              case round =>
                obtain ⟨k, hk, rfl, HA9, hb9⟩ := hrel
                rename World => wx
                have hz9 := hb9.size
                have HP9 := keepG (HP6.out.below hb9 hl6)
                have p0 := HP9.out.cell (j := 0) rfl
                have p1 := HP9.out.cell (j := 1) rfl
                obtain ⟨xa, xc, ev⟩ := own_shape HA9.out
                subst ev
                by_cases hlt9 : k < R.length
                · have hlt9I : (k : Int) < R.length := by omega
                  have hltW : k < R.length := by omega
                  obtain ⟨a', c', ev, _, _, _, hcell⟩ := HWS.out _ hb9
                  simp only [Value.slice.injEq, true_and] at ev
                  obtain ⟨rfl, rfl⟩ := ev
                  obtain ⟨gb, ob, rfl, hgb, hat9⟩ := hcell (fun e => by rw [e] at hltW; simp at hltW)
                  skip
                  skip
                  skip
                  have dk := hat9 k hltW 0 (by omega)
                  simp only [List.getElem?_cons_zero, Nat.add_zero, Nat.mul_one, Nat.zero_add] at dk
                  have HM9 : Hid (fgt key (R.take (k + 1)) = fgt key (R.take k) ++ (if decide (R.getD k 0 ≠ key) = true then [R.getD k 0] else [])) := filter_moreI (p := fun k => decide (k ≠ key)) hltW
                  clear hat9 hcell
                  obtain ⟨y, HYY⟩ : ∃ y, Hid (R.getD k 0 = y) := ⟨_, rfl⟩
                  rw [HYY.out] at dk HM9
                  obtain ⟨N, HNN⟩ : ∃ N, Hid (fgt key (R.take k) = N) := ⟨_, rfl⟩
                  have hNl : N.length ≤ 16 := by
                    rw [← HNN.out]
                    have h1 := List.length_filter_le (fun k => decide (k ≠ key)) (R.take k)
                    have h2 := List.length_take_le k R
                    unfold fgt
                    omega
                  rw [HNN.out] at HA9 HM9 ⊢
                  go_wp2
                  refine wp_region_held_drew (S := fun w' => w'.cell? ⟨gb, ob + k, none⟩ = some (.int .u64 y) ∧ w'.cell? ⟨wr.heap.size, 1, none⟩ = some (.int .u64 key)) (by kernel_rfl) ⟨dk, p1⟩ (fun hHeld => ?_)
                  refine wpAnyH_take (i := 0) (v := ?v56) rfl (by kernel_rfl) (by kernel_rfl) (by kernel_rfl) (fun _ _ _ h => h) (Or.inl ⟨by rfl, ?hy56⟩) (by assumption) ?rest56
                  case hy56 => (intro wy hSw; (try dsimp only at hSw); go_simp; (first | done | with_reducible rfl))
                  try simp only [Act.put, List.getElem_toArray, List.getElem_cons_zero, List.getElem_cons_succ, List.setIfInBounds_toArray, List.set_cons_zero, List.set_cons_succ]
                  refine wpAnyH_take (i := 1) (v := ?v57) rfl (by kernel_rfl) (by kernel_rfl) (by kernel_rfl) (fun _ _ _ h => h) (Or.inl ⟨by rfl, ?hy57⟩) (by assumption) ?rest57
                  case hy57 => (intro wy hSw; (try dsimp only at hSw); go_simp; (first | done | with_reducible rfl))
                  try simp only [Act.put, List.getElem_toArray, List.getElem_cons_zero, List.getElem_cons_succ, List.setIfInBounds_toArray, List.set_cons_zero, List.set_cons_succ]
                  refine wpAnyH_take (i := 2) (v := ?v58) rfl (by kernel_rfl) (by kernel_rfl) (by kernel_rfl) (fun _ _ _ h => h) (Or.inl ⟨by rfl, ?hy58⟩) (by assumption) ?rest58
                  case hy58 => (intro wy hSw; (try dsimp only at hSw); go_simp; (first | done | with_reducible rfl))
                  try simp only [Act.put, List.getElem_toArray, List.getElem_cons_zero, List.getElem_cons_succ, List.setIfInBounds_toArray, List.set_cons_zero, List.set_cons_succ]
                  refine wpAnyH_take (i := 3) (v := ?v59) rfl (by kernel_rfl) (by kernel_rfl) (by kernel_rfl) (fun _ _ _ h => h) (Or.inl ⟨by rfl, ?hy59⟩) (by assumption) ?rest59
                  case hy59 => (intro wy hSw; (try dsimp only at hSw); go_simp; (first | done | with_reducible rfl))
                  try simp only [Act.put, List.getElem_toArray, List.getElem_cons_zero, List.getElem_cons_succ, List.setIfInBounds_toArray, List.set_cons_zero, List.set_cons_succ]
                  refine wpAnyH_take (i := 4) (v := ?v60) rfl (by kernel_rfl) (by kernel_rfl) (by kernel_rfl) (fun _ _ _ h => h) (Or.inl ⟨by rfl, ?hy60⟩) (by assumption) ?rest60
                  case hy60 => (intro wy hSw; (try dsimp only at hSw); go_simp; (first | done | with_reducible rfl))
                  try simp only [Act.put, List.getElem_toArray, List.getElem_cons_zero, List.getElem_cons_succ, List.setIfInBounds_toArray, List.set_cons_zero, List.set_cons_succ]
                  refine wpAnyH_take (i := 5) (v := ?v61) rfl (by kernel_rfl) (by kernel_rfl) (by kernel_rfl) (fun _ _ _ h => h) (Or.inl ⟨by rfl, ?hy61⟩) (by assumption) ?rest61
                  case hy61 => (intro wy hSw; (try dsimp only at hSw); go_simp; (first | done | with_reducible rfl))
                  try simp only [Act.put, List.getElem_toArray, List.getElem_cons_zero, List.getElem_cons_succ, List.setIfInBounds_toArray, List.set_cons_zero, List.set_cons_succ]
                  refine wpAnyH_take (i := 6) (v := ?v62) rfl (by kernel_rfl) (by kernel_rfl) (by kernel_rfl) (fun _ _ _ h => h) (Or.inl ⟨by rfl, ?hy62⟩) (by assumption) ?rest62
                  case hy62 => (intro wy hSw; (try dsimp only at hSw); go_simp; (first | done | with_reducible rfl))
                  try simp only [Act.put, List.getElem_toArray, List.getElem_cons_zero, List.getElem_cons_succ, List.setIfInBounds_toArray, List.set_cons_zero, List.set_cons_succ]
                  refine wpAnyH_done (by kernel_rfl) ?_ _
                  by_cases he9 : y = key
                  · have heb : (y == key) = true := by simpa using he9
                    rw [if_neg (by simpa using he9), List.append_nil] at HM9
                    clear he9
                    go_wp2
                    go_roundw
                    case rel => exact ⟨k + 1, by omega, by go_num, by rw [HM9.out]; exact HA9.out, below_drG hb9⟩
                    case measure => simp [intOf]; omega
                  · have heb : (y == key) = false := by simpa using he9
                    rw [if_pos (by simpa using he9)] at HM9
                    clear he9
                    go_wp2_with (at_builtin; go_must (refine wpList_append_own_at _ rfl (.tmp 146) (.tmp 151) 33 rfl w6.heap.size 36 i0 _ 1 8 Try.underlying33 hi0 hz0 hzs hzb rfl (by decide) (.slice xa N.length xc) N.length (flatG uC N) rfl (own_drewG (HA9.out.alloc _)) ⟨_, 0, none⟩ 1 1 (uC y) rfl rfl (cells_newD wx (uC y) _ _ rfl) (uC_one y) (by unfold maxLen; omega) (by omega) (by simp; omega) ?_); intro v1 w7 hown hgr _ hnew; go_must (have HOW : Hid _ := own_moreG hown; have hb7 : Below w6.heap.size w6 w7 := hb9.trans ((chg_append (grown_undrew hgr)).below (fun k e => (HA9.out.lt k e).1) hz9); clear hown hgr hnew; obtain ⟨va1, vc1, rfl⟩ := own_shape HOW.out))
                    have eN : (N ++ [y]).length = N.length + 1 := by simp
                    go_roundw
                    case rel => exact ⟨k + 1, by omega, by go_num, by have hh := HOW.out; rw [HM9.out]; show World.ownsRow _ _ _ _ _ _ _; rw [eN] at hh ⊢; exact hh, hb7⟩
                    case measure => simp [intOf]; omega
                · have hlt9I : ¬ (k : Int) < R.length := by omega
                  have hTT : R.take k = R := List.take_of_length_le (by omega)
                  obtain ⟨T, HTT⟩ : ∃ T, Hid (fgt key (R.take k) = T) := ⟨_, rfl⟩
                  rw [HTT.out] at HA9 ⊢
                  rw [hTT] at HTT
                  clear hTT
                  have hTl : T.length ≤ 16 := by
                    rw [← HTT.out]
                    have h1 := List.length_filter_le (fun k => decide (k ≠ key)) R
                    unfold fgt
                    omega
                  rw [HTT.out] at HRR
                  obtain ⟨v8, w8, hr8, ho8, hg8, _⟩ := run_append_seesG (f := uC) (d := (0 : Int)) (P := Try.prog) (wx.alloc (.cells #[.int .u64 key] 36)) w6.heap.size 33 33 36 i0 _ 1 8 Try.underlying33 hi0 hz0 hzs hzb rfl (by decide) (.slice (some ⟨wx.heap.size, 0, none⟩) 1 1) 1 [.int .u64 key] (own_lowG (own_litU wx key) hz9) uC_len ((own_seesG uC_len 0 HA9.out).alloc _) (flat_oneU T) (by unfold maxLen; omega) (by omega) (by simp; omega)
                  have hb8 : Below w6.heap.size w6 w8 := hb9.trans ((chg_append hg8).below (fun k e => by have h9 : wx.heap.size = k := Option.some.inj e; omega) hz9)
                  obtain ⟨va8, vc8, rfl⟩ := own_shape ho8
                  have HS8 : Hid (SeesG uC 1 0 w8 (.slice va8 (1 + T.length) vc8) R') := by
                    have e9 : 1 + T.length = R'.length := by rw [HRR.out]; simp; omega
                    have h9 : w8.ownsRow w6.heap.size 36 1 (.slice va8 (1 + T.length) vc8) R'.length (flatG uC R') := by
                      rw [← e9, HRR.out]
                      exact ho8
                    exact own_seesG uC_len 0 h9
                  have HO8 : Hid (SeesG uC 1 0 w8 (.slice oa R'.length oc) R') := (own_seesG uC_len 0 HO6.out).below hb8 (Nat.le_refl _)
                  have HR8 := keepG hr8
                  clear hr8 ho8 hg8
                  go_wp2_with (first
                    | (at_builtin; go_must (refine wpList_appG _ rfl (.tmp 164) (.tmp 165) 33 33 rfl _ _ rfl rfl HR8.out ?_))
                    | (go_at_call 14; go_must (refine (wnums_same HO8.out HS8.out).mono ?_); rintro e wz ⟨rfl, mz, rfl⟩))
                  have HTE := keepG (HT6.out.below (w' := w8.drewN mz) ⟨hb8.os, hb8.tape, hb8.output, hb8.size, hb8.block⟩)
                  go_roundw
                  case rel => exact ⟨j + 1, by omega, by go_num, S', R', F5, HTE.out⟩
                  case measure => simp [intOf]; omega
      have ho4 := hop
      clear hop
      by_cases hop : op = 0
      · by_cases hin : key ∈ R
        · skip
          as_aux_lemma =>
            have hna : decide (na ≥ 0) = true := by rw [hmem]; exact decide_eq_true hin
            have hev2 : evA n S op key = false := by rw [hev]; simp [hop, hin]
            have htc2 : tchA S op key = true := by rw [htc]; simp [hop, hin]
            rw [htc2] at hord
            simp only [if_true] at hord
            have hout := out_no (R := R) hev2
            obtain ⟨E, f, x, S', R', HA⟩ : ∃ E f x S' R', Hid (doA n S R op key val = (⟨E, f, x, false, 0, 0⟩, S', R')) := doA_no hev2 val
            rw [hout] at hord
            clear hout
            rw [HA.out] at hord
            have HRR := keepG hord
            have hWl : R.length ≤ 16 := by omega
            clear hord hev htc hmem hev2 htc2 hin
            obtain rfl : op = 0 := hop
            have PX : True := trivial
            go_wp2_with (first
              | (go_at_call 15; have hq := PX; clear hq; rw [HX.out]; go_must (refine HTX.out.order.mono ?_); rintro e w4 ⟨u4, rfl, ho4, hb4⟩; go_must (have HT4 := keepG (HTX.out.below hb4); have HW4 := keepG ho4; have HP4 := keepG (hpX.out.below hb4 hzX); have HAP := keepG (Apt.made HTX.out.lies (own_since ho4 (Nat.le_refl _))); obtain ⟨ra, rc, rfl⟩ := own_shape ho4; have p0 := HP4.out.cell (j := 0) rfl; have p1 := HP4.out.cell (j := 1) rfl; have p2 := HP4.out.cell (j := 2) rfl; clear ho4 PX))
              | (go_at_call 20; go_must (refine (wat_any key (own_seesG uC_len 0 HW4.out) HN).mono ?_); rintro e w9 ⟨rfl, rfl⟩)
              | (go_at_call 11; go_must (refine (HT4.out.do HA).mono ?_); rintro e w5 ⟨rfl, F5, ht5, hx5, hk5⟩; go_must (have HW5 := keepG (own_keeps HW4.out hx5.chg HAP.out); have HP5 := keepG (hk5 _ _ _ (.inl rfl) HP4.out); obtain ⟨Y, HY, hbY, HpY⟩ : ∃ Y, Hid (w5.alloc (.cells #[.int .i64 E, .bool f, .int .u64 x, .bool false, .int .u64 0, .int .u64 0] 40) = Y) ∧ Below w5.heap.size w5 Y ∧ Hid (Hp Y w5.heap.size 40 (resCG E f x false 0 0)) := ⟨_, rfl, below_allocG _ _, Hp.new w5 (resCG E f x false 0 0) _⟩; have HTY := keepG (ht5.below hbY); have HPY := keepG (HP5.out.below hbY HP5.out.lt); have HWY := keepG (own_below HW5.out hbY (Nat.le_refl _)); clear ht5 hx5 hk5 p0 p1 p2))
              | (go_at_call 15; rw [HY.out]; go_must (refine HTY.out.order.mono ?_); rintro e w6 ⟨u6, rfl, ho6, hb6⟩; go_must (have HT6 := keepG (HTY.out.below hb6); have HO6 := keepG ho6; have HW6 := keepG (own_below HWY.out hb6 (Nat.le_refl _)); have HP6 := keepG (HPY.out.below hb6 HPY.out.lt); have HR6 := keepG (HpY.out.below hb6 HpY.out.lt); obtain ⟨d6, y6, hl6, HL6⟩ := HT6.out.inner; have HL := keepG HT6.out.inv.length; have hRn6 : R'.length ≤ n := (by have h8 := HT6.out.inv.len; have h9 := HL.out; omega); have hRn6I : ¬ C < R'.length := (by rw [HC.out]; omega); obtain ⟨oa, oc, rfl⟩ := own_shape ho6; have p0 := HP6.out.cell (j := 0) rfl; have p1 := HP6.out.cell (j := 1) rfl; have p2 := HP6.out.cell (j := 2) rfl; have r3 := HR6.out.cell (j := 3) rfl; have r4 := HR6.out.cell (j := 4) rfl; have r5 := HR6.out.cell (j := 5) rfl; clear ho6))
              | (go_at_call 13; go_must (refine (HL6.out w6 (Below.refl _ _)).1.mono ?_); rintro e w9 ⟨rfl, rfl⟩; go_must (rw [← HL.out])))
            have HWS : Hid (∀ wx, Below w6.heap.size w6 wx → SeesG uC 1 0 wx (.slice ra R.length rc) R) := fun wx hb => (own_seesG uC_len 0 HW6.out).below hb (Nat.le_refl _)
            have hl6 := HP6.out.lt
            go_loopw [14, 15] (fun rv i wx => ∃ k : Nat, k ≤ R.length ∧ i = .int .i64 k ∧ Hid (wx.ownsRow w6.heap.size 36 1 rv (fgt key (R.take k)).length (flatG uC (fgt key (R.take k)))) ∧ Below w6.heap.size w6 wx) (fun _ i _ => R.length - (intOf i).toNat)
            case atStart => exact ⟨0, by omega, rfl, World.ownsRow_nil _ _ _ _, Below.refl _ _⟩
            case round =>
              obtain ⟨k, hk, rfl, HA9, hb9⟩ := hrel
              rename World => wx
              have hz9 := hb9.size
              have HP9 := keepG (HP6.out.below hb9 hl6)
              have p0 := HP9.out.cell (j := 0) rfl
              have p1 := HP9.out.cell (j := 1) rfl
              obtain ⟨xa, xc, ev⟩ := own_shape HA9.out
              subst ev
              by_cases hlt9 : k < R.length
              · have hlt9I : (k : Int) < R.length := by omega
                have hltW : k < R.length := by omega
                obtain ⟨a', c', ev, _, _, _, hcell⟩ := HWS.out _ hb9
                simp only [Value.slice.injEq, true_and] at ev
                obtain ⟨rfl, rfl⟩ := ev
                obtain ⟨gb, ob, rfl, hgb, hat9⟩ := hcell (fun e => by rw [e] at hltW; simp at hltW)
                skip
                skip
                skip
                have dk := hat9 k hltW 0 (by omega)
                simp only [List.getElem?_cons_zero, Nat.add_zero, Nat.mul_one, Nat.zero_add] at dk
                have HM9 : Hid (fgt key (R.take (k + 1)) = fgt key (R.take k) ++ (if decide (R.getD k 0 ≠ key) = true then [R.getD k 0] else [])) := filter_moreI (p := fun k => decide (k ≠ key)) hltW
                clear hat9 hcell
                obtain ⟨y, HYY⟩ : ∃ y, Hid (R.getD k 0 = y) := ⟨_, rfl⟩
                rw [HYY.out] at dk HM9
                obtain ⟨N, HNN⟩ : ∃ N, Hid (fgt key (R.take k) = N) := ⟨_, rfl⟩
                have hNl : N.length ≤ 16 := by
                  rw [← HNN.out]
                  have h1 := List.length_filter_le (fun k => decide (k ≠ key)) (R.take k)
                  have h2 := List.length_take_le k R
                  unfold fgt
                  omega
                rw [HNN.out] at HA9 HM9 ⊢
                go_wp2
                refine wp_region_held_drew (S := fun w' => w'.cell? ⟨gb, ob + k, none⟩ = some (.int .u64 y) ∧ w'.cell? ⟨wr.heap.size, 1, none⟩ = some (.int .u64 key)) (by kernel_rfl) ⟨dk, p1⟩ (fun hHeld => ?_)
                refine wpAnyH_take (i := 0) (v := ?v63) rfl (by kernel_rfl) (by kernel_rfl) (by kernel_rfl) (fun _ _ _ h => h) (Or.inl ⟨by rfl, ?hy63⟩) (by assumption) ?rest63
                case hy63 => (intro wy hSw; (try dsimp only at hSw); go_simp; (first | done | with_reducible rfl))
                try simp only [Act.put, List.getElem_toArray, List.getElem_cons_zero, List.getElem_cons_succ, List.setIfInBounds_toArray, List.set_cons_zero, List.set_cons_succ]
                refine wpAnyH_take (i := 1) (v := ?v64) rfl (by kernel_rfl) (by kernel_rfl) (by kernel_rfl) (fun _ _ _ h => h) (Or.inl ⟨by rfl, ?hy64⟩) (by assumption) ?rest64
                case hy64 => (intro wy hSw; (try dsimp only at hSw); go_simp; (first | done | with_reducible rfl))
                try simp only [Act.put, List.getElem_toArray, List.getElem_cons_zero, List.getElem_cons_succ, List.setIfInBounds_toArray, List.set_cons_zero, List.set_cons_succ]
                refine wpAnyH_take (i := 2) (v := ?v65) rfl (by kernel_rfl) (by kernel_rfl) (by kernel_rfl) (fun _ _ _ h => h) (Or.inl ⟨by rfl, ?hy65⟩) (by assumption) ?rest65
                case hy65 => (intro wy hSw; (try dsimp only at hSw); go_simp; (first | done | with_reducible rfl))
                try simp only [Act.put, List.getElem_toArray, List.getElem_cons_zero, List.getElem_cons_succ, List.setIfInBounds_toArray, List.set_cons_zero, List.set_cons_succ]
                refine wpAnyH_take (i := 3) (v := ?v66) rfl (by kernel_rfl) (by kernel_rfl) (by kernel_rfl) (fun _ _ _ h => h) (Or.inl ⟨by rfl, ?hy66⟩) (by assumption) ?rest66
                case hy66 => (intro wy hSw; (try dsimp only at hSw); go_simp; (first | done | with_reducible rfl))
                try simp only [Act.put, List.getElem_toArray, List.getElem_cons_zero, List.getElem_cons_succ, List.setIfInBounds_toArray, List.set_cons_zero, List.set_cons_succ]
                refine wpAnyH_take (i := 4) (v := ?v67) rfl (by kernel_rfl) (by kernel_rfl) (by kernel_rfl) (fun _ _ _ h => h) (Or.inl ⟨by rfl, ?hy67⟩) (by assumption) ?rest67
                case hy67 => (intro wy hSw; (try dsimp only at hSw); go_simp; (first | done | with_reducible rfl))
                try simp only [Act.put, List.getElem_toArray, List.getElem_cons_zero, List.getElem_cons_succ, List.setIfInBounds_toArray, List.set_cons_zero, List.set_cons_succ]
                refine wpAnyH_take (i := 5) (v := ?v68) rfl (by kernel_rfl) (by kernel_rfl) (by kernel_rfl) (fun _ _ _ h => h) (Or.inl ⟨by rfl, ?hy68⟩) (by assumption) ?rest68
                case hy68 => (intro wy hSw; (try dsimp only at hSw); go_simp; (first | done | with_reducible rfl))
                try simp only [Act.put, List.getElem_toArray, List.getElem_cons_zero, List.getElem_cons_succ, List.setIfInBounds_toArray, List.set_cons_zero, List.set_cons_succ]
                refine wpAnyH_take (i := 6) (v := ?v69) rfl (by kernel_rfl) (by kernel_rfl) (by kernel_rfl) (fun _ _ _ h => h) (Or.inl ⟨by rfl, ?hy69⟩) (by assumption) ?rest69
                case hy69 => (intro wy hSw; (try dsimp only at hSw); go_simp; (first | done | with_reducible rfl))
                try simp only [Act.put, List.getElem_toArray, List.getElem_cons_zero, List.getElem_cons_succ, List.setIfInBounds_toArray, List.set_cons_zero, List.set_cons_succ]
                refine wpAnyH_done (by kernel_rfl) ?_ _
                by_cases he9 : y = key
                · have heb : (y == key) = true := by simpa using he9
                  rw [if_neg (by simpa using he9), List.append_nil] at HM9
                  clear he9
                  go_wp2
                  go_roundw
                  case rel => exact ⟨k + 1, by omega, by go_num, by rw [HM9.out]; exact HA9.out, below_drG hb9⟩
                  case measure => simp [intOf]; omega
                · have heb : (y == key) = false := by simpa using he9
                  rw [if_pos (by simpa using he9)] at HM9
                  clear he9
                  go_wp2_with (at_builtin; go_must (refine wpList_append_own_at _ rfl (.tmp 146) (.tmp 151) 33 rfl w6.heap.size 36 i0 _ 1 8 Try.underlying33 hi0 hz0 hzs hzb rfl (by decide) (.slice xa N.length xc) N.length (flatG uC N) rfl (own_drewG (HA9.out.alloc _)) ⟨_, 0, none⟩ 1 1 (uC y) rfl rfl (cells_newD wx (uC y) _ _ rfl) (uC_one y) (by unfold maxLen; omega) (by omega) (by simp; omega) ?_); intro v1 w7 hown hgr _ hnew; go_must (have HOW : Hid _ := own_moreG hown; have hb7 : Below w6.heap.size w6 w7 := hb9.trans ((chg_append (grown_undrew hgr)).below (fun k e => (HA9.out.lt k e).1) hz9); clear hown hgr hnew; obtain ⟨va1, vc1, rfl⟩ := own_shape HOW.out))
                  have eN : (N ++ [y]).length = N.length + 1 := by simp
                  go_roundw
                  case rel => exact ⟨k + 1, by omega, by go_num, by have hh := HOW.out; rw [HM9.out]; show World.ownsRow _ _ _ _ _ _ _; rw [eN] at hh ⊢; exact hh, hb7⟩
                  case measure => simp [intOf]; omega
              · have hlt9I : ¬ (k : Int) < R.length := by omega
                have hTT : R.take k = R := List.take_of_length_le (by omega)
                obtain ⟨T, HTT⟩ : ∃ T, Hid (fgt key (R.take k) = T) := ⟨_, rfl⟩
                rw [HTT.out] at HA9 ⊢
                rw [hTT] at HTT
                clear hTT
                have hTl : T.length ≤ 16 := by
                  rw [← HTT.out]
                  have h1 := List.length_filter_le (fun k => decide (k ≠ key)) R
                  unfold fgt
                  omega
                rw [HTT.out] at HRR
                obtain ⟨v8, w8, hr8, ho8, hg8, _⟩ := run_append_seesG (f := uC) (d := (0 : Int)) (P := Try.prog) (wx.alloc (.cells #[.int .u64 key] 36)) w6.heap.size 33 33 36 i0 _ 1 8 Try.underlying33 hi0 hz0 hzs hzb rfl (by decide) (.slice (some ⟨wx.heap.size, 0, none⟩) 1 1) 1 [.int .u64 key] (own_lowG (own_litU wx key) hz9) uC_len ((own_seesG uC_len 0 HA9.out).alloc _) (flat_oneU T) (by unfold maxLen; omega) (by omega) (by simp; omega)
                have hb8 : Below w6.heap.size w6 w8 := hb9.trans ((chg_append hg8).below (fun k e => by have h9 : wx.heap.size = k := Option.some.inj e; omega) hz9)
                obtain ⟨va8, vc8, rfl⟩ := own_shape ho8
                have HS8 : Hid (SeesG uC 1 0 w8 (.slice va8 (1 + T.length) vc8) R') := by
                  have e9 : 1 + T.length = R'.length := by rw [HRR.out]; simp; omega
                  have h9 : w8.ownsRow w6.heap.size 36 1 (.slice va8 (1 + T.length) vc8) R'.length (flatG uC R') := by
                    rw [← e9, HRR.out]
                    exact ho8
                  exact own_seesG uC_len 0 h9
                have HO8 : Hid (SeesG uC 1 0 w8 (.slice oa R'.length oc) R') := (own_seesG uC_len 0 HO6.out).below hb8 (Nat.le_refl _)
                have HR8 := keepG hr8
                clear hr8 ho8 hg8
                go_wp2_with (first
                  | (at_builtin; go_must (refine wpList_appG _ rfl (.tmp 164) (.tmp 165) 33 33 rfl _ _ rfl rfl HR8.out ?_))
                  | (go_at_call 14; go_must (refine (wnums_same HO8.out HS8.out).mono ?_); rintro e wz ⟨rfl, mz, rfl⟩))
                have HTE := keepG (HT6.out.below (w' := w8.drewN mz) ⟨hb8.os, hb8.tape, hb8.output, hb8.size, hb8.block⟩)
                go_roundw
                case rel => exact ⟨j + 1, by omega, by go_num, S', R', F5, HTE.out⟩
                case measure => simp [intOf]; omega
        · skip
          as_aux_lemma =>
            have hna : decide (na ≥ 0) = false := by rw [hmem]; exact decide_eq_false hin
            have hev2 : evA n S op key = false := by rw [hev]; simp [hop, hin]
            have htc2 : tchA S op key = false := by rw [htc]; simp [hop, hin]
            rw [htc2] at hord
            rw [if_neg (by decide), if_neg (by omega)] at hord
            have hout := out_no (R := R) hev2
            obtain ⟨E, f, x, S', R', HA⟩ : ∃ E f x S' R', Hid (doA n S R op key val = (⟨E, f, x, false, 0, 0⟩, S', R')) := doA_no hev2 val
            rw [hout] at hord
            clear hout
            rw [HA.out] at hord
            have HRR := keepG hord
            have hWl : R.length ≤ 16 := by omega
            clear hord hev htc hmem hev2 htc2 hin
            obtain rfl : op = 0 := hop
            have PX : True := trivial
            go_wp2_with (first
              | (go_at_call 15; have hq := PX; clear hq; rw [HX.out]; go_must (refine HTX.out.order.mono ?_); rintro e w4 ⟨u4, rfl, ho4, hb4⟩; go_must (have HT4 := keepG (HTX.out.below hb4); have HW4 := keepG ho4; have HP4 := keepG (hpX.out.below hb4 hzX); have HAP := keepG (Apt.made HTX.out.lies (own_since ho4 (Nat.le_refl _))); obtain ⟨ra, rc, rfl⟩ := own_shape ho4; have p0 := HP4.out.cell (j := 0) rfl; have p1 := HP4.out.cell (j := 1) rfl; have p2 := HP4.out.cell (j := 2) rfl; clear ho4 PX))
              | (go_at_call 20; go_must (refine (wat_any key (own_seesG uC_len 0 HW4.out) HN).mono ?_); rintro e w9 ⟨rfl, rfl⟩)
              | (go_at_call 11; go_must (refine (HT4.out.do HA).mono ?_); rintro e w5 ⟨rfl, F5, ht5, hx5, hk5⟩; go_must (have HW5 := keepG (own_keeps HW4.out hx5.chg HAP.out); have HP5 := keepG (hk5 _ _ _ (.inl rfl) HP4.out); obtain ⟨Y, HY, hbY, HpY⟩ : ∃ Y, Hid (w5.alloc (.cells #[.int .i64 E, .bool f, .int .u64 x, .bool false, .int .u64 0, .int .u64 0] 40) = Y) ∧ Below w5.heap.size w5 Y ∧ Hid (Hp Y w5.heap.size 40 (resCG E f x false 0 0)) := ⟨_, rfl, below_allocG _ _, Hp.new w5 (resCG E f x false 0 0) _⟩; have HTY := keepG (ht5.below hbY); have HPY := keepG (HP5.out.below hbY HP5.out.lt); have HWY := keepG (own_below HW5.out hbY (Nat.le_refl _)); clear ht5 hx5 hk5 p0 p1 p2))
              | (go_at_call 15; rw [HY.out]; go_must (refine HTY.out.order.mono ?_); rintro e w6 ⟨u6, rfl, ho6, hb6⟩; go_must (have HT6 := keepG (HTY.out.below hb6); have HO6 := keepG ho6; have HW6 := keepG (own_below HWY.out hb6 (Nat.le_refl _)); have HP6 := keepG (HPY.out.below hb6 HPY.out.lt); have HR6 := keepG (HpY.out.below hb6 HpY.out.lt); obtain ⟨d6, y6, hl6, HL6⟩ := HT6.out.inner; have HL := keepG HT6.out.inv.length; have hRn6 : R'.length ≤ n := (by have h8 := HT6.out.inv.len; have h9 := HL.out; omega); have hRn6I : ¬ C < R'.length := (by rw [HC.out]; omega); obtain ⟨oa, oc, rfl⟩ := own_shape ho6; have p0 := HP6.out.cell (j := 0) rfl; have p1 := HP6.out.cell (j := 1) rfl; have p2 := HP6.out.cell (j := 2) rfl; have r3 := HR6.out.cell (j := 3) rfl; have r4 := HR6.out.cell (j := 4) rfl; have r5 := HR6.out.cell (j := 5) rfl; clear ho6))
              | (go_at_call 13; go_must (refine (HL6.out w6 (Below.refl _ _)).1.mono ?_); rintro e w9 ⟨rfl, rfl⟩; go_must (rw [← HL.out])))
            have HWS : Hid (∀ wx, Below w6.heap.size w6 wx → SeesG uC 1 0 wx (.slice ra R.length rc) R) := fun wx hb => (own_seesG uC_len 0 HW6.out).below hb (Nat.le_refl _)
            have hl6 := HP6.out.lt
            go_loopw [14, 15] (fun rv i wx => ∃ k : Nat, k ≤ R.length ∧ i = .int .i64 k ∧ Hid (wx.ownsRow w6.heap.size 36 1 rv (fgt key (R.take k)).length (flatG uC (fgt key (R.take k)))) ∧ Below w6.heap.size w6 wx) (fun _ i _ => R.length - (intOf i).toNat)
            case atStart => exact ⟨0, by omega, rfl, World.ownsRow_nil _ _ _ _, Below.refl _ _⟩
            case round =>
              obtain ⟨k, hk, rfl, HA9, hb9⟩ := hrel
              rename World => wx
              have hz9 := hb9.size
              have HP9 := keepG (HP6.out.below hb9 hl6)
              have p0 := HP9.out.cell (j := 0) rfl
              have p1 := HP9.out.cell (j := 1) rfl
              obtain ⟨xa, xc, ev⟩ := own_shape HA9.out
              subst ev
              by_cases hlt9 : k < R.length
              · have hlt9I : (k : Int) < R.length := by omega
                have hltW : k < R.length := by omega
                obtain ⟨a', c', ev, _, _, _, hcell⟩ := HWS.out _ hb9
                simp only [Value.slice.injEq, true_and] at ev
                obtain ⟨rfl, rfl⟩ := ev
                obtain ⟨gb, ob, rfl, hgb, hat9⟩ := hcell (fun e => by rw [e] at hltW; simp at hltW)
                skip
                skip
                skip
                have dk := hat9 k hltW 0 (by omega)
                simp only [List.getElem?_cons_zero, Nat.add_zero, Nat.mul_one, Nat.zero_add] at dk
                have HM9 : Hid (fgt key (R.take (k + 1)) = fgt key (R.take k) ++ (if decide (R.getD k 0 ≠ key) = true then [R.getD k 0] else [])) := filter_moreI (p := fun k => decide (k ≠ key)) hltW
                clear hat9 hcell
                obtain ⟨y, HYY⟩ : ∃ y, Hid (R.getD k 0 = y) := ⟨_, rfl⟩
                rw [HYY.out] at dk HM9
                obtain ⟨N, HNN⟩ : ∃ N, Hid (fgt key (R.take k) = N) := ⟨_, rfl⟩
                have hNl : N.length ≤ 16 := by
                  rw [← HNN.out]
                  have h1 := List.length_filter_le (fun k => decide (k ≠ key)) (R.take k)
                  have h2 := List.length_take_le k R
                  unfold fgt
                  omega
                rw [HNN.out] at HA9 HM9 ⊢
                go_wp2
                refine wp_region_held_drew (S := fun w' => w'.cell? ⟨gb, ob + k, none⟩ = some (.int .u64 y) ∧ w'.cell? ⟨wr.heap.size, 1, none⟩ = some (.int .u64 key)) (by kernel_rfl) ⟨dk, p1⟩ (fun hHeld => ?_)
                refine wpAnyH_take (i := 0) (v := ?v70) rfl (by kernel_rfl) (by kernel_rfl) (by kernel_rfl) (fun _ _ _ h => h) (Or.inl ⟨by rfl, ?hy70⟩) (by assumption) ?rest70
                case hy70 => (intro wy hSw; (try dsimp only at hSw); go_simp; (first | done | with_reducible rfl))
                try simp only [Act.put, List.getElem_toArray, List.getElem_cons_zero, List.getElem_cons_succ, List.setIfInBounds_toArray, List.set_cons_zero, List.set_cons_succ]
                refine wpAnyH_take (i := 1) (v := ?v71) rfl (by kernel_rfl) (by kernel_rfl) (by kernel_rfl) (fun _ _ _ h => h) (Or.inl ⟨by rfl, ?hy71⟩) (by assumption) ?rest71
                case hy71 => (intro wy hSw; (try dsimp only at hSw); go_simp; (first | done | with_reducible rfl))
                try simp only [Act.put, List.getElem_toArray, List.getElem_cons_zero, List.getElem_cons_succ, List.setIfInBounds_toArray, List.set_cons_zero, List.set_cons_succ]
                refine wpAnyH_take (i := 2) (v := ?v72) rfl (by kernel_rfl) (by kernel_rfl) (by kernel_rfl) (fun _ _ _ h => h) (Or.inl ⟨by rfl, ?hy72⟩) (by assumption) ?rest72
                case hy72 => (intro wy hSw; (try dsimp only at hSw); go_simp; (first | done | with_reducible rfl))
                try simp only [Act.put, List.getElem_toArray, List.getElem_cons_zero, List.getElem_cons_succ, List.setIfInBounds_toArray, List.set_cons_zero, List.set_cons_succ]
                refine wpAnyH_take (i := 3) (v := ?v73) rfl (by kernel_rfl) (by kernel_rfl) (by kernel_rfl) (fun _ _ _ h => h) (Or.inl ⟨by rfl, ?hy73⟩) (by assumption) ?rest73
                case hy73 => (intro wy hSw; (try dsimp only at hSw); go_simp; (first | done | with_reducible rfl))
                try simp only [Act.put, List.getElem_toArray, List.getElem_cons_zero, List.getElem_cons_succ, List.setIfInBounds_toArray, List.set_cons_zero, List.set_cons_succ]
                refine wpAnyH_take (i := 4) (v := ?v74) rfl (by kernel_rfl) (by kernel_rfl) (by kernel_rfl) (fun _ _ _ h => h) (Or.inl ⟨by rfl, ?hy74⟩) (by assumption) ?rest74
                case hy74 => (intro wy hSw; (try dsimp only at hSw); go_simp; (first | done | with_reducible rfl))
                try simp only [Act.put, List.getElem_toArray, List.getElem_cons_zero, List.getElem_cons_succ, List.setIfInBounds_toArray, List.set_cons_zero, List.set_cons_succ]
                refine wpAnyH_take (i := 5) (v := ?v75) rfl (by kernel_rfl) (by kernel_rfl) (by kernel_rfl) (fun _ _ _ h => h) (Or.inl ⟨by rfl, ?hy75⟩) (by assumption) ?rest75
                case hy75 => (intro wy hSw; (try dsimp only at hSw); go_simp; (first | done | with_reducible rfl))
                try simp only [Act.put, List.getElem_toArray, List.getElem_cons_zero, List.getElem_cons_succ, List.setIfInBounds_toArray, List.set_cons_zero, List.set_cons_succ]
                refine wpAnyH_take (i := 6) (v := ?v76) rfl (by kernel_rfl) (by kernel_rfl) (by kernel_rfl) (fun _ _ _ h => h) (Or.inl ⟨by rfl, ?hy76⟩) (by assumption) ?rest76
                case hy76 => (intro wy hSw; (try dsimp only at hSw); go_simp; (first | done | with_reducible rfl))
                try simp only [Act.put, List.getElem_toArray, List.getElem_cons_zero, List.getElem_cons_succ, List.setIfInBounds_toArray, List.set_cons_zero, List.set_cons_succ]
                refine wpAnyH_done (by kernel_rfl) ?_ _
                by_cases he9 : y = key
                · have heb : (y == key) = true := by simpa using he9
                  rw [if_neg (by simpa using he9), List.append_nil] at HM9
                  clear he9
                  go_wp2
                  go_roundw
                  case rel => exact ⟨k + 1, by omega, by go_num, by rw [HM9.out]; exact HA9.out, below_drG hb9⟩
                  case measure => simp [intOf]; omega
                · have heb : (y == key) = false := by simpa using he9
                  rw [if_pos (by simpa using he9)] at HM9
                  clear he9
                  go_wp2_with (at_builtin; go_must (refine wpList_append_own_at _ rfl (.tmp 146) (.tmp 151) 33 rfl w6.heap.size 36 i0 _ 1 8 Try.underlying33 hi0 hz0 hzs hzb rfl (by decide) (.slice xa N.length xc) N.length (flatG uC N) rfl (own_drewG (HA9.out.alloc _)) ⟨_, 0, none⟩ 1 1 (uC y) rfl rfl (cells_newD wx (uC y) _ _ rfl) (uC_one y) (by unfold maxLen; omega) (by omega) (by simp; omega) ?_); intro v1 w7 hown hgr _ hnew; go_must (have HOW : Hid _ := own_moreG hown; have hb7 : Below w6.heap.size w6 w7 := hb9.trans ((chg_append (grown_undrew hgr)).below (fun k e => (HA9.out.lt k e).1) hz9); clear hown hgr hnew; obtain ⟨va1, vc1, rfl⟩ := own_shape HOW.out))
                  have eN : (N ++ [y]).length = N.length + 1 := by simp
                  go_roundw
                  case rel => exact ⟨k + 1, by omega, by go_num, by have hh := HOW.out; rw [HM9.out]; show World.ownsRow _ _ _ _ _ _ _; rw [eN] at hh ⊢; exact hh, hb7⟩
                  case measure => simp [intOf]; omega
              · have hlt9I : ¬ (k : Int) < R.length := by omega
                have hTT : R.take k = R := List.take_of_length_le (by omega)
                obtain ⟨T, HTT⟩ : ∃ T, Hid (fgt key (R.take k) = T) := ⟨_, rfl⟩
                rw [HTT.out] at HA9 ⊢
                rw [hTT] at HTT
                clear hTT
                obtain rfl : R' = R := HRR.out
                have HS8 := keepG (HWS.out _ hb9)
                have HO8 : Hid (SeesG uC 1 0 wx (.slice oa R'.length oc) R') := (own_seesG uC_len 0 HO6.out).below hb9 (Nat.le_refl _)
                go_wp2_with (go_at_call 14; go_must (refine (wnums_same HO8.out HS8.out).mono ?_); rintro e wz ⟨rfl, mz, rfl⟩)
                have HTE := keepG (HT6.out.below (w' := wx.drewN mz) ⟨hb9.os, hb9.tape, hb9.output, hb9.size, hb9.block⟩)
                go_roundw
                case rel => exact ⟨j + 1, by omega, by go_num, S', R', F5, HTE.out⟩
                case measure => simp [intOf]; omega
      have ho0 := hop
      clear hop
      by_cases hop : op = 3
      · skip
        as_aux_lemma =>
          have hev2 : evA n S op key = false := by rw [hev]; simp [hop]
          have htc2 : tchA S op key = false := by rw [htc]; simp [hop]
          rw [htc2] at hord
          rw [if_neg (by decide), if_pos hop] at hord
          have hout := out_no (R := R) hev2
          obtain ⟨E, f, x, S', R', HA⟩ : ∃ E f x S' R', Hid (doA n S R op key val = (⟨E, f, x, false, 0, 0⟩, S', R')) := doA_no hev2 val
          rw [hout] at hord
          clear hout
          rw [HA.out] at hord
          have HRR := keepG hord
          have hWl : R.length ≤ 16 := by omega
          clear hord hev htc hmem hev2 htc2
          obtain rfl : op = 3 := hop
          have PX : True := trivial
          go_wp2_with (first
            | (go_at_call 15; have hq := PX; clear hq; rw [HX.out]; go_must (refine HTX.out.order.mono ?_); rintro e w4 ⟨u4, rfl, ho4, hb4⟩; go_must (have HT4 := keepG (HTX.out.below hb4); have HW4 := keepG ho4; have HP4 := keepG (hpX.out.below hb4 hzX); have HAP := keepG (Apt.made HTX.out.lies (own_since ho4 (Nat.le_refl _))); obtain ⟨ra, rc, rfl⟩ := own_shape ho4; have p0 := HP4.out.cell (j := 0) rfl; have p1 := HP4.out.cell (j := 1) rfl; have p2 := HP4.out.cell (j := 2) rfl; clear ho4 PX))
            | (go_at_call 20; go_must (refine (wat_any key (own_seesG uC_len 0 HW4.out) HN).mono ?_); rintro e w9 ⟨rfl, rfl⟩)
            | (go_at_call 11; go_must (refine (HT4.out.do HA).mono ?_); rintro e w5 ⟨rfl, F5, ht5, hx5, hk5⟩; go_must (have HW5 := keepG (own_keeps HW4.out hx5.chg HAP.out); have HP5 := keepG (hk5 _ _ _ (.inl rfl) HP4.out); obtain ⟨Y, HY, hbY, HpY⟩ : ∃ Y, Hid (w5.alloc (.cells #[.int .i64 E, .bool f, .int .u64 x, .bool false, .int .u64 0, .int .u64 0] 40) = Y) ∧ Below w5.heap.size w5 Y ∧ Hid (Hp Y w5.heap.size 40 (resCG E f x false 0 0)) := ⟨_, rfl, below_allocG _ _, Hp.new w5 (resCG E f x false 0 0) _⟩; have HTY := keepG (ht5.below hbY); have HPY := keepG (HP5.out.below hbY HP5.out.lt); have HWY := keepG (own_below HW5.out hbY (Nat.le_refl _)); clear ht5 hx5 hk5 p0 p1 p2))
            | (go_at_call 15; rw [HY.out]; go_must (refine HTY.out.order.mono ?_); rintro e w6 ⟨u6, rfl, ho6, hb6⟩; go_must (have HT6 := keepG (HTY.out.below hb6); have HO6 := keepG ho6; have HW6 := keepG (own_below HWY.out hb6 (Nat.le_refl _)); have HP6 := keepG (HPY.out.below hb6 HPY.out.lt); have HR6 := keepG (HpY.out.below hb6 HpY.out.lt); obtain ⟨d6, y6, hl6, HL6⟩ := HT6.out.inner; have HL := keepG HT6.out.inv.length; have hRn6 : R'.length ≤ n := (by have h8 := HT6.out.inv.len; have h9 := HL.out; omega); have hRn6I : ¬ C < R'.length := (by rw [HC.out]; omega); obtain ⟨oa, oc, rfl⟩ := own_shape ho6; have p0 := HP6.out.cell (j := 0) rfl; have p1 := HP6.out.cell (j := 1) rfl; have p2 := HP6.out.cell (j := 2) rfl; have r3 := HR6.out.cell (j := 3) rfl; have r4 := HR6.out.cell (j := 4) rfl; have r5 := HR6.out.cell (j := 5) rfl; clear ho6))
            | (go_at_call 13; go_must (refine (HL6.out w6 (Below.refl _ _)).1.mono ?_); rintro e w9 ⟨rfl, rfl⟩; go_must (rw [← HL.out])))
          have HWS : Hid (∀ wx, Below w6.heap.size w6 wx → SeesG uC 1 0 wx (.slice ra R.length rc) R) := fun wx hb => (own_seesG uC_len 0 HW6.out).below hb (Nat.le_refl _)
          have hl6 := HP6.out.lt
          go_loopw [14, 15] (fun rv i wx => ∃ k : Nat, k ≤ R.length ∧ i = .int .i64 k ∧ Hid (wx.ownsRow w6.heap.size 36 1 rv (fgt key (R.take k)).length (flatG uC (fgt key (R.take k)))) ∧ Below w6.heap.size w6 wx) (fun _ i _ => R.length - (intOf i).toNat)
          case atStart => exact ⟨0, by omega, rfl, World.ownsRow_nil _ _ _ _, Below.refl _ _⟩
          case round =>
            obtain ⟨k, hk, rfl, HA9, hb9⟩ := hrel
            rename World => wx
            have hz9 := hb9.size
            have HP9 := keepG (HP6.out.below hb9 hl6)
            have p0 := HP9.out.cell (j := 0) rfl
            have p1 := HP9.out.cell (j := 1) rfl
            obtain ⟨xa, xc, ev⟩ := own_shape HA9.out
            subst ev
            by_cases hlt9 : k < R.length
            · have hlt9I : (k : Int) < R.length := by omega
              have hltW : k < R.length := by omega
              obtain ⟨a', c', ev, _, _, _, hcell⟩ := HWS.out _ hb9
              simp only [Value.slice.injEq, true_and] at ev
              obtain ⟨rfl, rfl⟩ := ev
              obtain ⟨gb, ob, rfl, hgb, hat9⟩ := hcell (fun e => by rw [e] at hltW; simp at hltW)
              skip
              skip
              skip
              have dk := hat9 k hltW 0 (by omega)
              simp only [List.getElem?_cons_zero, Nat.add_zero, Nat.mul_one, Nat.zero_add] at dk
              have HM9 : Hid (fgt key (R.take (k + 1)) = fgt key (R.take k) ++ (if decide (R.getD k 0 ≠ key) = true then [R.getD k 0] else [])) := filter_moreI (p := fun k => decide (k ≠ key)) hltW
              clear hat9 hcell
              obtain ⟨y, HYY⟩ : ∃ y, Hid (R.getD k 0 = y) := ⟨_, rfl⟩
              rw [HYY.out] at dk HM9
              obtain ⟨N, HNN⟩ : ∃ N, Hid (fgt key (R.take k) = N) := ⟨_, rfl⟩
              have hNl : N.length ≤ 16 := by
                rw [← HNN.out]
                have h1 := List.length_filter_le (fun k => decide (k ≠ key)) (R.take k)
                have h2 := List.length_take_le k R
                unfold fgt
                omega
              rw [HNN.out] at HA9 HM9 ⊢
              go_wp2
              refine wp_region_held_drew (S := fun w' => w'.cell? ⟨gb, ob + k, none⟩ = some (.int .u64 y) ∧ w'.cell? ⟨wr.heap.size, 1, none⟩ = some (.int .u64 key)) (by kernel_rfl) ⟨dk, p1⟩ (fun hHeld => ?_)
              refine wpAnyH_take (i := 0) (v := ?v77) rfl (by kernel_rfl) (by kernel_rfl) (by kernel_rfl) (fun _ _ _ h => h) (Or.inl ⟨by rfl, ?hy77⟩) (by assumption) ?rest77
              case hy77 => (intro wy hSw; (try dsimp only at hSw); go_simp; (first | done | with_reducible rfl))
              try simp only [Act.put, List.getElem_toArray, List.getElem_cons_zero, List.getElem_cons_succ, List.setIfInBounds_toArray, List.set_cons_zero, List.set_cons_succ]
              refine wpAnyH_take (i := 1) (v := ?v78) rfl (by kernel_rfl) (by kernel_rfl) (by kernel_rfl) (fun _ _ _ h => h) (Or.inl ⟨by rfl, ?hy78⟩) (by assumption) ?rest78
              case hy78 => (intro wy hSw; (try dsimp only at hSw); go_simp; (first | done | with_reducible rfl))
              try simp only [Act.put, List.getElem_toArray, List.getElem_cons_zero, List.getElem_cons_succ, List.setIfInBounds_toArray, List.set_cons_zero, List.set_cons_succ]
              refine wpAnyH_take (i := 2) (v := ?v79) rfl (by kernel_rfl) (by kernel_rfl) (by kernel_rfl) (fun _ _ _ h => h) (Or.inl ⟨by rfl, ?hy79⟩) (by assumption) ?rest79
              case hy79 => (intro wy hSw; (try dsimp only at hSw); go_simp; (first | done | with_reducible rfl))
              try simp only [Act.put, List.getElem_toArray, List.getElem_cons_zero, List.getElem_cons_succ, List.setIfInBounds_toArray, List.set_cons_zero, List.set_cons_succ]
              refine wpAnyH_take (i := 3) (v := ?v80) rfl (by kernel_rfl) (by kernel_rfl) (by kernel_rfl) (fun _ _ _ h => h) (Or.inl ⟨by rfl, ?hy80⟩) (by assumption) ?rest80
              case hy80 => (intro wy hSw; (try dsimp only at hSw); go_simp; (first | done | with_reducible rfl))
              try simp only [Act.put, List.getElem_toArray, List.getElem_cons_zero, List.getElem_cons_succ, List.setIfInBounds_toArray, List.set_cons_zero, List.set_cons_succ]
              refine wpAnyH_take (i := 4) (v := ?v81) rfl (by kernel_rfl) (by kernel_rfl) (by kernel_rfl) (fun _ _ _ h => h) (Or.inl ⟨by rfl, ?hy81⟩) (by assumption) ?rest81
              case hy81 => (intro wy hSw; (try dsimp only at hSw); go_simp; (first | done | with_reducible rfl))
              try simp only [Act.put, List.getElem_toArray, List.getElem_cons_zero, List.getElem_cons_succ, List.setIfInBounds_toArray, List.set_cons_zero, List.set_cons_succ]
              refine wpAnyH_take (i := 5) (v := ?v82) rfl (by kernel_rfl) (by kernel_rfl) (by kernel_rfl) (fun _ _ _ h => h) (Or.inl ⟨by rfl, ?hy82⟩) (by assumption) ?rest82
              case hy82 => (intro wy hSw; (try dsimp only at hSw); go_simp; (first | done | with_reducible rfl))
              try simp only [Act.put, List.getElem_toArray, List.getElem_cons_zero, List.getElem_cons_succ, List.setIfInBounds_toArray, List.set_cons_zero, List.set_cons_succ]
              refine wpAnyH_take (i := 6) (v := ?v83) rfl (by kernel_rfl) (by kernel_rfl) (by kernel_rfl) (fun _ _ _ h => h) (Or.inl ⟨by rfl, ?hy83⟩) (by assumption) ?rest83
              case hy83 => (intro wy hSw; (try dsimp only at hSw); go_simp; (first | done | with_reducible rfl))
              try simp only [Act.put, List.getElem_toArray, List.getElem_cons_zero, List.getElem_cons_succ, List.setIfInBounds_toArray, List.set_cons_zero, List.set_cons_succ]
              refine wpAnyH_done (by kernel_rfl) ?_ _
              by_cases he9 : y = key
              · have heb : (y == key) = true := by simpa using he9
                rw [if_neg (by simpa using he9), List.append_nil] at HM9
                clear he9
                go_wp2
                go_roundw
                case rel => exact ⟨k + 1, by omega, by go_num, by rw [HM9.out]; exact HA9.out, below_drG hb9⟩
                case measure => simp [intOf]; omega
              · have heb : (y == key) = false := by simpa using he9
                rw [if_pos (by simpa using he9)] at HM9
                clear he9
                go_wp2_with (at_builtin; go_must (refine wpList_append_own_at _ rfl (.tmp 146) (.tmp 151) 33 rfl w6.heap.size 36 i0 _ 1 8 Try.underlying33 hi0 hz0 hzs hzb rfl (by decide) (.slice xa N.length xc) N.length (flatG uC N) rfl (own_drewG (HA9.out.alloc _)) ⟨_, 0, none⟩ 1 1 (uC y) rfl rfl (cells_newD wx (uC y) _ _ rfl) (uC_one y) (by unfold maxLen; omega) (by omega) (by simp; omega) ?_); intro v1 w7 hown hgr _ hnew; go_must (have HOW : Hid _ := own_moreG hown; have hb7 : Below w6.heap.size w6 w7 := hb9.trans ((chg_append (grown_undrew hgr)).below (fun k e => (HA9.out.lt k e).1) hz9); clear hown hgr hnew; obtain ⟨va1, vc1, rfl⟩ := own_shape HOW.out))
                have eN : (N ++ [y]).length = N.length + 1 := by simp
                go_roundw
                case rel => exact ⟨k + 1, by omega, by go_num, by have hh := HOW.out; rw [HM9.out]; show World.ownsRow _ _ _ _ _ _ _; rw [eN] at hh ⊢; exact hh, hb7⟩
                case measure => simp [intOf]; omega
            · have hlt9I : ¬ (k : Int) < R.length := by omega
              have hTT : R.take k = R := List.take_of_length_le (by omega)
              obtain ⟨T, HTT⟩ : ∃ T, Hid (fgt key (R.take k) = T) := ⟨_, rfl⟩
              rw [HTT.out] at HA9 ⊢
              rw [hTT] at HTT
              clear hTT
              rw [HTT.out] at HRR
              obtain rfl : R' = T := HRR.out
              have HS8 := keepG (own_seesG uC_len 0 HA9.out)
              have HO8 : Hid (SeesG uC 1 0 wx (.slice oa R'.length oc) R') := (own_seesG uC_len 0 HO6.out).below hb9 (Nat.le_refl _)
              go_wp2_with (go_at_call 14; go_must (refine (wnums_same HO8.out HS8.out).mono ?_); rintro e wz ⟨rfl, mz, rfl⟩)
              have HTE := keepG (HT6.out.below (w' := wx.drewN mz) ⟨hb9.os, hb9.tape, hb9.output, hb9.size, hb9.block⟩)
              go_roundw
              case rel => exact ⟨j + 1, by omega, by go_num, S', R', F5, HTE.out⟩
              case measure => simp [intOf]; omega
      have ho3 := hop
      clear hop
      as_aux_lemma =>
        have hev2 : evA n S op key = false := by rw [hev]; simp [ho2, ho4]
        have htc2 : tchA S op key = false := by rw [htc]; simp [ho2, ho4, ho0]
        have b0 : (op == 0) = false := by simp [ho0]
        have b2 : (op == 2) = false := by simp [ho2]
        have b3 : (op == 3) = false := by simp [ho3]
        have b4 : (op == 4) = false := by simp [ho4]
        rw [htc2] at hord
        rw [if_neg (by decide), if_neg ho3] at hord
        have hout := out_no (R := R) hev2
        obtain ⟨E, f, x, S', R', HA⟩ : ∃ E f x S' R', Hid (doA n S R op key val = (⟨E, f, x, false, 0, 0⟩, S', R')) := doA_no hev2 val
        rw [hout] at hord
        clear hout
        rw [HA.out] at hord
        have HRR := keepG hord
        have hWl : R.length ≤ 16 := by omega
        clear hord hev htc hmem hev2 htc2 ho0 ho2 ho3 ho4
        have PX : True := trivial
        go_wp2_with (first
          | (go_at_call 15; have hq := PX; clear hq; rw [HX.out]; go_must (refine HTX.out.order.mono ?_); rintro e w4 ⟨u4, rfl, ho4, hb4⟩; go_must (have HT4 := keepG (HTX.out.below hb4); have HW4 := keepG ho4; have HP4 := keepG (hpX.out.below hb4 hzX); have HAP := keepG (Apt.made HTX.out.lies (own_since ho4 (Nat.le_refl _))); obtain ⟨ra, rc, rfl⟩ := own_shape ho4; have p0 := HP4.out.cell (j := 0) rfl; have p1 := HP4.out.cell (j := 1) rfl; have p2 := HP4.out.cell (j := 2) rfl; clear ho4 PX))
          | (go_at_call 20; go_must (refine (wat_any key (own_seesG uC_len 0 HW4.out) HN).mono ?_); rintro e w9 ⟨rfl, rfl⟩)
          | (go_at_call 11; go_must (refine (HT4.out.do HA).mono ?_); rintro e w5 ⟨rfl, F5, ht5, hx5, hk5⟩; go_must (have HW5 := keepG (own_keeps HW4.out hx5.chg HAP.out); have HP5 := keepG (hk5 _ _ _ (.inl rfl) HP4.out); obtain ⟨Y, HY, hbY, HpY⟩ : ∃ Y, Hid (w5.alloc (.cells #[.int .i64 E, .bool f, .int .u64 x, .bool false, .int .u64 0, .int .u64 0] 40) = Y) ∧ Below w5.heap.size w5 Y ∧ Hid (Hp Y w5.heap.size 40 (resCG E f x false 0 0)) := ⟨_, rfl, below_allocG _ _, Hp.new w5 (resCG E f x false 0 0) _⟩; have HTY := keepG (ht5.below hbY); have HPY := keepG (HP5.out.below hbY HP5.out.lt); have HWY := keepG (own_below HW5.out hbY (Nat.le_refl _)); clear ht5 hx5 hk5 p0 p1 p2))
          | (go_at_call 15; rw [HY.out]; go_must (refine HTY.out.order.mono ?_); rintro e w6 ⟨u6, rfl, ho6, hb6⟩; go_must (have HT6 := keepG (HTY.out.below hb6); have HO6 := keepG ho6; have HW6 := keepG (own_below HWY.out hb6 (Nat.le_refl _)); have HP6 := keepG (HPY.out.below hb6 HPY.out.lt); have HR6 := keepG (HpY.out.below hb6 HpY.out.lt); obtain ⟨d6, y6, hl6, HL6⟩ := HT6.out.inner; have HL := keepG HT6.out.inv.length; have hRn6 : R'.length ≤ n := (by have h8 := HT6.out.inv.len; have h9 := HL.out; omega); have hRn6I : ¬ C < R'.length := (by rw [HC.out]; omega); obtain ⟨oa, oc, rfl⟩ := own_shape ho6; have p0 := HP6.out.cell (j := 0) rfl; have p1 := HP6.out.cell (j := 1) rfl; have p2 := HP6.out.cell (j := 2) rfl; have r3 := HR6.out.cell (j := 3) rfl; have r4 := HR6.out.cell (j := 4) rfl; have r5 := HR6.out.cell (j := 5) rfl; clear ho6))
          | (go_at_call 13; go_must (refine (HL6.out w6 (Below.refl _ _)).1.mono ?_); rintro e w9 ⟨rfl, rfl⟩; go_must (rw [← HL.out])))
        have HWS : Hid (∀ wx, Below w6.heap.size w6 wx → SeesG uC 1 0 wx (.slice ra R.length rc) R) := fun wx hb => (own_seesG uC_len 0 HW6.out).below hb (Nat.le_refl _)
        have hl6 := HP6.out.lt
        go_loopw [14, 15] (fun rv i wx => ∃ k : Nat, k ≤ R.length ∧ i = .int .i64 k ∧ Hid (wx.ownsRow w6.heap.size 36 1 rv (fgt key (R.take k)).length (flatG uC (fgt key (R.take k)))) ∧ Below w6.heap.size w6 wx) (fun _ i _ => R.length - (intOf i).toNat)
        case atStart => exact ⟨0, by omega, rfl, World.ownsRow_nil _ _ _ _, Below.refl _ _⟩
        case round =>
          obtain ⟨k, hk, rfl, HA9, hb9⟩ := hrel
          rename World => wx
          have hz9 := hb9.size
          have HP9 := keepG (HP6.out.below hb9 hl6)
          have p0 := HP9.out.cell (j := 0) rfl
          have p1 := HP9.out.cell (j := 1) rfl
          obtain ⟨xa, xc, ev⟩ := own_shape HA9.out
          subst ev
          by_cases hlt9 : k < R.length
          · have hlt9I : (k : Int) < R.length := by omega
            have hltW : k < R.length := by omega
            obtain ⟨a', c', ev, _, _, _, hcell⟩ := HWS.out _ hb9
            simp only [Value.slice.injEq, true_and] at ev
            obtain ⟨rfl, rfl⟩ := ev
            obtain ⟨gb, ob, rfl, hgb, hat9⟩ := hcell (fun e => by rw [e] at hltW; simp at hltW)
            skip
            skip
            skip
            have dk := hat9 k hltW 0 (by omega)
            simp only [List.getElem?_cons_zero, Nat.add_zero, Nat.mul_one, Nat.zero_add] at dk
            have HM9 : Hid (fgt key (R.take (k + 1)) = fgt key (R.take k) ++ (if decide (R.getD k 0 ≠ key) = true then [R.getD k 0] else [])) := filter_moreI (p := fun k => decide (k ≠ key)) hltW
            clear hat9 hcell
            obtain ⟨y, HYY⟩ : ∃ y, Hid (R.getD k 0 = y) := ⟨_, rfl⟩
            rw [HYY.out] at dk HM9
            obtain ⟨N, HNN⟩ : ∃ N, Hid (fgt key (R.take k) = N) := ⟨_, rfl⟩
            have hNl : N.length ≤ 16 := by
              rw [← HNN.out]
              have h1 := List.length_filter_le (fun k => decide (k ≠ key)) (R.take k)
              have h2 := List.length_take_le k R
              unfold fgt
              omega
            rw [HNN.out] at HA9 HM9 ⊢
            go_wp2
            refine wp_region_held_drew (S := fun w' => w'.cell? ⟨gb, ob + k, none⟩ = some (.int .u64 y) ∧ w'.cell? ⟨wr.heap.size, 1, none⟩ = some (.int .u64 key)) (by kernel_rfl) ⟨dk, p1⟩ (fun hHeld => ?_)
            refine wpAnyH_take (i := 0) (v := ?v84) rfl (by kernel_rfl) (by kernel_rfl) (by kernel_rfl) (fun _ _ _ h => h) (Or.inl ⟨by rfl, ?hy84⟩) (by assumption) ?rest84
            case hy84 => (intro wy hSw; (try dsimp only at hSw); go_simp; (first | done | with_reducible rfl))
            try simp only [Act.put, List.getElem_toArray, List.getElem_cons_zero, List.getElem_cons_succ, List.setIfInBounds_toArray, List.set_cons_zero, List.set_cons_succ]
            refine wpAnyH_take (i := 1) (v := ?v85) rfl (by kernel_rfl) (by kernel_rfl) (by kernel_rfl) (fun _ _ _ h => h) (Or.inl ⟨by rfl, ?hy85⟩) (by assumption) ?rest85
            case hy85 => (intro wy hSw; (try dsimp only at hSw); go_simp; (first | done | with_reducible rfl))
            try simp only [Act.put, List.getElem_toArray, List.getElem_cons_zero, List.getElem_cons_succ, List.setIfInBounds_toArray, List.set_cons_zero, List.set_cons_succ]
            refine wpAnyH_take (i := 2) (v := ?v86) rfl (by kernel_rfl) (by kernel_rfl) (by kernel_rfl) (fun _ _ _ h => h) (Or.inl ⟨by rfl, ?hy86⟩) (by assumption) ?rest86
            case hy86 => (intro wy hSw; (try dsimp only at hSw); go_simp; (first | done | with_reducible rfl))
            try simp only [Act.put, List.getElem_toArray, List.getElem_cons_zero, List.getElem_cons_succ, List.setIfInBounds_toArray, List.set_cons_zero, List.set_cons_succ]
            refine wpAnyH_take (i := 3) (v := ?v87) rfl (by kernel_rfl) (by kernel_rfl) (by kernel_rfl) (fun _ _ _ h => h) (Or.inl ⟨by rfl, ?hy87⟩) (by assumption) ?rest87
            case hy87 => (intro wy hSw; (try dsimp only at hSw); go_simp; (first | done | with_reducible rfl))
            try simp only [Act.put, List.getElem_toArray, List.getElem_cons_zero, List.getElem_cons_succ, List.setIfInBounds_toArray, List.set_cons_zero, List.set_cons_succ]
            refine wpAnyH_take (i := 4) (v := ?v88) rfl (by kernel_rfl) (by kernel_rfl) (by kernel_rfl) (fun _ _ _ h => h) (Or.inl ⟨by rfl, ?hy88⟩) (by assumption) ?rest88
            case hy88 => (intro wy hSw; (try dsimp only at hSw); go_simp; (first | done | with_reducible rfl))
            try simp only [Act.put, List.getElem_toArray, List.getElem_cons_zero, List.getElem_cons_succ, List.setIfInBounds_toArray, List.set_cons_zero, List.set_cons_succ]
            refine wpAnyH_take (i := 5) (v := ?v89) rfl (by kernel_rfl) (by kernel_rfl) (by kernel_rfl) (fun _ _ _ h => h) (Or.inl ⟨by rfl, ?hy89⟩) (by assumption) ?rest89
            case hy89 => (intro wy hSw; (try dsimp only at hSw); go_simp; (first | done | with_reducible rfl))
            try simp only [Act.put, List.getElem_toArray, List.getElem_cons_zero, List.getElem_cons_succ, List.setIfInBounds_toArray, List.set_cons_zero, List.set_cons_succ]
            refine wpAnyH_take (i := 6) (v := ?v90) rfl (by kernel_rfl) (by kernel_rfl) (by kernel_rfl) (fun _ _ _ h => h) (Or.inl ⟨by rfl, ?hy90⟩) (by assumption) ?rest90
            case hy90 => (intro wy hSw; (try dsimp only at hSw); go_simp; (first | done | with_reducible rfl))
            try simp only [Act.put, List.getElem_toArray, List.getElem_cons_zero, List.getElem_cons_succ, List.setIfInBounds_toArray, List.set_cons_zero, List.set_cons_succ]
            refine wpAnyH_done (by kernel_rfl) ?_ _
            by_cases he9 : y = key
            · have heb : (y == key) = true := by simpa using he9
              rw [if_neg (by simpa using he9), List.append_nil] at HM9
              clear he9
              go_wp2
              go_roundw
              case rel => exact ⟨k + 1, by omega, by go_num, by rw [HM9.out]; exact HA9.out, below_drG hb9⟩
              case measure => simp [intOf]; omega
            · have heb : (y == key) = false := by simpa using he9
              rw [if_pos (by simpa using he9)] at HM9
              clear he9
              go_wp2_with (at_builtin; go_must (refine wpList_append_own_at _ rfl (.tmp 146) (.tmp 151) 33 rfl w6.heap.size 36 i0 _ 1 8 Try.underlying33 hi0 hz0 hzs hzb rfl (by decide) (.slice xa N.length xc) N.length (flatG uC N) rfl (own_drewG (HA9.out.alloc _)) ⟨_, 0, none⟩ 1 1 (uC y) rfl rfl (cells_newD wx (uC y) _ _ rfl) (uC_one y) (by unfold maxLen; omega) (by omega) (by simp; omega) ?_); intro v1 w7 hown hgr _ hnew; go_must (have HOW : Hid _ := own_moreG hown; have hb7 : Below w6.heap.size w6 w7 := hb9.trans ((chg_append (grown_undrew hgr)).below (fun k e => (HA9.out.lt k e).1) hz9); clear hown hgr hnew; obtain ⟨va1, vc1, rfl⟩ := own_shape HOW.out))
              have eN : (N ++ [y]).length = N.length + 1 := by simp
              go_roundw
              case rel => exact ⟨k + 1, by omega, by go_num, by have hh := HOW.out; rw [HM9.out]; show World.ownsRow _ _ _ _ _ _ _; rw [eN] at hh ⊢; exact hh, hb7⟩
              case measure => simp [intOf]; omega
          · have hlt9I : ¬ (k : Int) < R.length := by omega
            have hTT : R.take k = R := List.take_of_length_le (by omega)
            obtain ⟨T, HTT⟩ : ∃ T, Hid (fgt key (R.take k) = T) := ⟨_, rfl⟩
            rw [HTT.out] at HA9 ⊢
            rw [hTT] at HTT
            clear hTT
            obtain rfl : R' = R := HRR.out
            have HS8 := keepG (HWS.out _ hb9)
            have HO8 : Hid (SeesG uC 1 0 wx (.slice oa R'.length oc) R') := (own_seesG uC_len 0 HO6.out).below hb9 (Nat.le_refl _)
            go_wp2_with (go_at_call 14; go_must (refine (wnums_same HO8.out HS8.out).mono ?_); rintro e wz ⟨rfl, mz, rfl⟩)
            have HTE := keepG (HT6.out.below (w' := wx.drewN mz) ⟨hb9.os, hb9.tape, hb9.output, hb9.size, hb9.block⟩)
            go_roundw
            case rel => exact ⟨j + 1, by omega, by go_num, S', R', F5, HTE.out⟩
            case measure => simp [intOf]; omega
    · by_cases hA : j < ds.length
      · have hltI : (j : Int) < ds.length := by omega
        have h3I : ¬ (j : Int) < 3000 := by omega
        as_aux_lemma =>
          obtain ⟨d3, y3, hl3, HL3⟩ := HT.out.inner
          go_wp2_with (go_at_call 18; go_must (refine (HL3.out wr (Below.refl _ _)).2.2.mono ?_); rintro e w4 ⟨u4, rfl, ho4, hb4⟩; go_must (have HT4 := keepG (HT.out.below hb4); have HU4 := keepG ho4; obtain ⟨pa, pc, rfl⟩ := own_shape ho4; clear ho4))
          have hSn : S.length ≤ 16 := by have := HT4.out.inv.len; omega
          go_loopw [17] (fun i wx => ∃ k : Nat, k ≤ S.length ∧ i = .int .i64 k ∧ Below w4.heap.size w4 wx) (fun i _ => S.length - (intOf i).toNat)
          case atStart => exact ⟨0, by omega, rfl, Below.refl _ _⟩
          case round =>
            obtain ⟨k, hk, rfl, hb9⟩ := hrel
            rename World => wx
            have HT9 := keepG (HT4.out.below hb9)
            by_cases hlt9 : k < S.length
            · have hlt9I : (k : Int) < S.length := by omega
              obtain ⟨g9, c9, ev9, _, hg9, _, _, hat9⟩ := own_atG ppC_len Pp.nil (own_below HU4.out hb9 (Nat.le_refl _)) (by omega)
              simp only [Value.slice.injEq, true_and] at ev9
              obtain ⟨rfl, rfl⟩ := ev9
              have e0 := (hat9 k hlt9 0 (by omega)).1
              simp only [List.getElem?_cons_zero, Nat.add_zero] at e0
              clear hat9
              have hkin : (S.getD k Pp.nil).k ∈ R := by
                refine HT9.out.inv.keys.mem_iff.2 (List.mem_map.2 ⟨S.getD k Pp.nil, ?_, rfl⟩)
                rw [List.getD_eq_getElem?_getD, List.getElem?_eq_getElem hlt9]
                exact List.getElem_mem hlt9
              obtain ⟨x, HXX⟩ : ∃ x, Hid ((S.getD k Pp.nil).k = x) := ⟨_, rfl⟩
              rw [HXX.out] at e0 hkin
              obtain ⟨na, HN⟩ : ∃ na, Hid (atI x R = na) := ⟨_, rfl⟩
              have hna : ¬ na < 0 := by
                have := (atI_has x R).2 hkin
                rw [HN.out] at this
                omega
              clear hkin
              go_wp2
              refine wp_region_held_drew (S := fun w' => w'.cell? ⟨g9, k * 2, none⟩ = some (.int .u64 x)) (by kernel_rfl) e0 (fun hHeld => ?_)
              refine wpAnyH_take (i := 0) (v := ?v91) rfl (by kernel_rfl) (by kernel_rfl) (by kernel_rfl) (fun _ _ _ h => h) (Or.inl ⟨by rfl, ?hy91⟩) (by assumption) ?rest91
              case hy91 => (intro wy hSw; (try dsimp only at hSw); go_simp; (first | done | with_reducible rfl))
              try simp only [Act.put, List.getElem_toArray, List.getElem_cons_zero, List.getElem_cons_succ, List.setIfInBounds_toArray, List.set_cons_zero, List.set_cons_succ]
              refine wpAnyH_take (i := 2) (v := ?v92) rfl (by kernel_rfl) (by kernel_rfl) (by kernel_rfl) (fun _ _ _ h => h) (Or.inl ⟨by rfl, ?hy92⟩) (by assumption) ?rest92
              case hy92 => (intro wy hSw; (try dsimp only at hSw); go_simp; (first | done | with_reducible rfl))
              try simp only [Act.put, List.getElem_toArray, List.getElem_cons_zero, List.getElem_cons_succ, List.setIfInBounds_toArray, List.set_cons_zero, List.set_cons_succ]
              refine wpAnyH_take (i := 3) (v := ?v93) rfl (by kernel_rfl) (by kernel_rfl) (by kernel_rfl) (fun _ _ _ h => h) (Or.inl ⟨by rfl, ?hy93⟩) (by assumption) ?rest93
              case hy93 => (intro wy hSw; (try dsimp only at hSw); go_simp; (first | done | with_reducible rfl))
              try simp only [Act.put, List.getElem_toArray, List.getElem_cons_zero, List.getElem_cons_succ, List.setIfInBounds_toArray, List.set_cons_zero, List.set_cons_succ]
              refine wpAnyH_take (i := 4) (v := ?v94) rfl (by kernel_rfl) (by kernel_rfl) (by kernel_rfl) (fun _ _ _ h => h) (Or.inl ⟨by rfl, ?hy94⟩) (by assumption) ?rest94
              case hy94 => (intro wy hSw; (try dsimp only at hSw); go_simp; (first | done | with_reducible rfl))
              try simp only [Act.put, List.getElem_toArray, List.getElem_cons_zero, List.getElem_cons_succ, List.setIfInBounds_toArray, List.set_cons_zero, List.set_cons_succ]
              refine wpAnyH_take (i := 5) (v := ?v95) rfl (by kernel_rfl) (by kernel_rfl) (by kernel_rfl) (fun _ _ _ h => h) (Or.inl ⟨by rfl, ?hy95⟩) (by assumption) ?rest95
              case hy95 => (intro wy hSw; (try dsimp only at hSw); go_simp; (first | done | with_reducible rfl))
              try simp only [Act.put, List.getElem_toArray, List.getElem_cons_zero, List.getElem_cons_succ, List.setIfInBounds_toArray, List.set_cons_zero, List.set_cons_succ]
              refine wpAnyH_take (i := 6) (v := ?v96) rfl (by kernel_rfl) (by kernel_rfl) (by kernel_rfl) (fun _ _ _ h => h) (Or.inl ⟨by rfl, ?hy96⟩) (by assumption) ?rest96
              case hy96 => (intro wy hSw; (try dsimp only at hSw); go_simp; (first | done | with_reducible rfl))
              try simp only [Act.put, List.getElem_toArray, List.getElem_cons_zero, List.getElem_cons_succ, List.setIfInBounds_toArray, List.set_cons_zero, List.set_cons_succ]
              refine wpAnyH_ready (rs := [1]) (by kernel_rfl) (by simp) ?_
              refine AllReadyH.cons rfl (fun KK hK => ?_) AllReadyH.nil
              rw [if_pos (by rfl)]
              go_simp
              go_at_call 15
              refine (HT9.out.below (w' := wx.drew) ⟨rfl, rfl, rfl, Nat.le_refl _, fun _ _ => rfl⟩).order.mono ?_
              rintro e w5 ⟨u5, rfl, ho5, hb5⟩
              have e5 : w5.cell? ⟨g9, k * 2, none⟩ = some (.int .u64 x) := (hb5.cell (p := ⟨g9, k * 2, none⟩) (World.block_lt_of_cell? wx ⟨g9, k * 2, none⟩ e0)).trans e0
              have hb59 : Below w4.heap.size w4 w5 := hb9.trans ((below_undrG hb5).mono hb9.size)
              have HU5 := keepG (own_seesG uC_len 0 ho5)
              obtain ⟨ua, uc, rfl⟩ := own_shape ho5
              clear ho5
              go_simp
              refine hK.out _ _ e5 (fun hHeld => ?_)
              clear hK KK
              try simp only [Act.put, List.getElem_toArray, List.getElem_cons_zero, List.getElem_cons_succ, List.setIfInBounds_toArray, List.set_cons_zero, List.set_cons_succ]
              refine wpAnyH_ready (rs := [7]) (by kernel_rfl) (by simp) ?_
              refine AllReadyH.cons rfl (fun KK hK => ?_) AllReadyH.nil
              rw [if_pos (by rfl)]
              go_simp
              go_at_call 20
              refine (wat_any x HU5.out HN).mono ?_
              rintro e w9 ⟨rfl, rfl⟩
              go_simp
              refine hK.out _ _ e5 (fun hHeld => ?_)
              clear hK KK
              try simp only [Act.put, List.getElem_toArray, List.getElem_cons_zero, List.getElem_cons_succ, List.setIfInBounds_toArray, List.set_cons_zero, List.set_cons_succ]
              refine wpAnyH_take (i := 8) (v := ?v1) rfl (by kernel_rfl) (by kernel_rfl) (by kernel_rfl) (fun _ _ _ h => h) (Or.inl ⟨by rfl, ?hy1⟩) (by assumption) ?rest1
              case hy1 => (intro wy hSw; (try dsimp only at hSw); go_simp; (first | done | with_reducible rfl))
              try simp only [Act.put, List.getElem_toArray, List.getElem_cons_zero, List.getElem_cons_succ, List.setIfInBounds_toArray, List.set_cons_zero, List.set_cons_succ]
              refine wpAnyH_done (by kernel_rfl) ?_ _
              go_wp2
              first
                | (go_roundw
                   case rel => exact ⟨k + 1, by omega, by go_num, hb59⟩
                   case measure => simp [intOf]; omega)
                | exact ⟨⟨k + 1, by omega, by go_num, hb59⟩, by simp [intOf]; omega⟩
            · have hlt9I : ¬ (k : Int) < S.length := by omega
              obtain ⟨d9, y9, hl9, HL9⟩ := HT9.out.inner
              go_wp2_with (go_at_call 13; go_must (refine (HL9.out wx (Below.refl _ _)).1.mono ?_); rintro e w9 ⟨rfl, rfl⟩)
              go_ret
              exact ⟨rfl, HT9.out.be⟩
      · have hltI : ¬ (j : Int) < ds.length := by omega
        as_aux_lemma =>
          obtain ⟨d3, y3, hl3, HL3⟩ := HT.out.inner
          go_wp2_with (go_at_call 18; go_must (refine (HL3.out wr (Below.refl _ _)).2.2.mono ?_); rintro e w4 ⟨u4, rfl, ho4, hb4⟩; go_must (have HT4 := keepG (HT.out.below hb4); have HU4 := keepG ho4; obtain ⟨pa, pc, rfl⟩ := own_shape ho4; clear ho4))
          have hSn : S.length ≤ 16 := by have := HT4.out.inv.len; omega
          go_loopw [17] (fun i wx => ∃ k : Nat, k ≤ S.length ∧ i = .int .i64 k ∧ Below w4.heap.size w4 wx) (fun i _ => S.length - (intOf i).toNat)
          case atStart => exact ⟨0, by omega, rfl, Below.refl _ _⟩
          case round =>
            obtain ⟨k, hk, rfl, hb9⟩ := hrel
            rename World => wx
            have HT9 := keepG (HT4.out.below hb9)
            by_cases hlt9 : k < S.length
            · have hlt9I : (k : Int) < S.length := by omega
              obtain ⟨g9, c9, ev9, _, hg9, _, _, hat9⟩ := own_atG ppC_len Pp.nil (own_below HU4.out hb9 (Nat.le_refl _)) (by omega)
              simp only [Value.slice.injEq, true_and] at ev9
              obtain ⟨rfl, rfl⟩ := ev9
              have e0 := (hat9 k hlt9 0 (by omega)).1
              simp only [List.getElem?_cons_zero, Nat.add_zero] at e0
              clear hat9
              have hkin : (S.getD k Pp.nil).k ∈ R := by
                refine HT9.out.inv.keys.mem_iff.2 (List.mem_map.2 ⟨S.getD k Pp.nil, ?_, rfl⟩)
                rw [List.getD_eq_getElem?_getD, List.getElem?_eq_getElem hlt9]
                exact List.getElem_mem hlt9
              obtain ⟨x, HXX⟩ : ∃ x, Hid ((S.getD k Pp.nil).k = x) := ⟨_, rfl⟩
              rw [HXX.out] at e0 hkin
              obtain ⟨na, HN⟩ : ∃ na, Hid (atI x R = na) := ⟨_, rfl⟩
              have hna : ¬ na < 0 := by
                have := (atI_has x R).2 hkin
                rw [HN.out] at this
                omega
              clear hkin
              go_wp2
              refine wp_region_held_drew (S := fun w' => w'.cell? ⟨g9, k * 2, none⟩ = some (.int .u64 x)) (by kernel_rfl) e0 (fun hHeld => ?_)
              refine wpAnyH_take (i := 0) (v := ?v97) rfl (by kernel_rfl) (by kernel_rfl) (by kernel_rfl) (fun _ _ _ h => h) (Or.inl ⟨by rfl, ?hy97⟩) (by assumption) ?rest97
              case hy97 => (intro wy hSw; (try dsimp only at hSw); go_simp; (first | done | with_reducible rfl))
              try simp only [Act.put, List.getElem_toArray, List.getElem_cons_zero, List.getElem_cons_succ, List.setIfInBounds_toArray, List.set_cons_zero, List.set_cons_succ]
              refine wpAnyH_take (i := 2) (v := ?v98) rfl (by kernel_rfl) (by kernel_rfl) (by kernel_rfl) (fun _ _ _ h => h) (Or.inl ⟨by rfl, ?hy98⟩) (by assumption) ?rest98
              case hy98 => (intro wy hSw; (try dsimp only at hSw); go_simp; (first | done | with_reducible rfl))
              try simp only [Act.put, List.getElem_toArray, List.getElem_cons_zero, List.getElem_cons_succ, List.setIfInBounds_toArray, List.set_cons_zero, List.set_cons_succ]
              refine wpAnyH_take (i := 3) (v := ?v99) rfl (by kernel_rfl) (by kernel_rfl) (by kernel_rfl) (fun _ _ _ h => h) (Or.inl ⟨by rfl, ?hy99⟩) (by assumption) ?rest99
              case hy99 => (intro wy hSw; (try dsimp only at hSw); go_simp; (first | done | with_reducible rfl))
              try simp only [Act.put, List.getElem_toArray, List.getElem_cons_zero, List.getElem_cons_succ, List.setIfInBounds_toArray, List.set_cons_zero, List.set_cons_succ]
              refine wpAnyH_take (i := 4) (v := ?v100) rfl (by kernel_rfl) (by kernel_rfl) (by kernel_rfl) (fun _ _ _ h => h) (Or.inl ⟨by rfl, ?hy100⟩) (by assumption) ?rest100
              case hy100 => (intro wy hSw; (try dsimp only at hSw); go_simp; (first | done | with_reducible rfl))
              try simp only [Act.put, List.getElem_toArray, List.getElem_cons_zero, List.getElem_cons_succ, List.setIfInBounds_toArray, List.set_cons_zero, List.set_cons_succ]
              refine wpAnyH_take (i := 5) (v := ?v101) rfl (by kernel_rfl) (by kernel_rfl) (by kernel_rfl) (fun _ _ _ h => h) (Or.inl ⟨by rfl, ?hy101⟩) (by assumption) ?rest101
              case hy101 => (intro wy hSw; (try dsimp only at hSw); go_simp; (first | done | with_reducible rfl))
              try simp only [Act.put, List.getElem_toArray, List.getElem_cons_zero, List.getElem_cons_succ, List.setIfInBounds_toArray, List.set_cons_zero, List.set_cons_succ]
              refine wpAnyH_take (i := 6) (v := ?v102) rfl (by kernel_rfl) (by kernel_rfl) (by kernel_rfl) (fun _ _ _ h => h) (Or.inl ⟨by rfl, ?hy102⟩) (by assumption) ?rest102
              case hy102 => (intro wy hSw; (try dsimp only at hSw); go_simp; (first | done | with_reducible rfl))
              try simp only [Act.put, List.getElem_toArray, List.getElem_cons_zero, List.getElem_cons_succ, List.setIfInBounds_toArray, List.set_cons_zero, List.set_cons_succ]
              refine wpAnyH_ready (rs := [1]) (by kernel_rfl) (by simp) ?_
              refine AllReadyH.cons rfl (fun KK hK => ?_) AllReadyH.nil
              rw [if_pos (by rfl)]
              go_simp
              go_at_call 15
              refine (HT9.out.below (w' := wx.drew) ⟨rfl, rfl, rfl, Nat.le_refl _, fun _ _ => rfl⟩).order.mono ?_
              rintro e w5 ⟨u5, rfl, ho5, hb5⟩
              have e5 : w5.cell? ⟨g9, k * 2, none⟩ = some (.int .u64 x) := (hb5.cell (p := ⟨g9, k * 2, none⟩) (World.block_lt_of_cell? wx ⟨g9, k * 2, none⟩ e0)).trans e0
              have hb59 : Below w4.heap.size w4 w5 := hb9.trans ((below_undrG hb5).mono hb9.size)
              have HU5 := keepG (own_seesG uC_len 0 ho5)
              obtain ⟨ua, uc, rfl⟩ := own_shape ho5
              clear ho5
              go_simp
              refine hK.out _ _ e5 (fun hHeld => ?_)
              clear hK KK
              try simp only [Act.put, List.getElem_toArray, List.getElem_cons_zero, List.getElem_cons_succ, List.setIfInBounds_toArray, List.set_cons_zero, List.set_cons_succ]
              refine wpAnyH_ready (rs := [7]) (by kernel_rfl) (by simp) ?_
              refine AllReadyH.cons rfl (fun KK hK => ?_) AllReadyH.nil
              rw [if_pos (by rfl)]
              go_simp
              go_at_call 20
              refine (wat_any x HU5.out HN).mono ?_
              rintro e w9 ⟨rfl, rfl⟩
              go_simp
              refine hK.out _ _ e5 (fun hHeld => ?_)
              clear hK KK
              try simp only [Act.put, List.getElem_toArray, List.getElem_cons_zero, List.getElem_cons_succ, List.setIfInBounds_toArray, List.set_cons_zero, List.set_cons_succ]
              refine wpAnyH_take (i := 8) (v := ?v2) rfl (by kernel_rfl) (by kernel_rfl) (by kernel_rfl) (fun _ _ _ h => h) (Or.inl ⟨by rfl, ?hy2⟩) (by assumption) ?rest2
              case hy2 => (intro wy hSw; (try dsimp only at hSw); go_simp; (first | done | with_reducible rfl))
              try simp only [Act.put, List.getElem_toArray, List.getElem_cons_zero, List.getElem_cons_succ, List.setIfInBounds_toArray, List.set_cons_zero, List.set_cons_succ]
              refine wpAnyH_done (by kernel_rfl) ?_ _
              go_wp2
              first
                | (go_roundw
                   case rel => exact ⟨k + 1, by omega, by go_num, hb59⟩
                   case measure => simp [intOf]; omega)
                | exact ⟨⟨k + 1, by omega, by go_num, hb59⟩, by simp [intOf]; omega⟩
            · have hlt9I : ¬ (k : Int) < S.length := by omega
              obtain ⟨d9, y9, hl9, HL9⟩ := HT9.out.inner
              go_wp2_with (go_at_call 13; go_must (refine (HL9.out wx (Below.refl _ _)).1.mono ?_); rintro e w9 ⟨rfl, rfl⟩)
              go_ret
              exact ⟨rfl, HT9.out.be⟩
/-- LruEvicts. -/
theorem lruEvicts_walk (cap : Int) (sv : Value) (ds : List Dc) (w : World) {P0 : Prop} (_ : P0) (hs : SeesG dcC 3 Dc.nil w sv ds) (hlen : ds.length * 24 ≤ 140737488351232) :
    Calls Try.prog 4 #[.int .i64 cap, sv] w fun e w' => e = .returned (.bool true) ∧ Below w.heap.size w w' := by
  by_cases h : cap < 1 ∨ 16 < cap
  · exact lruEvicts_no cap sv w h
  · obtain ⟨n, rfl⟩ : ∃ n : Nat, cap = n := ⟨cap.toNat, by omega⟩
    exact lruEvicts_ok n (by omega) (by omega) n rfl sv ds w hs (by omega)
end Go.Proofs.Ytoaceadfdelgfaa
