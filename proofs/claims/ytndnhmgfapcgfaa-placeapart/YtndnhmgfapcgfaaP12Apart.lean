
/-
  PlaceApart, walked: the answer is true. Condition: at most 17592186043904 keys.
-/
import Derived.Test.YtndnhmgfapcgfaaP12ApartP
import Derived.Test.YtndnhmgfapcgfaaP12Kept
namespace Go.Proofs.Ytndnhmgfapcgfaa
open Go.RowKit Go.Deep
set_option linter.unusedVariables false
set_option maxRecDepth 20000

/-- A shard's list, painted up to a place. -/
def paintL (N : Nat) (xs : List Int) (s i p : Nat) : List Int :=
  if p < s then List.replicate (mineL p N xs).length (100 + p) else if p = s then List.replicate i (100 + (p : Int)) ++ (mineL p N xs).drop i else mineL p N xs
theorem paint_len (N : Nat) (xs : List Int) (s i p : Nat) (hi : p = s → i ≤ (mineL p N xs).length) : (paintL N xs s i p).length = (mineL p N xs).length := by
  unfold paintL
  by_cases h1 : p < s
  · rw [if_pos h1]; simp
  · rw [if_neg h1]
    by_cases h2 : p = s
    · rw [if_pos h2]; have := hi h2; simp; omega
    · rw [if_neg h2]
theorem paint_next {N : Nat} {xs : List Int} {s i : Nat} (p : Nat) (hi : i < (mineL s N xs).length) : paintL N xs s (i + 1) p = if p = s then (paintL N xs s i s).set i (100 + s) else paintL N xs s i p := by
  by_cases h : p = s
  · subst h
    rw [if_pos rfl]
    unfold paintL
    rw [if_neg (by omega), if_pos rfl, if_neg (by omega), if_pos rfl, List.set_append_right _ _ (by simp), List.length_replicate, Nat.sub_self, List.drop_eq_getElem_cons hi, List.set_cons_zero, List.replicate_succ']
    simp
  · rw [if_neg h]
    unfold paintL
    rw [if_neg h, if_neg h]
theorem paint_start (N : Nat) (xs : List Int) (p : Nat) : paintL N xs 0 0 p = mineL p N xs := by
  unfold paintL
  rw [if_neg (by omega)]
  by_cases h : p = 0
  · rw [if_pos h]; simp
  · rw [if_neg h]
theorem paint_on {N : Nat} {xs : List Int} {s : Nat} (p : Nat) : paintL N xs s (mineL s N xs).length p = paintL N xs (s + 1) 0 p := by
  unfold paintL
  by_cases h1 : p < s
  · rw [if_pos h1, if_pos (by omega)]
  · rw [if_neg h1]
    by_cases h2 : p = s
    · subst h2
      rw [if_pos rfl, if_pos (by omega)]; simp
    · rw [if_neg h2, if_neg (by omega)]
      by_cases h3 : p = s + 1
      · rw [if_pos h3]; simp
      · rw [if_neg h3]
theorem paint_getD {N : Nat} {xs : List Int} {s i : Nat} (hi : i < (mineL s N xs).length) : (paintL N xs s i s).getD i 0 = (mineL s N xs).getD i 0 := by
  unfold paintL
  rw [if_neg (by omega), if_pos rfl]
  simp [List.getD, List.getElem?_append_right]
theorem paint_done {N : Nat} {xs : List Int} {p : Nat} (hp : p < N) : paintL N xs N 0 p = List.replicate (mineL p N xs).length (100 + (p : Int)) := by
  unfold paintL; rw [if_pos hp]
set_option maxHeartbeats 6400000 in
theorem apart_ok (N : Nat) (v : Value) (xs : List Int) (w : World) (hN1 : 1 ≤ N) (hN4 : N ≤ 4) (hs : Sees .u64 w v xs) (hlen : xs.length ≤ 17592186043904) :
    Calls Try.prog 5 #[v, .int .i64 N] w fun e w' => e = .returned (.bool true) ∧ Below w.heap.size w w' := by
  obtain ⟨i0, hi, hz0, hz1, hz2⟩ := info_parts Try.info64p
  have HS : Hid (Sees .u64 w v xs) := hs
  have HWf : Hid (∀ x ∈ xs, (Lit.int .u64 x).wf = true) := hs.wf
  have HWd : Hid (∀ x ∈ xs, 0 ≤ x ∧ x < 18446744073709551616) := hs.words
  have HSB : Hid (-9223372036854775808 ≤ (N : Int) ∧ (N : Int) ≤ 9223372036854775807) := ⟨by omega, by omega⟩
  have HL : Hid (xs.length ≤ 17592186044416) := by show _ ≤ _; omega
  obtain ⟨a, cap, rfl⟩ := hs.shape
  clear hs
  go_enter Try.func5, Try.ntmps5
  go_wp2_with (first
    | (go_at_call 7; go_must (refine (awake_any _).mono ?_); rintro e w1 ⟨rfl, hbe⟩; have hs1 := HS.out.below hbe (Nat.le_refl _))
    | (at_builtin; have hq := hs1; clear hq; go_must (refine wpList_append_sees rfl (.tmp 17) (.tmp 18) 26 rfl w1.heap.size 22 i0 (.int .u64 0) 8 Try.underlying26 hi hz0 hz1 hz2 rfl .u64 _ [] rfl (own_empty w1 _) _ _ rfl (hs1.alloc _) (by simp [maxLen]; omega) (by simp; omega) (by simp) ?_); intro v2 w2 hown hg; go_must (have hb2 := below_grown (own_empty w1 _) hg (by simp); have hb2 : Below w1.heap.size w1 w2 := ((Below.refl _ _).alloc (Nat.le_refl _) _).trans hb2; have hz := hbe.size; have hbe2 := hbe.trans (hb2.mono hz); have hs2 := hs1.below hb2 (Nat.le_refl _); clear hg hs1 hb2 hbe hz; simp only [List.nil_append] at hown; have hsin := Sees.own hown HWf.out; clear hown; obtain ⟨a2, c2, rfl⟩ := hsin.shape))
    | (go_at_call 10; go_must (refine (lsplit_ok N _ xs _ hN1 hN4 hsin HL.out).mono ?_); rintro e w3 ⟨V, rfl, hR⟩))
  have HB2 := keepP hbe2
  have HI2 := keepP hsin
  have HS2 := keepP hs2
  have HR := keepP hR
  have hzw2 := hbe2.size
  clear hbe2 hsin hs2 hR
  go_loopw [7, 8] (fun n i wr => ∃ k : Nat, k ≤ N ∧ i = .int .i64 k ∧ n = .int .i64 (sumL N xs k) ∧ Hid (Rw w2 N V (fun p => mineL p N xs) wr)) (fun _ i _ => N - (intOf i).toNat)
  case atStart => exact ⟨0, by omega, rfl, rfl, HR.out⟩
  case round =>
    clear HR
    rename World => w4
    obtain ⟨k, hk, rfl, rfl, HR⟩ := hrel
    by_cases hlt : k < N
    · have c1 := HR.out.out.cell hlt
      have hb1 := HR.out.out.lt
      have hz4 := HR.out.g.size
      obtain ⟨Y, HY⟩ : ∃ Y, Hid (mineL (k : Int) N xs = Y) := ⟨_, rfl⟩
      have h1 := HR.out.sees hlt (mine_wf HWf.out)
      simp only [HY.out] at h1
      obtain ⟨x1, y1, e1⟩ := h1.shape
      rw [e1] at c1 h1
      have HS1 := keepP h1
      have HSk := keepP (HS2.out.below HR.out.g (Nat.le_refl _))
      clear h1 e1
      have hltI : (k : Int) < N := by omega
      have hsm := sum_le N xs (fun x hx => (HWd.out x hx).1) (k + 1)
      rw [sumL, HY.out] at hsm
      obtain ⟨q, HQ⟩ : ∃ q, Hid (sumL N xs k = q) := ⟨_, rfl⟩
      rw [HQ.out] at hsm
      rw [HQ.out]
      have HM : Hid (∀ wx, Below w4.heap.size w4 wx → Rw w2 N V (fun p => mineL p N xs) wx) := fun wx hb => HR.out.next hb
      have HB4 : Hid (∀ n, Below w4.heap.size w4 (w4.drewN n)) := fun n => below_drewN (Below.refl _ _) n
      go_wp2
      go_region_held3 (fun w' => w'.cell? ⟨w2.heap.size, k, none⟩ = some (.slice x1 Y.length y1)) (first | with_reducible exact c5 | with_reducible exact c1 | exact c5 | exact c1)
        (first
          | (go_at_call 13; go_must (refine (lmine_any k N _ xs _ HSk.out.drew HL.out HSB.out).mono ?_); rintro e w5 ⟨v5, rfl, hown5, hb5⟩; go_must (have c5 := (hb5.cell (p := ⟨w2.heap.size, k, none⟩) hb1).trans c1; simp only [HY.out] at hown5; have h5 := Sees.own hown5 (by rw [← HY.out]; exact mine_wf HWf.out); have h51 := HS1.out.drew.below hb5 (Nat.le_refl _); obtain ⟨a5, d5, rfl⟩ := h5.shape; clear hown5))
          | (go_at_call 12; go_must (refine (numbers_any _ _ Y Y _ h51 h5).mono ?_); rintro e w8 ⟨rfl, n8, rfl⟩; rw [eqB_true (rfl : Y = Y)]))
      all_goals go_wp2
      all_goals go_roundw
      case rel => exact ⟨k + 1, by omega, by go_num, by rw [sumL, HY.out, HQ.out]; go_num, (HR.out.next (w1 := w5) ⟨hb5.os, hb5.tape, hb5.output, hb5.size, hb5.block⟩).next (below_drewN (Below.refl _ _) n8)⟩
      case measure => simp [intOf]; omega
    · obtain rfl : k = N := by omega
      rw [sum_all k xs hN1 (fun x hx => (HWd.out x hx).1)]
      go_wp2
      go_loopw [9] (fun i wr => ∃ s : Nat, s ≤ k ∧ i = .int .i64 s ∧ Hid (Rw w2 k V (fun p => paintL k xs s 0 p) wr)) (fun i _ => k - (intOf i).toNat)
      case atStart => exact ⟨0, by omega, rfl, HR.out.congr fun p _ => (paint_start k xs p).symm⟩
      case round =>
        clear HR
        rename World => w5
        obtain ⟨s, hs, rfl, HR⟩ := hrel
        by_cases hlt : s < k
        · obtain ⟨L, HLn⟩ : ∃ L, Hid ((mineL (s : Int) k xs).length = L) := ⟨_, rfl⟩
          have hLb : L ≤ 17592186043904 := by rw [← HLn.out]; have := mine_len s k xs; omega
          have hltI : (s : Int) < k := by omega
          have HVs : Hid (∃ a c, V s = .slice a L c ∧ (0 < L → ∃ g, a = some ⟨g, 0, none⟩ ∧ w2.heap.size + 1 ≤ g)) := by
            have ho := HR.out.own s hlt
            rw [paint_len k xs s 0 s (by omega), HLn.out] at ho
            obtain ⟨a, c, e1, _⟩ := own_shapep ho
            refine ⟨a, c, e1, fun hp => ?_⟩
            obtain ⟨g, c', e2, hg, _⟩ := own_opens ho hp
            rw [e1] at e2
            injection e2 with f1
            exact ⟨g, f1, hg⟩
          obtain ⟨aV, cV, eV, haV⟩ := HVs.out
          have HeV := keepP eV
          have HaV := keepP haV
          clear HVs eV haV
          go_wp2
          go_loopw [10] (fun i wr => ∃ j : Nat, j ≤ L ∧ i = .int .i64 j ∧ Hid (Rw w2 k V (fun p => paintL k xs s j p) wr)) (fun i _ => L - (intOf i).toNat)
          case atStart => exact ⟨0, by omega, rfl, HR.out⟩
          case round =>
            clear HR
            obtain ⟨j, hj, rfl, HR⟩ := hrel
            have c1 := HR.out.out.cell hlt
            rw [HeV.out] at c1
            have hb1 := HR.out.out.lt
            by_cases hjl : j < L
            · obtain ⟨g, rfl, hg⟩ := HaV.out (by omega)
              have ho := HR.out.own s hlt
              have hpl : (paintL k xs s j s).length = L := by rw [paint_len k xs s j s (fun _ => by rw [HLn.out]; omega), HLn.out]
              have HPut := keepP (HR.out.store (i := j) hlt (100 + (s : Int)) (by rw [HeV.out, hpl]))
              rw [HeV.out, hpl] at ho
              have hx := ho.cellAt (j) (by simp; omega)
              have hjm : j < (mineL (s : Int) k xs).length := by rw [HLn.out]; exact hjl
              obtain ⟨x, HX⟩ : ∃ x, Hid ((mineL (s : Int) k xs).getD j 0 = x) := ⟨_, rfl⟩
              have hx' : wr.cell? ⟨g, j, none⟩ = some (.int .u64 x) := by
                rw [hx, ← HX.out, ← paint_getD hjm]
                have : j < (paintL k xs s j s).length := by omega
                simp [List.getD, this]
              have hmem := mine_mem.1 (show x ∈ mineL (s : Int) k xs by rw [← HX.out]; exact getD_mem _ _ hjm)
              have HN : Hid ((s : Int) = ofL x k) := hmem.2.symm
              have HXw := HWd.out x hmem.1
              have hfz := ho.frozenAt j
              have hgl := (ho.lt g rfl).2
              have hne : ¬ w2.heap.size = g := by omega
              have hne' : ¬ g = w2.heap.size := by omega
              clear hx hmem hpl ho hjm
              have hjI : (j : Int) < L := by omega
              go_wp2_with (go_at_call 8; go_must (refine (of_as HXw HSB.out HN).mono ?_); rintro e w' ⟨rfl, rfl⟩)
              go_roundw
              case rel =>
                refine ⟨j + 1, by omega, by go_num, ?_⟩
                refine HPut.out.congr fun p _ => ?_
                exact (paint_next p (by rw [HLn.out]; exact hjl)).symm
              case measure => simp [intOf]; omega
            · obtain rfl : j = L := by omega
              go_wp2
              go_roundw
              case rel => exact ⟨s + 1, by omega, by go_num, HR.out.congr fun p _ => by rw [← HLn.out]; exact paint_on p⟩
              case measure => simp [intOf]; omega
        · obtain rfl : s = k := by omega
          have HR9 := keepP (HR.out.congr (fun p hp => paint_done hp))
          clear HR
          go_wp2
          go_loopw [11] (fun i wr => ∃ t : Nat, t ≤ s ∧ i = .int .i64 t ∧ Hid (Rw w2 s V (fun p => List.replicate (mineL (p : Int) s xs).length (100 + (p : Int))) wr)) (fun i _ => s - (intOf i).toNat)
          case atStart => exact ⟨0, by omega, rfl, HR9.out⟩
          case round =>
            clear HR9
            rename World => w6
            obtain ⟨t, ht, rfl, HR⟩ := hrel
            by_cases hlt : t < s
            · obtain ⟨L, HLn⟩ : ∃ L, Hid ((mineL (t : Int) s xs).length = L) := ⟨_, rfl⟩
              have hLb : L ≤ 17592186043904 := by rw [← HLn.out]; have := mine_len t s xs; omega
              have hltI : (t : Int) < s := by omega
              obtain ⟨av, cv, eV, hcv, hcm⟩ := HR.out.shape hlt
              simp only [List.length_replicate, HLn.out] at eV hcv
              unfold maxLen at hcm
              have c1 := HR.out.out.cell hlt
              have hb1 := HR.out.out.lt
              have HeV := keepP eV
              rw [eV] at c1
              clear eV
              go_wp2
              go_loopw [12, 13] (fun u i wr => ∃ j : Nat, j ≤ 17 ∧ i = .int .i64 j ∧ Hid (Gw w2 s V (fun p => List.replicate (mineL (p : Int) s xs).length (100 + (p : Int))) t j u wr)) (fun _ i _ => 17 - (intOf i).toNat)
              case atStart => exact ⟨0, by omega, rfl, by rw [← HeV.out]; exact Gw.start HR.out hlt⟩
              case round =>
                clear HR c1 hb1
                rename World => w7
                obtain ⟨j, hj, rfl, HG⟩ := hrel
                have hz7 := HG.out.rw.g.size
                have hlt7 := HG.out.rw.out.lt
                by_cases hj17 : j < 17
                · have hown := HG.out.own
                  simp only [List.length_replicate, HLn.out] at hown
                  go_wp2_with (at_builtin; go_must (refine wpList_append_keptp _ rfl _ _ 26 rfl (w2.heap.size + 1) 22 i0 (.int .u64 0) 1 8 Try.underlying26 hi hz0 hz1 hz2 rfl (by decide) _ _ _ rfl (hown.alloc _) ⟨_, 0, none⟩ 1 1 [.int .u64 7] rfl rfl (cell_one_new _ _ _) (one_cell _ _) (by unfold maxLen; omega) (by omega) (by simp; omega) (by omega) ?_); intro v' w8 hown' hgrow hlies; have HGN := keepP (HG.out.step hlt (v' := v') (w1 := w8) (by simp only [List.length_replicate, HLn.out]; exact hown') hgrow (by simp only [List.length_replicate, HLn.out]; exact hlies)); clear hown' hgrow hlies)
                  go_roundw
                  case rel => exact ⟨j + 1, by omega, by go_num, HGN.out⟩
                  case measure => simp [intOf]; omega
                · obtain ⟨ag, cg, rfl, hcg⟩ : ∃ a c, u12 = .slice a (L + j) c ∧ c ≤ 9223372036854775807 := by
                    have hown := HG.out.own
                    simp only [List.length_replicate, HLn.out] at hown
                    obtain ⟨a, c, e, _, h2⟩ := own_shapep hown
                    unfold maxLen at h2
                    exact ⟨a, c, e, h2⟩
                  go_wp2
                  go_loopw [14] (fun i wr => ∃ q : Nat, q ≤ L ∧ i = .int .i64 q ∧ w7 = wr) (fun i _ => L - (intOf i).toNat)
                  case atStart => exact ⟨0, by omega, rfl, rfl⟩
                  case round =>
                    obtain ⟨q, hq, rfl, rfl⟩ := hrel
                    have c1 := HG.out.rw.out.cell hlt
                    rw [HeV.out] at c1
                    by_cases hql : q < L
                    · have ho := HG.out.rw.own t hlt
                      have hown := HG.out.own
                      simp only [List.length_replicate, HLn.out] at ho hown
                      rw [HeV.out] at ho
                      obtain ⟨g1, d1, e1, _, hg1, _, _, f1⟩ := own_open ho (by omega)
                      obtain ⟨g2, d2, e2, _, hg2, _, _, f2⟩ := own_open hown (by omega)
                      injection e1 with e11
                      injection e2 with e21
                      subst e11 e21
                      have c2 := f1 q (.int .u64 (100 + (t : Int))) (by simp [hql])
                      have c3 := f2 q (.int .u64 (100 + (t : Int))) (by rw [List.getElem?_append_left (by simp; omega)]; simp [hql])
                      clear f1 f2 ho hown
                      have hqI : (q : Int) < L := by omega
                      have hqI2 : (q : Int) < L + j := by omega
                      go_wp2
                      go_roundw
                      case rel => exact ⟨q + 1, by omega, by go_num, trivial⟩
                      case measure => simp [intOf]; omega
                    · go_wp2
                      go_roundw
                      case rel => exact ⟨t + 1, by omega, by go_num, HG.out.rw⟩
                      case measure => simp [intOf]; omega
            · have hI := HI2.out.below HR.out.g (Nat.le_refl _)
              have hS := HS2.out.below HR.out.g (Nat.le_refl _)
              have hbw := HB2.out.trans (HR.out.g.mono hzw2)
              go_wp2_with (go_at_call 12; go_must (refine (numbers_any _ _ xs xs _ hI hS).mono ?_); rintro e w8 ⟨rfl, n8, rfl⟩; rw [eqB_true (rfl : xs = xs)])
              go_ret
              exact ⟨rfl, below_drewN hbw _⟩
set_option maxHeartbeats 1600000 in
theorem apart_no (s : Int) (v : Value) (xs : List Int) (w : World) (hs1 : s < 1 ∨ 4 < s) (hsb : -9223372036854775808 ≤ s ∧ s ≤ 9223372036854775807) (hs : Sees .u64 w v xs) (hlen : xs.length ≤ 17592186043904) :
    Calls Try.prog 5 #[v, .int .i64 s] w fun e w' => e = .returned (.bool true) ∧ Below w.heap.size w w' := by
  obtain ⟨i0, hi, hz0, hz1, hz2⟩ := info_parts Try.info64p
  have HS : Hid (Sees .u64 w v xs) := hs
  have HWf : Hid (∀ x ∈ xs, (Lit.int .u64 x).wf = true) := hs.wf
  have HSB : Hid (-9223372036854775808 ≤ s ∧ s ≤ 9223372036854775807) := hsb
  have HD : Hid (s < 1 ∨ 4 < s) := hs1
  obtain ⟨a, cap, rfl⟩ := hs.shape
  clear hs hsb
  rcases hs1 with h1 | h1
  all_goals
    go_enter Try.func5, Try.ntmps5
    go_wp2_with (first
      | (go_at_call 7; go_must (refine (awake_any _).mono ?_); rintro e w1 ⟨rfl, hbe⟩; have hs1 := HS.out.below hbe (Nat.le_refl _))
      | (at_builtin; have hq := hs1; clear hq; go_must (refine wpList_append_sees rfl (.tmp 17) (.tmp 18) 26 rfl w1.heap.size 22 i0 (.int .u64 0) 8 Try.underlying26 hi hz0 hz1 hz2 rfl .u64 _ [] rfl (own_empty w1 _) _ _ rfl (hs1.alloc _) (by simp [maxLen]; omega) (by simp; omega) (by simp) ?_); intro v2 w2 hown hg; go_must (have hb2 := below_grown (own_empty w1 _) hg (by simp); have hb2 : Below w1.heap.size w1 w2 := ((Below.refl _ _).alloc (Nat.le_refl _) _).trans hb2; have hz := hbe.size; have hbe2 := hbe.trans (hb2.mono hz); clear hg hs1 hb2 hbe hz; simp only [List.nil_append] at hown; have hsin := Sees.own hown HWf.out; clear hown; obtain ⟨a2, c2, rfl⟩ := hsin.shape))
      | (go_at_call 10; go_must (refine (lsplit_no s _ _ HD.out HSB.out).mono ?_); rintro e w3 ⟨rfl, rfl⟩))
    go_ret
    exact ⟨rfl, hbe2⟩
theorem apart_walk (v : Value) (xs : List Int) (s : Int) (w : World) (hs : Sees .u64 w v xs) (z : xs.length * Try.prog.bytesOf 22 ≤ reachBytes) (hsb : -9223372036854775808 ≤ s ∧ s ≤ 9223372036854775807) :
    Calls Try.prog 5 #[v, .int .i64 s] w fun e w' => e = .returned (.bool true) ∧ Below w.heap.size w w' := by
  have hlen := len_of z
  by_cases h : s < 1 ∨ 4 < s
  · exact apart_no s v xs w h hsb hs hlen
  · obtain ⟨N, rfl⟩ : ∃ N : Nat, s = N := ⟨s.toNat, by omega⟩
    exact apart_ok N v xs w (by omega) (by omega) hs hlen
end Go.Proofs.Ytndnhmgfapcgfaa
