
/-
  The landed table of layer 19: hasEachOnce, Detach, Attach, Swap. Condition: it lies where the pointer says; what is handed in lies elsewhere.
-/
import Derived.Test.YtknijloificpmaaH19LA
namespace Go.Proofs.Ytknijloificpmaa
open Go.RowKit
set_option linter.unusedVariables false
set_option linter.unusedSimpArgs false
set_option maxRecDepth 100000
/-- Which hooks stood there. -/
def seenH (ws : List Int) : List Bool := [decide ((0 : Int) ∈ ws), decide ((1 : Int) ∈ ws), decide ((2 : Int) ∈ ws), decide ((3 : Int) ∈ ws)]
abbrev bCH (xs : List Bool) : List Value := xs.map Value.bool
theorem seenH_at (ws : List Int) {k : Nat} (hk : k < 4) : (bCH (seenH ws))[k]? = some (.bool (decide ((k : Int) ∈ ws))) := by
  have : k = 0 ∨ k = 1 ∨ k = 2 ∨ k = 3 := by omega
  rcases this with rfl | rfl | rfl | rfl <;> rfl
theorem seenH_more (ws : List Int) {k : Nat} (hk : k < 4) : (bCH (seenH ws)).set k (.bool true) = bCH (seenH (ws ++ [(k : Int)])) := by
  have : k = 0 ∨ k = 1 ∨ k = 2 ∨ k = 3 := by omega
  rcases this with rfl | rfl | rfl | rfl <;> simp [seenH, bCH]
section
variable {w w' : World} {b g : Nat} {t : Tb}
set_option maxHeartbeats 3200000 in
theorem lhonce (h : Lp w b g t) (hk : t.Ok) {v : Value} {ws : List Int} (hs : Sees .i64 w v ws) {r : Bool} (HR : Hid (t.once ws = r)) : Calls Try.prog 25 #[.pointer (some ⟨b, 0, none⟩), v] w fun e w' => e = .returned (.bool r) ∧ Below w.heap.size w w' := by
  have HE := keepG h
  have hl4 := hk.len.2
  have HS := keepG hs
  obtain ⟨a, cap, rfl, hlc, hmx, _⟩ := hs
  unfold maxLen at hmx
  obtain ⟨W1, HW1, HP1, HB1⟩ : ∃ W1, Hid (w.alloc (.cells #[.bool false, .bool false, .bool false, .bool false] 65) = W1) ∧ Hid (Hp W1 w.heap.size 65 (bCH (seenH []))) ∧ Hid (Below w.heap.size w W1) := ⟨_, rfl, Hp.new w _ _, below_allocG _ _⟩
  clear h
  go_enter Try.func25, Try.ntmps25
  go_wp2_with (rw [HW1.out])
  go_loopw [10] (fun i wr => ∃ j : Nat, j ≤ ws.length ∧ i = .int .i64 j ∧ Hid (t.once (ws.take j) = true) ∧ Hid (Hp wr w.heap.size 65 (bCH (seenH (ws.take j)))) ∧ Hid (Below w.heap.size w wr)) (fun i _ => ws.length - (intOf i).toNat)
  case atStart => exact ⟨0, by omega, rfl, rfl, HP1.out, HB1.out⟩
  case round =>
    obtain ⟨j, hj, rfl, HA, HP, HB⟩ := hrel
    rename World => wr
    by_cases hlt : j < ws.length
    · have hltI : (j : Int) < ws.length := by omega
      obtain ⟨a', c', ev, _, _, _, _, hcell⟩ := HS.out
      simp only [Value.slice.injEq, true_and] at ev
      obtain ⟨rfl, rfl⟩ := ev
      obtain ⟨p, off, rfl, hp, hat⟩ := hcell (fun e => by rw [e] at hlt; simp at hlt)
      have d0 := (HB.out.cell (p := ⟨p, off + j, none⟩) hp).trans (hat j hlt)
      clear hat hcell
      have ht := t.once_take hlt
      have hT := take_at ws j hlt
      obtain ⟨x, HX⟩ : ∃ x, Hid (ws.getD j 0 = x) := ⟨_, rfl⟩
      rw [HX.out] at d0 ht hT
      rw [HA.out, Bool.true_and] at ht
      have HT := keepG ht
      have HTT := keepG hT
      clear ht hT
      have HEr := keepG (HE.out.below HB.out)
      have hzr := HB.out.size
      cases hh : t.has x with
      | false =>
        have hrf : r = false := by
          rw [← HR.out]
          refine Tb.once_no (j := j + 1) ?_
          rw [HT.out, hh]
          rfl
        subst hrf
        have HH := keepG hh
        clear hh HR
        go_wp2_with (go_at_call 22; go_must (refine (lhhas HEr.out x HH).mono ?_); rintro e w1 ⟨rfl, rfl⟩)
        go_ret
        exact ⟨rfl, HB.out⟩
      | true =>
        have HH := keepG hh
        obtain ⟨k, rfl, hk2⟩ := Tb.has_nat hh
        have hk4 : k < 4 := by omega
        have hk4I : (k : Int) < 4 := by omega
        have e0 := HP.out.cell (seenH_at (ws.take j) hk4)
        have fk := HP.out.frozen k
        cases hm : decide ((k : Int) ∈ ws.take j) with
        | true =>
          rw [hm] at e0
          have hrf : r = false := by
            rw [← HR.out]
            refine Tb.once_no (j := j + 1) ?_
            rw [HT.out, hm]
            simp
          subst hrf
          clear hh HR hm
          go_wp2_with (go_at_call 22; go_must (refine (lhhas HEr.out _ HH).mono ?_); rintro e w1 ⟨rfl, rfl⟩)
          go_ret
          exact ⟨rfl, HB.out⟩
        | false =>
          rw [hm] at e0
          have HT2 : Hid (t.once (ws.take (j + 1)) = true) := by
            show _ = _
            rw [HT.out, hm, hh]
            rfl
          have HP2 := keepG (HP.out.set k (.bool true))
          rw [seenH_more _ hk4, ← HTT.out] at HP2
          have HB2 := keepG (HB.out.trans ((grown_to_below (grown_set wr w.heap.size k (.bool true)) (Nat.le_refl _) hzr)))
          clear hh HR hm
          go_wp2_with (go_at_call 22; go_must (refine (lhhas HEr.out _ HH).mono ?_); rintro e w1 ⟨rfl, rfl⟩)
          go_roundw
          case rel => exact ⟨j + 1, by omega, by go_num, HT2.out, HP2.out, HB2.out⟩
          case measure => simp [intOf]; omega
    · have hltI : ¬ (j : Int) < ws.length := by omega
      have hrt : r = true := by
        rw [← HR.out]
        have := HA.out
        rw [List.take_of_length_le (by omega)] at this
        exact this
      subst hrt
      clear HR
      go_wp2
      go_ret
      exact ⟨rfl, HB.out⟩
set_option maxHeartbeats 6400000 in
theorem lhdetach (h : Lp w b g t) (hk : t.Ok) {v : Value} {ws : List Int} (hs : Sees .i64 w v ws) (hap : ws ≠ [] → Apt (ftH b g) (ftV v)) {E : Int} {t' : Tb} (HQ : Hid (t.det ws = (E, t'))) : Calls Try.prog 15 #[.pointer (some ⟨b, 0, none⟩), v] w fun e w' => e = .returned (.int .i64 E) ∧ Lp w' b g t' ∧ Chg w w' (ftH b g) := by
  have HE := keepG h
  have hl4 := hk.len.2
  have HS := keepG hs
  have hlies := h.lies
  obtain ⟨a, cap, rfl, hlc, hmx, _⟩ := hs
  unfold maxLen at hmx
  have hq := HQ.out
  unfold Tb.det at hq
  clear h HQ
  cases ho : t.once ws with
  | false =>
    rw [if_pos ho] at hq
    injection hq with e1 e2
    subst e1 e2
    have HO := keepG ho
    clear ho
    go_enter Try.func15, Try.ntmps15
    go_wp2_with (go_at_call 25; go_must (refine (lhonce HE.out hk HS.out HO).mono ?_); rintro e w1 ⟨rfl, hb1⟩; go_must (have HB1 := keepG hb1; clear hb1))
    go_ret
    exact ⟨rfl, HE.out.below HB1.out, Chg.of_below HB1.out⟩
  | true =>
    rw [if_neg (by rw [ho]; decide)] at hq
    have HON := keepG (Tb.once_parts ho).2
    have HO := keepG ho
    have HQ := keepG hq
    clear ho hq
    go_enter Try.func15, Try.ntmps15
    go_wp2_with (go_at_call 25; go_must (refine (lhonce HE.out hk HS.out HO).mono ?_); rintro e w1 ⟨rfl, hb1⟩; go_must (have HB1 := keepG hb1; have HE1 := keepG (HE.out.below hb1); have HS1 := keepG (HS.out.below hb1 (Nat.le_refl _)); clear hb1))
    obtain ⟨p0, p1⟩ := HE1.out.low
    go_loopw [15] (fun i wr => ∃ j : Nat, j ≤ ws.length ∧ i = .int .i64 j ∧ Hid ((ws.take j).all t.taken = true) ∧ w1 = wr) (fun i _ => ws.length - (intOf i).toNat)
    case atStart => exact ⟨0, by omega, rfl, rfl, rfl⟩
    case round =>
      obtain ⟨j, hj, rfl, HA, rfl⟩ := hrel
      by_cases hlt : j < ws.length
      · have hltI : (j : Int) < ws.length := by omega
        obtain ⟨a', c', ev, _, _, _, _, hcell⟩ := HS1.out
        simp only [Value.slice.injEq, true_and] at ev
        obtain ⟨rfl, rfl⟩ := ev
        obtain ⟨p, off, rfl, hp, hat⟩ := hcell (fun e => by rw [e] at hlt; simp at hlt)
        have d0 := hat j hlt
        clear hat hcell
        have ht := all_take19 (p := t.taken) hlt
        have hmem := getD_mem ws j hlt
        obtain ⟨x, HX⟩ : ∃ x, Hid (ws.getD j 0 = x) := ⟨_, rfl⟩
        rw [HX.out] at d0 ht hmem
        rw [HA.out, Bool.true_and] at ht
        have HT := keepG ht
        obtain ⟨k, rfl, hk2⟩ := Tb.has_nat (HON.out _ hmem)
        have hk2I : (k : Int) < t.at'.length := by omega
        obtain ⟨y, HY⟩ : ∃ y, Hid (t.taken k = y) := ⟨_, rfl⟩
        rw [HY.out] at HT
        clear ht hmem
        cases y with
        | false =>
          have hf : ws.all t.taken = false := all_no19 (j := j + 1) HT.out
          have hq := HQ.out
          rw [if_pos hf] at hq
          injection hq with e1 e2
          subst e1 e2
          clear HQ hf
          go_wp2_with (go_at_call 23; go_must (refine (lhtaken HE1.out hk2 HY).mono ?_); rintro e w2 ⟨rfl, rfl⟩)
          go_ret
          exact ⟨rfl, HE1.out, Chg.of_below HB1.out⟩
        | true =>
          go_wp2_with (go_at_call 23; go_must (refine (lhtaken HE1.out hk2 HY).mono ?_); rintro e w2 ⟨rfl, rfl⟩)
          go_roundw
          case rel => exact ⟨j + 1, by omega, by go_num, HT.out, by first | rfl | trivial⟩
          case measure => simp [intOf]; omega
      · have hltI : ¬ (j : Int) < ws.length := by omega
        have hf : ws.all t.taken = true := by
          have := HA.out
          rw [List.take_of_length_le (by omega)] at this
          exact this
        have hq := HQ.out
        rw [if_neg (by rw [hf]; decide)] at hq
        injection hq with e1 e2
        subst e1 e2
        clear HQ hf HA
        go_wp2
        go_loopw [26] (fun i wr => ∃ q : Nat, q ≤ ws.length ∧ i = .int .i64 q ∧ Hid (Lp wr b g ⟨t.last, clrT t.at' (ws.take q)⟩) ∧ Hid (Chg w wr (ftH b g))) (fun i _ => ws.length - (intOf i).toNat)
        case atStart => exact ⟨0, by omega, rfl, HE1.out, Chg.of_below HB1.out⟩
        case round =>
          obtain ⟨q, hq, rfl, HEq, HCq⟩ := hrel
          rename World => wr
          by_cases hqt : q < ws.length
          · have hqtI : (q : Int) < ws.length := by omega
            obtain ⟨a', c', ev, _, _, _, _, hcell⟩ := HS.out.chg19 HCq.out (fun hne j hj e => hap hne j e hj)
            simp only [Value.slice.injEq, true_and] at ev
            obtain ⟨rfl, rfl⟩ := ev
            obtain ⟨p, off, rfl, hp, hat⟩ := hcell (fun e => by rw [e] at hqt; simp at hqt)
            have d0 := hat q hqt
            clear hat hcell
            have hT := take_at ws q hqt
            have hmem := getD_mem ws q hqt
            obtain ⟨x, HX⟩ : ∃ x, Hid (ws.getD q 0 = x) := ⟨_, rfl⟩
            rw [HX.out] at d0 hmem hT
            obtain ⟨k, rfl, hk2⟩ := Tb.has_nat (HON.out _ hmem)
            have hlen := clrT_len (ws.take q) t.at'
            obtain ⟨q0, q1⟩ := HEq.out.low
            simp only [hlen] at q1
            have hkq : k < (clrT t.at' (ws.take q)).length := by rw [hlen]; exact hk2
            obtain ⟨ck, cl⟩ := HEq.out.at (k := k) hkq
            have fk := HEq.out.row.frozen (k * 2)
            have fl := HEq.out.row.frozen (k * 2 + 1)
            have hk2I : (k : Int) < t.at'.length := by omega
            have HE2 := keepG (HEq.out.put hkq Sl.nil)
            have HC2 := keepG ((HCq.out.trans (Chg.set wr g (k * 2) (.int .i64 0)) (fun _ _ e => .inr e)).trans (Chg.set _ g (k * 2 + 1) (.int .i64 0)) (fun _ _ e => .inr e))
            have HT : Hid (clrT t.at' (ws.take (q + 1)) = (clrT t.at' (ws.take q)).set k Sl.nil) := by
              show _ = _
              rw [hT, clrT_app]
              rfl
            clear hmem hT hlen hkq
            generalize (Tb.slot ⟨t.last, clrT t.at' (ws.take q)⟩ (k : Int)).v = y0 at ck
            generalize (Tb.slot ⟨t.last, clrT t.at' (ws.take q)⟩ (k : Int)).p = y1 at cl
            go_wp2
            go_roundw
            case rel => exact ⟨q + 1, by omega, by go_num, by rw [HT.out]; exact HE2.out, HC2.out⟩
            case measure => simp [intOf]; omega
          · have hqtI : ¬ (q : Int) < ws.length := by omega
            have HE2 := HEq.out
            rw [List.take_of_length_le (by omega)] at HE2
            have HE3 := keepG HE2
            clear HE2 HEq
            go_wp2
            go_ret
            exact ⟨rfl, HE3.out, HCq.out⟩
set_option maxHeartbeats 3200000 in
theorem lhattach (h : Lp w b g t) (hk : t.Ok) (hl : t.last ≤ 1000000000000000) (x p : Int) {v E : Int} {t' : Tb} (HQ : Hid (t.put false x p = (v, E, t'))) : Calls Try.prog 13 #[.pointer (some ⟨b, 0, none⟩), .int .i64 x, .int .i64 p] w fun e w' => e = .returned (.tuple #[.int .i64 v, .int .i64 E]) ∧ Lp w' b g t' ∧ Chg w w' (ftH b g) := by
  have HE := keepG h
  have hq := HQ.out
  unfold Tb.put at hq
  cases hh : t.has x with
  | false =>
    rw [if_pos hh] at hq
    injection hq with e1 hq
    injection hq with e2 e3
    subst e1 e2 e3
    have HH := keepG hh
    clear h hh HQ
    go_enter Try.func13, Try.ntmps13
    go_wp2_with (go_at_call 22; go_must (refine (lhhas HE.out x HH).mono ?_); rintro e w1 ⟨rfl, rfl⟩)
    go_ret2
    exact ⟨rfl, HE.out, Chg.refl _ _⟩
  | true =>
    rw [if_neg (by rw [hh]; decide)] at hq
    obtain ⟨k, rfl, hk2⟩ := Tb.has_nat hh
    have HH := keepG hh
    have HP := keepG (lhpublish h hk.last hl hk2 p)
    cases hn : t.taken k with
    | false =>
      rw [if_pos hn] at hq
      injection hq with e1 hq
      injection hq with e2 e3
      subst e1 e2 e3
      have HN := keepG hn
      clear h hh HQ hn
      go_enter Try.func13, Try.ntmps13
      go_wp2_with (first | (go_at_call 22; go_must (refine (lhhas HE.out _ HH).mono ?_); rintro e w1 ⟨rfl, rfl⟩) | (go_at_call 23; go_must (refine (lhtaken HE.out hk2 HN).mono ?_); rintro e w1 ⟨rfl, rfl⟩) | (go_at_call 24; go_must (refine HP.out.mono ?_); rintro e w1 ⟨rfl, g1, g2⟩; go_must (have HE1 := keepG g1; have HC1 := keepG g2; clear g1 g2)))
      go_ret2
      exact ⟨rfl, HE1.out, HC1.out⟩
    | true =>
      rw [if_neg (by rw [hn]; decide)] at hq
      injection hq with e1 hq
      injection hq with e2 e3
      subst e1 e2 e3
      have HN := keepG hn
      clear h hh HQ hn HP
      go_enter Try.func13, Try.ntmps13
      go_wp2_with (first | (go_at_call 22; go_must (refine (lhhas HE.out _ HH).mono ?_); rintro e w1 ⟨rfl, rfl⟩) | (go_at_call 23; go_must (refine (lhtaken HE.out hk2 HN).mono ?_); rintro e w1 ⟨rfl, rfl⟩))
      go_ret2
      exact ⟨rfl, HE.out, Chg.refl _ _⟩
set_option maxHeartbeats 3200000 in
theorem lhswap (h : Lp w b g t) (hk : t.Ok) (hl : t.last ≤ 1000000000000000) (x p : Int) {v E : Int} {t' : Tb} (HQ : Hid (t.put true x p = (v, E, t'))) : Calls Try.prog 14 #[.pointer (some ⟨b, 0, none⟩), .int .i64 x, .int .i64 p] w fun e w' => e = .returned (.tuple #[.int .i64 v, .int .i64 E]) ∧ Lp w' b g t' ∧ Chg w w' (ftH b g) := by
  have HE := keepG h
  have hq := HQ.out
  unfold Tb.put at hq
  cases hh : t.has x with
  | false =>
    rw [if_pos hh] at hq
    injection hq with e1 hq
    injection hq with e2 e3
    subst e1 e2 e3
    have HH := keepG hh
    clear h hh HQ
    go_enter Try.func14, Try.ntmps14
    go_wp2_with (go_at_call 22; go_must (refine (lhhas HE.out x HH).mono ?_); rintro e w1 ⟨rfl, rfl⟩)
    go_ret2
    exact ⟨rfl, HE.out, Chg.refl _ _⟩
  | true =>
    rw [if_neg (by rw [hh]; decide)] at hq
    obtain ⟨k, rfl, hk2⟩ := Tb.has_nat hh
    have HH := keepG hh
    have HP := keepG (lhpublish h hk.last hl hk2 p)
    cases hn : t.taken k with
    | true =>
      rw [if_pos hn] at hq
      injection hq with e1 hq
      injection hq with e2 e3
      subst e1 e2 e3
      have HN := keepG hn
      clear h hh HQ hn
      go_enter Try.func14, Try.ntmps14
      go_wp2_with (first | (go_at_call 22; go_must (refine (lhhas HE.out _ HH).mono ?_); rintro e w1 ⟨rfl, rfl⟩) | (go_at_call 23; go_must (refine (lhtaken HE.out hk2 HN).mono ?_); rintro e w1 ⟨rfl, rfl⟩) | (go_at_call 24; go_must (refine HP.out.mono ?_); rintro e w1 ⟨rfl, g1, g2⟩; go_must (have HE1 := keepG g1; have HC1 := keepG g2; clear g1 g2)))
      go_ret2
      exact ⟨rfl, HE1.out, HC1.out⟩
    | false =>
      rw [if_neg (by rw [hn]; decide)] at hq
      injection hq with e1 hq
      injection hq with e2 e3
      subst e1 e2 e3
      have HN := keepG hn
      clear h hh HQ hn HP
      go_enter Try.func14, Try.ntmps14
      go_wp2_with (first | (go_at_call 22; go_must (refine (lhhas HE.out _ HH).mono ?_); rintro e w1 ⟨rfl, rfl⟩) | (go_at_call 23; go_must (refine (lhtaken HE.out hk2 HN).mono ?_); rintro e w1 ⟨rfl, rfl⟩))
      go_ret2
      exact ⟨rfl, HE.out, Chg.refl _ _⟩
end
end Go.Proofs.Ytknijloificpmaa
