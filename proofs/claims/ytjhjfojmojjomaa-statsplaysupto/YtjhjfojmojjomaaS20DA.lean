
/-
  The document's functions of layer 20: Ran, Missed, Of. Condition: what was told lies where the slice says; Ran and Missed: it is the call's own.
-/
import Derived.Test.YtjhjfojmojjomaaS20Plain
import Derived.Test.YtjhjfojmojjomaaGObj
import Derived.Test.YtjhjfojmojjomaaGSees
import Derived.Deep.RegionHeld3
import Derived.Deep.RegionHeldLaw
namespace Go.Proofs.Ytjhjfojmojjomaa
open Go.RowKit
set_option linter.unusedVariables false
set_option linter.unusedSimpArgs false
set_option maxRecDepth 100000

abbrev toC (x : To) : List Value := [.int .i64 x.h, .bool x.m, .int .u64 x.s, .int .u64 x.c, .int .u64 x.u]
theorem toC_len (x : To) : (toC x).length = 5 := rfl
theorem to_one (x : To) : ∀ u ∈ toC x, u.oneCell' = true := by
  intro u hu
  simp only [toC, List.mem_cons, List.not_mem_nil, or_false] at hu
  rcases hu with rfl | rfl | rfl | rfl | rfl <;> rfl
abbrev taC (t : Ta) : List Value := [.int .u64 t.r, .int .u64 t.m, .int .u64 t.s, .int .u64 t.c, .int .u64 t.u]
def taV (t : Ta) : Value := .agg #[.int .u64 t.r, .int .u64 t.m, .int .u64 t.s, .int .u64 t.c, .int .u64 t.u]
theorem taC_len (t : Ta) : (taC t).length = 5 := rfl
theorem infoTo : (Try.prog.info? 56).map (fun i => (i.zero, i.size, i.bytes)) = some (some (.agg #[.int .i64 0, .bool false, .int .u64 0, .int .u64 0, .int .u64 0]), 5, 40) := by kernel_rfl
theorem results_cell_tmpS {fn : Func} {p u : Tmp} {ty : TypeId} (h : fn.results = #[.cell p ty, .tmp u]) (tmps : Array Value) (P : Program) (w : World) :
    (results fn tmps).run P w = ((asAddr (tmps.getD p undef)).run P w).andThen fun a w₁ => ((loadVar ty a).run P w₁).andThen fun x w₂ => .ok (.tuple #[x, tmps.getD u undef]) w₂ := by
  simp only [results, h]
  simp [Sem.run_bind, Result.andThen]
section
variable {w w' : World} {B : Nat} {v : Value} {l : List To}
set_option maxHeartbeats 1600000 in
theorem dran (ho : w.ownsRow B 56 5 v l.length (flatG toC l)) (hB : B ≤ w.heap.size) (hl : (l.length + 1) * 40 ≤ 140737488355328) (h s c u : Int) {E : Int} {L : List To} (HQ : Hid (ranL l h s c u = (E, L))) : Calls Try.prog 8 #[v, .int .i64 h, .int .u64 s, .int .u64 c, .int .u64 u] w fun e w' => ∃ v', e = .returned (.tuple #[v', .int .i64 E]) ∧ w'.ownsRow B 56 5 v' L.length (flatG toC L) ∧ Chg w w' (fun k => v.ownBlock = some k) ∧ RowNew w v v' := by
  obtain ⟨i0, hi0, hz0, hzs, hzb⟩ := info_parts infoTo
  have HO := keepG ho
  obtain ⟨a, cap, ev⟩ := own_shape ho
  subst ev
  have hq := HQ.out
  unfold ranL at hq
  clear ho
  go_enter Try.func8, Try.ntmps8
  cases hh : isH h with
  | false =>
    rw [if_neg (by rw [hh]; decide)] at hq
    injection hq with e1 e2
    subst e1 e2
    rcases isH_no hh with h0 | h0
    · clear hh
      go_wp2
      go_ret2
      exact ⟨_, rfl, HO.out, Chg.refl _ _, .inl rfl⟩
    · have h1 : ¬ h < 0 := by omega
      clear hh
      go_wp2
      go_ret2
      exact ⟨_, rfl, HO.out, Chg.refl _ _, .inl rfl⟩
  | true =>
    rw [if_pos hh] at hq
    injection hq with e1 e2
    subst e1
    have HL : Hid (l ++ [⟨h, false, s, c, u⟩] = L) := e2
    obtain ⟨k, rfl, hk⟩ := isH_nat hh
    have h0 : ¬ (k : Int) < 0 := by omega
    have h1 : ¬ (3 : Int) < k := by omega
    have h2 : ¬ 3 < k := by omega
    clear hh e2
    go_wp2_with (at_builtin; go_must (refine wpList_append_own_at _ rfl _ _ 32 rfl B 56 i0 _ 5 40 Try.underlying32 hi0 hz0 hzs hzb rfl (by decide) (.slice a l.length cap) l.length (flatG toC l) rfl (HO.out.alloc _) ⟨_, 0, none⟩ 1 1 (toC ⟨k, false, s, c, u⟩) rfl rfl (cells_new _ (toC ⟨k, false, s, c, u⟩) _ _ rfl) (to_one _) (by unfold maxLen; omega) (by omega) (by simp; omega) ?_); intro v3 w3 hown hgr _ hnew; go_must (have HO3 := keepG (own_moreG (x := (⟨k, false, s, c, u⟩ : To)) hown); have HC3 := keepG (chg_append hgr); have HN3 : Hid (RowNew w (.slice a l.length cap) v3) := (hnew.elim .inl (fun g => .inr ⟨_, g, by simp⟩)); clear hown hgr hnew))
    go_ret2
    rw [HL.out] at HO3
    exact ⟨_, rfl, HO3.out, HC3.out, HN3.out⟩
set_option maxHeartbeats 3200000 in
theorem dmissed (ho : w.ownsRow B 56 5 v l.length (flatG toC l)) (hB : B ≤ w.heap.size) {vh : Value} {hs : List Int} (hsee : Sees .i64 w vh hs) (hlow : hs ≠ [] → ∀ k, ftV vh k → k < B) (hl : (l.length + hs.length) * 40 ≤ 140737488355328) {E : Int} {L : List To} (HQ : Hid (missedL l hs = (E, L))) : Calls Try.prog 9 #[v, vh] w fun e w' => ∃ v', e = .returned (.tuple #[v', .int .i64 E]) ∧ w'.ownsRow B 56 5 v' L.length (flatG toC L) ∧ Chg w w' (fun k => v.ownBlock = some k) ∧ RowNew w v v' := by
  obtain ⟨i0, hi0, hz0, hzs, hzb⟩ := info_parts infoTo
  have HO := keepG ho
  have HS := keepG hsee
  have HSC : Hid (∀ wr, Chg w wr (fun k => v.ownBlock = some k) → Sees .i64 wr vh hs) := by
    intro wr hc
    obtain ⟨a, cap, rfl, h1, h2, h3, h4, h5⟩ := HS.out
    refine ⟨a, cap, rfl, h1, h2, h3, h4, fun hne => ?_⟩
    obtain ⟨b, off, rfl, hlt, hat⟩ := h5 hne
    refine ⟨b, off, rfl, Nat.lt_of_lt_of_le hlt hc.size, fun i hi => ?_⟩
    rw [← hat i hi]
    refine World.cell?_of_block (hc.block b hlt (fun e => ?_))
    have h6 := hlow hne b rfl
    have h7 := (HO.out.lt b e).1
    omega
  have hq := HQ.out
  unfold missedL at hq
  have HQ2 := keepG hq
  obtain ⟨ha, hcap, rfl, hlc, hmx, _⟩ := hsee
  unfold maxLen at hmx
  obtain ⟨a, cap, ev⟩ := own_shape ho
  subst ev
  clear ho HQ hq hlow
  go_enter Try.func9, Try.ntmps9
  go_wp2
  go_loopw [6] (fun i wr => ∃ j : Nat, j ≤ hs.length ∧ i = .int .i64 j ∧ Hid ((hs.take j).all isH = true) ∧ w = wr) (fun i _ => hs.length - (intOf i).toNat)
  case atStart => exact ⟨0, by omega, rfl, rfl, rfl⟩
  case round =>
    obtain ⟨j, hj, rfl, HA, rfl⟩ := hrel
    by_cases hlt : j < hs.length
    · have hltI : (j : Int) < hs.length := by omega
      obtain ⟨a', cap', ev, _, _, _, _, hc⟩ := HS.out
      simp only [Value.slice.injEq] at ev
      obtain ⟨rfl, -, rfl⟩ := ev
      obtain ⟨p, off, rfl, _, hat⟩ := hc (fun e => by rw [e] at hlt; simp at hlt)
      have d0 := hat j hlt
      have hT := take_at hs j hlt
      have hmem := getD_mem hs j hlt
      obtain ⟨x, HX⟩ : ∃ x, Hid (hs.getD j 0 = x) := ⟨_, rfl⟩
      rw [HX.out] at d0 hT hmem
      have HT : Hid ((hs.take (j + 1)).all isH = isH x) := by show _ = _; rw [hT, List.all_append, HA.out]; simp
      clear hat hT
      cases hh : isH x with
      | false =>
        have hf : hs.all isH = false := by
          cases he : hs.all isH with
          | false => rfl
          | true => rw [List.all_eq_true.1 he x hmem] at hh; cases hh
        have hq2 := HQ2.out
        rw [if_neg (by rw [hf]; decide)] at hq2
        injection hq2 with e1 e2
        subst e1 e2
        clear hf hmem HQ2
        rcases isH_no hh with h0 | h0
        · clear hh
          go_wp2
          go_ret2
          exact ⟨_, rfl, HO.out, Chg.refl _ _, .inl rfl⟩
        · have h1 : ¬ x < 0 := by omega
          clear hh
          go_wp2
          go_ret2
          exact ⟨_, rfl, HO.out, Chg.refl _ _, .inl rfl⟩
      | true =>
        have HT2 : Hid ((hs.take (j + 1)).all isH = true) := by show _ = _; rw [HT.out]; exact hh
        obtain ⟨k, HK, hk⟩ := isH_nat hh
        have h0 : ¬ x < 0 := by omega
        have h1 : ¬ (3 : Int) < x := by omega
        have HK2 := keepG HK
        clear hh HK hmem
        go_wp2
        go_roundw
        case rel => exact ⟨j + 1, by omega, by go_num, HT2.out, by first | rfl | trivial⟩
        case measure => simp [intOf]; omega
    · have hltI : ¬ (j : Int) < hs.length := by omega
      have hf : hs.all isH = true := by
        have := HA.out
        rw [List.take_of_length_le (by omega)] at this
        exact this
      have hq2 := HQ2.out
      rw [if_pos hf] at hq2
      injection hq2 with e1 e2
      subst e1
      have HL : Hid (l ++ hs.map (fun h => (⟨h, true, 0, 0, 0⟩ : To)) = L) := e2
      clear HQ2 hf HA e2
      go_wp2
      go_loopw [0, 7] (fun vv i wz => ∃ z : Nat, z ≤ hs.length ∧ i = .int .i64 z ∧ Hid (wz.ownsRow B 56 5 vv (l ++ (hs.take z).map (fun h => (⟨h, true, 0, 0, 0⟩ : To))).length (flatG toC (l ++ (hs.take z).map (fun h => (⟨h, true, 0, 0, 0⟩ : To)))) ∧ Chg w wz (fun k => (Value.slice a l.length cap).ownBlock = some k) ∧ RowNew w (.slice a l.length cap) vv)) (fun _ i _ => hs.length - (intOf i).toNat)
      case atStart => exact ⟨0, by omega, rfl, by simpa using HO.out, Chg.refl _ _, .inl rfl⟩
      case round =>
        rename World => wz
        rename Value => vv
        obtain ⟨z, hz, rfl, HZ⟩ := hrel
        obtain ⟨va, vc, ev⟩ := own_shape HZ.out.1
        subst ev
        by_cases hzt : z < hs.length
        · have hztI : (z : Int) < hs.length := by omega
          obtain ⟨a', cap', ev, _, _, _, _, hc⟩ := HSC.out wz HZ.out.2.1
          simp only [Value.slice.injEq] at ev
          obtain ⟨rfl, -, rfl⟩ := ev
          obtain ⟨p, off, rfl, _, hat⟩ := hc (fun e => by rw [e] at hzt; simp at hzt)
          have d0 := hat z hzt
          have hT := take_at hs z hzt
          obtain ⟨x, HX⟩ : ∃ x, Hid (hs.getD z 0 = x) := ⟨_, rfl⟩
          rw [HX.out] at d0 hT
          obtain ⟨M, HM⟩ : ∃ M, Hid (l ++ (hs.take z).map (fun h => (⟨h, true, 0, 0, 0⟩ : To)) = M) := ⟨_, rfl⟩
          have HT : Hid (l ++ (hs.take (z + 1)).map (fun h => (⟨h, true, 0, 0, 0⟩ : To)) = M ++ [⟨x, true, 0, 0, 0⟩]) := by
            show _ = _
            rw [hT, List.map_append, ← List.append_assoc, HM.out]
            rfl
          have hMl : M.length ≤ l.length + z := by
            rw [← HM.out, List.length_append, List.length_map]
            have := List.length_take_le z hs
            omega
          have HZ2 := HZ
          rw [HM.out] at HZ2 ⊢
          have hzw := HZ2.out.2.1.size
          clear hat hT HZ hc
          go_wp2_with (at_builtin; go_must (refine wpList_append_own_at _ rfl _ _ 32 rfl B 56 i0 _ 5 40 Try.underlying32 hi0 hz0 hzs hzb rfl (by decide) (.slice va M.length vc) M.length (flatG toC M) rfl (HZ2.out.1.alloc _) ⟨_, 0, none⟩ 1 1 (toC ⟨x, true, 0, 0, 0⟩) rfl rfl (cells_new _ (toC ⟨x, true, 0, 0, 0⟩) _ _ rfl) (to_one _) (by unfold maxLen; omega) (by omega) (by simp; omega) ?_); intro v3 w3 hown hgr _ hnew; go_must (have HO3 := keepG (own_moreG (x := (⟨x, true, 0, 0, 0⟩ : To)) hown); have HC3 := keepG (chg_append hgr); have HN3 : Hid (RowNew wz (.slice va M.length vc) v3) := (hnew.elim .inl (fun g => .inr ⟨_, g, by simp⟩)); clear hown hgr hnew))
          go_roundw
          case rel => exact ⟨z + 1, by omega, by go_num, by
            rw [HT.out]
            refine ⟨HO3.out, HZ2.out.2.1.trans HC3.out (fun k hk e => ?_), HZ2.out.2.2.trans HN3.out HZ2.out.2.1.size⟩
            rcases HZ2.out.2.2 with g | ⟨q, g, hq⟩
            · rw [← g]; exact e
            · rw [g] at e
              have := Option.some.inj e
              omega⟩
          case measure => simp [intOf]; omega
        · have hztI : ¬ (z : Int) < hs.length := by omega
          have HE : Hid (l ++ (hs.take z).map (fun h => (⟨h, true, 0, 0, 0⟩ : To)) = L) := by show _ = _; rw [List.take_of_length_le (by omega)]; exact HL.out
          rw [HE.out] at HZ ⊢
          go_wp2
          go_ret2
          exact ⟨_, rfl, HZ.out.1, HZ.out.2.1, HZ.out.2.2⟩
end
end Go.Proofs.Ytjhjfojmojjomaa
