
/-
  The landed table of layer 19: Where, slices.Contains. Condition: it lies where the pointer says.
-/
import Derived.Test.YtknijloificpmaaH19LA
namespace Go.Proofs.Ytknijloificpmaa
open Go.RowKit
set_option linter.unusedVariables false
set_option linter.unusedSimpArgs false
set_option maxRecDepth 100000
theorem not_in_takeH {ws : List Int} {j : Nat} {x : Int} (hj : j < ws.length) (h : ¬ x ∈ ws.take j) (hx : ws.getD j 0 ≠ x) : ¬ x ∈ ws.take (j + 1) := by
  rw [take_at ws j hj]
  simp only [List.mem_append, List.mem_singleton]
  rintro (e | e)
  · exact h e
  · exact hx e.symm
section
variable {w w' : World} {b g : Nat} {t : Tb}
set_option maxHeartbeats 3200000 in
theorem lindexH {u : Value} {ws : List Int} (hs : Sees .i64 w u ws) (x : Int) {r : Bool} (HR : Hid (decide (x ∈ ws) = r)) : Calls Try.prog 27 #[u, .int .i64 x] w fun e w' => ∃ k : Int, e = .returned (.int .i64 k) ∧ Hid (decide (k ≥ 0) = r) ∧ w = w' := by
  have HS := keepG hs
  obtain ⟨a, cap, rfl, hlc, hmx, _⟩ := hs
  unfold maxLen at hmx
  go_enter Try.func27, Try.ntmps27
  go_wp2
  go_loopw [8] (fun i wr => ∃ j : Nat, j ≤ ws.length ∧ i = .int .i64 j ∧ Hid (¬ x ∈ ws.take j) ∧ w = wr) (fun i _ => ws.length - (intOf i).toNat)
  case atStart => exact ⟨0, by omega, rfl, by show ¬ _; simp, rfl⟩
  case round =>
    obtain ⟨j, hj, rfl, HA, rfl⟩ := hrel
    by_cases hlt : j < ws.length
    · have hltI : (j : Int) < ws.length := by omega
      obtain ⟨p, off, ev, hat⟩ := HS.out.at19 hlt
      subst ev
      have d0 := hat j hlt
      clear hat
      have HM := keepG (getD_mem ws j hlt)
      obtain ⟨y, HX⟩ : ∃ y, Hid (ws.getD j 0 = y) := ⟨_, rfl⟩
      rw [HX.out] at d0 HM
      by_cases hx : y = x
      · have hxb : (x == y) = true := by simpa using hx.symm
        have HR2 : Hid (r = true) := by
          show _ = _
          rw [← HR.out]
          exact decide_eq_true (by rw [← hx]; exact HM.out)
        clear hx
        go_wp2
        go_ret
        exact ⟨_, rfl, (show decide _ = r by rw [HR2.out]; simp), rfl⟩
      · have hxb : (x == y) = false := by simpa using (fun e => hx e.symm)
        have HA2 := keepG (not_in_takeH hlt HA.out (by rw [HX.out]; exact hx))
        clear hx
        go_wp2
        first
          | (go_roundw
             case rel => exact ⟨j + 1, by omega, by go_num, HA2.out, by first | rfl | trivial⟩
             case measure => simp [intOf]; omega)
          | exact ⟨⟨j + 1, by omega, by go_num, HA2.out, trivial⟩, by simp [intOf]; omega⟩
          | exact ⟨⟨j + 1, by omega, by go_num, HA2.out, rfl⟩, by simp [intOf]; omega⟩
    · have hltI : ¬ (j : Int) < ws.length := by omega
      have HR2 : Hid (r = false) := by
        show _ = _
        rw [← HR.out]
        have := HA.out
        rw [List.take_of_length_le (by omega)] at this
        exact decide_eq_false this
      go_wp2
      go_ret
      exact ⟨_, rfl, (show decide _ = r by rw [HR2.out]; simp), rfl⟩
theorem lcontH {u : Value} {ws : List Int} (hs : Sees .i64 w u ws) (x : Int) {r : Bool} (HR : Hid (decide (x ∈ ws) = r)) : Calls Try.prog 26 #[u, .int .i64 x] w fun e w' => e = .returned (.bool r) ∧ w = w' := by
  have HS := keepG hs
  obtain ⟨a, cap, rfl, hlc, hmx, _⟩ := hs
  go_enter Try.func26, Try.ntmps26
  go_wp2_with (go_at_call 27; go_must (refine (lindexH HS.out x HR).mono ?_); rintro e w1 ⟨k, rfl, hk, rfl⟩)
  go_ret
  exact ⟨by rw [hk.out]; rfl, rfl⟩
set_option maxHeartbeats 6400000 in
theorem lhwhere (h : Lp w b g t) (hk : t.Ok) {u : Value} {ps : List Int} (hs : Sees .i64 w u ps) {A : List Int} (HA : Hid (t.wh ps = A)) : Calls Try.prog 16 #[.pointer (some ⟨b, 0, none⟩), u] w fun e w' => ∃ v, e = .returned v ∧ RoN w' w.heap.size v A ∧ Below w.heap.size w w' := by
  obtain ⟨i0, hi0, hz0, hzs, hzb⟩ := info_parts infoIntN
  have HH := keepG (fun (wr : World) (hb : Below w.heap.size w wr) => h.below hb)
  have HS := keepG (fun (wr : World) (hb : Below w.heap.size w wr) => hs.below hb (Nat.le_refl _))
  obtain ⟨a, cap, rfl, hlc, hmx, _⟩ := hs
  unfold maxLen at hmx
  have hl4 := hk.len.2
  obtain ⟨c0, c1⟩ := h.low
  clear h
  go_enter Try.func16, Try.ntmps16
  go_wp2
  go_loopw [5, 13] (fun v i wr => ∃ j : Nat, j ≤ t.at'.length ∧ i = .int .i64 j ∧ Hid (RoN wr w.heap.size v (t.whN ps j)) ∧ Hid (Below w.heap.size w wr)) (fun _ i _ => t.at'.length - (intOf i).toNat)
  case atStart => exact ⟨0, by omega, rfl, RoN.nil _ _, Below.refl _ _⟩
  case round =>
    rename_i v wr
    obtain ⟨j, hj, rfl, HO, HB⟩ := hrel
    have HD := keepG (HH.out wr HB.out)
    obtain ⟨va, vc, ev⟩ := own_shape HO.out
    subst ev
    by_cases hlt : j < t.at'.length
    · have hltI : (j : Int) < t.at'.length := by omega
      obtain ⟨d0, d1⟩ := HD.out.at hlt
      have HHIT : Hid (t.hit ps j = (t.taken j && decide ((t.slot j).p ∈ ps))) := rfl
      have HM := keepG (t.whN_more ps j)
      have hYl := t.whN_len ps j
      rw [HHIT.out] at HM
      obtain ⟨Y, HY⟩ : ∃ Y, Hid (t.whN ps j = Y) := ⟨_, rfl⟩
      rw [HY.out] at HM HO hYl ⊢
      obtain ⟨r, HR⟩ : ∃ r, Hid (t.taken j = r) := ⟨_, rfl⟩
      rw [HR.out] at HM
      generalize (t.slot j).v = cv at d0
      generalize (t.slot j).p = cp at d1 HM
      obtain ⟨f, HF⟩ : ∃ f, Hid (decide (cp ∈ ps) = f) := ⟨_, rfl⟩
      rw [HF.out] at HM
      obtain ⟨W1, HW1, HP1, HB1, HO1⟩ : ∃ W1, Hid ((wr.alloc (.cells #[.int .i64 0, .int .i64 0] 59)) = W1) ∧ True ∧ True ∧ True := ⟨_, rfl, trivial, trivial, trivial⟩
      clear HP1 HB1 HO1
      obtain ⟨W2, HW2, e0, e1, HB2, HO2⟩ : ∃ W2, Hid ((W1.setCell ⟨wr.heap.size, 0, none⟩ (.int .i64 cv)).setCell ⟨wr.heap.size, 1, none⟩ (.int .i64 cp) = W2) ∧ W2.cell? ⟨wr.heap.size, 0, none⟩ = some (.int .i64 cv) ∧ W2.cell? ⟨wr.heap.size, 1, none⟩ = some (.int .i64 cp) ∧ Hid (Below w.heap.size w W2) ∧ Hid (RoN W2 w.heap.size (.slice va Y.length vc) Y) := by
        have hp := ((Hp.new wr [.int .i64 0, .int .i64 0] 59).set 0 (.int .i64 cv)).set 1 (.int .i64 cp)
        have hb : Below wr.heap.size wr (((wr.alloc (.cells #[.int .i64 0, .int .i64 0] 59)).setCell ⟨wr.heap.size, 0, none⟩ (.int .i64 cv)).setCell ⟨wr.heap.size, 1, none⟩ (.int .i64 cp)) := ((below_allocG wr _).trans (grown_to_below (grown_set _ wr.heap.size 0 _) (Nat.le_refl _) (by simp))).trans (grown_to_below (grown_set _ wr.heap.size 1 _) (Nat.le_refl _) (by simp))
        refine ⟨_, rfl, ?_, ?_, ?_, ?_⟩
        · rw [← HW1.out]; exact hp.cell rfl
        · rw [← HW1.out]; exact hp.cell rfl
        · rw [← HW1.out]; exact HB.out.trans (hb.mono HB.out.size)
        · rw [← HW1.out]; exact HO.out.below hb
      have HD2 := keepG (HH.out W2 HB2.out)
      have HS2 := keepG (HS.out W2 HB2.out)
      have hz2 := HB2.out.size
      have n0 : W1.cell? ⟨wr.heap.size, 0, none⟩ = some (.int .i64 0) := by rw [← HW1.out]; exact (Hp.new wr [.int .i64 0, .int .i64 0] 59).cell rfl
      have n1 : W1.cell? ⟨wr.heap.size, 1, none⟩ = some (.int .i64 0) := by rw [← HW1.out]; exact (Hp.new wr [.int .i64 0, .int .i64 0] 59).cell rfl
      have nf0 : W1.frozen? ⟨wr.heap.size, 0, none⟩ = false := by rw [← HW1.out]; exact (Hp.new wr [.int .i64 0, .int .i64 0] 59).frozen 0
      have nf1 : W1.frozen? ⟨wr.heap.size, 1, none⟩ = false := by rw [← HW1.out]; exact (Hp.new wr [.int .i64 0, .int .i64 0] 59).frozen 1
      cases r with
      | false =>
        have HM2 : Hid (t.whN ps (j + 1) = Y) := by show _ = _; rw [HM.out, if_neg (by simp)]
        go_wp2_with (first | (rw [HW1.out]) | (rw [HW2.out]) | (go_at_call 23; go_must (refine (lhtaken HD2.out hlt HR).mono ?_); rintro e w3 ⟨rfl, rfl⟩))
        go_roundw
        case rel => exact ⟨j + 1, by omega, by go_num, by rw [HM2.out]; exact HO2.out, HB2.out⟩
        case measure => simp [intOf]; omega
      | true =>
        cases f with
        | false =>
          have HM2 : Hid (t.whN ps (j + 1) = Y) := by show _ = _; rw [HM.out, if_neg (by simp)]
          go_wp2_with (first | (rw [HW1.out]) | (rw [HW2.out]) | (go_at_call 23; go_must (refine (lhtaken HD2.out hlt HR).mono ?_); rintro e w3 ⟨rfl, rfl⟩) | (go_at_call 26; go_must (refine (lcontH HS2.out cp HF).mono ?_); rintro e w3 ⟨rfl, rfl⟩))
          go_roundw
          case rel => exact ⟨j + 1, by omega, by go_num, by rw [HM2.out]; exact HO2.out, HB2.out⟩
          case measure => simp [intOf]; omega
        | true =>
          have HM2 : Hid (t.whN ps (j + 1) = Y ++ [(j : Int)]) := by show _ = _; rw [HM.out, if_pos (by simp)]
          go_wp2_with (first | (rw [HW1.out]) | (rw [HW2.out]) | (go_at_call 23; go_must (refine (lhtaken HD2.out hlt HR).mono ?_); rintro e w3 ⟨rfl, rfl⟩) | (go_at_call 26; go_must (refine (lcontH HS2.out cp HF).mono ?_); rintro e w3 ⟨rfl, rfl⟩) | (at_builtin; go_must (refine wpList_append_wide _ rfl _ _ 33 rfl w.heap.size 3 i0 (.int .i64 0) 1 8 Try.underlying33 hi0 hz0 hzs hzb rfl (by decide) _ _ _ rfl (HO2.out.alloc _) ⟨_, 0, none⟩ 1 1 [.int .i64 j] rfl rfl (cell_one_new _ _ _) (one_cell _ _) (by unfold maxLen; omega) (by omega) (by simp; omega) ?_); intro v' w5 hown' hgrow _; go_must (have HR5 := keepG (HO2.out.more HB2.out (Nat.le_refl _) hown' hgrow); clear hown' hgrow)))
          go_roundw
          case rel => exact ⟨j + 1, by omega, by go_num, by rw [HM2.out]; exact HR5.out.1, HR5.out.2⟩
          case measure => simp [intOf]; omega
    · have hltI : ¬ (j : Int) < t.at'.length := by omega
      have HE : Hid (t.whN ps j = A) := by
        show _ = _
        rw [← HA.out]
        unfold Tb.wh
        rw [show j = t.at'.length by omega]
      rw [HE.out] at HO ⊢
      go_wp2
      go_ret
      exact ⟨_, rfl, HO.out, HB.out⟩
end
end Go.Proofs.Ytknijloificpmaa
