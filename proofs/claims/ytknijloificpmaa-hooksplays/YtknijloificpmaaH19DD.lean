
/-
  The document's table of layer 19: Where, told by the plain table. Condition: it lies where the pointer says, its row is the call's own.
-/
import Derived.Test.YtknijloificpmaaH19DC
import Derived.Test.YtknijloificpmaaGRoN
namespace Go.Proofs.Ytknijloificpmaa
open Go.RowKit
set_option linter.unusedVariables false
set_option linter.unusedSimpArgs false
set_option maxRecDepth 100000
section
variable {w w' : World} {B b m : Nat} {F G : Ft} {t : Tb}
theorem mem_take19 {ps : List Int} {q : Nat} (hq : q < ps.length) (c : Int) : decide (c ∈ ps.take (q + 1)) = (decide (c ∈ ps.take q) || (ps.getD q 0 == c)) := by
  rw [take_at ps q hq, Bool.eq_iff_iff]
  simp only [List.mem_append, List.mem_singleton, decide_eq_true_eq, Bool.or_eq_true, beq_iff_eq]
  constructor
  · rintro (h | h)
    · exact .inl h
    · exact .inr h.symm
  · rintro (h | h)
    · exact .inl h
    · exact .inr h.symm
set_option maxHeartbeats 6400000 in
theorem dwhere (h : Dj w B b F t m) (hk : t.Ok) (hm : m ≤ 100000) {u : Value} {ps : List Int} (hs : Sees .i64 w u ps) {A : List Int} (HA : Hid (t.wh ps = A)) : Calls Try.prog 21 #[.pointer (some ⟨b, 0, none⟩), u] w fun e w' => ∃ v, e = .returned v ∧ RoN w' w.heap.size v A ∧ Below w.heap.size w w' := by
  obtain ⟨i0, hi0, hz0, hzs, hzb⟩ := info_parts infoIntN
  have HH := keepG (fun (wr : World) (hb : Below w.heap.size w wr) => h.below hb)
  have HS := keepG (fun (wr : World) (hb : Below w.heap.size w wr) => hs.below hb (Nat.le_refl _))
  obtain ⟨a, cap, rfl, hlc, hmx, _⟩ := hs
  unfold maxLen at hmx
  have hl4 := hk.len.2
  clear h
  go_enter Try.func21, Try.ntmps21
  go_wp2
  go_loopw [5, 6] (fun v i wr => ∃ j : Nat, j ≤ t.at'.length ∧ i = .int .i64 j ∧ Hid (RoN wr w.heap.size v (t.whN ps j)) ∧ Hid (Below w.heap.size w wr)) (fun _ i _ => t.at'.length - (intOf i).toNat)
  case atStart => exact ⟨0, by omega, rfl, RoN.nil _ _, Below.refl _ _⟩
  case round =>
    rename_i v wr
    obtain ⟨j, hj, rfl, HO, HB⟩ := hrel
    have HD := keepG (HH.out wr HB.out)
    have c0 := HD.out.cell0
    obtain ⟨va, vc, ev⟩ := own_shape HO.out
    subst ev
    by_cases hlt : j < t.at'.length
    · have hltI : (j : Int) < t.at'.length := by omega
      obtain ⟨cv, cp, r, HC⟩ : ∃ cv cp r, Hid (t.cur j = (cv, cp, r)) := ⟨_, _, _, rfl⟩
      have HHIT : Hid (t.hit ps j = (r && decide (cp ∈ ps))) := by
        show _ = _
        have := HC.out
        unfold Tb.cur at this
        injection this with _ this
        injection this with e1 e2
        unfold Tb.hit
        rw [e1, e2]
      have HM := keepG (t.whN_more ps j)
      have hYl := t.whN_len ps j
      rw [HHIT.out] at HM
      obtain ⟨Y, HY⟩ : ∃ Y, Hid (t.whN ps j = Y) := ⟨_, rfl⟩
      rw [HY.out] at HM HO hYl ⊢
      go_wp2_with (go_at_call 12; go_must (refine (HD.out.current hk hm j HC).mono ?_); rintro e w2 ⟨rfl, hb2⟩; go_must (have HB2 := keepG (HB.out.trans (hb2.mono HB.out.size)); have HO2 := keepG (HO.out.below hb2); clear hb2))
      go_loopw [10, 11] (fun f i wq => ∃ (q : Nat) (fb : Bool), q ≤ ps.length ∧ f = .bool fb ∧ Hid (fb = decide (cp ∈ ps.take q)) ∧ i = .int .i64 q ∧ w2 = wq) (fun _ i _ => ps.length - (intOf i).toNat)
      case atStart => exact ⟨0, false, by omega, rfl, by show _ = _; simp, rfl, rfl⟩
      case round =>
        obtain ⟨q, fb, hq, rfl, HF, rfl, rfl⟩ := hrel
        by_cases hqt : q < ps.length
        · have hqtI : (q : Int) < ps.length := by omega
          obtain ⟨p, off, ev, hat⟩ := (HS.out w2 HB2.out).at19 hqt
          subst ev
          have d0 := hat q hqt
          have HT := keepG (mem_take19 hqt cp)
          obtain ⟨x, HX⟩ : ∃ x, Hid (ps.getD q 0 = x) := ⟨_, rfl⟩
          rw [HX.out] at d0 HT
          rw [← HF.out] at HT
          clear hat
          cases fb with
          | true =>
            go_wp2
            go_roundw
            case rel => exact ⟨q + 1, true, by omega, rfl, by show _ = _; rw [HT.out]; rfl, by go_num, by first | rfl | trivial⟩
            case measure => simp [intOf]; omega
          | false =>
            rw [Bool.false_or] at HT
            obtain ⟨e, HE⟩ : ∃ e, Hid ((x == cp) = e) := ⟨_, rfl⟩
            rw [HE.out] at HT
            have he := HE.out
            go_wp2
            go_roundw
            case rel => exact ⟨q + 1, e, by omega, rfl, HT.out.symm, by go_num, by first | rfl | trivial⟩
            case measure => simp [intOf]; omega
        · have hqtI : ¬ (q : Int) < ps.length := by omega
          have hf : fb = decide (cp ∈ ps) := by rw [HF.out, List.take_of_length_le (by omega)]
          rw [← hf] at HM
          clear hf HF
          cases r with
          | false =>
            have HM2 : Hid (t.whN ps (j + 1) = Y) := by show _ = _; rw [HM.out, if_neg (by simp)]
            go_wp2
            go_roundw
            case rel => exact ⟨j + 1, by omega, by go_num, by rw [HM2.out]; exact HO2.out, HB2.out⟩
            case measure => simp [intOf]; omega
          | true =>
            cases fb with
            | false =>
              have HM2 : Hid (t.whN ps (j + 1) = Y) := by show _ = _; rw [HM.out, if_neg (by simp)]
              go_wp2
              go_roundw
              case rel => exact ⟨j + 1, by omega, by go_num, by rw [HM2.out]; exact HO2.out, HB2.out⟩
              case measure => simp [intOf]; omega
            | true =>
              have HM2 : Hid (t.whN ps (j + 1) = Y ++ [(j : Int)]) := by show _ = _; rw [HM.out, if_pos (by simp)]
              have hz2 := HB2.out.size
              go_wp2_with (at_builtin; go_must (refine wpList_append_wide _ rfl _ _ 33 rfl w.heap.size 3 i0 (.int .i64 0) 1 8 Try.underlying33 hi0 hz0 hzs hzb rfl (by decide) _ _ _ rfl (HO2.out.alloc _) ⟨_, 0, none⟩ 1 1 [.int .i64 j] rfl rfl (cell_one_new _ _ _) (one_cell _ _) (by unfold maxLen; omega) (by omega) (by simp; omega) ?_); intro v' w5 hown' hgrow _; go_must (have HR5 := keepG (HO2.out.more HB2.out (Nat.le_refl _) hown' hgrow); clear hown' hgrow))
              go_roundw
              case rel => exact ⟨j + 1, by omega, by go_num, by rw [HM2.out]; exact HR5.out.1, HR5.out.2⟩
              case measure => simp [intOf]; omega
    · have hltI : ¬ (j : Int) < t.at'.length := by omega
      have HE : Hid (t.whN ps j = A) := by
        show _ = _
        rw [← HA.out]
        unfold Tb.wh
        rw [show j = t.at'.length by omega]
      rw [HE.out] at HO ⊢
      go_wp2
      go_ret
      exact ⟨_, rfl, HO.out, HB.out⟩
end
end Go.Proofs.Ytknijloificpmaa
