
/-
  The document's LRU of layer 14: Order. Condition: it lies where the pointer says, its rows are the call's own; touches rise.
-/
import Derived.Test.YtoaceadfdelgfaaL14Touch
namespace Go.Proofs.Ytoaceadfdelgfaa
open Go.RowKit
set_option linter.unusedVariables false
set_option linter.unusedSimpArgs false
set_option maxRecDepth 100000

/-- Touches rise. -/
def Ris (kt : List Kp) : Prop := kt.Pairwise (fun p q => p.t < q.t)
/-- What was touched behind a time, the last first. -/
def outT (kt : List Kp) (n : Nat) : List Kp := (kt.filter (fun p => decide ((n : Int) < p.t))).reverse
def atT (kt : List Kp) (n : Nat) : List Kp := kt.filter (fun p => decide (p.t = (n : Int)))
theorem out_step {kt : List Kp} (h : Ris kt) (n : Nat) : outT kt n = outT kt (n + 1) ++ atT kt (n + 1) := by
  have key : kt.filter (fun p => decide ((n : Int) < p.t)) = (atT kt (n + 1)).reverse ++ kt.filter (fun p => decide (((n + 1 : Nat) : Int) < p.t)) := by
    unfold atT
    induction kt with
    | nil => rfl
    | cons p l ih =>
      obtain ⟨hp, hl⟩ := List.pairwise_cons.1 h
      have ih := ih hl
      rcases Int.lt_trichotomy p.t ((n + 1 : Nat) : Int) with g | g | g
      · rw [List.filter_cons_of_neg (by simp; omega), List.filter_cons_of_neg (by simp; omega), List.filter_cons_of_neg (by simp; omega)]
        exact ih
      · have hall : ∀ q ∈ l, ((n + 1 : Nat) : Int) < q.t := fun q hq => by have := hp q hq; omega
        have e1 : l.filter (fun p => decide ((n : Int) < p.t)) = l := List.filter_eq_self.2 (fun q hq => by have := hall q hq; simp; omega)
        have e2 : l.filter (fun p => decide (p.t = ((n + 1 : Nat) : Int))) = [] := List.filter_eq_nil_iff.2 (fun q hq => by have := hall q hq; simp; omega)
        have e3 : l.filter (fun p => decide (((n + 1 : Nat) : Int) < p.t)) = l := List.filter_eq_self.2 (fun q hq => by have := hall q hq; simpa using this)
        rw [List.filter_cons_of_pos (by simp; omega), List.filter_cons_of_pos (by simpa using g), List.filter_cons_of_neg (by simp; omega), e1, e2, e3]
        rfl
      · have hall : ∀ q ∈ p :: l, ((n + 1 : Nat) : Int) < q.t := fun q hq => by
          rcases List.mem_cons.1 hq with e | e
          · rw [e]; exact g
          · have := hp q e; omega
        have e1 : (p :: l).filter (fun p => decide ((n : Int) < p.t)) = p :: l := List.filter_eq_self.2 (fun q hq => by have := hall q hq; simp; omega)
        have e2 : (p :: l).filter (fun p => decide (p.t = ((n + 1 : Nat) : Int))) = [] := List.filter_eq_nil_iff.2 (fun q hq => by have := hall q hq; simp; omega)
        have e3 : (p :: l).filter (fun p => decide (((n + 1 : Nat) : Int) < p.t)) = p :: l := List.filter_eq_self.2 (fun q hq => by have := hall q hq; simpa using this)
        rw [e1, e2, e3]
        rfl
  unfold outT
  rw [key, List.reverse_append, List.reverse_reverse]
theorem out_none {kt : List Kp} {n : Nat} (h : ∀ p ∈ kt, p.t ≤ n) : outT kt n = [] := by
  unfold outT
  rw [List.filter_eq_nil_iff.2 (fun q hq => by have := h q hq; simp; omega)]
  rfl
theorem out_all {kt : List Kp} (h : ∀ p ∈ kt, 1 ≤ p.t) : outT kt 0 = kt.reverse := by
  unfold outT
  rw [List.filter_eq_self.2 (fun q hq => by have := h q hq; simp; omega)]
theorem out_full {kt : List Kp} {n : Nat} (h : kt.length ≤ (outT kt n).length) : outT kt n = kt.reverse := by
  unfold outT at h ⊢
  rw [List.length_reverse] at h
  have h1 := List.length_filter_le (fun p : Kp => decide ((n : Int) < p.t)) kt
  have h2 : (kt.filter (fun p => decide ((n : Int) < p.t))).length = kt.length := by omega
  rw [List.filter_eq_self.2 (List.length_filter_eq_length_iff.1 h2)]
theorem out_le (kt : List Kp) (n : Nat) : (outT kt n).length ≤ kt.length := by
  unfold outT
  rw [List.length_reverse]
  exact List.length_filter_le _ _
theorem at_more {kt : List Kp} {n j : Nat} (hj : j < kt.length) : atT (kt.take (j + 1)) n = atT (kt.take j) n ++ (if (kt.getD j Kp.nil).t = (n : Int) then [kt.getD j Kp.nil] else []) := by
  unfold atT
  rw [take_moreK hj, List.filter_append]
  congr 1
  by_cases e : (kt.getD j Kp.nil).t = (n : Int)
  · rw [if_pos e, List.filter_cons_of_pos (by simpa using e)]
    rfl
  · rw [if_neg e, List.filter_cons_of_neg (by simpa using e)]
    rfl
theorem at_le (kt : List Kp) (n : Nat) : (atT kt n).length ≤ kt.length := List.length_filter_le _ _
section
variable {w : World} {B l b cap : Nat} {vd vk vw : Value} {D : List Pp} {kt : List Kp} {c : Nat}
set_option maxHeartbeats 6400000 in
theorem rlorder_any (h : Rl w B l b cap vd vk vw D kt c) (hk : kt.length ≤ 4000) (hc : c ≤ 4000) (hT : Ris kt) (hlo : ∀ p ∈ kt, 1 ≤ p.t ∧ p.t ≤ c) :
    Calls Try.prog 16 #[.pointer (some ⟨l, 0, none⟩)] w fun e w' => ∃ u, e = .returned u ∧ w'.ownsRow w.heap.size 36 1 u kt.length (flatG kC kt.reverse) ∧ Below w.heap.size w w' := by
  have HH := keepG h
  have HT := keepG hT
  have HLO := keepG hlo
  obtain ⟨ka, kc, rfl⟩ := own_shape h.ks
  obtain ⟨wa, wc, rfl⟩ := own_shape h.ws
  obtain ⟨i0, hi0, hz0, hzs, hzb⟩ := info_parts infoU64
  have c3 := h.hp.cell (j := 3) rfl
  clear h hT hlo
  go_enter Try.func16, Try.ntmps16
  go_wp2
  go_loopw [3, 4] (fun ov t wr => ∃ n : Nat, n ≤ c ∧ t = .int .i64 n ∧ Hid (wr.ownsRow w.heap.size 36 1 ov (outT kt n).length (flatG kC (outT kt n))) ∧ Below w.heap.size w wr) (fun _ t _ => (intOf t).toNat)
  case atStart => exact ⟨c, Nat.le_refl _, rfl, by rw [out_none (fun p hp => (HLO.out p hp).2)]; exact World.ownsRow_nil _ _ _ _, Below.refl _ _⟩
  case round =>
    obtain ⟨n, hn, rfl, HO, hbw⟩ := hrel
    have hzw := hbw.size
    have HR := keepG (HH.out.below hbw)
    have l1 := HR.out.hp.cell (j := 1) rfl
    obtain ⟨xa, xc, ev⟩ := own_shape HO.out
    subst ev
    have hle := out_le kt n
    by_cases hgo : 0 < n ∧ (outT kt n).length < kt.length
    · obtain ⟨hn0, hlt0⟩ := hgo
      obtain ⟨q, rfl⟩ : ∃ q, n = q + 1 := ⟨n - 1, by omega⟩
      have hnI : (0 : Int) < ((q + 1 : Nat) : Int) := by omega
      have hltI : ((outT kt (q + 1)).length : Int) < kt.length := by omega
      have hqe : ((q + 1 : Nat) : Int) = (q : Int) + 1 := by omega
      have hqs : IntKind.i64.wrap ((q : Int) + 1 - 1) = (q : Int) := by rw [IntKind.wrap_i64]; omega
      have hqq : IntKind.i64.wrap (q : Int) = (q : Int) := by rw [IntKind.wrap_i64]; omega
      have hq0 : (0 : Int) < (q : Int) + 1 := by omega
      rw [hqe]
      obtain ⟨wq, hwq⟩ : ∃ wq, wq = wr := ⟨_, rfl⟩
      subst hwq
      go_wp2
      go_loopw [3, 5] (fun ov i wr2 => ∃ j : Nat, j ≤ kt.length ∧ i = .int .i64 j ∧ Hid (wr2.ownsRow w.heap.size 36 1 ov (outT kt (q + 1) ++ atT (kt.take j) (q + 1)).length (flatG kC (outT kt (q + 1) ++ atT (kt.take j) (q + 1)))) ∧ Below w.heap.size w wr2) (fun _ i _ => kt.length - (intOf i).toNat)
      case atStart => exact ⟨0, by omega, rfl, by simp only [List.take_zero, atT, List.filter_nil, List.append_nil]; exact HO.out, hbw⟩
      case round =>
        obtain ⟨j, hj, rfl, HO2, hbw2⟩ := hrel
        have hzw2 := hbw2.size
        have HR2 := keepG (HH.out.below hbw2)
        have m1 := HR2.out.hp.cell (j := 1) rfl
        have m2 := HR2.out.hp.cell (j := 2) rfl
        obtain ⟨ya, yc, ev⟩ := own_shape HO2.out
        subst ev
        by_cases hlt : j < kt.length
        · have hltJ : (j : Int) < kt.length := by omega
          obtain ⟨gk, c2, ev, _, hgk, _, _, hat⟩ := own_atG kC_len Kp.nil HR2.out.ks (by omega)
          simp only [Value.slice.injEq, true_and] at ev
          obtain ⟨rfl, rfl⟩ := ev
          have dk := (hat j hlt 0 (by omega)).1
          obtain ⟨gw, c3', ev, _, hgw, _, _, hat2⟩ := own_atG tC_len Kp.nil HR2.out.ws (by omega)
          simp only [Value.slice.injEq, true_and] at ev
          obtain ⟨rfl, rfl⟩ := ev
          have dw := (hat2 j hlt 0 (by omega)).1
          simp only [List.getElem?_cons_zero, Nat.add_zero, Nat.mul_one] at dk dw
          have HM := keepG (at_more (n := q + 1) hlt)
          obtain ⟨p, HP⟩ : ∃ p, Hid (kt.getD j Kp.nil = p) := ⟨_, rfl⟩
          rw [HP.out] at dk dw HM
          clear hat hat2
          have hMl0 := at_le (kt.take j) (q + 1)
          have hMl1 := List.length_take_le j kt
          obtain ⟨M, HMM⟩ : ∃ M, Hid (outT kt (q + 1) ++ atT (kt.take j) (q + 1) = M) := ⟨_, rfl⟩
          have hMl : M.length ≤ 8000 := by
            rw [← HMM.out, List.length_append]
            omega
          rw [HMM.out] at HO2 ⊢
          by_cases he : p.t = (q : Int) + 1
          · have heb : (p.t == (q : Int) + 1) = true := by simpa using he
            rw [if_pos (by omega)] at HM
            have HM2 : Hid (outT kt (q + 1) ++ atT (kt.take (j + 1)) (q + 1) = M ++ [p]) := by show _ = _; rw [HM.out, ← List.append_assoc, HMM.out]
            go_wp2_with (at_builtin; go_must (refine wpList_append_own_at _ rfl (.tmp 42) (.tmp 50) 33 rfl w.heap.size 36 i0 _ 1 8 Try.underlying33 hi0 hz0 hzs hzb rfl (by decide) (.slice ya M.length yc) M.length (flatG kC M) rfl (HO2.out.alloc _) ⟨_, 0, none⟩ 1 1 (kC p) rfl rfl (cells_new wr (kC p) _ _ rfl) (kC_one p) (by unfold maxLen; omega) (by omega) (by simp; omega) ?_); intro v1 w1 hown hgr _ hnew; go_must (have HOW : Hid _ := own_moreG hown; have hbw3 : Below w.heap.size w w1 := hbw2.trans ((chg_append hgr).below (fun k e => (HO2.out.lt k e).1) hzw2); clear hown hgr hnew; obtain ⟨va1, vc1, rfl⟩ := own_shape HOW.out))
            have eM : (M ++ [p]).length = M.length + 1 := by simp
            go_roundw
            case rel => exact ⟨j + 1, by omega, by go_num, by have hh := HOW.out; rw [HM2.out]; show World.ownsRow _ _ _ _ _ _ _; rw [eM] at hh ⊢; exact hh, hbw3⟩
            case measure => simp [intOf]; omega
          · have heb : (p.t == (q : Int) + 1) = false := by simpa using he
            rw [if_neg (by omega), List.append_nil] at HM
            have HM2 : Hid (outT kt (q + 1) ++ atT (kt.take (j + 1)) (q + 1) = M) := by show _ = _; rw [HM.out, HMM.out]
            go_wp2
            go_roundw
            case rel => exact ⟨j + 1, by omega, by go_num, by rw [HM2.out]; exact HO2.out, hbw2⟩
            case measure => simp [intOf]; omega
        · have hltJ : ¬ (j : Int) < kt.length := by omega
          have hT2 : kt.take j = kt := List.take_of_length_le (by omega)
          rw [hT2, ← out_step HT.out q] at HO2 ⊢
          go_wp2
          go_roundw
          case rel => exact ⟨q, by omega, rfl, HO2.out, hbw2⟩
          case measure => simp [intOf]
    · have HE : Hid (outT kt n = kt.reverse) := by
        show _ = _
        rcases Nat.eq_zero_or_pos n with g | g
        · rw [g]; exact out_all (fun p hp => (HLO.out p hp).1)
        · exact out_full (by omega)
      have hor : (¬ (0 : Int) < (n : Int)) ∨ ((0 : Int) < (n : Int) ∧ ¬ ((outT kt n).length : Int) < kt.length) := by omega
      have eL : (kt.reverse).length = kt.length := List.length_reverse
      rcases hor with g | ⟨g1, g2⟩
      · go_wp2
        go_ret
        refine ⟨_, rfl, ?_, hbw⟩
        have hh := HO.out
        rw [HE.out, eL] at hh
        first | exact hh | (show World.ownsRow _ _ _ _ _ _ _; rw [HE.out, eL]; exact hh) | trace_state
      · go_wp2
        go_ret
        refine ⟨_, rfl, ?_, hbw⟩
        have hh := HO.out
        rw [HE.out, eL] at hh
        first | exact hh | (show World.ownsRow _ _ _ _ _ _ _; rw [HE.out, eL]; exact hh) | trace_state
end
end Go.Proofs.Ytoaceadfdelgfaa
