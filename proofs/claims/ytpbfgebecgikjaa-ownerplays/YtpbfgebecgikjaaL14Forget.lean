
/-
  The document's LRU of layer 14: forget. Condition: it lies where the pointer says, its rows are the call's own.
-/
import Derived.Test.YtpbfgebecgikjaaL14Ref
namespace Go.Proofs.Ytpbfgebecgikjaa
open Go.RowKit
set_option linter.unusedVariables false
set_option linter.unusedSimpArgs false
set_option maxRecDepth 100000

theorem take_moreK {ps : List Kp} {j : Nat} (hj : j < ps.length) : ps.take (j + 1) = ps.take j ++ [ps.getD j Kp.nil] := by
  rw [List.take_add_one, List.getD_eq_getElem?_getD, List.getElem?_eq_getElem hj]
  rfl
theorem forget_more {key : Int} {kt : List Kp} {j : Nat} (hj : j < kt.length) : forgetT key (kt.take (j + 1)) = forgetT key (kt.take j) ++ (if (kt.getD j Kp.nil).k ≠ key then [kt.getD j Kp.nil] else []) := by
  unfold forgetT
  rw [take_moreK hj, List.filter_append]
  congr 1
  by_cases e : (kt.getD j Kp.nil).k ≠ key
  · rw [if_pos e, List.filter_cons_of_pos (by simpa using e)]
    rfl
  · rw [if_neg e, List.filter_cons_of_neg (by simpa using e)]
    rfl
theorem forget_le (key : Int) (kt : List Kp) : (forgetT key kt).length ≤ kt.length := List.length_filter_le _ _
section
variable {w : World} {B l b cap : Nat} {vd vk vw : Value} {D : List Pp} {kt : List Kp} {c : Int}
/-- What forget leaves. -/
theorem rforget_end {wr : World} {a2 b2 : Value} {kt' : List Kp} (h : Rl w B l b cap vd vk vw D kt c) (hbw : Below w.heap.size w wr) (hB : B ≤ w.heap.size) (ha : wr.ownsRow w.heap.size 41 1 a2 kt'.length (flatG kC kt')) (hb : wr.ownsRow w.heap.size 3 1 b2 kt'.length (flatG tC kt')) :
    RlNext w B l b cap vd vk vw D kt' c ((wr.setCell ⟨l, 1, none⟩ a2).setCell ⟨l, 2, none⟩ b2) ∧ ∀ n cs, Hp w n 47 cs → Hp ((wr.setCell ⟨l, 1, none⟩ a2).setCell ⟨l, 2, none⟩ b2) n 47 cs := by
  have hr := h.below hbw
  have hll := h.hp.lt
  have hc : Chg wr ((wr.setCell ⟨l, 1, none⟩ a2).setCell ⟨l, 2, none⟩ b2) (fun k => k = l) := (Chg.set _ _ _ _).trans (Chg.set _ _ _ _) (fun _ _ e => e)
  have hp2 := (hr.hp.set 1 a2).set 2 b2
  refine ⟨⟨vd, a2, b2, ⟨hp2, hr.bk.chg hc (fun e => hp_type hr.bk.hp hr.hp (by decide) e) (fun k hk e => by subst e; exact own_type10 hr.bk.row hr.hp (by decide) hk), own_lowG (own_chg ha hc (fun k hk e => by have := (ha.lt k hk).1; omega)) hB, own_lowG (own_chg hb hc (fun k hk e => by have := (hb.lt k hk).1; omega)) hB⟩, (Chg.of_below (S := footR l b vd vk vw) hbw).trans hc (fun k _ e => .inl e), fun k hk => ?_⟩, fun n cs hp => (hp.below hbw hp.lt).chg hc (fun e => hp_type (hp.below hbw hp.lt) hr.hp (by decide) e)⟩
  rcases hk with e | e | e | e | e
  · exact .inl (.inl e)
  · exact .inl (.inr (.inl e))
  · exact .inl (.inr (.inr (.inl e)))
  · exact .inr (ha.lt k e).1
  · exact .inr (hb.lt k e).1
set_option maxHeartbeats 4000000 in
theorem rforget_any (key : Int) (h : Rl w B l b cap vd vk vw D kt c) (hl : kt.length ≤ 5000) (hB : B ≤ w.heap.size) :
    Calls Try.prog 40 #[.pointer (some ⟨l, 0, none⟩), .int .u64 key] w fun e w' => e = .returned (.tuple #[]) ∧ RlNext w B l b cap vd vk vw D (forgetT key kt) c w' ∧ ∀ n cs, Hp w n 47 cs → Hp w' n 47 cs := by
  have HH := keepG h
  obtain ⟨ka, kc, rfl⟩ := own_shape h.ks
  obtain ⟨wa, wc, rfl⟩ := own_shape h.ws
  obtain ⟨i0, hi0, hz0, hzs, hzb⟩ := info_parts infoU64
  obtain ⟨j0, hj0, hy0, hys, hyb⟩ := info_parts infoI64
  have c1 := h.hp.cell (j := 1) rfl
  clear h
  go_enter Try.func40, Try.ntmps40
  go_wp2
  go_loopw [4, 5, 6] (fun av bv i wr => ∃ j : Nat, j ≤ kt.length ∧ i = .int .i64 j ∧ Hid (wr.ownsRow w.heap.size 41 1 av (forgetT key (kt.take j)).length (flatG kC (forgetT key (kt.take j)))) ∧ Hid (wr.ownsRow w.heap.size 3 1 bv (forgetT key (kt.take j)).length (flatG tC (forgetT key (kt.take j)))) ∧ Below w.heap.size w wr) (fun _ _ i _ => kt.length - (intOf i).toNat)
  case atStart => exact ⟨0, by omega, rfl, World.ownsRow_nil _ _ _ _, World.ownsRow_nil _ _ _ _, Below.refl _ _⟩
  case round =>
    obtain ⟨j, hj, rfl, HA, HB, hbw⟩ := hrel
    have hzw := hbw.size
    have HR := keepG (HH.out.below hbw)
    have l1 := HR.out.hp.cell (j := 1) rfl
    have l2 := HR.out.hp.cell (j := 2) rfl
    obtain ⟨xa, xc, ev⟩ := own_shape HA.out
    subst ev
    obtain ⟨ya, yc, ev⟩ := own_shape HB.out
    subst ev
    by_cases hlt : j < kt.length
    · have hltI : (j : Int) < kt.length := by omega
      obtain ⟨gk, c2, ev, _, hgk, _, _, hat⟩ := own_atG kC_len Kp.nil HR.out.ks (by omega)
      simp only [Value.slice.injEq, true_and] at ev
      obtain ⟨rfl, rfl⟩ := ev
      have dk := (hat j hlt 0 (by omega)).1
      obtain ⟨gw, c3, ev, _, hgw, _, _, hat2⟩ := own_atG tC_len Kp.nil HR.out.ws (by omega)
      simp only [Value.slice.injEq, true_and] at ev
      obtain ⟨rfl, rfl⟩ := ev
      have dw := (hat2 j hlt 0 (by omega)).1
      simp only [List.getElem?_cons_zero, Nat.add_zero, Nat.mul_one] at dk dw
      have HM := keepG (forget_more (key := key) hlt)
      obtain ⟨p, HP⟩ : ∃ p, Hid (kt.getD j Kp.nil = p) := ⟨_, rfl⟩
      rw [HP.out] at dk dw HM
      clear hat hat2
      obtain ⟨M, HMM⟩ : ∃ M, Hid (forgetT key (kt.take j) = M) := ⟨_, rfl⟩
      have hMl : M.length ≤ 5000 := by
        rw [← HMM.out]
        have h1 := forget_le key (kt.take j)
        have h2 := List.length_take_le j kt
        omega
      rw [HMM.out] at HA HB HM ⊢
      by_cases he : p.k = key
      · have heb : (p.k == key) = true := by simpa using he
        rw [if_neg (by simpa using he), List.append_nil] at HM
        go_wp2
        go_roundw
        case rel => exact ⟨j + 1, by omega, by go_num, by rw [HM.out]; exact HA.out, by rw [HM.out]; exact HB.out, hbw⟩
        case measure => simp [intOf]; omega
      · have heb : (p.k == key) = false := by simpa using he
        rw [if_pos he] at HM
        go_wp2_with (first
          | (at_builtin; have hq := HOW1; clear hq; go_must (refine wpList_append_own_at _ rfl (.tmp 35) (.tmp 43) 66 rfl w.heap.size 3 j0 _ 1 8 Try.underlying66 hj0 hy0 hys hyb rfl (by decide) (.slice ya M.length yc) M.length (flatG tC M) rfl (HB1.out.alloc _) ⟨_, 0, none⟩ 1 1 (tC p) rfl rfl (cells_new w1 (tC p) _ _ rfl) (tC_one p) (by unfold maxLen; omega) (by omega) (by simp; omega) ?_); intro v2 w2 hown2 hgr2 _ hnew2; go_must (have HOW2 : Hid _ := own_moreG hown2; have HA2 := keepG (own_chg HOW1.out (chg_append hgr2) (fun k hk e => own_twoG HOW1.out HB1.out (by decide) k hk e)); have hbw2 : Below w.heap.size w w2 := hbw1.trans ((chg_append hgr2).below (fun k e => (HB1.out.lt k e).1) (by have := hbw1.size; omega)); clear hown2 hgr2 hnew2; obtain ⟨va2, vc2, rfl⟩ := own_shape HOW2.out))
          | (at_builtin; go_must (refine wpList_append_own_at _ rfl (.tmp 25) (.tmp 33) 94 rfl w.heap.size 41 i0 _ 1 8 Try.underlying94 hi0 hz0 hzs hzb rfl (by decide) (.slice xa M.length xc) M.length (flatG kC M) rfl (HA.out.alloc _) ⟨_, 0, none⟩ 1 1 (kC p) rfl rfl (cells_new wr (kC p) _ _ rfl) (kC_one p) (by unfold maxLen; omega) (by omega) (by simp; omega) ?_); intro v1 w1 hown hgr _ hnew; go_must (have HOW1 : Hid _ := own_moreG hown; have HB1 := keepG (own_chg HB.out (chg_append hgr) (fun k hk e => own_twoG HA.out HB.out (by decide) k e hk)); have hbw1 : Below w.heap.size w w1 := hbw.trans ((chg_append hgr).below (fun k e => (HA.out.lt k e).1) hzw); have hz1 := hbw1.size; have HR1 := HH.out.below hbw1; have m1 := HR1.hp.cell (j := 1) rfl; have m2 := HR1.hp.cell (j := 2) rfl; have dw1 : w1.cell? ⟨gw, j, none⟩ = some (.int .i64 p.t) := by { obtain ⟨g4, c4, ev4, _, _, _, _, hat4⟩ := own_atG tC_len Kp.nil HR1.ws (by omega); simp only [Value.slice.injEq, Option.some.injEq, Addr.mk.injEq, true_and, and_true] at ev4; obtain ⟨rfl, rfl⟩ := ev4; have := (hat4 j hlt 0 (by omega)).1; simp only [List.getElem?_cons_zero, Nat.add_zero, Nat.mul_one] at this; rw [HP.out] at this; exact this }; clear hown hgr hnew HR1; obtain ⟨va1, vc1, rfl⟩ := own_shape HOW1.out)))
        have eM : (M ++ [p]).length = M.length + 1 := by simp
        go_roundw
        case rel => exact ⟨j + 1, by omega, by go_num, by have hh := HA2.out; rw [HM.out]; show World.ownsRow _ _ _ _ _ _ _; rw [eM] at hh ⊢; exact hh, by have hh := HOW2.out; rw [HM.out]; show World.ownsRow _ _ _ _ _ _ _; rw [eM] at hh ⊢; exact hh, hbw2⟩
        case measure => simp [intOf]; omega
    · have hltI : ¬ (j : Int) < kt.length := by omega
      have hT : kt.take j = kt := List.take_of_length_le (by omega)
      rw [hT] at HA HB
      have f1 := HR.out.hp.frozen 1
      have f2 := HR.out.hp.frozen 2
      have HE := keepG (rforget_end HH.out hbw hB HA.out HB.out)
      go_wp2
      exact bodyPost_end (results_none rfl _ _ _) rfl ⟨rfl, HE.out⟩
end
end Go.Proofs.Ytpbfgebecgikjaa
