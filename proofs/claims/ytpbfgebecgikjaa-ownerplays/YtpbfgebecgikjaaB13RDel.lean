
/-
  The document's Do: Del, and whatever comes. Condition: the book lies where the pointer says, its row is the call's own.
-/
import Derived.Test.YtpbfgebecgikjaaTk
import Derived.Test.YtpbfgebecgikjaaB13RDoB
namespace Go.Proofs.Ytpbfgebecgikjaa
open Go.RowKit
set_option linter.unusedVariables false
set_option linter.unusedSimpArgs false
set_option maxRecDepth 100000

theorem take_moreR {ps : List Pp} {j : Nat} (hj : j < ps.length) : ps.take (j + 1) = ps.take j ++ [ps.getD j Pp.nil] := by
  rw [List.take_add_one, List.getD_eq_getElem?_getD, List.getElem?_eq_getElem hj]
  rfl
theorem erase_eq {L : List Pp} {j q : Nat} (hj : j < L.length) (h : j = q) : (L.take (j + 1)).eraseIdx q = (L.take j).eraseIdx q := by
  subst h
  have hl : (L.take j).length = j := by rw [List.length_take]; omega
  rw [take_moreR hj, List.eraseIdx_append_of_length_le (by omega), hl, List.eraseIdx_of_length_le (l := L.take j) (by omega)]
  simp
theorem erase_ne {L : List Pp} {j q : Nat} (hj : j < L.length) (h : j ≠ q) : (L.take (j + 1)).eraseIdx q = (L.take j).eraseIdx q ++ [L.getD j Pp.nil] := by
  have hl : (L.take j).length = j := by rw [List.length_take]; omega
  rw [take_moreR hj]
  rcases Nat.lt_or_ge q j with g | g
  · rw [List.eraseIdx_append_of_lt_length (by omega)]
  · rw [List.eraseIdx_append_of_length_le (by omega), List.eraseIdx_of_length_le (l := L.take j) (by omega), List.eraseIdx_of_length_le (l := [L.getD j Pp.nil]) (by rw [hl]; simp; omega)]
section
variable {w : World} {B b cap : Nat} {v : Value} {L : List Pp}
/-- What is left behind Del. -/
theorem rdel_end {Y : World} {v' : Value} {L' : List Pp} {f : Bool} {val : Int} {fn : Func} {tmps : Array Value} {pt : Tmp} (HrY : Hp Y w.heap.size 47 (resCG 0 false 0 false 0 0)) (HbY : Hp Y b 104 [.int .i64 cap, v']) (hrow : Y.ownsRow B 80 2 v' L'.length (flatG ppC L')) (hn : ∀ k, v'.ownBlock = some k → w.heap.size + 1 ≤ k) (hcY : Chg w Y (bkS b v)) (hblt : b < w.heap.size) (hr : fn.results = #[.cell pt 47] := by rfl) (hp : tmps.getD pt undef = .pointer (some ⟨w.heap.size, 0, none⟩) := by rfl) :
    bodyPost Try.prog fn (fun e w' => e = .returned (resG 0 f val false 0 0) ∧ RbNext w B b cap v L' w') .ret ⟨tmps, []⟩ ((((((Y.setCell ⟨w.heap.size, 0, none⟩ (.int .i64 0)).setCell ⟨w.heap.size, 1, none⟩ (.bool f)).setCell ⟨w.heap.size, 2, none⟩ (.int .u64 val)).setCell ⟨w.heap.size, 3, none⟩ (.bool false)).setCell ⟨w.heap.size, 4, none⟩ (.int .u64 0)).setCell ⟨w.heap.size, 5, none⟩ (.int .u64 0)) := by
  have hg6 := (six_sets (E := 0) (f := f) (v := val) (o := false) (k := 0) (u := 0) HrY rfl).2
  have hc6 := Chg.of_grown (S := fun k => k = w.heap.size) hg6 rfl
  have hRb : Rb _ B b cap v' L' := Rb.mk (HbY.chg hc6 (fun e => by omega)) (own_chg hrow hc6 (fun k hk e => by have := hn k hk; omega))
  exact res_ret hr hp (six_sets HrY rfl).1 ⟨rfl, _, hRb, hcY.trans hc6 (fun k hk e => by omega), fun k hk => .inr (by have := hn k hk; omega)⟩
set_option maxHeartbeats 3200000 in
theorem rdo_del_yes (key val : Int) (h : Rb w B b cap v L) (hl : L.length ≤ 1000) (hf : posP key L < L.length) {old : Int} (HO : Hid (valP key L = old)) (hB : B ≤ w.heap.size) :
    Calls Try.prog 37 #[.pointer (some ⟨b, 0, none⟩), .int .i64 3, .int .u64 key, .int .u64 val] w fun e w' => e = .returned (resG 0 true old false 0 0) ∧ RbNext w B b cap v (L.eraseIdx (posP key L)) w' := by
  obtain ⟨X, HX, HrX, hbX, hzX⟩ := boxRG w
  have HB := keepG (h.below hbX)
  have hblt := h.hp.lt
  have hgw0 := h.row.lt
  have hXb : ¬ w.heap.size = b := by omega
  have hXb' : ¬ b = w.heap.size := by omega
  obtain ⟨q, HQ⟩ : ∃ q, Hid (posP key L = q) := ⟨_, rfl⟩
  obtain ⟨i0, hi0, hz0, hzs, hzb⟩ := info_parts infoPr
  rw [HQ.out] at hf ⊢
  have HA : Hid ((q : Int) = atP key L) := by show _ = _; rw [atP, if_pos (by rw [HQ.out]; exact hf), HQ.out]
  have hqI : (q : Int) < L.length := by omega
  obtain ⟨g0, c, rfl, hgB, hgX, hgc, hcm, hat⟩ := own_atG ppC_len Pp.nil HB.out.row (by omega)
  have d1 := (hat q hf 1 (by omega)).1
  simp only [List.getElem?_cons_zero, List.getElem?_cons_succ] at d1
  have HV : Hid ((L.getD q Pp.nil).v = old) := by show _ = _; rw [← HO.out, valP, HQ.out]
  rw [HV.out] at d1
  clear hat
  have c0 := HB.out.hp.cell (j := 0) rfl
  have c1 := HB.out.hp.cell (j := 1) rfl
  have HSS : Hid (∀ wx, Below X.heap.size X wx → SeesG ppC 2 Pp.nil wx (.slice (some ⟨g0, 0, none⟩) L.length c) L ∧ Hp wx b 104 [.int .i64 cap, (.slice (some ⟨g0, 0, none⟩) L.length c)] ∧ Hp wx w.heap.size 47 (resCG 0 false 0 false 0 0)) := fun wx hb => ⟨(own_seesG ppC_len Pp.nil HB.out.row).below hb (Nat.le_refl _), HB.out.hp.below hb (by omega), HrX.out.below hb (by omega)⟩
  clear h
  go_enter Try.func37, Try.ntmps37
  go_wp2_with (go_at_call 41; rw [HX.out]; go_must (refine (rplace_any key HB.out hl HA).mono ?_); rintro e w1 ⟨rfl, rfl⟩)
  refine wp_region_held_drew (S := fun _ => True) (by kernel_rfl) trivial (fun hHeld => ?_)
  refine tkGo [0, 1, 2] ?_
  repeat (refine tkOne (v := ?_) rfl (by kernel_rfl) (by kernel_rfl) (by kernel_rfl) (fun _ _ _ h => h) (by assumption) (by rfl) ?_ ?_; rotate_left; (intro wy hSw; (try dsimp only at hSw); go_simp; (first | done | with_reducible rfl)); try simp only [Act.put, List.getElem_toArray, List.getElem_cons_zero, List.getElem_cons_succ, List.setIfInBounds_toArray, List.set_cons_zero, List.set_cons_succ])
  refine tkEnd ?_
  refine wpAnyH_take (i := 3) (v := undef) rfl (by kernel_rfl) (by kernel_rfl) (by kernel_rfl) (fun _ _ _ h => h) (Or.inr ⟨by rfl, rfl⟩) (by assumption) ?_
  try simp only [Act.put, List.getElem_toArray, List.getElem_cons_zero, List.getElem_cons_succ, List.setIfInBounds_toArray, List.set_cons_zero, List.set_cons_succ]
  refine wpAnyH_take (i := 4) (v := undef) rfl (by kernel_rfl) (by kernel_rfl) (by kernel_rfl) (fun _ _ _ h => h) (Or.inr ⟨by rfl, rfl⟩) (by assumption) ?_
  try simp only [Act.put, List.getElem_toArray, List.getElem_cons_zero, List.getElem_cons_succ, List.setIfInBounds_toArray, List.set_cons_zero, List.set_cons_succ]
  refine wpAnyH_take (i := 5) (v := undef) rfl (by kernel_rfl) (by kernel_rfl) (by kernel_rfl) (fun _ _ _ h => h) (Or.inr ⟨by rfl, rfl⟩) (by assumption) ?_
  try simp only [Act.put, List.getElem_toArray, List.getElem_cons_zero, List.getElem_cons_succ, List.setIfInBounds_toArray, List.set_cons_zero, List.set_cons_succ]
  refine wpAnyH_take (i := 6) (v := undef) rfl (by kernel_rfl) (by kernel_rfl) (by kernel_rfl) (fun _ _ _ h => h) (Or.inr ⟨by rfl, rfl⟩) (by assumption) ?_
  try simp only [Act.put, List.getElem_toArray, List.getElem_cons_zero, List.getElem_cons_succ, List.setIfInBounds_toArray, List.set_cons_zero, List.set_cons_succ]
  refine wpAnyH_take (i := 7) (v := undef) rfl (by kernel_rfl) (by kernel_rfl) (by kernel_rfl) (fun _ _ _ h => h) (Or.inr ⟨by rfl, rfl⟩) (by assumption) ?_
  try simp only [Act.put, List.getElem_toArray, List.getElem_cons_zero, List.getElem_cons_succ, List.setIfInBounds_toArray, List.set_cons_zero, List.set_cons_succ]
  refine wpAnyH_take (i := 8) (v := undef) rfl (by kernel_rfl) (by kernel_rfl) (by kernel_rfl) (fun _ _ _ h => h) (Or.inr ⟨by rfl, rfl⟩) (by assumption) ?_
  try simp only [Act.put, List.getElem_toArray, List.getElem_cons_zero, List.getElem_cons_succ, List.setIfInBounds_toArray, List.set_cons_zero, List.set_cons_succ]
  refine wpAnyH_take (i := 9) (v := undef) rfl (by kernel_rfl) (by kernel_rfl) (by kernel_rfl) (fun _ _ _ h => h) (Or.inr ⟨by rfl, rfl⟩) (by assumption) ?_
  try simp only [Act.put, List.getElem_toArray, List.getElem_cons_zero, List.getElem_cons_succ, List.setIfInBounds_toArray, List.set_cons_zero, List.set_cons_succ]
  refine wpAnyH_take (i := 10) (v := undef) rfl (by kernel_rfl) (by kernel_rfl) (by kernel_rfl) (fun _ _ _ h => h) (Or.inr ⟨by rfl, rfl⟩) (by assumption) ?_
  try simp only [Act.put, List.getElem_toArray, List.getElem_cons_zero, List.getElem_cons_succ, List.setIfInBounds_toArray, List.set_cons_zero, List.set_cons_succ]
  refine wpAnyH_take (i := 11) (v := undef) rfl (by kernel_rfl) (by kernel_rfl) (by kernel_rfl) (fun _ _ _ h => h) (Or.inr ⟨by rfl, rfl⟩) (by assumption) ?_
  try simp only [Act.put, List.getElem_toArray, List.getElem_cons_zero, List.getElem_cons_succ, List.setIfInBounds_toArray, List.set_cons_zero, List.set_cons_succ]
  refine wpAnyH_take (i := 12) (v := undef) rfl (by kernel_rfl) (by kernel_rfl) (by kernel_rfl) (fun _ _ _ h => h) (Or.inr ⟨by rfl, rfl⟩) (by assumption) ?_
  try simp only [Act.put, List.getElem_toArray, List.getElem_cons_zero, List.getElem_cons_succ, List.setIfInBounds_toArray, List.set_cons_zero, List.set_cons_succ]
  refine tkGo [13, 14] ?_
  repeat (refine tkOne (v := ?_) rfl (by kernel_rfl) (by kernel_rfl) (by kernel_rfl) (fun _ _ _ h => h) (by assumption) (by rfl) ?_ ?_; rotate_left; (intro wy hSw; (try dsimp only at hSw); go_simp; (first | done | with_reducible rfl)); try simp only [Act.put, List.getElem_toArray, List.getElem_cons_zero, List.getElem_cons_succ, List.setIfInBounds_toArray, List.set_cons_zero, List.set_cons_succ])
  refine tkEnd ?_
  refine wpAnyH_done (by kernel_rfl) ?_ _
  go_wp2
  go_loopw [13, 14] (fun lv i wr => ∃ j : Nat, j ≤ L.length ∧ i = .int .i64 j ∧ Hid (wr.ownsRow X.heap.size 80 2 lv ((L.take j).eraseIdx q).length (flatG ppC ((L.take j).eraseIdx q))) ∧ Below X.heap.size X wr) (fun _ i _ => L.length - (intOf i).toNat)
  case atStart => exact ⟨0, by omega, rfl, by simp only [List.take_zero, List.eraseIdx_nil]; exact World.ownsRow_nil _ _ _ _, below_drG (Below.refl _ _)⟩
  case round =>
    obtain ⟨j, hj, rfl, HO, hbw⟩ := hrel
    have hzw := hbw.size
    obtain ⟨hsee, hbk, hrs⟩ := HSS.out wr hbw
    have cb := hbk.cell (j := 1) rfl
    obtain ⟨la, lc, ev⟩ := own_shape HO.out
    subst ev
    by_cases hlt : j < L.length
    · have hltI : (j : Int) < L.length := by omega
      obtain ⟨a', c', ev, _, hcm2, _, hcell⟩ := hsee
      simp only [Value.slice.injEq, true_and] at ev
      obtain ⟨rfl, rfl⟩ := ev
      unfold maxLen at hcm2
      obtain ⟨g, off, ea, hg, hat⟩ := hcell (fun e => by rw [e] at hlt; simp at hlt)
      simp only [Option.some.injEq, Addr.mk.injEq, true_and, and_true] at ea
      obtain ⟨rfl, rfl⟩ := ea
      have e0 := hat j hlt 0 (by omega)
      have e1 := hat j hlt 1 (by omega)
      simp only [List.getElem?_cons_zero, List.getElem?_cons_succ, Nat.add_zero, Nat.zero_add] at e0 e1
      obtain ⟨p, HP⟩ : ∃ p, Hid (L.getD j Pp.nil = p) := ⟨_, rfl⟩
      rw [HP.out] at e0 e1
      clear hat hcell hbk hrs
      obtain ⟨M, HM⟩ : ∃ M, Hid ((L.take j).eraseIdx q = M) := ⟨_, rfl⟩
      have hMl : M.length ≤ 1000 := by
        rw [← HM.out]
        have h1 := List.length_eraseIdx_le (L.take j) q
        have h2 := List.length_take_le j L
        omega
      rw [HM.out] at HO ⊢
      by_cases he : j = q
      · have heb : ((j : Int) == (q : Int)) = true := by simp <;> omega
        have HT1 := keepG (erase_eq hlt he)
        rw [HM.out] at HT1
        go_wp2
        go_roundw
        case rel => exact ⟨j + 1, by omega, by go_num, by rw [HT1.out]; exact HO.out, hbw⟩
        case measure => simp [intOf]; omega
      · have heb : ((j : Int) == (q : Int)) = false := by simp <;> omega
        have HT1 := keepG (erase_ne hlt he)
        rw [HM.out, HP.out] at HT1
        go_wp2_with (at_builtin; go_must (refine wpList_append_own_at _ rfl (.tmp 107) (.tmp 115) 48 rfl X.heap.size 80 i0 _ 2 16 Try.underlying48 hi0 hz0 hzs hzb rfl (by decide) (.slice la M.length lc) M.length (flatG ppC M) rfl (HO.out.alloc _) ⟨_, 0, none⟩ 1 1 (ppC p) rfl rfl (cells_new wr (ppC p) _ _ rfl) (pp_one p) (by unfold maxLen; omega) (by omega) (by simp; omega) ?_); intro v' w' hown hgr _ hnew; go_must (have HOW : Hid _ := own_moreG hown; have hbw2 : Below X.heap.size X w' := hbw.trans ((chg_append hgr).below (fun k e => (HO.out.lt k e).1) hzw); clear hown hgr hnew; obtain ⟨va, vc, rfl⟩ := own_shape HOW.out))
        have eM : (M ++ [p]).length = M.length + 1 := by simp
        go_roundw
        case rel => exact ⟨j + 1, by omega, by go_num, by have hh := HOW.out; rw [HT1.out]; show World.ownsRow _ _ _ _ _ _ _; rw [eM] at hh ⊢; exact hh, hbw2⟩
        case measure => simp [intOf]; omega
    · have hltI : ¬ (j : Int) < L.length := by omega
      have hT : L.take j = L := List.take_of_length_le (by omega)
      rw [hT] at HO
      have fb := hbk.frozen 1
      obtain ⟨Y, HY, HbY, hcY⟩ : ∃ Y, Hid (wr.setCell ⟨b, 1, none⟩ (.slice la (L.eraseIdx q).length lc) = Y) ∧ Hid (Hp Y b 104 [.int .i64 cap, .slice la (L.eraseIdx q).length lc]) ∧ Chg wr Y (fun k => k = b) := ⟨_, rfl, hbk.set 1 _, Chg.set _ _ _ _⟩
      have HrY := keepG (hrs.chg hcY (fun e => by omega))
      have hnk : ∀ k, (Value.slice la (L.eraseIdx q).length lc).ownBlock = some k → w.heap.size + 1 ≤ k := fun k hk => by have := (HO.out.lt k hk).1; omega
      go_wp2_with (rw [HY.out]; have x0 := HrY.out.cell (j := 0) rfl; have f0 := HrY.out.frozen 0; have x1 := HrY.out.cell (j := 1) rfl; have f1 := HrY.out.frozen 1; have x2 := HrY.out.cell (j := 2) rfl; have f2 := HrY.out.frozen 2; have x3 := HrY.out.cell (j := 3) rfl; have f3 := HrY.out.frozen 3; have x4 := HrY.out.cell (j := 4) rfl; have f4 := HrY.out.frozen 4; have x5 := HrY.out.cell (j := 5) rfl; have f5 := HrY.out.frozen 5)
      have hCC : Chg w Y (bkS b (.slice (some ⟨g0, 0, none⟩) L.length c)) := ((Chg.of_below (S := bkS b (.slice (some ⟨g0, 0, none⟩) L.length c)) hbX).trans (Chg.of_below (S := fun _ => False) hbw) (fun _ _ e => e.elim)).trans hcY (fun k _ e => .inl e)
      exact rdel_end HrY.out HbY.out (own_lowG (own_chg HO.out hcY (fun k hk e => by have := hnk k hk; omega)) (by omega)) hnk hCC hblt
set_option maxHeartbeats 3200000 in
theorem rdo_del_no (key val : Int) (h : Rb w B b cap v L) (hl : L.length ≤ 1000) (hf : ¬ posP key L < L.length) (hB : B ≤ w.heap.size) :
    Calls Try.prog 37 #[.pointer (some ⟨b, 0, none⟩), .int .i64 3, .int .u64 key, .int .u64 val] w fun e w' => e = .returned (resG 0 false 0 false 0 0) ∧ RbNext w B b cap v (L.eraseIdx (posP key L)) w' := by
  obtain ⟨X, HX, HrX, hbX, hzX⟩ := boxRG w
  have HB := keepG (h.below hbX)
  have hblt := h.hp.lt
  have hgw0 := h.row.lt
  have hXb : ¬ w.heap.size = b := by omega
  have hXb' : ¬ b = w.heap.size := by omega
  obtain ⟨q, HQ⟩ : ∃ q, Hid (posP key L = q) := ⟨_, rfl⟩
  obtain ⟨i0, hi0, hz0, hzs, hzb⟩ := info_parts infoPr
  have HQL : Hid (q = L.length) := by show _ = _; have := posP_le key L; rw [HQ.out] at this hf; omega
  rw [HQ.out]
  have HA : Hid ((-1 : Int) = atP key L) := by show _ = _; rw [atP, if_neg hf]
  obtain ⟨ga, c, rfl⟩ := own_shape HB.out.row
  have c0 := HB.out.hp.cell (j := 0) rfl
  have c1 := HB.out.hp.cell (j := 1) rfl
  have HSS : Hid (∀ wx, Below X.heap.size X wx → SeesG ppC 2 Pp.nil wx (.slice ga L.length c) L ∧ Hp wx b 104 [.int .i64 cap, (.slice ga L.length c)] ∧ Hp wx w.heap.size 47 (resCG 0 false 0 false 0 0)) := fun wx hb => ⟨(own_seesG ppC_len Pp.nil HB.out.row).below hb (Nat.le_refl _), HB.out.hp.below hb (by omega), HrX.out.below hb (by omega)⟩
  clear h
  go_enter Try.func37, Try.ntmps37
  go_wp2_with (go_at_call 41; rw [HX.out]; go_must (refine (rplace_any key HB.out hl HA).mono ?_); rintro e w1 ⟨rfl, rfl⟩)
  by_cases hc : cap ≤ L.length
  · have hcI : (cap : Int) ≤ L.length := by omega
    refine wp_region_held_drew (S := fun w' => w'.cell? ⟨b, 0, none⟩ = some (.int .i64 cap) ∧ w'.cell? ⟨b, 1, none⟩ = some (.slice ga L.length c)) (by kernel_rfl) ⟨c0, c1⟩ (fun hHeld => ?_)
    refine tkGo [0, 1, 2, 3, 4, 5, 6, 7, 8, 9, 10, 11, 12, 13, 14] ?_
    repeat (refine tkOne (v := ?_) rfl (by kernel_rfl) (by kernel_rfl) (by kernel_rfl) (fun _ _ _ h => h) (by assumption) (by rfl) ?_ ?_; rotate_left; (intro wy hSw; (try dsimp only at hSw); go_simp; (first | done | with_reducible rfl)); try simp only [Act.put, List.getElem_toArray, List.getElem_cons_zero, List.getElem_cons_succ, List.setIfInBounds_toArray, List.set_cons_zero, List.set_cons_succ])
    refine tkEnd ?_
    refine wpAnyH_done (by kernel_rfl) ?_ _
    go_wp2
    go_loopw [13, 14] (fun lv i wr => ∃ j : Nat, j ≤ L.length ∧ i = .int .i64 j ∧ Hid (wr.ownsRow X.heap.size 80 2 lv ((L.take j).eraseIdx q).length (flatG ppC ((L.take j).eraseIdx q))) ∧ Below X.heap.size X wr) (fun _ i _ => L.length - (intOf i).toNat)
    case atStart => exact ⟨0, by omega, rfl, by simp only [List.take_zero, List.eraseIdx_nil]; exact World.ownsRow_nil _ _ _ _, below_drG (Below.refl _ _)⟩
    case round =>
      obtain ⟨j, hj, rfl, HO, hbw⟩ := hrel
      have hzw := hbw.size
      obtain ⟨hsee, hbk, hrs⟩ := HSS.out wr hbw
      have cb := hbk.cell (j := 1) rfl
      obtain ⟨la, lc, ev⟩ := own_shape HO.out
      subst ev
      by_cases hlt : j < L.length
      · have hltI : (j : Int) < L.length := by omega
        obtain ⟨a', c', ev, _, hcm2, _, hcell⟩ := hsee
        simp only [Value.slice.injEq, true_and] at ev
        obtain ⟨rfl, rfl⟩ := ev
        unfold maxLen at hcm2
        obtain ⟨g, off, ea, hg, hat⟩ := hcell (fun e => by rw [e] at hlt; simp at hlt)
        subst ea
        have e0 := hat j hlt 0 (by omega)
        have e1 := hat j hlt 1 (by omega)
        simp only [List.getElem?_cons_zero, List.getElem?_cons_succ, Nat.add_zero, Nat.zero_add] at e0 e1
        obtain ⟨p, HP⟩ : ∃ p, Hid (L.getD j Pp.nil = p) := ⟨_, rfl⟩
        rw [HP.out] at e0 e1
        clear hat hcell hbk hrs
        obtain ⟨M, HM⟩ : ∃ M, Hid ((L.take j).eraseIdx q = M) := ⟨_, rfl⟩
        have hMl : M.length ≤ 1000 := by
          rw [← HM.out]
          have h1 := List.length_eraseIdx_le (L.take j) q
          have h2 := List.length_take_le j L
          omega
        rw [HM.out] at HO ⊢
        by_cases he : j = q
        · exact absurd he (by have := HQL.out; omega)
        · have heb : ((j : Int) == -1) = false := by simp <;> omega
          have HT1 := keepG (erase_ne hlt he)
          rw [HM.out, HP.out] at HT1
          go_wp2_with (at_builtin; go_must (refine wpList_append_own_at _ rfl (.tmp 107) (.tmp 115) 48 rfl X.heap.size 80 i0 _ 2 16 Try.underlying48 hi0 hz0 hzs hzb rfl (by decide) (.slice la M.length lc) M.length (flatG ppC M) rfl (HO.out.alloc _) ⟨_, 0, none⟩ 1 1 (ppC p) rfl rfl (cells_new wr (ppC p) _ _ rfl) (pp_one p) (by unfold maxLen; omega) (by omega) (by simp; omega) ?_); intro v' w' hown hgr _ hnew; go_must (have HOW : Hid _ := own_moreG hown; have hbw2 : Below X.heap.size X w' := hbw.trans ((chg_append hgr).below (fun k e => (HO.out.lt k e).1) hzw); clear hown hgr hnew; obtain ⟨va, vc, rfl⟩ := own_shape HOW.out))
          have eM : (M ++ [p]).length = M.length + 1 := by simp
          go_roundw
          case rel => exact ⟨j + 1, by omega, by go_num, by have hh := HOW.out; rw [HT1.out]; show World.ownsRow _ _ _ _ _ _ _; rw [eM] at hh ⊢; exact hh, hbw2⟩
          case measure => simp [intOf]; omega
      · have hltI : ¬ (j : Int) < L.length := by omega
        have hT : L.take j = L := List.take_of_length_le (by omega)
        rw [hT] at HO
        have fb := hbk.frozen 1
        obtain ⟨Y, HY, HbY, hcY⟩ : ∃ Y, Hid (wr.setCell ⟨b, 1, none⟩ (.slice la (L.eraseIdx q).length lc) = Y) ∧ Hid (Hp Y b 104 [.int .i64 cap, .slice la (L.eraseIdx q).length lc]) ∧ Chg wr Y (fun k => k = b) := ⟨_, rfl, hbk.set 1 _, Chg.set _ _ _ _⟩
        have HrY := keepG (hrs.chg hcY (fun e => by omega))
        have hnk : ∀ k, (Value.slice la (L.eraseIdx q).length lc).ownBlock = some k → w.heap.size + 1 ≤ k := fun k hk => by have := (HO.out.lt k hk).1; omega
        go_wp2_with (rw [HY.out]; have x0 := HrY.out.cell (j := 0) rfl; have f0 := HrY.out.frozen 0; have x1 := HrY.out.cell (j := 1) rfl; have f1 := HrY.out.frozen 1; have x2 := HrY.out.cell (j := 2) rfl; have f2 := HrY.out.frozen 2; have x3 := HrY.out.cell (j := 3) rfl; have f3 := HrY.out.frozen 3; have x4 := HrY.out.cell (j := 4) rfl; have f4 := HrY.out.frozen 4; have x5 := HrY.out.cell (j := 5) rfl; have f5 := HrY.out.frozen 5)
        have hCC : Chg w Y (bkS b (.slice ga L.length c)) := ((Chg.of_below (S := bkS b (.slice ga L.length c)) hbX).trans (Chg.of_below (S := fun _ => False) hbw) (fun _ _ e => e.elim)).trans hcY (fun k _ e => .inl e)
        exact rdel_end HrY.out HbY.out (own_lowG (own_chg HO.out hcY (fun k hk e => by have := hnk k hk; omega)) (by omega)) hnk hCC hblt
  · have hcI : ¬ (cap : Int) ≤ L.length := by omega
    have hcI2 : (L.length : Int) < cap := by omega
    refine wp_region_held_drew (S := fun w' => w'.cell? ⟨b, 0, none⟩ = some (.int .i64 cap) ∧ w'.cell? ⟨b, 1, none⟩ = some (.slice ga L.length c)) (by kernel_rfl) ⟨c0, c1⟩ (fun hHeld => ?_)
    refine tkGo [0, 1, 2, 3, 4, 5, 6, 7, 8, 9, 10, 11, 12, 13, 14] ?_
    repeat (refine tkOne (v := ?_) rfl (by kernel_rfl) (by kernel_rfl) (by kernel_rfl) (fun _ _ _ h => h) (by assumption) (by rfl) ?_ ?_; rotate_left; (intro wy hSw; (try dsimp only at hSw); go_simp; (first | done | with_reducible rfl)); try simp only [Act.put, List.getElem_toArray, List.getElem_cons_zero, List.getElem_cons_succ, List.setIfInBounds_toArray, List.set_cons_zero, List.set_cons_succ])
    refine tkEnd ?_
    refine wpAnyH_done (by kernel_rfl) ?_ _
    go_wp2
    go_loopw [13, 14] (fun lv i wr => ∃ j : Nat, j ≤ L.length ∧ i = .int .i64 j ∧ Hid (wr.ownsRow X.heap.size 80 2 lv ((L.take j).eraseIdx q).length (flatG ppC ((L.take j).eraseIdx q))) ∧ Below X.heap.size X wr) (fun _ i _ => L.length - (intOf i).toNat)
    case atStart => exact ⟨0, by omega, rfl, by simp only [List.take_zero, List.eraseIdx_nil]; exact World.ownsRow_nil _ _ _ _, below_drG (Below.refl _ _)⟩
    case round =>
      obtain ⟨j, hj, rfl, HO, hbw⟩ := hrel
      have hzw := hbw.size
      obtain ⟨hsee, hbk, hrs⟩ := HSS.out wr hbw
      have cb := hbk.cell (j := 1) rfl
      obtain ⟨la, lc, ev⟩ := own_shape HO.out
      subst ev
      by_cases hlt : j < L.length
      · have hltI : (j : Int) < L.length := by omega
        obtain ⟨a', c', ev, _, hcm2, _, hcell⟩ := hsee
        simp only [Value.slice.injEq, true_and] at ev
        obtain ⟨rfl, rfl⟩ := ev
        unfold maxLen at hcm2
        obtain ⟨g, off, ea, hg, hat⟩ := hcell (fun e => by rw [e] at hlt; simp at hlt)
        subst ea
        have e0 := hat j hlt 0 (by omega)
        have e1 := hat j hlt 1 (by omega)
        simp only [List.getElem?_cons_zero, List.getElem?_cons_succ, Nat.add_zero, Nat.zero_add] at e0 e1
        obtain ⟨p, HP⟩ : ∃ p, Hid (L.getD j Pp.nil = p) := ⟨_, rfl⟩
        rw [HP.out] at e0 e1
        clear hat hcell hbk hrs
        obtain ⟨M, HM⟩ : ∃ M, Hid ((L.take j).eraseIdx q = M) := ⟨_, rfl⟩
        have hMl : M.length ≤ 1000 := by
          rw [← HM.out]
          have h1 := List.length_eraseIdx_le (L.take j) q
          have h2 := List.length_take_le j L
          omega
        rw [HM.out] at HO ⊢
        by_cases he : j = q
        · exact absurd he (by have := HQL.out; omega)
        · have heb : ((j : Int) == -1) = false := by simp <;> omega
          have HT1 := keepG (erase_ne hlt he)
          rw [HM.out, HP.out] at HT1
          go_wp2_with (at_builtin; go_must (refine wpList_append_own_at _ rfl (.tmp 107) (.tmp 115) 48 rfl X.heap.size 80 i0 _ 2 16 Try.underlying48 hi0 hz0 hzs hzb rfl (by decide) (.slice la M.length lc) M.length (flatG ppC M) rfl (HO.out.alloc _) ⟨_, 0, none⟩ 1 1 (ppC p) rfl rfl (cells_new wr (ppC p) _ _ rfl) (pp_one p) (by unfold maxLen; omega) (by omega) (by simp; omega) ?_); intro v' w' hown hgr _ hnew; go_must (have HOW : Hid _ := own_moreG hown; have hbw2 : Below X.heap.size X w' := hbw.trans ((chg_append hgr).below (fun k e => (HO.out.lt k e).1) hzw); clear hown hgr hnew; obtain ⟨va, vc, rfl⟩ := own_shape HOW.out))
          have eM : (M ++ [p]).length = M.length + 1 := by simp
          go_roundw
          case rel => exact ⟨j + 1, by omega, by go_num, by have hh := HOW.out; rw [HT1.out]; show World.ownsRow _ _ _ _ _ _ _; rw [eM] at hh ⊢; exact hh, hbw2⟩
          case measure => simp [intOf]; omega
      · have hltI : ¬ (j : Int) < L.length := by omega
        have hT : L.take j = L := List.take_of_length_le (by omega)
        rw [hT] at HO
        have fb := hbk.frozen 1
        obtain ⟨Y, HY, HbY, hcY⟩ : ∃ Y, Hid (wr.setCell ⟨b, 1, none⟩ (.slice la (L.eraseIdx q).length lc) = Y) ∧ Hid (Hp Y b 104 [.int .i64 cap, .slice la (L.eraseIdx q).length lc]) ∧ Chg wr Y (fun k => k = b) := ⟨_, rfl, hbk.set 1 _, Chg.set _ _ _ _⟩
        have HrY := keepG (hrs.chg hcY (fun e => by omega))
        have hnk : ∀ k, (Value.slice la (L.eraseIdx q).length lc).ownBlock = some k → w.heap.size + 1 ≤ k := fun k hk => by have := (HO.out.lt k hk).1; omega
        go_wp2_with (rw [HY.out]; have x0 := HrY.out.cell (j := 0) rfl; have f0 := HrY.out.frozen 0; have x1 := HrY.out.cell (j := 1) rfl; have f1 := HrY.out.frozen 1; have x2 := HrY.out.cell (j := 2) rfl; have f2 := HrY.out.frozen 2; have x3 := HrY.out.cell (j := 3) rfl; have f3 := HrY.out.frozen 3; have x4 := HrY.out.cell (j := 4) rfl; have f4 := HrY.out.frozen 4; have x5 := HrY.out.cell (j := 5) rfl; have f5 := HrY.out.frozen 5)
        have hCC : Chg w Y (bkS b (.slice ga L.length c)) := ((Chg.of_below (S := bkS b (.slice ga L.length c)) hbX).trans (Chg.of_below (S := fun _ => False) hbw) (fun _ _ e => e.elim)).trans hcY (fun k _ e => .inl e)
        exact rdel_end HrY.out HbY.out (own_lowG (own_chg HO.out hcY (fun k hk e => by have := hnk k hk; omega)) (by omega)) hnk hCC hblt
theorem has_yes {key : Int} (hf : posP key L < L.length) : hasP key L = true := by rw [hasP]; exact decide_eq_true hf
theorem has_no {key : Int} (hf : ¬ posP key L < L.length) : hasP key L = false := by rw [hasP]; exact decide_eq_false hf
theorem val_no {key : Int} (hf : ¬ posP key L < L.length) : valP key L = 0 := by
  have := posP_le key L
  rw [valP, List.getD_eq_getElem?_getD, List.getElem?_eq_none (by omega)]
  rfl
theorem RbNext.of {w' : World} {e : Ending} {E x : Int} {f : Bool} (h : Rb w B b cap v L) (hr : e = .returned (resG E f x false 0 0) ∧ Below w.heap.size w w') : e = .returned (resG E f x false 0 0) ∧ RbNext w B b cap v L w' := ⟨hr.1, RbNext.same h hr.2⟩
/-- The document's Do is doP. -/
theorem rdo_any (op key val : Int) (h : Rb w B b cap v L) (hl : L.length ≤ 1000) (hB : B ≤ w.heap.size) :
    Calls Try.prog 37 #[.pointer (some ⟨b, 0, none⟩), .int .i64 op, .int .u64 key, .int .u64 val] w fun e w' => e = .returned (resG (doP cap L op key val).1.E (doP cap L op key val).1.f (doP cap L op key val).1.v false 0 0) ∧ RbNext w B b cap v (doP cap L op key val).2 w' := by
  by_cases hf : posP key L < L.length
  · have e1 := has_yes hf
    have hnf : ¬ (hasP key L = false ∧ cap ≤ L.length) := fun e => by rw [e1] at e; exact absurd e.1 (by decide)
    by_cases h0 : op = 0
    · subst h0
      have hd : doP cap L 0 key val = (⟨0, true, valP key L⟩, L) := by unfold doP; rw [if_pos rfl, e1]
      rw [hd]
      exact (rdo_get_yes key val h hl hf rfl).mono fun e w' hr => RbNext.of h hr
    by_cases h1 : op = 1
    · subst h1
      have hd : doP cap L 1 key val = (⟨0, true, 0⟩, L) := by unfold doP; rw [if_neg (by decide), if_pos rfl, e1]
      rw [hd]
      exact (rdo_has_yes key val h hl hf (old := valP key L) rfl).mono fun e w' hr => RbNext.of h hr
    by_cases h2 : op = 2
    · subst h2
      have hd : doP cap L 2 key val = (⟨0, true, valP key L⟩, L.set (posP key L) ⟨key, val⟩) := by unfold doP; rw [if_neg (by decide), if_neg (by decide), if_pos (by decide), if_neg hnf, if_neg (by decide), e1, if_pos rfl]
      rw [hd]
      exact rdo_put_yes key val h hl hf rfl
    by_cases h4 : op = 4
    · subst h4
      have hd : doP cap L 4 key val = (⟨0, true, (valP key L + val) % 18446744073709551616⟩, L.set (posP key L) ⟨key, (valP key L + val) % 18446744073709551616⟩) := by unfold doP; rw [if_neg (by decide), if_neg (by decide), if_pos (by decide), if_neg hnf, if_pos rfl, e1, if_pos rfl]
      rw [hd]
      exact rdo_add_yes key val h hl hf rfl rfl
    by_cases h3 : op = 3
    · subst h3
      have hd : doP cap L 3 key val = (⟨0, true, valP key L⟩, L.eraseIdx (posP key L)) := by unfold doP; rw [if_neg (by decide), if_neg (by decide), if_neg (by decide), if_pos rfl, e1]
      rw [hd]
      exact rdo_del_yes key val h hl hf rfl hB
    · have hd : doP cap L op key val = (⟨2, false, 0⟩, L) := by unfold doP; rw [if_neg h0, if_neg h1, if_neg (by omega), if_neg h3]
      rw [hd]
      exact (rdo_odd_yes op ⟨h0, h1, h2, h3, h4⟩ key val h hl hf (old := valP key L) rfl).mono fun e w' hr => RbNext.of h hr
  · have e1 := has_no hf
    have e2 := val_no hf
    by_cases h0 : op = 0
    · subst h0
      have hd : doP cap L 0 key val = (⟨0, false, 0⟩, L) := by unfold doP; rw [if_pos rfl, e1, e2]
      rw [hd]
      by_cases hc : cap ≤ L.length
      · exact (rdo_get_no_full key val h hl hf hc).mono fun e w' hr => RbNext.of h hr
      · exact (rdo_get_no_room key val h hl hf hc).mono fun e w' hr => RbNext.of h hr
    by_cases h1 : op = 1
    · subst h1
      have hd : doP cap L 1 key val = (⟨0, false, 0⟩, L) := by unfold doP; rw [if_neg (by decide), if_pos rfl, e1]
      rw [hd]
      by_cases hc : cap ≤ L.length
      · exact (rdo_has_no_full key val h hl hf hc).mono fun e w' hr => RbNext.of h hr
      · exact (rdo_has_no_room key val h hl hf hc).mono fun e w' hr => RbNext.of h hr
    by_cases h2 : op = 2
    · subst h2
      by_cases hc : cap ≤ L.length
      · have hd : doP cap L 2 key val = (⟨40, false, 0⟩, L) := by unfold doP; rw [if_neg (by decide), if_neg (by decide), if_pos (by decide), if_pos ⟨e1, hc⟩]
        rw [hd]
        exact (rdo_put_full key val h hl hf hc).mono fun e w' hr => RbNext.of h hr
      · have hd : doP cap L 2 key val = (⟨0, false, 0⟩, L ++ [⟨key, val⟩]) := by unfold doP; rw [if_neg (by decide), if_neg (by decide), if_pos (by decide), if_neg (fun e => hc e.2), if_neg (by decide), e1, e2, if_neg (by decide)]
        rw [hd]
        exact rdo_put_new key val h hl hf hc hB
    by_cases h4 : op = 4
    · subst h4
      by_cases hc : cap ≤ L.length
      · have hd : doP cap L 4 key val = (⟨40, false, 0⟩, L) := by unfold doP; rw [if_neg (by decide), if_neg (by decide), if_pos (by decide), if_pos ⟨e1, hc⟩]
        rw [hd]
        exact (rdo_add_full key val h hl hf hc).mono fun e w' hr => RbNext.of h hr
      · have hd : doP cap L 4 key val = (⟨0, false, (0 + val) % 18446744073709551616⟩, L ++ [⟨key, (0 + val) % 18446744073709551616⟩]) := by unfold doP; rw [if_neg (by decide), if_neg (by decide), if_pos (by decide), if_neg (fun e => hc e.2), if_pos rfl, e1, e2, if_neg (by decide)]
        rw [hd]
        exact rdo_add_new key val h hl hf hc hB rfl
    by_cases h3 : op = 3
    · subst h3
      have hd : doP cap L 3 key val = (⟨0, false, 0⟩, L.eraseIdx (posP key L)) := by unfold doP; rw [if_neg (by decide), if_neg (by decide), if_neg (by decide), if_pos rfl, e1, e2]
      rw [hd]
      exact rdo_del_no key val h hl hf hB
    · have hd : doP cap L op key val = (⟨2, false, 0⟩, L) := by unfold doP; rw [if_neg h0, if_neg h1, if_neg (by omega), if_neg h3]
      rw [hd]
      by_cases hc : cap ≤ L.length
      · exact (rdo_odd_no_full op ⟨h0, h1, h2, h3, h4⟩ key val h hl hf hc).mono fun e w' hr => RbNext.of h hr
      · exact (rdo_odd_no_room op ⟨h0, h1, h2, h3, h4⟩ key val h hl hf hc).mono fun e w' hr => RbNext.of h hr
end
end Go.Proofs.Ytpbfgebecgikjaa
