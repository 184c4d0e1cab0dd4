
/-
  slices.Insert of one pair and slices.Delete of one pair, the row being the call's own. Condition: the row is the call's own; at most 1000 pairs; the place is within it.
-/
import Derived.Test.YtpbfgebecgikjaaTk
import Derived.Test.YtpbfgebecgikjaaB13Ref
import Derived.Test.YtpbfgebecgikjaaB13Sort
import Derived.Test.YtpbfgebecgikjaaGRow
import Derived.OwnWalk
namespace Go.Proofs.Ytpbfgebecgikjaa
open Go.RowKit
set_option linter.unusedVariables false
set_option linter.unusedSimpArgs false
set_option maxRecDepth 100000

theorem infoPr : (Try.prog.info? 80).map (fun i => (i.zero, i.size, i.bytes)) = some (some (.agg #[.int .u64 0, .int .u64 0]), 2, 16) := by kernel_rfl
theorem pp_one (p : Pp) : ∀ u ∈ ppC p, u.oneCell' = true := by
  intro u hu
  simp at hu
  rcases hu with rfl | rfl <;> rfl
theorem flat_one (L : List Pp) : ∀ u ∈ flatG ppC L, u.oneCell' = true := by
  intro u hu
  simp only [flatG, List.mem_flatMap] at hu
  obtain ⟨p, _, hp⟩ := hu
  exact pp_one p u hp
theorem flat_take (L : List Pp) (i : Nat) : (flatG ppC L).take (i * 2) = flatG ppC (L.take i) := by
  induction L generalizing i with
  | nil => simp [flatG]
  | cons p l ih =>
    cases i with
    | zero => simp [flatG]
    | succ i =>
      have e : flatG ppC (p :: l) = ppC p ++ flatG ppC l := by simp [flatG]
      have e2 : flatG ppC ((p :: l).take (i + 1)) = ppC p ++ flatG ppC (l.take i) := by simp [flatG]
      rw [e, e2, ← ih i, show (i + 1) * 2 = i * 2 + 1 + 1 by omega]
      rfl
theorem flat_drop (L : List Pp) (i : Nat) : (flatG ppC L).drop (i * 2) = flatG ppC (L.drop i) := by
  induction L generalizing i with
  | nil => simp [flatG]
  | cons p l ih =>
    cases i with
    | zero => simp [flatG]
    | succ i =>
      have e : flatG ppC (p :: l) = ppC p ++ flatG ppC l := by simp [flatG]
      have e2 : flatG ppC ((p :: l).drop (i + 1)) = flatG ppC (l.drop i) := by simp [flatG]
      rw [e, e2, ← ih i, show (i + 1) * 2 = i * 2 + 1 + 1 by omega]
      rfl
theorem flat_ins (i : Nat) (p : Pp) (L : List Pp) : flatG ppC (insL i p L) = (flatG ppC L).take (i * 2) ++ ppC p ++ (flatG ppC L).drop (i * 2) := by
  rw [insL, flatG_app, flatG_app, flatG_one, flat_take, flat_drop]
set_option maxHeartbeats 4000000 in
/-- There is room: in place. -/
theorem lins_shift {w : World} {B g cap i vb : Nat} {L : List Pp} (p : Pp) (h : w.ownsRow B 80 2 (.slice (some ⟨g, 0, none⟩) L.length cap) L.length (flatG ppC L)) (hl : L.length ≤ 1000) (hi : i < L.length) (hroom : L.length + 1 ≤ cap) (hv : Hp w vb 80 (ppC p)) (hvg : vb ≠ g) :
    Calls Try.prog 66 #[.slice (some ⟨g, 0, none⟩) L.length cap, .int .i64 i, .slice (some ⟨vb, 0, none⟩) 1 1] w fun e w' => ∃ v', e = .returned v' ∧ w'.ownsRow B 80 2 v' (insL i p L).length (flatG ppC (insL i p L)) ∧ Chg w w' (fun k => k = g) ∧ v'.ownBlock = some g := by
  obtain ⟨g', cap', cur, e1, hb, hh, hnc, hcm, hcs, ht⟩ := own_row h (by omega)
  simp only [Value.slice.injEq, Option.some.injEq, Addr.mk.injEq, true_and, and_true] at e1
  obtain ⟨rfl, rfl⟩ := e1
  obtain ⟨cu, rfl⟩ : ∃ cu : List Value, cur = cu.toArray := ⟨cur.toList, by simp⟩
  simp only [List.size_toArray] at hcs ht
  have hL2 := flatG_len (f := ppC) ppC_len L
  have hcm' : cap ≤ 9223372036854775807 := by unfold maxLen at hcm; omega
  have hdl : ((flatG ppC L).drop (i * 2)).length = (L.length - i) * 2 := by rw [List.length_drop, hL2]; omega
  obtain ⟨i0, hi0, hz0, hzs, hzb⟩ := info_parts infoPr
  have hsz : (Try.prog.info? 80).map (·.size) = some 2 := by rw [hi0]; simp [hzs]
  have hov : ∀ lb cb, (callFunc 68 #[.slice (some ⟨vb, 0, none⟩) 1 1, .slice (some ⟨g, (i + 1) * 2, none⟩) lb cb]).run Try.prog w = .ok (.value (.bool false)) w := fun lb cb => by
    rw [run_callFunc_extern Try.func68 (by kernel_rfl) (by kernel_rfl) (by kernel_rfl) (e := Extern.SlicesOverlaps.overlaps #[48, 48] #[4]) (by kernel_rfl),
      Lib.run_overlaps_apart w 48 4 80 Try.underlying48 2 Try.sizeOf80 ⟨vb, 0, none⟩ ⟨g, (i + 1) * 2, none⟩ 1 1 lb cb hvg 80 80 2 (cap * 2) (by unfold Hp at hv; unfold World.shape?; rw [hv]; rfl) (by unfold World.shape?; rw [hh]; simp [hcs]) (by omega) (hv.frozen 0) (hv.frozen 2)]
    rfl
  have hi1 : ¬ ((i : Int) = (L.length : Int)) := by omega
  have hr1 : ¬ ((cap : Int) < (L.length : Int) + 1) := by omega
  have hc1 : ¬ (cap = i + 1) := by omega
  have hc2 : ¬ (cap = i) := by omega
  have hw1 : IntKind.i64.wrap ((i : Int) + 1) = (i : Int) + 1 := by rw [IntKind.wrap_i64]; omega
  have hb1 : (0 : Int) ≤ (i : Int) + 1 := by omega
  have htn : ((i : Int) + 1).toNat = i + 1 := by omega
  have hb3 : (i : Int) ≤ (L.length : Int) + 1 := by omega
  have hb4 : (i : Int) + 1 ≤ (L.length : Int) + 1 := by omega
  go_enter Try.func66, Try.ntmps66
  obtain ⟨w1, hr1', hh1, hc1'⟩ := run_copyG (P := Try.prog) w.drew 48 48 3 80 2 g ((i + 1) * 2) (L.length - i) (cap - (i + 1)) ⟨g, i * 2, none⟩ (L.length + 1 - i) (cap - i) cu 80 ((flatG ppC L).drop (i * 2)) Try.underlying48 hsz hh (L.length - i) (by simp only [Nat.min_def]; split <;> omega) hdl (fun j v hj => by
      rw [List.getElem?_drop] at hj
      have := (h.cells (g := g) rfl) _ _ hj
      rw [Addr.add_lit, Nat.zero_add] at this
      rw [Addr.add_lit]
      exact this) (by rw [hdl, hcs]; omega) (fun u hu => flat_one L u (List.mem_of_mem_drop hu))
  have hl1 : (cu.take ((i + 1) * 2) ++ (flatG ppC L).drop (i * 2) ++ cu.drop ((i + 1) * 2 + ((flatG ppC L).drop (i * 2)).length)).length = cap * 2 := by
    rw [List.length_append, List.length_append, hdl, List.length_take, List.length_drop, hcs]
    omega
  have hv1 : Hp w1 vb 80 (ppC p) := (hv.drew).chg hc1' hvg
  obtain ⟨w2, hr2, hh2, hc2'⟩ := run_copyG (P := Try.prog) w1 48 48 3 80 2 g (i * 2) (L.length + 1 - i) (cap - i) ⟨vb, 0, none⟩ 1 1 _ 80 (ppC p) Try.underlying48 hsz hh1 1 (by simp only [Nat.min_def]; split <;> omega) rfl (fun j v hj => by
      rw [Addr.add_lit, Nat.zero_add]
      exact hv1.cell hj) (by rw [hl1, ppC_len]; omega) (pp_one p)
  have HV : Hid (w2.ownsRow B 80 2 (.slice (some ⟨g, 0, none⟩) (L.length + 1) cap) (insL i p L).length (flatG ppC (insL i p L))) := by
    show _
    rw [insL_len i p L (by omega)]
    have hfit : i * 2 + (ppC p).length + ((flatG ppC L).drop (i * 2)).length ≤ cu.length := by rw [hdl, hcs, ppC_len]; omega
    have ht' : cu.take (i * 2) = (flatG ppC L).take (i * 2) := by
      rw [← ht, List.take_take]
      congr 1
      omega
    refine own_of (cs := putIn cu (i * 2) (ppC p) ((flatG ppC L).drop (i * 2))) hb (by rw [hh2, show (i + 1) * 2 = i * 2 + (ppC p).length by rw [ppC_len]; omega]; rfl) hroom hcm (by rw [putIn_len _ _ _ _ hfit, hcs]) ?_
    rw [flat_ins, ← ht', ← putIn_take _ _ _ _ hfit, hdl, ppC_len]
    congr 1
    omega
  have HC : Hid (Chg w w2 (fun k => k = g)) := show Chg w w2 _ from ((Chg.refl w _).drewN 1).trans (hc1'.trans hc2' (fun _ _ e => e)) (fun _ _ e => e)
  clear hh1 hl1 hv1 hh2 hc1' hc2' h hv hh hcs ht hdl hL2 hi0 hz0 hzs hzb hsz
  go_wp2_with (simp only [hov])
  refine wp_region_held_drew (S := fun _ => True) (by kernel_rfl) trivial (fun hHeld => ?_)
  refine tkGo [0, 1, 2, 3, 4, 5, 6, 7] ?_
  repeat (refine tkOne (v := ?_) rfl (by kernel_rfl) (by kernel_rfl) (by kernel_rfl) (fun _ _ _ h => h) (by assumption) (by rfl) ?_ ?_; rotate_left; (intro wy hSw; (try dsimp only at hSw); go_simp; (first | done | with_reducible rfl)); try simp only [Act.put, List.getElem_toArray, List.getElem_cons_zero, List.getElem_cons_succ, List.setIfInBounds_toArray, List.set_cons_zero, List.set_cons_succ])
  refine tkEnd ?_
  refine wpAnyH_ready (rs := [8]) (by kernel_rfl) (by simp) ?_
  refine AllReadyH.cons rfl (fun KK hK => ?_) AllReadyH.nil
  rw [if_pos (by rfl)]
  refine wp_copyG _ (.tmp 73) (.tmp 76) 48 48 rfl _ _ rfl rfl hr1' ?_
  refine hK.out _ _ trivial (fun hHeld => ?_)
  clear hK KK
  try simp only [Act.put, List.getElem_toArray, List.getElem_cons_zero, List.getElem_cons_succ, List.setIfInBounds_toArray, List.set_cons_zero, List.set_cons_succ]
  refine wpAnyH_done (by kernel_rfl) ?_ _
  go_wp2_with (at_builtin; go_must (refine wpList_copyG _ rfl (.tmp 80) (.tmp 81) 48 48 rfl _ _ rfl rfl hr2 ?_))
  go_ret
  exact ⟨_, rfl, HV.out, HC.out, rfl⟩
set_option maxHeartbeats 4000000 in
/-- At the end. -/
theorem lins_end {w : World} {B vb : Nat} {v : Value} {L : List Pp} (p : Pp) (h : w.ownsRow B 80 2 v L.length (flatG ppC L)) (hl : L.length ≤ 1000) (hB : B ≤ w.heap.size) (hv : Hp w vb 80 (ppC p)) :
    Calls Try.prog 66 #[v, .int .i64 L.length, .slice (some ⟨vb, 0, none⟩) 1 1] w fun e w' => ∃ v', e = .returned v' ∧ w'.ownsRow B 80 2 v' (insL L.length p L).length (flatG ppC (insL L.length p L)) ∧ Chg w w' (fun k => v.ownBlock = some k) ∧ (v'.ownBlock = v.ownBlock ∨ v'.ownBlock = some w.heap.size) := by
  obtain ⟨i0, hi0, hz0, hzs, hzb⟩ := info_parts infoPr
  have HH := keepG h
  have HN : Hid (∀ j u, (ppC p)[j]? = some u → w.cell? ((⟨vb, 0, none⟩ : Addr).add j) = some u) := fun j u hj => by
    rw [Addr.add_lit, Nat.zero_add]
    exact hv.cell hj
  have HL : Hid (insL L.length p L = L ++ [p]) := show _ = _ by simp [insL]
  clear hv
  rcases h with ⟨_, ⟨rfl, h2⟩ | ⟨g, cap, cur, rfl, _, _, hnc, hcm, _⟩⟩
  · have h2I : (L.length : Int) = 0 := by omega
    rw [h2I]
    go_enter Try.func66, Try.ntmps66
    go_wp2_with (at_builtin; go_must (refine wpList_append_own_at _ rfl (.tmp 23) (.tmp 24) 48 rfl B 80 i0 _ 2 16 Try.underlying48 hi0 hz0 hzs hzb rfl (by decide) _ L.length (flatG ppC L) rfl HH.out ⟨vb, 0, none⟩ 1 1 (ppC p) rfl rfl HN.out (pp_one p) (by unfold maxLen; omega) (by omega) hB ?_); intro v' w' hown hg _ hnew)
    go_ret
    exact ⟨_, rfl, by rw [HL.out]; exact own_moreG hown, Chg.of_grown' hg (fun _ e => e), hnew⟩
  · have hcm' : cap ≤ 9223372036854775807 := by unfold maxLen at hcm; omega
    by_cases hc : cap = L.length
    · go_enter Try.func66, Try.ntmps66
      go_wp2_with (at_builtin; go_must (refine wpList_append_own_at _ rfl (.tmp 23) (.tmp 24) 48 rfl B 80 i0 _ 2 16 Try.underlying48 hi0 hz0 hzs hzb rfl (by decide) _ L.length (flatG ppC L) rfl HH.out ⟨vb, 0, none⟩ 1 1 (ppC p) rfl rfl HN.out (pp_one p) (by unfold maxLen; omega) (by omega) hB ?_); intro v' w' hown hg _ hnew)
      go_ret
      exact ⟨_, rfl, by rw [HL.out]; exact own_moreG hown, Chg.of_grown' hg (fun _ e => e), hnew⟩
    · go_enter Try.func66, Try.ntmps66
      go_wp2_with (at_builtin; go_must (refine wpList_append_own_at _ rfl (.tmp 23) (.tmp 24) 48 rfl B 80 i0 _ 2 16 Try.underlying48 hi0 hz0 hzs hzb rfl (by decide) _ L.length (flatG ppC L) rfl HH.out ⟨vb, 0, none⟩ 1 1 (ppC p) rfl rfl HN.out (pp_one p) (by unfold maxLen; omega) (by omega) hB ?_); intro v' w' hown hg _ hnew)
      go_ret
      exact ⟨_, rfl, by rw [HL.out]; exact own_moreG hown, Chg.of_grown' hg (fun _ e => e), hnew⟩
set_option maxHeartbeats 4000000 in
/-- There is no room: a new row. -/
theorem lins_grow {w : World} {B g cap i vb : Nat} {L : List Pp} (p : Pp) (h : w.ownsRow B 80 2 (.slice (some ⟨g, 0, none⟩) L.length cap) L.length (flatG ppC L)) (hl : L.length ≤ 1000) (hB : B ≤ w.heap.size) (hi : i < L.length) (hroom : cap < L.length + 1) (hv : Hp w vb 80 (ppC p)) :
    Calls Try.prog 66 #[.slice (some ⟨g, 0, none⟩) L.length cap, .int .i64 i, .slice (some ⟨vb, 0, none⟩) 1 1] w fun e w' => ∃ v', e = .returned v' ∧ w'.ownsRow B 80 2 v' (insL i p L).length (flatG ppC (insL i p L)) ∧ Below w.heap.size w w' ∧ v'.ownBlock = some w.heap.size := by
  obtain ⟨g', cap', cur, e1, hb, hh, hnc, hcm, hcs, ht⟩ := own_row h (by omega)
  simp only [Value.slice.injEq, Option.some.injEq, Addr.mk.injEq, true_and, and_true] at e1
  obtain ⟨rfl, rfl⟩ := e1
  have hgw : g < w.heap.size := (Array.getElem?_eq_some_iff.1 hh).1
  have hL2 := flatG_len (f := ppC) ppC_len L
  have hdl : ((flatG ppC L).drop (i * 2)).length = (L.length - i) * 2 := by rw [List.length_drop, hL2]; omega
  have htl : ((flatG ppC L).take (i * 2)).length = i * 2 := by rw [List.length_take, hL2]; omega
  obtain ⟨i0, hi0, hz0, hzs, hzb⟩ := info_parts infoPr
  have hsz : (Try.prog.info? 80).map (·.size) = some 2 := by rw [hi0]; simp [hzs]
  have hcell := h.cells (g := g) rfl
  have hold : (Builtin.firstCells i0.size i (.slice (some ⟨g, 0, none⟩) i cap)).run Try.prog w.drew = .ok ((flatG ppC L).take (i * 2)).toArray w.drew := by
    rw [hzs]
    exact run_firstCells_some w.drew 2 i ⟨g, 0, none⟩ i cap _ htl (fun j v hj => by
      rw [List.getElem?_take] at hj
      split at hj
      · exact hcell j v hj
      · cases hj)
  have hrz := fun ty => Lib.run_append_grow_zeros (P := Try.prog) w 48 3 ty 80 i0 _ .i64 .i64 Try.underlying48 Try.underlying3 hi0 hz0 (some ⟨g, 0, none⟩) i cap _ hold (L.length + 1 - i) (by omega) (by omega) (by omega) (by omega) (by rw [hzb]; omega) (by rw [hzb]; exact growslice_fits (by omega) (by omega))
  rw [show i + (L.length + 1 - i) = L.length + 1 by omega] at hrz
  have hGn : L.length + 1 ≤ grownCap w (L.length + 1) cap 80 := grownCap_ge w _ _ _
  have hGm : grownCap w (L.length + 1) cap 80 ≤ maxLen := grownCap_le_maxLen w (L.length + 1) cap 80 (by unfold maxLen; omega)
  obtain ⟨G, hG⟩ : ∃ G, grownCap w (L.length + 1) cap 80 = G := ⟨_, rfl⟩
  rw [hG] at hrz hGn hGm
  obtain ⟨cu, hcu, hcl, hct⟩ : ∃ cu : List Value, ((flatG ppC L).take (i * 2)).toArray ++ Builtin.zeroCells (Value.agg #[.int .u64 0, .int .u64 0]).cells (L.length + 1 - i) ++ Builtin.zeroCells (Value.agg #[.int .u64 0, .int .u64 0]).cells (G - (L.length + 1)) = cu.toArray ∧ cu.length = G * 2 ∧ cu.take (i * 2) = (flatG ppC L).take (i * 2) := by
    refine ⟨_, (Array.toArray_toList).symm, ?_, ?_⟩
    · rw [Array.length_toList, Array.size_append, Array.size_append, size_zeroCells, size_zeroCells, List.size_toArray, htl]
      show i * 2 + (L.length + 1 - i) * 2 + (G - (L.length + 1)) * 2 = _
      omega
    · rw [Array.toList_append, Array.toList_append, List.append_assoc]
      rw [List.take_append_of_le_length (by simp; omega)]
      simp [List.take_take]
  rw [hcu] at hrz
  obtain ⟨W, HW, hWb, hWh, hWz⟩ : ∃ W, w.drew.alloc (.cells cu.toArray 80) = W ∧ Below w.heap.size w W ∧ W.heap[w.heap.size]? = some (.cells cu.toArray 80 (0, 0)) ∧ W.heap.size = w.heap.size + 1 :=
    ⟨_, rfl, below_undrG (below_allocG w.drew _), heap_alloc_new w.drew _, by simp⟩
  rw [HW] at hrz
  have hv1 : Hp W vb 80 (ppC p) := hv.below hWb hv.lt
  obtain ⟨w1, hr1, hh1, hc1⟩ := run_copyG (P := Try.prog) W 48 48 3 80 2 w.heap.size (i * 2) (L.length + 1 - i) (G - i) ⟨vb, 0, none⟩ 1 1 cu 80 (ppC p) Try.underlying48 hsz hWh 1 (by simp only [Nat.min_def]; split <;> omega) rfl (fun j v hj => by
      rw [Addr.add_lit, Nat.zero_add]
      exact hv1.cell hj) (by rw [hcl, ppC_len]; omega) (pp_one p)
  have hl1 : (cu.take (i * 2) ++ ppC p ++ cu.drop (i * 2 + (ppC p).length)).length = G * 2 := by
    rw [List.length_append, List.length_append, ppC_len, List.length_take, List.length_drop, hcl]
    omega
  have hb1 : Below w.heap.size w w1 := hWb.trans (hc1.below (fun k e => by omega) (by omega))
  obtain ⟨w2, hr2, hh2, hc2⟩ := run_copyG (P := Try.prog) w1.drew 48 48 3 80 2 w.heap.size ((i + 1) * 2) (L.length - i) (G - (i + 1)) ⟨g, i * 2, none⟩ (L.length - i) (cap - i) _ 80 ((flatG ppC L).drop (i * 2)) Try.underlying48 hsz hh1 (L.length - i) (by simp only [Nat.min_def]; split <;> omega) hdl (fun j v hj => by
      rw [List.getElem?_drop] at hj
      have := hcell _ _ hj
      rw [Addr.add_lit, Nat.zero_add] at this
      rw [Addr.add_lit]
      exact (hb1.cell (p := ⟨g, i * 2 + j, none⟩) hgw).trans this) (by rw [hl1, hdl]; omega) (fun u hu => flat_one L u (List.mem_of_mem_drop hu))
  have HV : Hid (w2.ownsRow B 80 2 (.slice (some ⟨w.heap.size, 0, none⟩) (L.length + 1) G) (insL i p L).length (flatG ppC (insL i p L))) := by
    show _
    rw [insL_len i p L (by omega)]
    have hfit : i * 2 + (ppC p).length + ((flatG ppC L).drop (i * 2)).length ≤ cu.length := by rw [hdl, hcl, ppC_len]; omega
    refine own_of (cs := putIn' cu (i * 2) (ppC p) ((flatG ppC L).drop (i * 2))) hB (by rw [hh2, show (i + 1) * 2 = i * 2 + (ppC p).length by rw [ppC_len]; omega]; rfl) hGn hGm (by rw [putIn'_len _ _ _ _ hfit, hcl]) ?_
    rw [flat_ins, ← hct, ← putIn'_take _ _ _ _ hfit, hdl, ppC_len]
    congr 1
    omega
  have HB2 : Hid (Below w.heap.size w w2) := show Below _ _ _ from hb1.trans (below_undrG (hc2.below (fun k e => by omega) (by have := hb1.size; exact this)))
  have hi1 : ¬ ((i : Int) = (L.length : Int)) := by omega
  have hr0 : ((cap : Int) < (L.length : Int) + 1) := by omega
  have hG1 : ¬ (G = i + 1) := by omega
  have hG2 : ¬ (G = i) := by omega
  have hG3 : G ≤ 9223372036854775807 := by unfold maxLen at hGm; omega
  have hc3 : ¬ (cap = i) := by omega
  have hw1 : IntKind.i64.wrap ((i : Int) + 1) = (i : Int) + 1 := by rw [IntKind.wrap_i64]; omega
  have hb1' : (0 : Int) ≤ (i : Int) + 1 := by omega
  have htn : ((i : Int) + 1).toNat = i + 1 := by omega
  have hb3 : (i : Int) ≤ (L.length : Int) + 1 := by omega
  have hb4 : (i : Int) + 1 ≤ (L.length : Int) + 1 := by omega
  have hin : i ≤ L.length := by omega
  have hsub : (L.length : Int) + 1 - i = ((L.length + 1 - i : Nat) : Int) := by omega
  clear hh1 hl1 hv1 hh2 hc1 hc2 h hv hh hcs ht hdl hL2 hi0 hz0 hzs hzb hsz hcell hold htl hcu hcl hct HW hWb hWh hWz hb1
  go_enter Try.func66, Try.ntmps66
  go_wp2_with (first
    | (at_builtin; go_must (refine wpList_appG _ rfl (.tmp 34) (.tmp 39) 48 3 rfl _ _ rfl (by rw [← hsub]; rfl) (hrz _) ?_))
    | (at_builtin; go_must (refine wpList_copyG _ rfl (.tmp 43) (.tmp 44) 48 48 rfl _ _ rfl rfl hr1 ?_)))
  refine wp_region_held_drew (S := fun _ => True) (by kernel_rfl) trivial (fun hHeld => ?_)
  refine tkGo [0, 1, 2, 3, 4, 5, 6, 7] ?_
  repeat (refine tkOne (v := ?_) rfl (by kernel_rfl) (by kernel_rfl) (by kernel_rfl) (fun _ _ _ h => h) (by assumption) (by rfl) ?_ ?_; rotate_left; (intro wy hSw; (try dsimp only at hSw); go_simp; (first | done | with_reducible rfl)); try simp only [Act.put, List.getElem_toArray, List.getElem_cons_zero, List.getElem_cons_succ, List.setIfInBounds_toArray, List.set_cons_zero, List.set_cons_succ])
  refine tkEnd ?_
  refine wpAnyH_ready (rs := [8]) (by kernel_rfl) (by simp) ?_
  refine AllReadyH.cons rfl (fun KK hK => ?_) AllReadyH.nil
  rw [if_pos (by rfl)]
  refine wp_copyG _ (.tmp 50) (.tmp 53) 48 48 rfl _ _ rfl rfl hr2 ?_
  refine hK.out _ _ trivial (fun hHeld => ?_)
  clear hK KK
  try simp only [Act.put, List.getElem_toArray, List.getElem_cons_zero, List.getElem_cons_succ, List.setIfInBounds_toArray, List.set_cons_zero, List.set_cons_succ]
  refine wpAnyH_done (by kernel_rfl) ?_ _
  go_wp2
  go_ret
  exact ⟨_, rfl, HV.out, HB2.out, rfl⟩
/-- Insert at a place, whatever the row. -/
theorem lins_any {w : World} {B i vb : Nat} {v : Value} {L : List Pp} (p : Pp) (h : w.ownsRow B 80 2 v L.length (flatG ppC L)) (hl : L.length ≤ 1000) (hB : B ≤ w.heap.size) (hi : i ≤ L.length) (hv : Hp w vb 80 (ppC p)) (hvg : v.ownBlock ≠ some vb) :
    Calls Try.prog 66 #[v, .int .i64 i, .slice (some ⟨vb, 0, none⟩) 1 1] w fun e w' => ∃ v', e = .returned v' ∧ w'.ownsRow B 80 2 v' (insL i p L).length (flatG ppC (insL i p L)) ∧ Chg w w' (fun k => v.ownBlock = some k) ∧ (v'.ownBlock = v.ownBlock ∨ v'.ownBlock = some w.heap.size) := by
  rcases Nat.lt_or_ge i L.length with g | g
  · obtain ⟨g', cap, cur, rfl, _⟩ := own_row h (by omega)
    by_cases hroom : L.length + 1 ≤ cap
    · refine (lins_shift p h hl g hroom hv (fun e => hvg (by rw [e]; rfl))).mono ?_
      rintro e w' ⟨v', rfl, h1, h2, h3⟩
      exact ⟨v', rfl, h1, h2.mono (fun k e => by rw [e]; rfl), .inl h3⟩
    · refine (lins_grow p h hl hB g (by omega) hv).mono ?_
      rintro e w' ⟨v', rfl, h1, h2, h3⟩
      exact ⟨v', rfl, h1, Chg.of_below h2, .inr h3⟩
  · obtain rfl : i = L.length := by omega
    exact lins_end p h hl hB hv
def delIn (cur : List Value) (a : Nat) (B Z : List Value) : List Value :=
  let c1 := cur.take a ++ B ++ cur.drop (a + B.length)
  c1.take (a + B.length) ++ Z ++ c1.drop (a + B.length + Z.length)
theorem delIn_len (cur : List Value) (a : Nat) (B Z : List Value) (h : a + B.length + Z.length ≤ cur.length) : (delIn cur a B Z).length = cur.length := putIn'_len cur a B Z h
theorem delIn_take (cur : List Value) (a : Nat) (B Z : List Value) (h : a + B.length + Z.length ≤ cur.length) : (delIn cur a B Z).take (a + B.length) = cur.take a ++ B := by
  have := putIn'_take cur a B Z h
  rw [show delIn cur a B Z = putIn' cur a B Z from rfl, ← List.take_left' (l₁ := cur.take a ++ B) (l₂ := Z) rfl, ← this, List.take_take]
  congr 1
  simp
  omega
theorem flat_erase (i : Nat) (L : List Pp) : flatG ppC (L.eraseIdx i) = (flatG ppC L).take (i * 2) ++ (flatG ppC L).drop ((i + 1) * 2) := by
  rw [List.eraseIdx_eq_take_drop_succ, flatG_app, flat_take, flat_drop]
/-- clear of one record at a row's place. -/
theorem run_clear1 {P : Program} (w : World) (t e ty : TypeId) (zv : Value) (ht : P.underlying t = some (.slice e)) (hv : ∀ w, (zeroValue e).run P w = .ok zv w) (zs : List Value) (hz : (Builtin.zeroCells zv.cells 1).toList = zs) (h1 : ∀ u ∈ zs, u.oneCell' = true) (g o c : Nat) (cur : List Value) (tt : TypeId) (hg : w.heap[g]? = some (.cells cur.toArray tt (0, 0))) (hfit : o + zs.length ≤ cur.length) :
    ∃ w', (Builtin.clear_ #[t] ty #[.slice (some ⟨g, o, none⟩) 1 c]).run P w = .ok (.tuple #[]) w' ∧ w'.heap[g]? = some (.cells (cur.take o ++ zs ++ cur.drop (o + zs.length)).toArray tt (0, 0)) ∧ Chg w w' (fun k => k = g) := by
  have hst := run_storeCells_at P g o tt zs 0 cur.toArray w hg (by simpa using hfit) h1
  simp only [Nat.add_zero] at hst
  refine ⟨_, ?_, setRow_heap w g _ _ tt _ hg, ⟨rfl, rfl, rfl, by simp [World.setRow], fun k hk hne => setRow_other w g k _ hne⟩⟩
  simp [Builtin.clear_, run_underlying ht, hv, hz, hst]
/-- append within the row. -/
theorem run_appRow {P : Program} (w : World) (t ty e : TypeId) (i : TypeInfo) (z : Nat) (ht : P.underlying t = some (.slice e)) (hi : P.info? e = some i) (hz : i.size = z) (g n cap : Nat) (a : Addr) (m c : Nat) (cur news : List Value) (tt : TypeId) (hg : w.heap[g]? = some (.cells cur.toArray tt (0, 0)))
    (hl : news.length = m * z) (hnews : ∀ j u, news[j]? = some u → w.cell? (a.add j) = some u) (h1 : ∀ u ∈ news, u.oneCell' = true) (hroom : n + m ≤ cap) (hfit : n * z + news.length ≤ cur.length) :
    ∃ w', (Builtin.append_ #[t, t] ty #[.slice (some ⟨g, 0, none⟩) n cap, .slice (some a) m c]).run P w = .ok (.slice (some ⟨g, 0, none⟩) (n + m) cap) w' ∧ w'.heap[g]? = some (.cells (cur.take (n * z) ++ news ++ cur.drop (n * z + news.length)).toArray tt (0, 0)) ∧ Chg w w' (fun k => k = g) := by
  have hst := run_storeCells_at P g (n * z) tt news 0 cur.toArray w hg (by simpa using hfit) h1
  have hfc := run_firstCells_some (P := P) w i.size m a m c news (by rw [hz]; exact hl) hnews
  subst hz
  simp only [Nat.add_zero] at hst
  refine ⟨_, ?_, setRow_heap w g _ _ tt _ hg, ⟨rfl, rfl, rfl, by simp [World.setRow], fun k hk hne => setRow_other w g k _ hne⟩⟩
  simp [Builtin.append_, run_underlying ht, sizeOf, typeInfo, hi, Builtin.lenOf, hroom, hfc, Addr.add_lit, hst]
set_option maxHeartbeats 4000000 in
theorem ldel_at {w : World} {B g cap i n : Nat} {L : List Pp} (h : w.ownsRow B 80 2 (.slice (some ⟨g, 0, none⟩) L.length cap) L.length (flatG ppC L)) (hl : L.length ≤ 1000) (hi : i < L.length) (hn : L.length = n + 1) :
    Calls Try.prog 67 #[.slice (some ⟨g, 0, none⟩) ((n + 1 : Nat)) cap, .int .i64 i, .int .i64 ((i : Int) + 1)] w fun e w' => ∃ v', e = .returned v' ∧ w'.ownsRow B 80 2 v' (L.eraseIdx i).length (flatG ppC (L.eraseIdx i)) ∧ Chg w w' (fun k => k = g) ∧ v'.ownBlock = some g := by
  obtain ⟨g', cap', cur, e1, hb, hh, hnc, hcm, hcs, ht⟩ := own_row h (by omega)
  simp only [Value.slice.injEq, Option.some.injEq, Addr.mk.injEq, true_and, and_true] at e1
  obtain ⟨rfl, rfl⟩ := e1
  obtain ⟨cu, rfl⟩ : ∃ cu : List Value, cur = cu.toArray := ⟨cur.toList, by simp⟩
  simp only [List.size_toArray] at hcs ht
  have hL2 := flatG_len (f := ppC) ppC_len L
  have hcm' : cap ≤ 9223372036854775807 := by unfold maxLen at hcm; omega
  have hdl : ((flatG ppC L).drop ((i + 1) * 2)).length = (n - i) * 2 := by rw [List.length_drop, hL2]; omega
  obtain ⟨i0, hi0, hz0, hzs, hzb⟩ := info_parts infoPr
  have hcell := h.cells (g := g) rfl
  have hel : (L.eraseIdx i).length = n := by rw [List.length_eraseIdx_of_lt hi]; omega
  have hK : ∃ A : Addr, (if cap = i + 1 then some (⟨g, 0, none⟩ : Addr) else some ⟨g, (i + 1) * 2, none⟩) = some A ∧ ∀ j u, ((flatG ppC L).drop ((i + 1) * 2))[j]? = some u → w.drew.cell? (A.add j) = some u := by
    by_cases hc : cap = i + 1
    · refine ⟨⟨g, 0, none⟩, by rw [if_pos hc], fun j u hu => ?_⟩
      have h0 : ((flatG ppC L).drop ((i + 1) * 2)).length = 0 := by rw [hdl]; omega
      rw [List.length_eq_zero_iff.1 h0] at hu
      simp at hu
    · refine ⟨⟨g, (i + 1) * 2, none⟩, by rw [if_neg hc], fun j u hu => ?_⟩
      rw [List.getElem?_drop] at hu
      have := hcell _ _ hu
      rw [Addr.add_lit, Nat.zero_add] at this
      rw [Addr.add_lit]
      exact this
  obtain ⟨A, hA, hsrc⟩ := hK
  obtain ⟨w1, hr1, hh1, hc1⟩ := run_appRow (P := Try.prog) w.drew 48 48 80 i0 2 Try.underlying48 hi0 hzs g i cap A (n - i) (cap - (i + 1)) cu ((flatG ppC L).drop ((i + 1) * 2)) 80 hh hdl hsrc (fun u hu => flat_one L u (List.mem_of_mem_drop hu)) (by omega) (by rw [hdl, hcs]; omega)
  rw [show i + (n - i) = n by omega] at hr1
  have hl1 : (cu.take (i * 2) ++ (flatG ppC L).drop ((i + 1) * 2) ++ cu.drop (i * 2 + ((flatG ppC L).drop ((i + 1) * 2)).length)).length = cap * 2 := by
    rw [List.length_append, List.length_append, hdl, List.length_take, List.length_drop, hcs]
    omega
  obtain ⟨w2, hr2, hh2, hc2⟩ := run_clear1 (P := Try.prog) w1 48 80 0 _ Try.underlying48 Try.zeroValue80 [.int .u64 0, .int .u64 0] (by kernel_rfl) (by intro u hu; simp at hu; rw [hu]; rfl) g (n * 2) (cap - n) _ 80 hh1 (by rw [hl1]; simp; omega)
  have HV : Hid (w2.ownsRow B 80 2 (.slice (some ⟨g, 0, none⟩) n cap) (L.eraseIdx i).length (flatG ppC (L.eraseIdx i))) := by
    show _
    rw [hel]
    have hfit : i * 2 + ((flatG ppC L).drop ((i + 1) * 2)).length + [Value.int .u64 0, .int .u64 0].length ≤ cu.length := by rw [hdl, hcs]; simp; omega
    have ht' : cu.take (i * 2) = (flatG ppC L).take (i * 2) := by
      rw [← ht, List.take_take]
      congr 1
      omega
    refine own_of (cs := delIn cu (i * 2) ((flatG ppC L).drop ((i + 1) * 2)) [.int .u64 0, .int .u64 0]) hb (by rw [hh2, show n * 2 = i * 2 + ((flatG ppC L).drop ((i + 1) * 2)).length by rw [hdl]; omega]; rfl) (by omega) hcm (by rw [delIn_len _ _ _ _ hfit, hcs]) ?_
    rw [flat_erase, ← ht', ← delIn_take _ _ _ _ hfit, hdl]
    congr 1
    omega
  have HC : Hid (Chg w w2 (fun k => k = g)) := show Chg w w2 _ from ((Chg.refl w _).drewN 1).trans (hc1.trans hc2 (fun _ _ e => e)) (fun _ _ e => e)
  have hnI : (i : Int) ≤ n := by omega
  have hw1 : IntKind.i64.wrap ((i : Int) + 1) = (i : Int) + 1 := by rw [IntKind.wrap_i64]; omega
  have htn : ((i : Int) + 1).toNat = i + 1 := by omega
  have hb1 : (0 : Int) ≤ (i : Int) + 1 := by omega
  have hb3 : (i : Int) ≤ (n : Int) + 1 := by omega
  have hb4 : (i : Int) + 1 ≤ (n : Int) + 1 := by omega
  have hb5 : ¬ (i : Int) = (i : Int) + 1 := by omega
  have hb6 : (i : Int) ≤ (i : Int) + 1 := by omega
  have hb7 : (i : Int) ≤ (cap : Int) := by omega
  have hb8 : ¬ cap = n := by omega
  have hb9 : (n : Int) + 1 ≤ (cap : Int) := by omega
  have hb10 : i ≤ cap := by omega
  have hb11 : i + 1 ≤ n + 1 := by omega
  have hb12 : n + 1 ≤ cap := by omega
  clear hh1 hl1 hh2 hc1 hc2 h hh hcs ht hdl hL2 hi0 hz0 hzs hzb hcell hel hsrc
  go_enter Try.func67, Try.ntmps67
  go_wp2
  refine wp_region_held_drew (S := fun _ => True) (by kernel_rfl) trivial (fun hHeld => ?_)
  refine tkGo [0, 1, 2, 3, 4, 5] ?_
  repeat (refine tkOne (v := ?_) rfl (by kernel_rfl) (by kernel_rfl) (by kernel_rfl) (fun _ _ _ h => h) (by assumption) (by rfl) ?_ ?_; rotate_left; (intro wy hSw; (try dsimp only at hSw); go_simp; (first | done | with_reducible rfl)); try simp only [Act.put, List.getElem_toArray, List.getElem_cons_zero, List.getElem_cons_succ, List.setIfInBounds_toArray, List.set_cons_zero, List.set_cons_succ])
  refine tkEnd ?_
  refine wpAnyH_ready (rs := [6]) (by kernel_rfl) (by simp) ?_
  refine AllReadyH.cons rfl (fun KK hK => ?_) AllReadyH.nil
  rw [if_pos (by rfl)]
  refine wp_appG _ (.tmp 22) (.tmp 25) 48 48 rfl _ _ rfl (by rw [← hA]; rfl) hr1 ?_
  refine hK.out _ _ trivial (fun hHeld => ?_)
  clear hK KK
  try simp only [Act.put, List.getElem_toArray, List.getElem_cons_zero, List.getElem_cons_succ, List.setIfInBounds_toArray, List.set_cons_zero, List.set_cons_succ]
  refine tkGo [7] ?_
  repeat (refine tkOne (v := ?_) rfl (by kernel_rfl) (by kernel_rfl) (by kernel_rfl) (fun _ _ _ h => h) (by assumption) (by rfl) ?_ ?_; rotate_left; (intro wy hSw; (try dsimp only at hSw); go_simp; (first | done | with_reducible rfl)); try simp only [Act.put, List.getElem_toArray, List.getElem_cons_zero, List.getElem_cons_succ, List.setIfInBounds_toArray, List.set_cons_zero, List.set_cons_succ])
  refine tkEnd ?_
  refine wpAnyH_done (by kernel_rfl) ?_ _
  go_wp2
  go_ret
  exact ⟨_, rfl, HV.out, HC.out, rfl⟩
end Go.Proofs.Ytpbfgebecgikjaa
