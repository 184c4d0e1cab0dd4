
/-
  RingCounts, walked. Condition: none but the arguments' reading.
-/
import Derived.Test.YthcdfknadcdfkaaTk
import Derived.Test.YthcdfknadcdfkaaW16Rc
namespace Go.Proofs.Ythcdfknadcdfkaa
open Go.RowKit
set_option linter.unusedVariables false
set_option linter.unusedSimpArgs false
set_option maxRecDepth 100000

theorem ringCounts_no (n : Int) (sv : Value) (w : World) (h : n < 1 ∨ 16 < n) :
    Calls Try.prog 4 #[.int .i64 n, sv] w fun e w' => e = .returned (.bool true) ∧ Below w.heap.size w w' := by
  go_enter Try.func4, Try.ntmps4
  go_wp2_with (first
    | (go_at_call 7; go_must (refine (awake16_any w).mono ?_); rintro e w1 ⟨rfl, hb1⟩)
    | (go_at_call 8; go_must (refine (lrnew_no n h _ _).mono ?_); rintro e w2 ⟨rfl, rfl⟩))
  go_ret
  exact ⟨rfl, hb1.trans ((below_allocG _ _).mono hb1.size)⟩
/-- What the counts tell. -/
structure Cq (r : Rg) (A RF T D Q : Int) : Prop where
  eq : r.counts = (A, RF, T, D, Q)
  sum : A = T + D + Q
  s0 : 0 ≤ T ∧ 0 ≤ D ∧ 0 ≤ Q ∧ T + D + Q ≤ 1000000000000001
  rm : Q ≤ r.room
theorem Rg.Ok.cq {r : Rg} (h : r.Ok) (hm : r.all.length ≤ 1000000000000000) : ∃ RF T D, Cq r r.all.length RF T D r.waits.length := by
  obtain ⟨h1, h2⟩ := h.sum
  have h3 := h.waits_le
  have h4 := h.taken
  have hs : (r.all.length : Int) = r.taken + (if r.closed = true then (r.all.length : Int) - r.taken else 0) + r.waits.length := by
    rw [← h2]
    exact h1
  refine ⟨r.refused, r.taken, if r.closed = true then (r.all.length : Int) - r.taken else 0, by rw [← h2]; rfl, hs, ⟨by omega, ?_, by omega, by omega⟩, by omega⟩
  split <;> omega
set_option maxHeartbeats 16000000 in
theorem ringCounts_ok (n : Nat) (h1 : 1 ≤ n) (h2 : n ≤ 16) (sv : Value) (is : List Oc) (w : World) (hs : SeesG ocC 4 Oc.nil w sv is) (hlen : is.length ≤ 4398046511104) :
    Calls Try.prog 4 #[.int .i64 n, sv] w fun e w' => e = .returned (.bool true) ∧ Below w.heap.size w w' := by
  have HSS : Hid (∀ wr, Below w.heap.size w wr → SeesG ocC 4 Oc.nil wr sv is) := fun wr hb => hs.below hb (Nat.le_refl _)
  obtain ⟨a, c, rfl, hc, hm, _, _⟩ := hs
  have hm' : c ≤ 9223372036854775807 := by unfold maxLen at hm; omega
  obtain ⟨i0, hi0, hz0, hzs, hzb⟩ := info_parts infoQe
  have hko : (Rg.new n).Ok := Rg.Ok.new h1 h2
  go_enter Try.func4, Try.ntmps4
  go_wp2_with (first
    | (go_at_call 7; go_must (refine (awake16_any w).mono ?_); rintro e w1 ⟨rfl, hb1⟩)
    | (go_at_call 8; go_must (refine (lrnew_any n h1 h2 w1).mono ?_); rintro e w2 ⟨b, F, rfl, hL, hS, hb2⟩; go_must (have HT2 := keepG (Rc.new (w0 := w) hb1 hL hb2.size hS hb2); clear hL hS)))
  go_loopw [7, 8, 9, 10] (fun nv lv cv i wr => ∃ j : Nat, j ≤ is.length ∧ i = .int .i64 j ∧ ∃ r, nv = .int .i64 ((r.all.length : Int) + 1) ∧ cv = .bool r.closed ∧ Hid (Rc w wr b r r.all.length lv r.waits) ∧ r.Ok ∧ r.all.length ≤ j ∧ r.refused ≤ j ∧ r.room = n) (fun _ _ _ i _ => is.length - (intOf i).toNat)
  case atStart => exact ⟨0, by omega, rfl, Rg.new n, rfl, rfl, HT2, hko, Nat.le_refl _, Nat.le_refl _, rfl⟩
  case round =>
    obtain ⟨j, hj, rfl, r, rfl, rfl, HM, hk, hall, href, hroom⟩ := hrel
    rename World => wr
    obtain ⟨la, lc, ev, hlc, hlm⟩ := HM.out.ln.shape
    subst ev
    by_cases hlt : j < is.length
    · have hltI : (j : Int) < is.length := by omega
      obtain ⟨a', c', ev, _, _, _, hcell⟩ := HSS.out _ HM.out.be
      simp only [Value.slice.injEq, true_and] at ev
      obtain ⟨rfl, rfl⟩ := ev
      obtain ⟨g, off, rfl, hg, hat⟩ := hcell (fun e => by rw [e] at hlt; simp at hlt)
      have d0 := hat j hlt 0 (by omega)
      have d1 := hat j hlt 1 (by omega)
      have d2 := hat j hlt 2 (by omega)
      have d3 := hat j hlt 3 (by omega)
      obtain ⟨x, HX0⟩ : ∃ x, Hid (is.getD j Oc.nil = x) := ⟨_, rfl⟩
      rw [HX0.out] at d0 d1 d2 d3
      simp only [List.getElem?_cons_zero, List.getElem?_cons_succ, Nat.add_zero] at d0 d1 d2 d3
      clear hat hcell
      obtain ⟨X, HX, hbX, hpX⟩ := op_box wr x
      have HMX := keepG (HM.out.below hbX)
      obtain ⟨RF, T, D, hcq⟩ := hk.cq (by omega)
      obtain ⟨A, HAA⟩ : ∃ A : Int, Hid ((r.all.length : Int) = A) := ⟨_, rfl⟩
      obtain ⟨Qd, HQQ⟩ : ∃ Q : Int, Hid ((r.waits.length : Int) = Q) := ⟨_, rfl⟩
      rw [HAA.out, HQQ.out] at hcq
      have HCQ := keepG hcq
      clear hcq
      obtain ⟨xk, xo, xa, xb⟩ := x
      simp only at d0 d1 d2 d3 HX hpX
      have pre : True := trivial
      by_cases hk1 : xk = 1
      · subst hk1
        cases hw : r.waits with
        | nil =>
          obtain ⟨r', hr'⟩ : ∃ r', r' = r := ⟨_, rfl⟩
          have hk2 : r'.Ok := by rw [hr']; exact hk
          have hall2 : r'.all.length = r.all.length := by rw [hr']
          have href2 : r'.refused = r.refused := by rw [hr']
          have hroom2 : r'.room = n := by rw [hr']; exact hroom
          have hcl2 : r'.closed = r.closed := by rw [hr']
          have hwt2 : r'.waits = [] := by rw [hr']; exact hw
          have HQt : Hid (r.take = (Qe.nil, false, r')) := by show _ = _; rw [hr']; exact Rg.take_none hw
          rw [hw] at HM HMX
          clear hw
          obtain ⟨RF2, T2, D2, hcq2⟩ := hk2.cq (by omega)
          rw [hall2, hwt2] at hcq2
          have HC2 := keepG hcq2
          have hw1 : IntKind.i64.wrap (T2 + D2) = (r.all.length : Int) := by have := hcq2.s0; have := hcq2.sum; rw [IntKind.wrap_i64]; simp only [List.length_nil] at *; omega
          have hw3 : IntKind.i64.wrap ((r.all.length : Int)) = (r.all.length : Int) := by rw [IntKind.wrap_i64]; omega
          have hQn2 : ¬ (n : Int) < 0 := by have := hcq2.rm; simp only [List.length_nil] at *; omega
          clear hcq2
          go_wp2_with (first
            | (go_at_call 19; have hq := pre; clear hq; rw [HX.out]; go_must (refine (HMX.out.counts hk (by omega) (show Hid _ from HCQ.out.eq)).mono ?_); rintro e w3 ⟨rfl, hb3⟩; go_must (have HM3 := keepG (HMX.out.below hb3); have Hp3 := keepG (hpX.out.below hb3 hpX.out.lt); obtain ⟨Y, HY, hbY, hpY⟩ := cnt_box w3 A RF T D Qd; have HMY := keepG (HM3.out.below hbY); have HpY := keepG (Hp3.out.below hbY Hp3.out.lt); have y0 := HpY.out.cell (j := 0) rfl; have y2 := HpY.out.cell (j := 2) rfl; have y3 := HpY.out.cell (j := 3) rfl; rw [← HY.out] at y0 y2 y3; clear pre))
            | (go_at_call 12; rw [HY.out]; go_must (refine (HMY.out.take hk (by omega) HQt).mono ?_); rintro e w4 ⟨rfl, ht4⟩; go_must (have HM4 := keepG ht4; clear ht4)))
          refine wp_region_held_drew (S := fun _ => True) (by kernel_rfl) trivial (fun hHeld => ?_)
          refine tkGo [0, 1, 2, 3, 4, 5, 6, 7] ?_
          repeat (refine tkOne (v := ?_) rfl (by kernel_rfl) (by kernel_rfl) (by kernel_rfl) (fun _ _ _ h => h) (by assumption) (by rfl) ?_ ?_; rotate_left; (intro wy hSw; (try dsimp only at hSw); go_simp; (first | done | with_reducible rfl)); try simp only [Act.put, List.getElem_toArray, List.getElem_cons_zero, List.getElem_cons_succ, List.setIfInBounds_toArray, List.set_cons_zero, List.set_cons_succ])
          refine tkEnd ?_
          refine wpAnyH_take (i := 8) (v := undef) rfl (by kernel_rfl) (by kernel_rfl) (by kernel_rfl) (fun _ _ _ h => h) (Or.inr ⟨by rfl, rfl⟩) (by assumption) ?_
          try simp only [Act.put, List.getElem_toArray, List.getElem_cons_zero, List.getElem_cons_succ, List.setIfInBounds_toArray, List.set_cons_zero, List.set_cons_succ]
          refine wpAnyH_take (i := 9) (v := undef) rfl (by kernel_rfl) (by kernel_rfl) (by kernel_rfl) (fun _ _ _ h => h) (Or.inr ⟨by rfl, rfl⟩) (by assumption) ?_
          try simp only [Act.put, List.getElem_toArray, List.getElem_cons_zero, List.getElem_cons_succ, List.setIfInBounds_toArray, List.set_cons_zero, List.set_cons_succ]
          refine wpAnyH_take (i := 10) (v := undef) rfl (by kernel_rfl) (by kernel_rfl) (by kernel_rfl) (fun _ _ _ h => h) (Or.inr ⟨by rfl, rfl⟩) (by assumption) ?_
          try simp only [Act.put, List.getElem_toArray, List.getElem_cons_zero, List.getElem_cons_succ, List.setIfInBounds_toArray, List.set_cons_zero, List.set_cons_succ]
          refine wpAnyH_take (i := 11) (v := undef) rfl (by kernel_rfl) (by kernel_rfl) (by kernel_rfl) (fun _ _ _ h => h) (Or.inr ⟨by rfl, rfl⟩) (by assumption) ?_
          try simp only [Act.put, List.getElem_toArray, List.getElem_cons_zero, List.getElem_cons_succ, List.setIfInBounds_toArray, List.set_cons_zero, List.set_cons_succ]
          refine wpAnyH_take (i := 12) (v := undef) rfl (by kernel_rfl) (by kernel_rfl) (by kernel_rfl) (fun _ _ _ h => h) (Or.inr ⟨by rfl, rfl⟩) (by assumption) ?_
          try simp only [Act.put, List.getElem_toArray, List.getElem_cons_zero, List.getElem_cons_succ, List.setIfInBounds_toArray, List.set_cons_zero, List.set_cons_succ]
          refine tkGo [13, 14] ?_
          repeat (refine tkOne (v := ?_) rfl (by kernel_rfl) (by kernel_rfl) (by kernel_rfl) (fun _ _ _ h => h) (by assumption) (by rfl) ?_ ?_; rotate_left; (intro wy hSw; (try dsimp only at hSw); go_simp; (first | done | with_reducible rfl)); try simp only [Act.put, List.getElem_toArray, List.getElem_cons_zero, List.getElem_cons_succ, List.setIfInBounds_toArray, List.set_cons_zero, List.set_cons_succ])
          refine tkEnd ?_
          refine wpAnyH_done (by kernel_rfl) ?_ _
          have HMt := keepG ((HM4.out.below (below_allocG _ (.cells #[.int .i64 0, .int .u64 0, .int .u64 0] 46))).drewN 1)
          go_wp2_with ((go_at_call 19; skip; go_must (refine (HMt.out.counts hk2 (by omega) (show Hid _ from HC2.out.eq)).mono ?_); rintro e w7 ⟨rfl, hb7⟩; go_must (obtain ⟨U, HU, hbU, hpU⟩ := cnt_box w7 (r.all.length : Int) RF2 T2 D2 0; have HM8 := keepG ((HMt.out.below hb7).below hbU); have u0 := hpU.out.cell (j := 0) rfl; have u2 := hpU.out.cell (j := 2) rfl; have u3 := hpU.out.cell (j := 3) rfl; have u4 := hpU.out.cell (j := 4) rfl; rw [← HU.out] at u0 u2 u3 u4)))
          rw [HU.out]
          first
            | (go_roundw
               case rel => exact ⟨j + 1, by omega, by go_num, r', by rw [hall2], by rw [hcl2]; try rw [hcl], by rw [hall2, hwt2]; exact HM8.out, hk2, by omega, by omega, hroom2⟩
               case measure => simp [intOf]; omega)
            | exact ⟨⟨j + 1, by omega, by go_num, r', by rw [hall2], by rw [hcl2]; try rw [hcl], by rw [hall2, hwt2]; exact HM8.out, hk2, by omega, by omega, hroom2⟩, by simp [intOf]; omega⟩
        | cons p l =>
          obtain ⟨hcl, htl, htk, hwl⟩ := Rg.take_some hw
          obtain ⟨r', hr'⟩ : ∃ r', r' = ({ r with taken := r.taken + 1 } : Rg) := ⟨_, rfl⟩
          rw [← hr'] at htk hwl
          have HQt : Hid (r.take = (p, true, r')) := htk
          have hk2 : r'.Ok := by have := hk.take; rw [htk] at this; exact this
          have hall2 : r'.all.length = r.all.length := by rw [hr']
          have href2 : r'.refused = r.refused := by rw [hr']
          have hroom2 : r'.room = n := by rw [hr']; exact hroom
          have hcl2 : r'.closed = r.closed := by rw [hr']
          have hwt2 : r'.waits = l := hwl
          rw [hw] at HM HMX
          simp only [hw, List.length_cons] at HM HMX hlc
          clear hw htk hwl hr'
          obtain ⟨pn, pa, pb⟩ := p
          obtain ⟨a1, c1, ev, _, _, _, hcl1⟩ := HM.out.sees
          simp only [Value.slice.injEq, List.length_cons, true_and] at ev
          obtain ⟨rfl, rfl⟩ := ev
          obtain ⟨g1, o1, rfl, _, _⟩ := hcl1 (by simp)
          clear hcl1
          have HLC : Hid (∀ wx, Rc w wx b r' r.all.length (.slice (some ⟨g1, o1, none⟩) (l.length + 1) lc) (⟨pn, pa, pb⟩ :: l) → wx.cell? ⟨g1, o1, none⟩ = some (.int .i64 pn) ∧ wx.cell? ⟨g1, o1 + 1, none⟩ = some (.int .u64 pa) ∧ wx.cell? ⟨g1, o1 + 2, none⟩ = some (.int .u64 pb)) := by
            intro wx hx
            obtain ⟨a1, c1, ev, _, _, _, hcl1⟩ := hx.sees
            simp only [Value.slice.injEq, List.length_cons, true_and] at ev
            obtain ⟨rfl, rfl⟩ := ev
            obtain ⟨g2, o2, e2, _, hat⟩ := hcl1 (by simp)
            simp only [Option.some.injEq, Addr.mk.injEq, and_true] at e2
            obtain ⟨rfl, rfl⟩ := e2
            have t0 := hat 0 (by simp) 0 (by omega)
            have t1 := hat 0 (by simp) 1 (by omega)
            have t2 := hat 0 (by simp) 2 (by omega)
            simp at t0 t1 t2
            exact ⟨t0, t1, t2⟩
          obtain ⟨ua, HUA⟩ : ∃ ua, Hid ((if lc = 1 then (some ⟨g1, o1, none⟩ : Option Addr) else (some (⟨g1, o1, none⟩ : Addr)).map (·.add (1 * 3))) = ua) := ⟨_, rfl⟩
          have hrun : ∀ wx, (Instr.slice 50 (.slice (some ⟨g1, o1, none⟩) (l.length + 1) lc) (some (.int .i64 1)) none none).run Try.prog wx = .ok (.slice ua l.length (lc - 1)) wx := by
            intro wx
            rw [← HUA.out]
            exact run_cutZ (z := 3) (t := 50) Try.underlying50 (fun _ => by kernel_rfl) (some ⟨g1, o1, none⟩) (l.length + 1) lc 1 (by omega) wx
          have hub : (Value.slice ua l.length (lc - 1)).ownBlock = (Value.slice (some ⟨g1, o1, none⟩) (l.length + 1) lc).ownBlock := by
            rw [← HUA.out]
            split <;> rfl
          have HUB := keepG hub
          clear hub
          obtain ⟨RF2, T2, D2, hcq2⟩ := hk2.cq (by omega)
          rw [hall2, hwt2] at hcq2
          have HC2 := keepG hcq2
          have hw1 : IntKind.i64.wrap (T2 + D2) = T2 + D2 := by have := hcq2.s0; rw [IntKind.wrap_i64]; omega
          have hw2 : IntKind.i64.wrap (T2 + D2 + (l.length : Int)) = (r.all.length : Int) := by have := hcq2.s0; have := hcq2.sum; rw [IntKind.wrap_i64]; omega
          have hw3 : IntKind.i64.wrap ((r.all.length : Int)) = (r.all.length : Int) := by rw [IntKind.wrap_i64]; omega
          have hQn2 : ¬ (n : Int) < (l.length : Int) := by have := hcq2.rm; omega
          clear hcq2
          go_wp2_with (first
            | (go_at_call 19; have hq := pre; clear hq; rw [HX.out]; go_must (refine (HMX.out.counts hk (by omega) (show Hid _ from HCQ.out.eq)).mono ?_); rintro e w3 ⟨rfl, hb3⟩; go_must (have HM3 := keepG (HMX.out.below hb3); have Hp3 := keepG (hpX.out.below hb3 hpX.out.lt); obtain ⟨Y, HY, hbY, hpY⟩ := cnt_box w3 A RF T D Qd; have HMY := keepG (HM3.out.below hbY); have HpY := keepG (Hp3.out.below hbY Hp3.out.lt); have y0 := HpY.out.cell (j := 0) rfl; have y2 := HpY.out.cell (j := 2) rfl; have y3 := HpY.out.cell (j := 3) rfl; rw [← HY.out] at y0 y2 y3; clear pre))
            | (go_at_call 12; rw [HY.out]; go_must (refine (HMY.out.take hk (by omega) HQt).mono ?_); rintro e w4 ⟨rfl, ht4⟩; go_must (have HM4 := keepG ht4; clear ht4; obtain ⟨Z, HZ, hbZ, hpZ⟩ := que_box w4 ⟨pn, pa, pb⟩; have HMZ := keepG (HM4.out.below hbZ); obtain ⟨t0, t1, t2⟩ := HLC.out Z HMZ.out; have z0 := hpZ.out.cell (j := 0) rfl; have z1 := hpZ.out.cell (j := 1) rfl; have z2 := hpZ.out.cell (j := 2) rfl; try simp only at HZ)))
          rw [HZ.out]
          refine wp_region_held_drew (S := fun w' => w'.cell? ⟨w4.heap.size, 0, none⟩ = some (.int .i64 pn) ∧ w'.cell? ⟨w4.heap.size, 1, none⟩ = some (.int .u64 pa) ∧ w'.cell? ⟨w4.heap.size, 2, none⟩ = some (.int .u64 pb) ∧ w'.cell? ⟨g1, o1, none⟩ = some (.int .i64 pn) ∧ w'.cell? ⟨g1, o1 + 1, none⟩ = some (.int .u64 pa) ∧ w'.cell? ⟨g1, o1 + 2, none⟩ = some (.int .u64 pb)) (by kernel_rfl) ⟨z0, z1, z2, t0, t1, t2⟩ (fun hHeld => ?_)
          refine tkGo [0, 1, 2, 3, 4, 5, 6, 7, 8, 9, 10, 11, 12, 13, 14] ?_
          repeat (refine tkOne (v := ?_) rfl (by kernel_rfl) (by kernel_rfl) (by kernel_rfl) (fun _ _ _ h => h) (by assumption) (by rfl) ?_ ?_; rotate_left; (intro wy hSw; (try dsimp only at hSw); go_simp; (first | done | with_reducible rfl)); try simp only [Act.put, List.getElem_toArray, List.getElem_cons_zero, List.getElem_cons_succ, List.setIfInBounds_toArray, List.set_cons_zero, List.set_cons_succ])
          refine tkEnd ?_
          refine wpAnyH_done (by kernel_rfl) ?_ _
          clear hHeld
          have HMt : Hid (Rc w (Z.drew) b r' r.all.length (.slice ua l.length (lc - 1)) l) := by
            refine Rc.line (HMZ.out.drewN 1) (Chg.refl _ _) (.inl HUB.out) ?_
            rw [← HUA.out]
            have := Ct.cut (HMZ.out.drewN 1).ln
            exact this
          go_wp2_with ((go_at_call 19; skip; go_must (refine (HMt.out.counts hk2 (by omega) (show Hid _ from HC2.out.eq)).mono ?_); rintro e w7 ⟨rfl, hb7⟩; go_must (obtain ⟨U, HU, hbU, hpU⟩ := cnt_box w7 (r.all.length : Int) RF2 T2 D2 (l.length : Int); have HM8 := keepG ((HMt.out.below hb7).below hbU); have u0 := hpU.out.cell (j := 0) rfl; have u2 := hpU.out.cell (j := 2) rfl; have u3 := hpU.out.cell (j := 3) rfl; have u4 := hpU.out.cell (j := 4) rfl; rw [← HU.out] at u0 u2 u3 u4)))
          rw [HU.out]
          first
            | (go_roundw
               case rel => exact ⟨j + 1, by omega, by go_num, r', by rw [hall2], by rw [hcl2]; try rw [hcl], by rw [hall2, hwt2]; exact HM8.out, hk2, by omega, by omega, hroom2⟩
               case measure => simp [intOf]; omega)
            | exact ⟨⟨j + 1, by omega, by go_num, r', by rw [hall2], by rw [hcl2]; try rw [hcl], by rw [hall2, hwt2]; exact HM8.out, hk2, by omega, by omega, hroom2⟩, by simp [intOf]; omega⟩
      · by_cases hk2 : xk = 2
        · subst hk2
          obtain ⟨r', hr'⟩ : ∃ r', r' = r.shut.2 := ⟨_, rfl⟩
          have hk2 : r'.Ok := by rw [hr']; exact hk.shut
          have hall2 : r'.all.length = r.all.length := by rw [hr']; rfl
          have href2 : r'.refused = r.refused := by rw [hr']; rfl
          have hroom2 : r'.room = n := by rw [hr']; exact hroom
          have hcl2 : r'.closed = true := by rw [hr']; rfl
          have hcl : true = true := rfl
          have hwt2 : r'.waits = [] := by rw [hr']; exact Rg.waits_shut
          obtain ⟨Wl, HWL⟩ : ∃ Wl, Hid (r.waits = Wl) := ⟨_, rfl⟩
          rw [HWL.out] at HM HMX ⊢
          simp only [HWL.out] at hlc
          obtain ⟨RF2, T2, D2, hcq2⟩ := hk2.cq (by omega)
          rw [hall2, hwt2] at hcq2
          have HC2 := keepG hcq2
          have hw1 : IntKind.i64.wrap (T2 + D2) = (r.all.length : Int) := by have := hcq2.s0; have := hcq2.sum; rw [IntKind.wrap_i64]; simp only [List.length_nil] at *; omega
          have hw3 : IntKind.i64.wrap ((r.all.length : Int)) = (r.all.length : Int) := by rw [IntKind.wrap_i64]; omega
          have hQn2 : ¬ (n : Int) < 0 := by have := hcq2.rm; simp only [List.length_nil] at *; omega
          clear hcq2
          go_wp2_with (first
            | (go_at_call 19; have hq := pre; clear hq; rw [HX.out]; go_must (refine (HMX.out.counts hk (by omega) (show Hid _ from HCQ.out.eq)).mono ?_); rintro e w3 ⟨rfl, hb3⟩; go_must (have HM3 := keepG (HMX.out.below hb3); have Hp3 := keepG (hpX.out.below hb3 hpX.out.lt); obtain ⟨Y, HY, hbY, hpY⟩ := cnt_box w3 A RF T D Qd; have HMY := keepG (HM3.out.below hbY); have HpY := keepG (Hp3.out.below hbY Hp3.out.lt); have y0 := HpY.out.cell (j := 0) rfl; have y2 := HpY.out.cell (j := 2) rfl; have y3 := HpY.out.cell (j := 3) rfl; rw [← HY.out] at y0 y2 y3; clear pre))
            | (go_at_call 15; rw [HY.out]; go_must (refine (HMY.out.shut hk (by omega) HWL).mono ?_); rintro e w4 ⟨u, rfl, hu4, ht4⟩; go_must (rw [← hr'] at ht4; have HM4 := keepG ht4; have HU4 := keepG (own_seesG qeC_len Qe.nil hu4); clear ht4 hu4))
            | (go_at_call 14; go_must (refine (wqueued16 HU4.out HM4.out.sees).mono ?_); rintro e w5 ⟨rfl, m5, rfl⟩; go_must (have HMt := keepG (HM4.out.drewN m5).none))
            | (go_at_call 19; skip; go_must (refine (HMt.out.counts hk2 (by omega) (show Hid _ from HC2.out.eq)).mono ?_); rintro e w7 ⟨rfl, hb7⟩; go_must (obtain ⟨U, HU, hbU, hpU⟩ := cnt_box w7 (r.all.length : Int) RF2 T2 D2 0; have HM8 := keepG ((HMt.out.below hb7).below hbU); have u0 := hpU.out.cell (j := 0) rfl; have u2 := hpU.out.cell (j := 2) rfl; have u3 := hpU.out.cell (j := 3) rfl; have u4 := hpU.out.cell (j := 4) rfl; rw [← HU.out] at u0 u2 u3 u4)))
          rw [HU.out]
          first
            | (go_roundw
               case rel => exact ⟨j + 1, by omega, by go_num, r', by rw [hall2], by rw [hcl2]; try rw [hcl], by rw [hall2, hwt2]; exact HM8.out, hk2, by omega, by omega, hroom2⟩
               case measure => simp [intOf]; omega)
            | exact ⟨⟨j + 1, by omega, by go_num, r', by rw [hall2], by rw [hcl2]; try rw [hcl], by rw [hall2, hwt2]; exact HM8.out, hk2, by omega, by omega, hroom2⟩, by simp [intOf]; omega⟩
        · by_cases hcl : r.closed = true
          · obtain ⟨Wl, HWL⟩ : ∃ Wl, Hid (r.waits = Wl) := ⟨_, rfl⟩
            obtain ⟨r', hr'⟩ : ∃ r', r' = r := ⟨_, rfl⟩
            have hk2 : r'.Ok := by rw [hr']; exact hk
            have hall2 : r'.all.length = r.all.length := by rw [hr']
            have href2 : r'.refused = r.refused := by rw [hr']
            have hroom2 : r'.room = n := by rw [hr']; exact hroom
            have hcl2 : r'.closed = r.closed := by rw [hr']
            have hwt2 : r'.waits = Wl := by rw [hr']; exact HWL.out
            have hacc : r.accept xa xb ((r.all.length : Int) + 1) = (0, 43, r') := by rw [hr']; exact Rg.accept_shut hcl _ _ _
            rw [HWL.out] at HM HMX ⊢
            simp only [HWL.out] at hlc
            have HQa : Hid (r.accept xa xb ((r.all.length : Int) + 1) = (0, 43, r')) := hacc
            have HLa : Hid ((if (43 : Int) = 0 then (r.all.length : Int) + 1 else r.all.length) = (r.all.length : Int)) := rfl
            clear hacc
            obtain ⟨RF2, T2, D2, hcq2⟩ := hk2.cq (by omega)
            rw [hall2, hwt2] at hcq2
            have HC2 := keepG hcq2
            have hw1 : IntKind.i64.wrap (T2 + D2) = T2 + D2 := by have := hcq2.s0; rw [IntKind.wrap_i64]; omega
            have hw2 : IntKind.i64.wrap (T2 + D2 + (Wl.length : Int)) = (r.all.length : Int) := by have := hcq2.s0; have := hcq2.sum; rw [IntKind.wrap_i64]; omega
            have hw3 : IntKind.i64.wrap ((r.all.length : Int)) = (r.all.length : Int) := by rw [IntKind.wrap_i64]; omega
            have hQn2 : ¬ (n : Int) < (Wl.length : Int) := by have := hcq2.rm; omega
            clear hcq2
            go_wp2_with (first
              | (go_at_call 19; have hq := pre; clear hq; rw [HX.out]; go_must (refine (HMX.out.counts hk (by omega) (show Hid _ from HCQ.out.eq)).mono ?_); rintro e w3 ⟨rfl, hb3⟩; go_must (have HM3 := keepG (HMX.out.below hb3); have Hp3 := keepG (hpX.out.below hb3 hpX.out.lt); obtain ⟨Y, HY, hbY, hpY⟩ := cnt_box w3 A RF T D Qd; have HMY := keepG (HM3.out.below hbY); have HpY := keepG (Hp3.out.below hbY Hp3.out.lt); have y0 := HpY.out.cell (j := 0) rfl; have y2 := HpY.out.cell (j := 2) rfl; have y3 := HpY.out.cell (j := 3) rfl; rw [← HY.out] at y0 y2 y3; clear pre))
              | (go_at_call 10; rw [HY.out]; go_must (refine (HMY.out.accept xa xb hk (by omega) (by omega) (by omega) HQa HLa).mono ?_); rintro e w4 ⟨rfl, ht4, hot⟩; go_must (have HM4 := keepG ht4; have HpO := keepG (hot _ _ _ (by decide) (by decide) (by decide) HpY.out); have HpC := keepG (hot _ _ _ (by decide) (by decide) (by decide) hpY.out); have o2 := HpO.out.cell (j := 2) rfl; have o3 := HpO.out.cell (j := 3) rfl; have c4 := HpC.out.cell (j := 4) rfl; clear ht4 hot))
              | (have HMt := HM4; (go_at_call 19; skip; go_must (refine (HMt.out.counts hk2 (by omega) (show Hid _ from HC2.out.eq)).mono ?_); rintro e w7 ⟨rfl, hb7⟩; go_must (obtain ⟨U, HU, hbU, hpU⟩ := cnt_box w7 (r.all.length : Int) RF2 T2 D2 (Wl.length : Int); have HM8 := keepG ((HMt.out.below hb7).below hbU); have u0 := hpU.out.cell (j := 0) rfl; have u2 := hpU.out.cell (j := 2) rfl; have u3 := hpU.out.cell (j := 3) rfl; have u4 := hpU.out.cell (j := 4) rfl; rw [← HU.out] at u0 u2 u3 u4))))
            rw [HU.out]
            first
              | (go_roundw
                 case rel => exact ⟨j + 1, by omega, by go_num, r', by rw [hall2], by rw [hcl2]; try rw [hcl], by rw [hall2, hwt2]; exact HM8.out, hk2, by omega, by omega, hroom2⟩
                 case measure => simp [intOf]; omega)
              | exact ⟨⟨j + 1, by omega, by go_num, r', by rw [hall2], by rw [hcl2]; try rw [hcl], by rw [hall2, hwt2]; exact HM8.out, hk2, by omega, by omega, hroom2⟩, by simp [intOf]; omega⟩
          · have hcl : r.closed = false := by simpa using hcl
            by_cases hfl : r.waits.length = r.room
            · obtain ⟨Wl, HWL⟩ : ∃ Wl, Hid (r.waits = Wl) := ⟨_, rfl⟩
              obtain ⟨r', hr'⟩ : ∃ r', r' = ({ r with refused := r.refused + 1 } : Rg) := ⟨_, rfl⟩
              have hacc : r.accept xa xb ((r.all.length : Int) + 1) = (0, 40, r') := by rw [hr']; exact hk.accept_full hcl hfl _ _ _
              have hk2 : r'.Ok := by have := hk.accept xa xb ((r.all.length : Int) + 1); rw [hacc] at this; exact this
              have hall2 : r'.all.length = r.all.length := by rw [hr']
              have href2 : r'.refused = r.refused + 1 := by rw [hr']
              have hroom2 : r'.room = n := by rw [hr']; exact hroom
              have hcl2 : r'.closed = r.closed := by rw [hr']
              have hwt2 : r'.waits = Wl := by rw [hr']; exact HWL.out
              obtain rfl : Qd = (n : Int) := by have := HQQ.out; omega
              rw [HWL.out] at HM HMX ⊢
              simp only [HWL.out] at hlc
              clear hfl
              have HQa : Hid (r.accept xa xb ((r.all.length : Int) + 1) = (0, 40, r')) := hacc
              have HLa : Hid ((if (40 : Int) = 0 then (r.all.length : Int) + 1 else r.all.length) = (r.all.length : Int)) := rfl
              clear hacc
              obtain ⟨RF2, T2, D2, hcq2⟩ := hk2.cq (by omega)
              rw [hall2, hwt2] at hcq2
              have HC2 := keepG hcq2
              have hw1 : IntKind.i64.wrap (T2 + D2) = T2 + D2 := by have := hcq2.s0; rw [IntKind.wrap_i64]; omega
              have hw2 : IntKind.i64.wrap (T2 + D2 + (Wl.length : Int)) = (r.all.length : Int) := by have := hcq2.s0; have := hcq2.sum; rw [IntKind.wrap_i64]; omega
              have hw3 : IntKind.i64.wrap ((r.all.length : Int)) = (r.all.length : Int) := by rw [IntKind.wrap_i64]; omega
              have hQn2 : ¬ (n : Int) < (Wl.length : Int) := by have := hcq2.rm; omega
              clear hcq2
              go_wp2_with (first
                | (go_at_call 19; have hq := pre; clear hq; rw [HX.out]; go_must (refine (HMX.out.counts hk (by omega) (show Hid _ from HCQ.out.eq)).mono ?_); rintro e w3 ⟨rfl, hb3⟩; go_must (have HM3 := keepG (HMX.out.below hb3); have Hp3 := keepG (hpX.out.below hb3 hpX.out.lt); obtain ⟨Y, HY, hbY, hpY⟩ := cnt_box w3 A RF T D (n : Int); have HMY := keepG (HM3.out.below hbY); have HpY := keepG (Hp3.out.below hbY Hp3.out.lt); have y0 := HpY.out.cell (j := 0) rfl; have y2 := HpY.out.cell (j := 2) rfl; have y3 := HpY.out.cell (j := 3) rfl; rw [← HY.out] at y0 y2 y3; clear pre))
                | (go_at_call 10; rw [HY.out]; go_must (refine (HMY.out.accept xa xb hk (by omega) (by omega) (by omega) HQa HLa).mono ?_); rintro e w4 ⟨rfl, ht4, hot⟩; go_must (have HM4 := keepG ht4; have HpO := keepG (hot _ _ _ (by decide) (by decide) (by decide) HpY.out); have HpC := keepG (hot _ _ _ (by decide) (by decide) (by decide) hpY.out); have o2 := HpO.out.cell (j := 2) rfl; have o3 := HpO.out.cell (j := 3) rfl; have c4 := HpC.out.cell (j := 4) rfl; clear ht4 hot))
                | (have HMt := HM4; (go_at_call 19; skip; go_must (refine (HMt.out.counts hk2 (by omega) (show Hid _ from HC2.out.eq)).mono ?_); rintro e w7 ⟨rfl, hb7⟩; go_must (obtain ⟨U, HU, hbU, hpU⟩ := cnt_box w7 (r.all.length : Int) RF2 T2 D2 (Wl.length : Int); have HM8 := keepG ((HMt.out.below hb7).below hbU); have u0 := hpU.out.cell (j := 0) rfl; have u2 := hpU.out.cell (j := 2) rfl; have u3 := hpU.out.cell (j := 3) rfl; have u4 := hpU.out.cell (j := 4) rfl; rw [← HU.out] at u0 u2 u3 u4))))
              rw [HU.out]
              first
                | (go_roundw
                   case rel => exact ⟨j + 1, by omega, by go_num, r', by rw [hall2], by rw [hcl2]; try rw [hcl], by rw [hall2, hwt2]; exact HM8.out, hk2, by omega, by omega, hroom2⟩
                   case measure => simp [intOf]; omega)
                | exact ⟨⟨j + 1, by omega, by go_num, r', by rw [hall2], by rw [hcl2]; try rw [hcl], by rw [hall2, hwt2]; exact HM8.out, hk2, by omega, by omega, hroom2⟩, by simp [intOf]; omega⟩
            · obtain ⟨Wl, HWL⟩ : ∃ Wl, Hid (r.waits = Wl) := ⟨_, rfl⟩
              obtain ⟨r', hr'⟩ : ∃ r', r' = ({ r with all := r.all ++ [⟨(r.all.length : Int) + 1, xa, xb⟩] } : Rg) := ⟨_, rfl⟩
              have hacc : r.accept xa xb ((r.all.length : Int) + 1) = ((r.all.length : Int) + 1, 0, r') := by rw [hr']; exact hk.accept_yes hcl hfl _ _ _
              have hk2 : r'.Ok := by have := hk.accept xa xb ((r.all.length : Int) + 1); rw [hacc] at this; exact this
              have hall2 : r'.all.length = r.all.length + 1 := by rw [hr']; simp
              have href2 : r'.refused = r.refused := by rw [hr']
              have hroom2 : r'.room = n := by rw [hr']; exact hroom
              have hcl2 : r'.closed = r.closed := by rw [hr']
              have hwt2 : r'.waits = Wl ++ [⟨(r.all.length : Int) + 1, xa, xb⟩] := by rw [hr', hk.waits_more hcl, HWL.out]
              have hQn : ¬ Qd = (n : Int) := by have := HQQ.out; omega
              have hWl : Wl.length ≤ 16 := by have := hk.waits_le; rw [HWL.out] at this; omega
              rw [HWL.out] at HM HMX ⊢
              simp only [HWL.out] at hlc
              have hw5 : IntKind.i64.wrap ((r.all.length : Int) + 1 + 1) = (r.all.length : Int) + 1 + 1 := by rw [IntKind.wrap_i64]; omega
              have hw6 : IntKind.i64.wrap ((r.all.length : Int) + 1 + 1 - 1) = (r.all.length : Int) + 1 := by rw [IntKind.wrap_i64]; omega
              clear hfl
              have HQa : Hid (r.accept xa xb ((r.all.length : Int) + 1) = ((r.all.length : Int) + 1, 0, r')) := hacc
              have HLa : Hid ((if (0 : Int) = 0 then (r.all.length : Int) + 1 else r.all.length) = (r.all.length : Int) + 1) := rfl
              clear hacc
              obtain ⟨RF2, T2, D2, hcq2⟩ := hk2.cq (by omega)
              rw [hall2, hwt2] at hcq2
              rw [show (((Wl ++ [(⟨(r.all.length : Int) + 1, xa, xb⟩ : Qe)]).length : Nat) : Int) = (Wl.length : Int) + 1 by simp, show ((r.all.length + 1 : Nat) : Int) = (r.all.length : Int) + 1 by omega] at hcq2
              have HC2 := keepG hcq2
              have hw1 : IntKind.i64.wrap (T2 + D2) = T2 + D2 := by have := hcq2.s0; rw [IntKind.wrap_i64]; omega
              have hw2 : IntKind.i64.wrap (T2 + D2 + ((Wl.length : Int) + 1)) = ((r.all.length : Int) + 1) := by have := hcq2.s0; have := hcq2.sum; rw [IntKind.wrap_i64]; omega
              have hw3 : IntKind.i64.wrap (((r.all.length : Int) + 1)) = ((r.all.length : Int) + 1) := by rw [IntKind.wrap_i64]; omega
              have hQn2 : ¬ (n : Int) < ((Wl.length : Int) + 1) := by have := hcq2.rm; omega
              clear hcq2
              go_wp2_with (first
                | (go_at_call 19; have hq := pre; clear hq; rw [HX.out]; go_must (refine (HMX.out.counts hk (by omega) (show Hid _ from HCQ.out.eq)).mono ?_); rintro e w3 ⟨rfl, hb3⟩; go_must (have HM3 := keepG (HMX.out.below hb3); have Hp3 := keepG (hpX.out.below hb3 hpX.out.lt); obtain ⟨Y, HY, hbY, hpY⟩ := cnt_box w3 A RF T D Qd; have HMY := keepG (HM3.out.below hbY); have HpY := keepG (Hp3.out.below hbY Hp3.out.lt); have y0 := HpY.out.cell (j := 0) rfl; have y2 := HpY.out.cell (j := 2) rfl; have y3 := HpY.out.cell (j := 3) rfl; rw [← HY.out] at y0 y2 y3; clear pre))
                | (go_at_call 10; rw [HY.out]; go_must (refine (HMY.out.accept xa xb hk (by omega) (by omega) (by omega) HQa HLa).mono ?_); rintro e w4 ⟨rfl, ht4, hot⟩; go_must (have HM4 := keepG ht4; have HpO := keepG (hot _ _ _ (by decide) (by decide) (by decide) HpY.out); have HpC := keepG (hot _ _ _ (by decide) (by decide) (by decide) hpY.out); have o2 := HpO.out.cell (j := 2) rfl; have o3 := HpO.out.cell (j := 3) rfl; have c4 := HpC.out.cell (j := 4) rfl; clear ht4 hot))
                | (at_builtin; go_must (refine wpList_append_cut _ rfl (.tmp 84) (.tmp 89) 50 rfl w.heap.size 46 i0 _ 3 24 Try.underlying50 hi0 hz0 hzs hzb rfl (by decide) (.slice la Wl.length lc) Wl.length (flatG qeC Wl) rfl (HM4.out.below (below_allocG _ _)).ln ⟨_, 0, none⟩ 1 1 (qeC ⟨(r.all.length : Int) + 1, xa, xb⟩) rfl rfl (cells_new _ (qeC ⟨(r.all.length : Int) + 1, xa, xb⟩) _ _ rfl) (qe_one _) (by unfold maxLen; omega) (by omega) (HM4.out.below (below_allocG _ _)).be.size (by omega) ?_); intro v6 w6 hct hch hbk; go_must (have HMt := keepG (Rc.line (L' := Wl ++ [⟨(r.all.length : Int) + 1, xa, xb⟩]) (HM4.out.below (below_allocG _ _)) hch (hbk.imp id (fun e => ⟨_, e, Nat.le_refl _⟩)) (by rw [flatG_more, List.length_append]; exact hct)); obtain ⟨va6, vc6, ev6, _, _⟩ := hct.shape; subst ev6; clear hct hch hbk))
                | (go_at_call 19; skip; go_must (refine (HMt.out.counts hk2 (by omega) (show Hid _ from HC2.out.eq)).mono ?_); rintro e w7 ⟨rfl, hb7⟩; go_must (obtain ⟨U, HU, hbU, hpU⟩ := cnt_box w7 ((r.all.length : Int) + 1) RF2 T2 D2 ((Wl.length : Int) + 1); have HM8 := keepG ((HMt.out.below hb7).below hbU); have u0 := hpU.out.cell (j := 0) rfl; have u2 := hpU.out.cell (j := 2) rfl; have u3 := hpU.out.cell (j := 3) rfl; have u4 := hpU.out.cell (j := 4) rfl; rw [← HU.out] at u0 u2 u3 u4)))
              rw [HU.out]
              first
                | (go_roundw
                   case rel => exact ⟨j + 1, by omega, by go_num, r', by rw [hall2]; exact congrArg (Value.int .i64) (by omega), by rw [hcl2]; try rw [hcl], by rw [hall2, hwt2, show ((r.all.length + 1 : Nat) : Int) = (r.all.length : Int) + 1 by omega]; exact HM8.out, hk2, by omega, by omega, hroom2⟩
                   case measure => simp [intOf]; omega)
                | exact ⟨⟨j + 1, by omega, by go_num, r', by rw [hall2]; exact congrArg (Value.int .i64) (by omega), by rw [hcl2]; try rw [hcl], by rw [hall2, hwt2, show ((r.all.length + 1 : Nat) : Int) = (r.all.length : Int) + 1 by omega]; exact HM8.out, hk2, by omega, by omega, hroom2⟩, by simp [intOf]; omega⟩
    · have hltI : ¬ (j : Int) < is.length := by omega
      obtain ⟨Wl, HWL⟩ : ∃ Wl, Hid (r.waits = Wl) := ⟨_, rfl⟩
      rw [HWL.out] at HM ⊢
      simp only [HWL.out] at hlc
      go_wp2_with (first
        | (go_at_call 17; go_must (refine (HM.out.waits hk HWL).mono ?_); rintro e w4 ⟨u, rfl, hu4, hb4⟩; go_must (have HM4 := keepG (HM.out.below hb4); have HU4 := keepG (own_seesG qeC_len Qe.nil hu4); clear hu4))
        | (go_at_call 14; go_must (refine (wqueued16 HU4.out HM4.out.sees).mono ?_); rintro e w5 ⟨rfl, m5, rfl⟩; go_must (have HM5 := keepG (HM4.out.drewN m5))))
      go_ret
      exact ⟨rfl, HM5.out.be⟩
/-- RingCounts. -/
theorem ringCounts_walk (n : Int) (sv : Value) (is : List Oc) (w : World) {P0 : Prop} (_ : P0) (hs : SeesG ocC 4 Oc.nil w sv is) (hlen : is.length * 32 ≤ 140737488351232) :
    Calls Try.prog 4 #[.int .i64 n, sv] w fun e w' => e = .returned (.bool true) ∧ Below w.heap.size w w' := by
  by_cases h : n < 1 ∨ 16 < n
  · exact ringCounts_no n sv w h
  · obtain ⟨m, rfl⟩ : ∃ m : Nat, n = m := ⟨n.toNat, by omega⟩
    exact ringCounts_ok m (by omega) (by omega) sv is w hs (by omega)
end Go.Proofs.Ythcdfknadcdfkaa
