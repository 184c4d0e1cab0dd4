
/-
  The document's LRU of layer 14: Do, a way a theorem. Condition: it lies where the pointer says, its rows are the call's own.
-/
import Derived.Test.YtpbfgebecgikjaaTk
import Derived.Test.YtpbfgebecgikjaaL14Do
namespace Go.Proofs.Ytpbfgebecgikjaa
open Go.RowKit
set_option linter.unusedVariables false
set_option linter.unusedSimpArgs false
set_option maxRecDepth 100000

section
variable {w : World} {B l b cap : Nat} {vd vk vw : Value} {D : List Pp} {kt : List Kp} {c : Int}
set_option maxHeartbeats 6400000 in
theorem rldo_add_full (key val : Int) (h : Rl w B l b cap vd vk vw D kt c) (hl : D.length ≤ 1000) (hk : kt.length ≤ 4000) (hc0 : 0 ≤ c ∧ c ≤ 4000) (hB : B ≤ w.heap.size) (hh : hasP key D = false) (hr : D.length = cap) (hk0 : 0 < kt.length) (htm : ∀ j, j < kt.length → (kt.getD 0 Kp.nil).t ≤ (kt.getD j Kp.nil).t) {k0 u0 : Int} {D1 : List Pp} {kt1 : List Kp} {R : Rp × List Pp} (H0 : Hid ((kt.getD 0 Kp.nil).k = k0)) (HU : Hid (valP k0 D = u0)) (HD1 : Hid (D.eraseIdx (posP k0 D) = D1)) (HK1 : Hid (forgetT k0 kt = kt1)) (HRR : Hid (doP cap D1 4 key val = R)) :
    Calls Try.prog 36 #[.pointer (some ⟨l, 0, none⟩), .int .i64 4, .int .u64 key, .int .u64 val] w fun e w' => e = .returned (resG R.1.E R.1.f R.1.v true k0 u0) ∧ RlNext w B l b cap vd vk vw R.2 (forgetT key kt1 ++ [(⟨key, c + 1⟩ : Kp)]) (c + 1) w' := by
  obtain ⟨X, HX, HrX, hbX, hzX⟩ := boxRG w
  have HH := keepG h
  have HL := keepG (h.below hbX)
  have hll := h.hp.lt
  have hbl := h.bk.hp.lt
  have hXs := hbX.size
  have c0 := HL.out.hp.cell (j := 0) rfl
  obtain ⟨i0, hi0, hz0, hzs, hzb⟩ := info_parts infoU64
  obtain ⟨j0, hj0, hy0, hys, hyb⟩ := info_parts infoI64
  have hfl := forget_le key kt1
  have hcw : IntKind.i64.wrap (c + 1) = c + 1 := by rw [IntKind.wrap_i64]; omega
  have heq : ((D.length : Int) == (cap : Int)) = true := by simp; omega
  have hfl1 := forget_le k0 kt
  clear h
  go_enter Try.func36, Try.ntmps36
  go_wp2_with (first
    | (rw [HX.out])
    | (go_at_call 37; go_must (refine (HL.out.bdo 1 key 0 hl (by omega)).mono ?_); rintro e w1 ⟨rfl, hn1, hk1⟩; rw [doP1] at hn1 ⊢; go_must (obtain ⟨vd1, vk1, vw1, r1, q1, s1⟩ := hn1; have HR1 := keepG r1; have HT1 : Hid (StepR X w1 l b vd vk vw vd1 vk1 vw1) := ⟨q1, s1, hk1⟩; have HrA := keepG (hk1 _ _ HrX.out); have hz1 := q1.size; clear r1 q1 s1 hk1; obtain ⟨O, HO, hbO, HoO⟩ : ∃ O, Hid (w1.alloc (.cells #[.int .i64 0, .bool false, .int .u64 0, .bool false, .int .u64 0, .int .u64 0] 47) = O) ∧ Below w1.heap.size w1 O ∧ Hid (Hp O w1.heap.size 47 (resCG 0 false 0 false 0 0)) := ⟨_, rfl, below_allocG _ _, Hp.new w1 (resCG 0 false 0 false 0 0) _⟩; have HRO := keepG (HR1.out.below hbO); have HrO := keepG (HrA.out.below hbO HrA.out.lt); have hzO := hbO.size; have b0 := HRO.out.hp.cell (j := 0) rfl; obtain ⟨da, dc, hvd⟩ := own_shape HRO.out.bk.row; have b1 : O.cell? ⟨b, 1, none⟩ = some (.slice da D.length dc) := (by rw [← hvd]; exact HRO.out.bk.hp.cell (j := 1) rfl); have b2 := HRO.out.bk.hp.cell (j := 0) rfl; clear hvd))
    | (rw [run_fieldF1])
    | (rw [HO.out]))
  refine wp_region_held_drew (S := fun w' => w'.cell? ⟨l, 0, none⟩ = some (.pointer (some ⟨b, 0, none⟩)) ∧ w'.cell? ⟨b, 1, none⟩ = some (.slice da D.length dc) ∧ w'.cell? ⟨b, 0, none⟩ = some (.int .i64 cap)) (by kernel_rfl) ⟨b0, b1, b2⟩ (fun hHeld => ?_)
  refine tkGo [0, 1, 2, 3, 4, 5, 6, 7, 8, 9, 10, 11, 12, 13, 14, 15, 16, 17, 18, 19, 20, 21, 22, 23, 24, 25, 26, 27] ?_
  repeat (refine tkOne (v := ?_) rfl (by kernel_rfl) (by kernel_rfl) (by kernel_rfl) (fun _ _ _ h => h) (by assumption) (by rfl) ?_ ?_; rotate_left; (intro wy hSw; (try dsimp only at hSw); go_simp; (first | done | with_reducible rfl)); try simp only [Act.put, List.getElem_toArray, List.getElem_cons_zero, List.getElem_cons_succ, List.setIfInBounds_toArray, List.set_cons_zero, List.set_cons_succ])
  refine tkEnd ?_
  refine wpAnyH_done (by kernel_rfl) ?_ _
  have hl1 : D1.length ≤ 1000 := by rw [← HD1.out]; have := List.length_eraseIdx_le D (posP k0 D); omega
  have hk1l : kt1.length ≤ 4000 := by rw [← HK1.out]; omega
  go_wp2
  obtain ⟨xa1, xc1, hvk⟩ := own_shape HRO.out.ks
  obtain ⟨ya1, yc1, hvw⟩ := own_shape HRO.out.ws
  subst hvk
  subst hvw
  go_loopw [11, 12] (fun ov i wr => ov = .int .i64 0 ∧ ∃ j : Nat, j ≤ kt.length ∧ i = .int .i64 j ∧ ∃ m, wr = O.drewN m) (fun _ i _ => kt.length - (intOf i).toNat)
  case atStart => exact ⟨rfl, 0, by omega, rfl, 1, rfl⟩
  case round =>
    obtain ⟨rfl, j, hj, rfl, m, rfl⟩ := hrel
    have l1 := HRO.out.hp.cell (j := 1) rfl
    have l2 := HRO.out.hp.cell (j := 2) rfl
    obtain ⟨gw, c2, ev, _, _, _, hcm2, hat⟩ := own_atG tC_len Kp.nil HRO.out.ws hk0
    simp only [Value.slice.injEq, true_and] at ev
    obtain ⟨rfl, rfl⟩ := ev
    obtain ⟨gk, c3, ev, _, _, _, hcm3, hat3⟩ := own_atG kC_len Kp.nil HRO.out.ks hk0
    simp only [Value.slice.injEq, true_and] at ev
    obtain ⟨rfl, rfl⟩ := ev
    have hk0I : (0 : Int) < kt.length := by omega
    by_cases hlt : j < kt.length
    · have hltI : (j : Int) < kt.length := by omega
      have d0 := (hat 0 hk0 0 (by omega)).1
      have dj := (hat j hlt 0 (by omega)).1
      simp only [List.getElem?_cons_zero, Nat.add_zero, Nat.mul_one, Nat.zero_mul] at d0 dj
      have hle := htm j hlt
      generalize (kt.getD 0 Kp.nil).t = t0 at d0 hle
      generalize (kt.getD j Kp.nil).t = tj at dj hle
      have hnl : ¬ tj < t0 := by omega
      clear hat hat3
      go_wp2
      refine wp_region_held_drew (S := fun w' => w'.cell? ⟨l, 2, none⟩ = some (.slice (some ⟨gw, 0, none⟩) kt.length yc1) ∧ w'.cell? ⟨gw, j, none⟩ = some (.int .i64 tj) ∧ w'.cell? ⟨gw, 0, none⟩ = some (.int .i64 t0)) (by kernel_rfl) ⟨l2, dj, d0⟩ (fun hHeld => ?_)
      refine tkGo [0, 1, 2, 3, 4, 5, 6, 7, 8, 9, 10, 11, 12, 13, 14] ?_
      repeat (refine tkOne (v := ?_) rfl (by kernel_rfl) (by kernel_rfl) (by kernel_rfl) (fun _ _ _ h => h) (by assumption) (by rfl) ?_ ?_; rotate_left; (intro wy hSw; (try dsimp only at hSw); go_simp; (first | done | with_reducible rfl)); try simp only [Act.put, List.getElem_toArray, List.getElem_cons_zero, List.getElem_cons_succ, List.setIfInBounds_toArray, List.set_cons_zero, List.set_cons_succ])
      refine tkEnd ?_
      refine wpAnyH_done (by kernel_rfl) ?_ _
      go_wp2
      go_roundw
      case rel => exact ⟨rfl, j + 1, by omega, by go_num, m + 1, rfl⟩
      case measure => simp [intOf]; omega
    · have hltI : ¬ (j : Int) < kt.length := by omega
      have e0 := (hat3 0 hk0 0 (by omega)).1
      simp only [List.getElem?_cons_zero, Nat.add_zero, Nat.mul_one, Nat.zero_mul] at e0
      rw [H0.out] at e0
      clear hat hat3
      have v3 := HoO.out.cell (j := 3) rfl
      have vf3 := HoO.out.frozen 3
      have hXw1 : X.heap.size ≤ w1.heap.size := HT1.out.1.size
      obtain ⟨O3, HO3, HRO3, HoO3, HrO3, hcO3⟩ : ∃ O3, Hid ((O.drewN m).setCell ⟨w1.heap.size, 3, none⟩ (.bool true) = O3) ∧ Hid (Rl O3 B l b cap vd1 (.slice (some ⟨gk, 0, none⟩) kt.length xc1) (.slice (some ⟨gw, 0, none⟩) kt.length yc1) D kt c) ∧ Hid (Hp O3 w1.heap.size 47 (resCG 0 false 0 true 0 0)) ∧ Hid (Hp O3 w.heap.size 47 (resCG 0 false 0 false 0 0)) ∧ Hid (Chg O O3 (fun k => k = w1.heap.size)) := by
        have hb : Below O.heap.size O (O.drewN m) := ⟨rfl, rfl, rfl, Nat.le_refl _, fun _ _ => rfl⟩
        have hc : Chg (O.drewN m) ((O.drewN m).setCell ⟨w1.heap.size, 3, none⟩ (.bool true)) (fun k => k = w1.heap.size) := Chg.set _ _ _ _
        exact ⟨_, rfl, (HRO.out.below hb).chg hc (fun k hk e => by have := HR1.out.foot hk; omega), (HoO.out.below hb HoO.out.lt).set 3 _, (HrO.out.below hb HrO.out.lt).chg hc (fun e => by omega), ⟨hc.os, hc.tape, hc.output, hc.size, hc.block⟩⟩
      have l13 := HRO3.out.hp.cell (j := 1) rfl
      have e03 : O3.cell? ⟨gk, 0, none⟩ = some (.int .u64 k0) := by
        obtain ⟨g9, c9, ev9, _, _, _, _, hat9⟩ := own_atG kC_len Kp.nil HRO3.out.ks hk0
        simp only [Value.slice.injEq, Option.some.injEq, Addr.mk.injEq, true_and, and_true] at ev9
        obtain ⟨rfl, rfl⟩ := ev9
        have := (hat9 0 hk0 0 (by omega)).1
        simp only [List.getElem?_cons_zero, Nat.add_zero, Nat.mul_one, Nat.zero_mul] at this
        rw [H0.out] at this
        exact this
      have v4 := HoO3.out.cell (j := 4) rfl
      have vf4 := HoO3.out.frozen 4
      obtain ⟨O4, HO4, HRO4, HoO4, HrO4, hcO4⟩ : ∃ O4, Hid (O3.setCell ⟨w1.heap.size, 4, none⟩ (.int .u64 k0) = O4) ∧ Hid (Rl O4 B l b cap vd1 (.slice (some ⟨gk, 0, none⟩) kt.length xc1) (.slice (some ⟨gw, 0, none⟩) kt.length yc1) D kt c) ∧ Hid (Hp O4 w1.heap.size 47 (resCG 0 false 0 true k0 0)) ∧ Hid (Hp O4 w.heap.size 47 (resCG 0 false 0 false 0 0)) ∧ Hid (Chg O3 O4 (fun k => k = w1.heap.size)) := by
        have hc : Chg O3 (O3.setCell ⟨w1.heap.size, 4, none⟩ (.int .u64 k0)) (fun k => k = w1.heap.size) := Chg.set _ _ _ _
        exact ⟨_, rfl, HRO3.out.chg hc (fun k hk e => by have := HR1.out.foot hk; omega), HoO3.out.set 4 _, HrO3.out.chg hc (fun e => by omega), hc⟩
      have HTO4 := keepG (((HT1.out.trans (StepR.below hbO)).write hcO3.out hXw1).write hcO4.out hXw1)
      have hzO3 := hcO3.out.size
      have hzO4 := hcO4.out.size
      have z0 := HRO4.out.hp.cell (j := 0) rfl
      have z4 := HoO4.out.cell (j := 4) rfl
      go_wp2_with (first
        | (rw [HO3.out])
        | (rw [HO4.out]))
      refine wp_region_held_drew (S := fun w' => w'.cell? ⟨l, 0, none⟩ = some (.pointer (some ⟨b, 0, none⟩)) ∧ w'.cell? ⟨w1.heap.size, 4, none⟩ = some (.int .u64 k0)) (by kernel_rfl) ⟨z0, z4⟩ (fun hHeld => ?_)
      refine tkGo [0, 1, 2, 3, 4, 5] ?_
      repeat (refine tkOne (v := ?_) rfl (by kernel_rfl) (by kernel_rfl) (by kernel_rfl) (fun _ _ _ h => h) (by assumption) (by rfl) ?_ ?_; rotate_left; (intro wy hSw; (try dsimp only at hSw); go_simp; (first | done | with_reducible rfl)); try simp only [Act.put, List.getElem_toArray, List.getElem_cons_zero, List.getElem_cons_succ, List.setIfInBounds_toArray, List.set_cons_zero, List.set_cons_succ])
      refine tkEnd ?_
      refine wpAnyH_ready (rs := [6]) (by kernel_rfl) (by simp) ?_
      refine AllReadyH.cons rfl (fun KK hK => ?_) AllReadyH.nil
      rw [if_pos (by rfl)]
      go_simp
      go_at_call 37
      refine (HRO4.out.drew.bdo 3 k0 0 hl (show B ≤ O4.heap.size by omega)).mono ?_
      rintro e w5 ⟨rfl, hn5, hk5⟩
      rw [doP3, HU.out, HD1.out] at hn5 ⊢
      obtain ⟨vd5, vk5, vw5, r5, q5, s5⟩ := hn5
      have HR5 := keepG r5
      have HTO5 := keepG (HTO4.out.trans (StepR.undrew ⟨q5, s5, hk5⟩))
      have HoO5 := keepG (hk5 _ _ HoO4.out.drew)
      have HrO5 := keepG (hk5 _ _ HrO4.out.drew)
      have hz5 : O4.heap.size ≤ w5.heap.size := q5.size
      have hft5 : ¬ footR l b vd5 vk5 vw5 w1.heap.size := fun hk => by
        rcases s5 _ hk with q | q
        · have := HR1.out.foot q
          omega
        · have q' : O4.heap.size ≤ w1.heap.size := q
          have := HoO4.out.lt
          omega
      clear r5 q5 s5 hk5
      go_simp
      refine hK.out _ _ ⟨HR5.out.hp.cell (j := 0) rfl, HoO5.out.cell (j := 4) rfl⟩ (fun hHeld => ?_)
      clear hK KK
      try simp only [Act.put, List.getElem_toArray, List.getElem_cons_zero, List.getElem_cons_succ, List.setIfInBounds_toArray, List.set_cons_zero, List.set_cons_succ]
      refine wpAnyH_take (i := 7) (v := .int .u64 u0) rfl (by kernel_rfl) (by kernel_rfl) (by kernel_rfl) (fun _ _ _ h => h) (Or.inl ⟨by rfl, fun wy hSw => ?_⟩) (by assumption) ?_
      · first
          | (go_simp; done)
          | (go_simp; rw [run_fieldF2]; rfl)
      try simp only [Act.put, List.getElem_toArray, List.getElem_cons_zero, List.getElem_cons_succ, List.setIfInBounds_toArray, List.set_cons_zero, List.set_cons_succ]
      have v5 := HoO5.out.cell (j := 5) rfl
      have vf5 := HoO5.out.frozen 5
      refine tkGo [8] ?_
      repeat (refine tkOne (v := ?_) rfl (by kernel_rfl) (by kernel_rfl) (by kernel_rfl) (fun _ _ _ h => h) (by assumption) (by rfl) ?_ ?_; rotate_left; (intro wy hSw; (try dsimp only at hSw); go_simp; (first | done | with_reducible rfl)); try simp only [Act.put, List.getElem_toArray, List.getElem_cons_zero, List.getElem_cons_succ, List.setIfInBounds_toArray, List.set_cons_zero, List.set_cons_succ])
      refine tkEnd ?_
      refine wpAnyH_ready (rs := [9]) (by kernel_rfl) (by simp) ?_
      refine AllReadyH.cons rfl (fun KK hK => ?_) AllReadyH.nil
      rw [if_pos (by rfl)]
      go_simp
      obtain ⟨O6, HO6, HRO6, HoO6, HrO6, hcO6⟩ : ∃ O6, Hid (w5.setCell ⟨w1.heap.size, 5, none⟩ (.int .u64 u0) = O6) ∧ Hid (Rl O6 B l b cap vd5 vk5 vw5 D1 kt c) ∧ Hid (Hp O6 w1.heap.size 47 (resCG 0 false 0 true k0 u0)) ∧ Hid (Hp O6 w.heap.size 47 (resCG 0 false 0 false 0 0)) ∧ Hid (Chg w5 O6 (fun k => k = w1.heap.size)) := by
        have hc : Chg w5 (w5.setCell ⟨w1.heap.size, 5, none⟩ (.int .u64 u0)) (fun k => k = w1.heap.size) := Chg.set _ _ _ _
        exact ⟨_, rfl, HR5.out.chg hc (fun k hk e => hft5 (by rw [← e]; exact hk)), HoO5.out.set 5 _, HrO5.out.chg hc (fun e => by omega), hc⟩
      rw [HO6.out]
      refine hK.out _ _ ⟨HRO6.out.hp.cell (j := 0) rfl, HoO6.out.cell (j := 4) rfl⟩ (fun hHeld => ?_)
      clear hK KK
      try simp only [Act.put, List.getElem_toArray, List.getElem_cons_zero, List.getElem_cons_succ, List.setIfInBounds_toArray, List.set_cons_zero, List.set_cons_succ]
      refine wpAnyH_done (by kernel_rfl) ?_ _
      have HTO6 := keepG (HTO5.out.write hcO6.out hXw1)
      have hzO6 := hcO6.out.size
      have w4c := HoO6.out.cell (j := 4) rfl
      clear v3 vf3 v4 vf4 v5 vf5 z0 z4 l13 e03 l1 l2 e0 b0 b1 b2
      go_wp2_with (first
        | (go_at_call 37; (have hq := HTE; clear hq); go_must (refine (HRE.out.bdo 4 key val hl1 (show B ≤ wE.heap.size by omega)).mono ?_); rintro e w2 ⟨rfl, hn2, hk2⟩; rw [HRR.out] at hn2 ⊢; go_must (obtain ⟨vd2, vk2, vw2, r2, q2, s2⟩ := hn2; have HR2 := keepG r2; have HT2 : Hid (StepR wE w2 l b vdE vkE vwE vd2 vk2 vw2) := ⟨q2, s2, hk2⟩; have HrB := keepG (hk2 _ _ HrE.out); have HoB := keepG (hk2 _ _ HoE.out); have hz2 : wE.heap.size ≤ w2.heap.size := q2.size; clear r2 q2 s2 hk2; obtain ⟨P, Q, HP, HpP, HQ, HpQ, hbP, hbQ⟩ := boxOut (w2 := w2) (E := R.1.E) (f := R.1.f) (v := R.1.v) rfl true k0 u0; have HoP := HoB.out.below hbP HoB.out.lt; have o3 := HoP.cell (j := 3) rfl; have o4 := HoP.cell (j := 4) rfl; have o5 := HoP.cell (j := 5) rfl; have p3 := HpP.out.cell (j := 3) rfl; have g3 := HpP.out.frozen 3; have p4 := HpP.out.cell (j := 4) rfl; have g4 := HpP.out.frozen 4; have p5 := HpP.out.cell (j := 5) rfl; have g5 := HpP.out.frozen 5; have hzQ := hbQ.size; have HRQ := keepG (HR2.out.below hbQ); have HTQ : Hid (StepR X Q l b vd vk vw vd2 vk2 vw2) := HTE.out.trans (HT2.out.trans (StepR.below hbQ)); have HrQ := keepG (HrB.out.below hbQ HrB.out.lt); have hq1 := HoB.out.lt; have nz1 : ¬ w1.heap.size = w2.heap.size := Nat.ne_of_lt hq1; have nz2 : ¬ w2.heap.size = w1.heap.size := (Nat.ne_of_lt hq1).symm; clear HoP))
        | (rw [HP.out])
        | (rw [HQ.out]; have x0 := HrQ.out.cell (j := 0) rfl; have f0 := HrQ.out.frozen 0; have x1 := HrQ.out.cell (j := 1) rfl; have f1 := HrQ.out.frozen 1; have x2 := HrQ.out.cell (j := 2) rfl; have f2 := HrQ.out.frozen 2; have x3 := HrQ.out.cell (j := 3) rfl; have f3 := HrQ.out.frozen 3; have x4 := HrQ.out.cell (j := 4) rfl; have f4 := HrQ.out.frozen 4; have x5 := HrQ.out.cell (j := 5) rfl; have f5 := HrQ.out.frozen 5; have y0 := HpQ.out.cell (j := 0) rfl; have y1 := HpQ.out.cell (j := 1) rfl; have y2 := HpQ.out.cell (j := 2) rfl; have y3 := HpQ.out.cell (j := 3) rfl; have y4 := HpQ.out.cell (j := 4) rfl; have y5 := HpQ.out.cell (j := 5) rfl)
        | (go_at_call 40; (have hq := HTQ; clear hq); go_must (refine (rforget_any key HRQ.out (by omega) (by have h9 := hbQ.size; omega)).mono ?_); rintro e w3 ⟨rfl, hn3, hk3⟩; go_must (obtain ⟨vd3, vk3, vw3, r3, q3, s3⟩ := hn3; have HR3 := keepG r3; have HT3 : Hid (StepR Q w3 l b vd2 vk2 vw2 vd3 vk3 vw3) := ⟨q3, s3, hk3⟩; have l3 := r3.hp.cell (j := 3) rfl; have lf3 := r3.hp.frozen 3; have hz3 := q3.size; clear r3 q3 s3 hk3; obtain ⟨K, HK, HK2, HKS⟩ : ∃ K, Hid (w3.setCell ⟨l, 3, none⟩ (.int .i64 (c + 1)) = K) ∧ Hid (Rl2 K B l b cap vd3 vk3 vw3 R.2 (forgetT key kt1) (forgetT key kt1) (c + 1)) ∧ Hid (StepR w3 K l b vd3 vk3 vw3 vd3 vk3 vw3) := ⟨_, rfl, (HR3.out.two.clock (c + 1)).1, (HR3.out.two.clock (c + 1)).2⟩; obtain ⟨xa3, xc3, rfl⟩ := own_shape HK2.out.ks; obtain ⟨ya3, yc3, rfl⟩ := own_shape HK2.out.ws))
        | (rw [HK.out]; have k1 := HK2.out.hp.cell (j := 1) rfl; have hzK := HKS.out.1.size)
        | (at_builtin; go_must (refine wpList_append_own_at _ rfl (.tmp 140) (.tmp 142) 94 rfl B 41 i0 _ 1 8 Try.underlying94 hi0 hz0 hzs hzb rfl (by decide) (.slice xa3 (forgetT key kt1).length xc3) (forgetT key kt1).length (flatG kC (forgetT key kt1)) rfl (HK2.out.ks.alloc _) ⟨_, 0, none⟩ 1 1 (kC ⟨key, c + 1⟩) rfl rfl (cells_new K (kC ⟨key, c + 1⟩) _ _ rfl) (kC_one ⟨key, c + 1⟩) (by unfold maxLen; omega) (by omega) (by simp; omega) ?_); intro v5 w5 hown5 hgr5 _ hnew5; go_must (have h5 := HK2.out.keys hgr5 (own_moreG (x := ⟨key, c + 1⟩) hown5) hnew5 (by simp); obtain ⟨ra5, rc5, rfl⟩ := own_shape hown5; have HF5 := HK2.out.hp.chg (chg_append hgr5) (own_type10 HK2.out.ks HK2.out.hp (by decide)); have m1 := HF5.cell (j := 1) rfl; have mf1 := HF5.frozen 1; obtain ⟨K5, HK5, HR5, HT5⟩ : ∃ K5, Hid (w5.setCell ⟨l, 1, none⟩ (.slice ra5 ((forgetT key kt1).length + 1) rc5) = K5) ∧ Hid (Rl2 K5 B l b cap vd3 (.slice ra5 ((forgetT key kt1).length + 1) rc5) (.slice ya3 (forgetT key kt1).length yc3) R.2 (forgetT key kt1 ++ [(⟨key, c + 1⟩ : Kp)]) (forgetT key kt1) (c + 1)) ∧ Hid (StepR K K5 l b vd3 (.slice xa3 (forgetT key kt1).length xc3) (.slice ya3 (forgetT key kt1).length yc3) vd3 (.slice ra5 ((forgetT key kt1).length + 1) rc5) (.slice ya3 (forgetT key kt1).length yc3)) := ⟨_, rfl, h5.1, h5.2⟩; have hz5 := HT5.out.1.size; have n3 := HR5.out.hp.cell (j := 3) rfl; have n2 := HR5.out.hp.cell (j := 2) rfl; clear hown5 hgr5 hnew5 h5 HF5 k1))
        | (rw [HK5.out]; clear m1 mf1)
        | (go_at_call 40; go_must (refine (rforget_any k0 HRO6.out (by omega) (show B ≤ O6.heap.size by omega)).mono ?_); rintro e wE ⟨rfl, hnE, hkE⟩; rw [HK1.out] at hnE; go_must (obtain ⟨vdE, vkE, vwE, rE, qE, sE⟩ := hnE; have HRE := keepG rE; have HTE := keepG (HTO6.out.trans ⟨qE, sE, hkE⟩); have HrE := keepG (hkE _ _ HrO6.out); have HoE := keepG (hkE _ _ HoO6.out); have hzE : O6.heap.size ≤ wE.heap.size := qE.size; have eb0 := rE.hp.cell (j := 0) rfl; clear rE qE sE hkE w4c)))
      refine wp_region_held_drew (S := fun w' => w'.cell? ⟨l, 3, none⟩ = some (.int .i64 (c + 1))) (by kernel_rfl) n3 (fun hHeld => ?_)
      obtain ⟨Z, HZD, HRZ, HNZ, hzZ⟩ : ∃ Z, Hid ((K5.alloc (.cells #[.int .i64 (c + 1)] 3)).drew = Z) ∧ Hid (Rl2 Z B l b cap vd3 (.slice ra5 ((forgetT key kt1).length + 1) rc5) (.slice ya3 (forgetT key kt1).length yc3) R.2 (forgetT key kt1 ++ [(⟨key, c + 1⟩ : Kp)]) (forgetT key kt1) (c + 1)) ∧ Hid (∀ j u, (tC ⟨key, c + 1⟩)[j]? = some u → Z.cell? ((⟨K5.heap.size, 0, none⟩ : Addr).add j) = some u) ∧ Z.heap.size = K5.heap.size + 1 := ⟨_, rfl, ⟨(HR5.out.hp.alloc _).drew, HR5.out.bk.below (below_drG (below_allocG _ _)), HR5.out.ks.alloc _, HR5.out.ws.alloc _⟩, cells_new K5 (tC ⟨key, c + 1⟩) _ _ rfl, by simp⟩
      have zz3 := HRZ.out.hp.cell (j := 3) rfl
      have zz2 := HRZ.out.hp.cell (j := 2) rfl
      refine tkGo [0, 1, 2, 3, 5, 6, 7, 8] ?_
      repeat (refine tkOne (v := ?_) rfl (by kernel_rfl) (by kernel_rfl) (by kernel_rfl) (fun _ _ _ h => h) (by assumption) (by rfl) ?_ ?_; rotate_left; (intro wy hSw; (try dsimp only at hSw); go_simp; (first | done | with_reducible rfl)); try simp only [Act.put, List.getElem_toArray, List.getElem_cons_zero, List.getElem_cons_succ, List.setIfInBounds_toArray, List.set_cons_zero, List.set_cons_succ])
      refine tkEnd ?_
      refine wpAnyH_ready (rs := [4, 9]) (by kernel_rfl) (by simp) ?_
      refine AllReadyH.cons rfl (fun KK hK => ?_) (AllReadyH.cons rfl (fun KK hK => ?_) AllReadyH.nil) <;> rw [if_pos (by rfl)]
      · go_simp
        refine hK.out _ _ n3 (fun hHeld => ?_)
        clear hK KK
        try simp only [Act.put, List.getElem_toArray, List.getElem_cons_zero, List.getElem_cons_succ, List.setIfInBounds_toArray, List.set_cons_zero, List.set_cons_succ]
        refine wpAnyH_ready (rs := [9]) (by kernel_rfl) (by simp) ?_
        refine AllReadyH.cons rfl (fun KK hK => ?_) AllReadyH.nil
        rw [if_pos (by rfl)]
        go_simp
        rw [HZD.out]
        refine hK.out _ _ zz3 (fun hHeld => ?_)
        clear hK KK
        try simp only [Act.put, List.getElem_toArray, List.getElem_cons_zero, List.getElem_cons_succ, List.setIfInBounds_toArray, List.set_cons_zero, List.set_cons_succ]
        refine wpAnyH_ready (rs := [10]) (by kernel_rfl) (by simp) ?_
        refine AllReadyH.cons rfl (fun KK hK => ?_) AllReadyH.nil
        rw [if_pos (by rfl)]
        obtain ⟨v6, w6, hr6, hown6, hgr6, _, hnew6⟩ := run_append_own_at (P := Try.prog) Z B 66 66 3 j0 _ 1 8 Try.underlying66 hj0 hy0 hys hyb rfl (by decide) (.slice ya3 (forgetT key kt1).length yc3) (forgetT key kt1).length (flatG tC (forgetT key kt1)) HRZ.out.ws ⟨K5.heap.size, 0, none⟩ 1 1 (tC ⟨key, c + 1⟩) rfl HNZ.out (tC_one ⟨key, c + 1⟩) (by unfold maxLen; omega) (by omega) (show B ≤ Z.heap.size by omega)
        refine wp_appG _ (.tmp 150) (.tmp 155) 66 66 rfl _ _ rfl rfl hr6 ?_
        have h6 := HR5.out.whens (w' := w6) (o := .cells #[.int .i64 (c + 1)] 3) (by rw [← HZD.out] at hgr6; exact ⟨hgr6.os, hgr6.tape, hgr6.output, hgr6.size, hgr6.block⟩) (own_moreG (x := ⟨key, c + 1⟩) hown6) hnew6 (by omega)
        obtain ⟨ra6, rc6, rfl⟩ := own_shape hown6
        have HF6 : Hp w6 l 96 _ := HRZ.out.hp.chg (Chg.of_grown' (S := fun k => (Value.slice ya3 (forgetT key kt1).length yc3).ownBlock = some k) hgr6 (fun _ e => e)) (own_type10 HRZ.out.ws HRZ.out.hp (by decide))
        have u3 := HF6.cell (j := 3) rfl
        have u2 := HF6.cell (j := 2) rfl
        have uf2 := HF6.frozen 2
        refine hK.out _ _ u3 (fun hHeld => ?_)
        clear hK KK
        try simp only [Act.put, List.getElem_toArray, List.getElem_cons_zero, List.getElem_cons_succ, List.setIfInBounds_toArray, List.set_cons_zero, List.set_cons_succ]
        refine tkGo [11, 12] ?_
        repeat (refine tkOne (v := ?_) rfl (by kernel_rfl) (by kernel_rfl) (by kernel_rfl) (fun _ _ _ h => h) (by assumption) (by rfl) ?_ ?_; rotate_left; (intro wy hSw; (try dsimp only at hSw); go_simp; (first | done | with_reducible rfl)); try simp only [Act.put, List.getElem_toArray, List.getElem_cons_zero, List.getElem_cons_succ, List.setIfInBounds_toArray, List.set_cons_zero, List.set_cons_succ])
        refine tkEnd ?_
        refine wpAnyH_ready (rs := [13]) (by kernel_rfl) (by simp) ?_
        refine AllReadyH.cons rfl (fun KK hK => ?_) AllReadyH.nil
        rw [if_pos (by rfl)]
        go_simp
        obtain ⟨K6, HK6, HR6, HT6⟩ : ∃ K6, Hid (w6.setCell ⟨l, 2, none⟩ (.slice ra6 ((forgetT key kt1).length + 1) rc6) = K6) ∧ Hid (Rl2 K6 B l b cap vd3 (.slice ra5 ((forgetT key kt1).length + 1) rc5) (.slice ra6 ((forgetT key kt1).length + 1) rc6) R.2 (forgetT key kt1 ++ [(⟨key, c + 1⟩ : Kp)]) (forgetT key kt1 ++ [(⟨key, c + 1⟩ : Kp)]) (c + 1)) ∧ Hid (StepR K5 K6 l b vd3 (.slice ra5 ((forgetT key kt1).length + 1) rc5) (.slice ya3 (forgetT key kt1).length yc3) vd3 (.slice ra5 ((forgetT key kt1).length + 1) rc5) (.slice ra6 ((forgetT key kt1).length + 1) rc6)) := ⟨_, rfl, h6.1, h6.2⟩
        rw [HK6.out]
        refine hK.out _ _ (HR6.out.hp.cell (j := 3) rfl) (fun hHeld => ?_)
        clear hK KK
        try simp only [Act.put, List.getElem_toArray, List.getElem_cons_zero, List.getElem_cons_succ, List.setIfInBounds_toArray, List.set_cons_zero, List.set_cons_succ]
        refine wpAnyH_done (by kernel_rfl) ?_ _
        have HTe : Hid (StepR Q K6 l b vd2 vk2 vw2 vd3 (.slice ra5 ((forgetT key kt1).length + 1) rc5) (.slice ra6 ((forgetT key kt1).length + 1) rc6)) := ((HT3.out.trans HKS.out).trans HT5.out).trans HT6.out
        have HrK := keepG (HTe.out.2.2 _ _ HrQ.out)
        have HpK := keepG (HTe.out.2.2 _ _ HpQ.out)
        clear x0 x1 x2 x3 x4 x5 f0 f1 f2 f3 f4 f5 y0 y1 y2 y3 y4 y5 u3 u2 uf2 n2 n3
        have x0 := HrK.out.cell (j := 0) rfl
        have f0 := HrK.out.frozen 0
        have x1 := HrK.out.cell (j := 1) rfl
        have f1 := HrK.out.frozen 1
        have x2 := HrK.out.cell (j := 2) rfl
        have f2 := HrK.out.frozen 2
        have x3 := HrK.out.cell (j := 3) rfl
        have f3 := HrK.out.frozen 3
        have x4 := HrK.out.cell (j := 4) rfl
        have f4 := HrK.out.frozen 4
        have x5 := HrK.out.cell (j := 5) rfl
        have f5 := HrK.out.frozen 5
        have y0 := HpK.out.cell (j := 0) rfl
        have y1 := HpK.out.cell (j := 1) rfl
        have y2 := HpK.out.cell (j := 2) rfl
        have y3 := HpK.out.cell (j := 3) rfl
        have y4 := HpK.out.cell (j := 4) rfl
        have y5 := HpK.out.cell (j := 5) rfl
        go_wp2
        exact rldo_end HH.out HrK.out hbX hzX ((HTQ.out.trans HTe.out).next HR6.out.one) rfl
      · go_simp
        rw [HZD.out]
        refine hK.out _ _ zz3 (fun hHeld => ?_)
        clear hK KK
        try simp only [Act.put, List.getElem_toArray, List.getElem_cons_zero, List.getElem_cons_succ, List.setIfInBounds_toArray, List.set_cons_zero, List.set_cons_succ]
        refine wpAnyH_ready (rs := [4]) (by kernel_rfl) (by simp) ?_
        refine AllReadyH.cons rfl (fun KK hK => ?_) AllReadyH.nil
        rw [if_pos (by rfl)]
        go_simp
        refine hK.out _ _ zz3 (fun hHeld => ?_)
        clear hK KK
        try simp only [Act.put, List.getElem_toArray, List.getElem_cons_zero, List.getElem_cons_succ, List.setIfInBounds_toArray, List.set_cons_zero, List.set_cons_succ]
        refine wpAnyH_ready (rs := [10]) (by kernel_rfl) (by simp) ?_
        refine AllReadyH.cons rfl (fun KK hK => ?_) AllReadyH.nil
        rw [if_pos (by rfl)]
        obtain ⟨v6, w6, hr6, hown6, hgr6, _, hnew6⟩ := run_append_own_at (P := Try.prog) Z B 66 66 3 j0 _ 1 8 Try.underlying66 hj0 hy0 hys hyb rfl (by decide) (.slice ya3 (forgetT key kt1).length yc3) (forgetT key kt1).length (flatG tC (forgetT key kt1)) HRZ.out.ws ⟨K5.heap.size, 0, none⟩ 1 1 (tC ⟨key, c + 1⟩) rfl HNZ.out (tC_one ⟨key, c + 1⟩) (by unfold maxLen; omega) (by omega) (show B ≤ Z.heap.size by omega)
        refine wp_appG _ (.tmp 150) (.tmp 155) 66 66 rfl _ _ rfl rfl hr6 ?_
        have h6 := HR5.out.whens (w' := w6) (o := .cells #[.int .i64 (c + 1)] 3) (by rw [← HZD.out] at hgr6; exact ⟨hgr6.os, hgr6.tape, hgr6.output, hgr6.size, hgr6.block⟩) (own_moreG (x := ⟨key, c + 1⟩) hown6) hnew6 (by omega)
        obtain ⟨ra6, rc6, rfl⟩ := own_shape hown6
        have HF6 : Hp w6 l 96 _ := HRZ.out.hp.chg (Chg.of_grown' (S := fun k => (Value.slice ya3 (forgetT key kt1).length yc3).ownBlock = some k) hgr6 (fun _ e => e)) (own_type10 HRZ.out.ws HRZ.out.hp (by decide))
        have u3 := HF6.cell (j := 3) rfl
        have u2 := HF6.cell (j := 2) rfl
        have uf2 := HF6.frozen 2
        refine hK.out _ _ u3 (fun hHeld => ?_)
        clear hK KK
        try simp only [Act.put, List.getElem_toArray, List.getElem_cons_zero, List.getElem_cons_succ, List.setIfInBounds_toArray, List.set_cons_zero, List.set_cons_succ]
        refine tkGo [11, 12] ?_
        repeat (refine tkOne (v := ?_) rfl (by kernel_rfl) (by kernel_rfl) (by kernel_rfl) (fun _ _ _ h => h) (by assumption) (by rfl) ?_ ?_; rotate_left; (intro wy hSw; (try dsimp only at hSw); go_simp; (first | done | with_reducible rfl)); try simp only [Act.put, List.getElem_toArray, List.getElem_cons_zero, List.getElem_cons_succ, List.setIfInBounds_toArray, List.set_cons_zero, List.set_cons_succ])
        refine tkEnd ?_
        refine wpAnyH_ready (rs := [13]) (by kernel_rfl) (by simp) ?_
        refine AllReadyH.cons rfl (fun KK hK => ?_) AllReadyH.nil
        rw [if_pos (by rfl)]
        go_simp
        obtain ⟨K6, HK6, HR6, HT6⟩ : ∃ K6, Hid (w6.setCell ⟨l, 2, none⟩ (.slice ra6 ((forgetT key kt1).length + 1) rc6) = K6) ∧ Hid (Rl2 K6 B l b cap vd3 (.slice ra5 ((forgetT key kt1).length + 1) rc5) (.slice ra6 ((forgetT key kt1).length + 1) rc6) R.2 (forgetT key kt1 ++ [(⟨key, c + 1⟩ : Kp)]) (forgetT key kt1 ++ [(⟨key, c + 1⟩ : Kp)]) (c + 1)) ∧ Hid (StepR K5 K6 l b vd3 (.slice ra5 ((forgetT key kt1).length + 1) rc5) (.slice ya3 (forgetT key kt1).length yc3) vd3 (.slice ra5 ((forgetT key kt1).length + 1) rc5) (.slice ra6 ((forgetT key kt1).length + 1) rc6)) := ⟨_, rfl, h6.1, h6.2⟩
        rw [HK6.out]
        refine hK.out _ _ (HR6.out.hp.cell (j := 3) rfl) (fun hHeld => ?_)
        clear hK KK
        try simp only [Act.put, List.getElem_toArray, List.getElem_cons_zero, List.getElem_cons_succ, List.setIfInBounds_toArray, List.set_cons_zero, List.set_cons_succ]
        refine wpAnyH_done (by kernel_rfl) ?_ _
        have HTe : Hid (StepR Q K6 l b vd2 vk2 vw2 vd3 (.slice ra5 ((forgetT key kt1).length + 1) rc5) (.slice ra6 ((forgetT key kt1).length + 1) rc6)) := ((HT3.out.trans HKS.out).trans HT5.out).trans HT6.out
        have HrK := keepG (HTe.out.2.2 _ _ HrQ.out)
        have HpK := keepG (HTe.out.2.2 _ _ HpQ.out)
        clear x0 x1 x2 x3 x4 x5 f0 f1 f2 f3 f4 f5 y0 y1 y2 y3 y4 y5 u3 u2 uf2 n2 n3
        have x0 := HrK.out.cell (j := 0) rfl
        have f0 := HrK.out.frozen 0
        have x1 := HrK.out.cell (j := 1) rfl
        have f1 := HrK.out.frozen 1
        have x2 := HrK.out.cell (j := 2) rfl
        have f2 := HrK.out.frozen 2
        have x3 := HrK.out.cell (j := 3) rfl
        have f3 := HrK.out.frozen 3
        have x4 := HrK.out.cell (j := 4) rfl
        have f4 := HrK.out.frozen 4
        have x5 := HrK.out.cell (j := 5) rfl
        have f5 := HrK.out.frozen 5
        have y0 := HpK.out.cell (j := 0) rfl
        have y1 := HpK.out.cell (j := 1) rfl
        have y2 := HpK.out.cell (j := 2) rfl
        have y3 := HpK.out.cell (j := 3) rfl
        have y4 := HpK.out.cell (j := 4) rfl
        have y5 := HpK.out.cell (j := 5) rfl
        go_wp2
        exact rldo_end HH.out HrK.out hbX hzX ((HTQ.out.trans HTe.out).next HR6.out.one) rfl
end
end Go.Proofs.Ytpbfgebecgikjaa
