
/-
 The machine of the theorems of the whole: its step, the instructions of one kind. Condition: its code is judged good.
-/
import Derived.Test.YtbaeakbnoijkcaaGreatMT0
import Derived.Test.YtbaeakbnoijkcaaGreatMT43
namespace Go.Proofs.YtbaeakbnoijkcaaGreat
open Go.RowKit
set_option linter.unusedVariables false
set_option linter.unusedSimpArgs false
set_option maxRecDepth 100000

section
variable {b : Nat} {vm : Value} {ev : Int × Int} {M : Mc}
set_option maxHeartbeats 12800000 in
theorem xstepB {cb co ccap : Nat} {ms : List Int} {xs : List In} {known : List St} (cnt : Int) (w : World) (h : Xa w b vm (.slice (some ⟨cb, co, none⟩) xs.length ccap) ev M) (hm : Sees .i64 w vm ms) (hmb : ms = [] ∨ vm.ownBlock ≠ some b) (hx : SeesI w (.slice (some ⟨cb, co, none⟩) xs.length ccap) xs) (hcb' : cb ≠ b) (hKn : Known xs ms.length known) (hS : Safe xs ms.length known M) (hm0 : M.mode = 0) (hev : (0 <= ev.1 /\ ev.1 <= 18446744073709551615) /\ 0 <= ev.2 /\ ev.2 <= 18446744073709551615) (hcnt : (nth xs M.pc).op = 21 -> (nth xs M.pc).imm = 5 -> cnt = upW (M.cs.getD (regV M.regs 1).toNat 0) 1) (hO : 15 <= (nth xs M.pc).op /\ (nth xs M.pc).op <= 20) (hcn : 0 <= cnt /\ cnt <= 18446744073709551615) :
  Calls Tryz.prog 12 #[.pointer (some ⟨b, 0, none⟩), .int .u64 cnt] w fun e w' => e = .returned (acV (stepE ms xs ev M).1) /\ Chg w w' (fun k => k = b) /\ Xa w' b vm (.slice (some ⟨cb, co, none⟩) xs.length ccap) ev (stepE ms xs ev M).2 := by
 have hr := hKn.T.right hS.pc
 have hop := qAt hr
 have hma := hKn.made hS.pc hS.kn
 have ha := hKn.asks hS.pc hS.kn
 have htop := hKn.T.top
 obtain ⟨hsafe, _, _⟩ := safe_run (ms := ms) hKn hS hm0 hev
 have hlt := h.hp.lt
 have hp := hS.pc
 have hpI : (M.pc : Int) < xs.length := by omega
 have hp64 : (M.pc : Int) <= 100 := by have := h.pc; omega
 have hpL : ¬ (xs.length : Int) <= M.pc := by omega
 have hp0 : ¬ (M.pc : Int) < 0 := by omega
 obtain ⟨_, hcb, hcc1, hcc2⟩ := codeL hx hp
 obtain ⟨⟨op, d, a, bb, imm⟩, HI⟩ : ∃ i, Hid (nth xs M.pc = i) := ⟨_, rfl⟩
 have HK0 := keepT (h.code hx hp HI)
 obtain ⟨V, HV, HoV, hBV, hzV⟩ : ∃ V, Hid ((w.alloc (.cells #[.int .i64 0, .int .i64 0, .int .i64 0, .int .i64 0, .int .u64 0, .int .u64 0, .int .u64 0] 57)).drew = V) /\ Hid (Hp V w.heap.size 57 (actC 0 0 0 0 0 0 0)) /\ Below w.heap.size w V /\ V.heap.size = w.heap.size + 1 := ⟨_, rfl, (Hp.new w _ _).drew, qAf ((Below.refl _ _).alloc (Nat.le_refl _) _), by simp⟩
 have HXV := keepT (h.below hBV hlt)
 have hBA : Below w.heap.size w (w.alloc (.cells #[.int .i64 0, .int .i64 0, .int .i64 0, .int .i64 0, .int .u64 0, .int .u64 0, .int .u64 0] 57)) := (Below.refl _ _).alloc (Nat.le_refl _) _
 have HKV : Hid (∀ wx : World, Below V.heap.size V wx -> _) := fun wx hb => HK0.out wx (hBV.trans (hb.mono (by omega)))
 go_enter Tryz.func12, Tryz.ntmps12
 go_wp2
 refine wp_region_held_drew (S := fun w' => w'.cell? ⟨b, 1, none⟩ = some (.slice (some ⟨cb, co, none⟩) xs.length ccap) /\ w'.cell? ⟨b, 92, none⟩ = some (.int .i64 M.pc)) (by kernel_rfl) (by have := HK0.out _ hBA; exact ⟨this.1, this.2.1⟩) (fun hHeld => ?_)
 refine tks [0, 1, 2, 3, 4, 5, 6, 7, 8, 9, 10, 11, 12, 13, 14, 15, 16, 17] ?_
 repeat (refine tk (v := ?_) rfl (by kernel_rfl) (by kernel_rfl) (by kernel_rfl) (fun _ _ _ h => h) (by assumption) (by rfl) ?_ ?_; rotate_left; (intro wy hSw; (try dsimp only at hSw); go_simp; (first | done | with_reducible rfl)); try simp only [Act.put, List.getElem_toArray, List.getElem_cons_zero, List.getElem_cons_succ, List.setIfInBounds_toArray, List.set_cons_zero, List.set_cons_succ])
 refine tkE ?_
 refine wpAnyH_done (by kernel_rfl) ?_ _
 rw [HV.out]
 clear hHeld
 go_wp2
 refine wp_region_held_drew (S := fun w' => w'.cell? ⟨b, 1, none⟩ = some (.slice (some ⟨cb, co, none⟩) xs.length ccap) /\ w'.cell? ⟨b, 92, none⟩ = some (.int .i64 M.pc) /\ w'.cell? ⟨cb, co + M.pc * 5, none⟩ = some (.int .i64 op) /\ w'.cell? ⟨cb, co + M.pc * 5 + 1, none⟩ = some (.int .i64 d) /\ w'.cell? ⟨cb, co + M.pc * 5 + 2, none⟩ = some (.int .i64 a) /\ w'.cell? ⟨cb, co + M.pc * 5 + 3, none⟩ = some (.int .i64 bb) /\ w'.cell? ⟨cb, co + M.pc * 5 + 4, none⟩ = some (.int .i64 imm)) (by kernel_rfl) (HKV.out V (Below.refl _ _)) (fun hHeld => ?_)
 refine tks [0, 1, 2, 3, 4, 5, 6, 7, 8, 9, 10] ?_
 repeat (refine tk (v := ?_) rfl (by kernel_rfl) (by kernel_rfl) (by kernel_rfl) (fun _ _ _ h => h) (by assumption) (by rfl) ?_ ?_; rotate_left; (intro wy hSw; (try dsimp only at hSw); go_simp; (first | done | with_reducible rfl)); try simp only [Act.put, List.getElem_toArray, List.getElem_cons_zero, List.getElem_cons_succ, List.setIfInBounds_toArray, List.set_cons_zero, List.set_cons_succ])
 refine tkE ?_
 refine wpAnyH_ready (rs := [11]) (by kernel_rfl) (by simp) ?_
 refine AllReadyH.cons rfl (fun KK hK => ?_) AllReadyH.nil
 rw [if_pos (by rfl)]
 go_simp
 obtain ⟨Y, HY, hBY⟩ : ∃ Y, Hid (Y = V.alloc (.cells #[.int .i64 0, .int .i64 0, .int .i64 0, .int .i64 0, .int .i64 0] 70)) /\ Below V.heap.size V Y := ⟨_, rfl, (Below.refl _ _).alloc (Nat.le_refl _) _⟩
 rw [<- HY.out]
 refine hK.out _ _ (HKV.out _ (qAf hBY)) (fun hHeld => ?_)
 clear hK KK
 try simp only [Act.put, List.getElem_toArray, List.getElem_cons_zero, List.getElem_cons_succ, List.setIfInBounds_toArray, List.set_cons_zero, List.set_cons_succ]
 obtain ⟨U0, HU, hBU0, HiU0, hzU0⟩ := inst_box (n := w.heap.size + 1) (op := op) (d := d) (a := a) (bb := bb) (imm := imm) HY.out hzV.symm
 have hY : Hp Y (w.heap.size + 1) 70 [.int .i64 0, .int .i64 0, .int .i64 0, .int .i64 0, .int .i64 0] := by rw [HY.out, <- hzV]; exact Hp.new V _ _
 have a0 := hY.cell (j := 0) rfl
 have q0 := hY.frozen 0
 have a1 := hY.cell (j := 1) rfl
 have q1 := hY.frozen 1
 have a2 := hY.cell (j := 2) rfl
 have q2 := hY.frozen 2
 have a3 := hY.cell (j := 3) rfl
 have q3 := hY.frozen 3
 have a4 := hY.cell (j := 4) rfl
 have q4 := hY.frozen 4
 refine wpAnyH_ready (rs := [12]) (by kernel_rfl) (by simp) ?_
 refine AllReadyH.cons rfl (fun KK hK => ?_) AllReadyH.nil
 rw [if_pos (by rfl)]
 go_simp
 rw [HU.out]
 refine hK.out _ _ (HKV.out _ (qAf hBU0)) (fun hHeld => ?_)
 clear hK KK
 try simp only [Act.put, List.getElem_toArray, List.getElem_cons_zero, List.getElem_cons_succ, List.setIfInBounds_toArray, List.set_cons_zero, List.set_cons_succ]
 refine wpAnyH_done (by kernel_rfl) ?_ _
 clear a0 a1 a2 a3 a4 q0 q1 q2 q3 q4 hHeld hY HY
 obtain ⟨U, HUd, HoU, HiU, HXU, hBU, HzU⟩ : ∃ U, Hid (U0.drew = U) /\ Hid (Hp U w.heap.size 57 (actC 0 0 0 0 0 0 0)) /\ Hid (Hp U (w.heap.size + 1) 70 [.int .i64 op, .int .i64 d, .int .i64 a, .int .i64 bb, .int .i64 imm]) /\ Hid (Xa U b vm (.slice (some ⟨cb, co, none⟩) xs.length ccap) ev M) /\ Below w.heap.size w U /\ Hid (U.heap.size = w.heap.size + 2) :=
  ⟨_, rfl, (HoV.out.below hBU0 HoV.out.lt).drew, HiU0.out.drew, (HXV.out.below hBU0 HXV.out.hp.lt).drew, qAf (hBV.trans (hBU0.mono (by omega))), by show U0.heap.size = _; omega⟩
 rw [HUd.out]
 obtain ⟨Z, HZ, HaZ, HoZ, HiZ, HXZ, hBZ, HzZ⟩ : ∃ Z, Hid (U.alloc (.cells #[.int .i64 1, .int .i64 M.pc, .int .i64 0, .int .i64 0, .int .u64 0, .int .u64 0, .int .u64 0] 57) = Z) /\ Hid (Hp Z U.heap.size 57 (actC 1 M.pc 0 0 0 0 0)) /\ Hid (Hp Z w.heap.size 57 (actC 0 0 0 0 0 0 0)) /\ Hid (Hp Z (w.heap.size + 1) 70 [.int .i64 op, .int .i64 d, .int .i64 a, .int .i64 bb, .int .i64 imm]) /\ Hid (Xa Z b vm (.slice (some ⟨cb, co, none⟩) xs.length ccap) ev M) /\ Below w.heap.size w Z /\ Hid (Z.heap.size = w.heap.size + 3) :=
  ⟨_, rfl, Hp.new U _ _, HoU.out.alloc _, HiU.out.alloc _, HXU.out.below ((Below.refl _ _).alloc (Nat.le_refl _) _) HXU.out.hp.lt, hBU.trans (((Below.refl _ _).alloc (Nat.le_refl _) _).mono hBU.size), by show (U.alloc _).heap.size = _; have := HzU.out; rw [World.size_alloc, this]⟩
 have z0 := HzU.out
 have i0 := HiU.out.cell (j := 0) rfl
 have i1 := HiU.out.cell (j := 1) rfl
 have i2 := HiU.out.cell (j := 2) rfl
 have i3 := HiU.out.cell (j := 3) rfl
 have i4 := HiU.out.cell (j := 4) rfl
 have hatU := HXU.out.at.1
 have hltU : b < U.heap.size := by omega
 have hlt1 : w.heap.size < U.heap.size := by omega
 have hlt2 : w.heap.size + 1 < U.heap.size := by omega
 have n1 : ¬ U.heap.size = b := by omega
 have n2 : ¬ b = U.heap.size := by omega
 have n3 : ¬ w.heap.size = b := by omega
 have n4 : ¬ b = w.heap.size := by omega
 have n5 : ¬ w.heap.size + 1 = b := by omega
 have n6 : ¬ b = w.heap.size + 1 := by omega
 have n7 : ¬ U.heap.size = w.heap.size := by omega
 have n8 : ¬ w.heap.size = U.heap.size := by omega
 clear z0 HK0 HKV HoV hBV hzV HXV hBA HU hBU0 HiU0 hzU0 hBY HUd
 have HPre : Hid (∀ w4 : World, Below Z.heap.size Z w4 -> Hp w4 U.heap.size 57 (actC 1 M.pc 0 0 0 0 0) /\ Hp w4 w.heap.size 57 (actC 0 0 0 0 0 0 0) /\ Hp w4 (w.heap.size + 1) 70 [.int .i64 op, .int .i64 d, .int .i64 a, .int .i64 bb, .int .i64 imm] /\ Xa w4 b vm (.slice (some ⟨cb, co, none⟩) xs.length ccap) ev M /\ Below w.heap.size w w4) := fun w4 hb => ⟨HaZ.out.below hb HaZ.out.lt, HoZ.out.below hb HoZ.out.lt, HiZ.out.below hb HiZ.out.lt, HXZ.out.below hb HXZ.out.hp.lt, hBZ.trans (hb.mono hBZ.size)⟩
 rw [HI.out] at hr ha hcnt hO
 simp only at hO
 have hop : 0 <= op /\ op <= 22 := by have := qAt hr; exact this
 obtain ⟨⟨hd0, hd63⟩, ha7, hb⟩ := right_all hr
 simp only at hd0 hd63 ha7 hb
 have hdI : ¬ d < 0 := by omega
 have hdI2 : ¬ 63 < d := by omega
 have haI : ¬ a < 0 := by omega
 have haI2 : ¬ 7 < a := by omega
 have hpn : op <= 14 ∨ op = 21 /\ 5 <= imm -> M.pc + 1 < 64 := fun ho => by
  have := hsafe.pc
  rw [step_pc hm0 HI hr ho] at this
  omega
 obtain ⟨y, HY⟩ : ∃ y, Hid (srcV ⟨op, d, a, bb, imm⟩ M.regs = y) := ⟨_, rfl⟩
 have hold0 := hS.hold
 rcases op_cases hop with cV | cV | cV | cV | cV | cV | cV | cV | cV | cV | cV
 ·exact absurd (cV ▸ hO.1) (by decide)
 ·exact absurd (Int.le_trans hO.1 cV.2) (by decide)
 ·exact absurd (cV ▸ hO.1) (by decide)
 ·exact absurd (cV ▸ hO.1) (by decide)
 ·exact absurd (cV ▸ hO.1) (by decide)
 ·exact absurd (cV ▸ hO.1) (by decide)
 ·clear hop
  have cW := cV
  clear cV
  clear hO
  clear hcnt
  subst cW
  have hfar : (⟨15, d, a, bb, imm⟩ : In).far = d + 1 := by
   rcases qAo ⟨15, d, a, bb, imm⟩ with g | g | g | g
   ·exact absurd hr (by rw [g.1]; decide)
   ·exact g.2.2.2.1
   ·exact absurd (show (15 : Int) = 20 from g.2.1) (by omega)
   ·exact absurd (show (15 : Int) < 15 ∨ 20 < (15 : Int) from g.2.1) (by omega)
  have HG : Hid (goesE ⟨15, d, a, bb, imm⟩ M = true) := by show _ = _; simp [goesE]
  obtain ⟨p, hp1⟩ := Int.eq_ofNat_of_zero_le (show 0 <= (M.pc : Int) + 1 + d by omega)
  have hst := step_goes (ms := ms) (xs := xs) (ev := ev) (p := p) (T := M.turn) hm0 HI hr (by show 15 <= (15 : Int) /\ (15 : Int) <= 20; omega) HG.out (by simp [turnE]) (by rw [if_pos rfl, hfar]; omega)
  have hp64' : p < 64 := by have g := hsafe.pc; rw [hst] at g; have g2 : p < xs.length := g; omega
  go_wp2_with (go_at_call 25; rw [HZ.out]; go_must (refine (qAr ⟨15, d, a, bb, imm⟩ Z HXZ.out hb HY).mono ?_); rintro e w4 ⟨rfl, hb4⟩; go_must (obtain ⟨Ha4', Ho4', Hi4', HX4', hB4⟩ := HPre.out w4 hb4; have Ha4 := keepT Ha4'; have Ho4 := keepT Ho4'; have Hi4 := keepT Hi4'; have HX4 := keepT HX4'; (have j0 := Hi4.out.cell (j := 0) rfl); (have j1 := Hi4.out.cell (j := 1) rfl); (have j2 := Hi4.out.cell (j := 2) rfl); (have j3 := Hi4.out.cell (j := 3) rfl); (have j4 := Hi4.out.cell (j := 4) rfl); obtain ⟨l0, l1, l2, l3, l4, l5, l6, _⟩ := act7 Ha4'; obtain ⟨o0, o1, o2, o3, o4, o5, o6, p0, p1, p2, p3, p4, p5, p6⟩ := act7 Ho4'; have g92 := HX4'.at.1; have f92 := HX4'.hp.frozen 92; clear Ha4' Ho4' Hi4' HX4' hb4))
  go_wp2
  exact xend (n := 0) hst rfl rfl Ho4.out rfl hB4 hlt (stP (v := (p : Int)) HX4.out rfl hp64') rfl rfl rfl rfl rfl
 ·clear hop
  have cW := cV
  clear cV
  clear hO
  clear hcnt
  obtain ⟨q, rfl⟩ := Int.eq_ofNat_of_zero_le ha7.1
  have hq : q < 8 := by omega
  have hqI : (q : Int) < 8 := by omega
  have hqI2 : ¬ (7 : Int) < q := by omega
  have hqI4 : ¬ (q : Int) < 0 := by omega
  obtain ⟨x, HX⟩ : ∃ x, Hid (M.regs.getD q 0 = x) := ⟨_, rfl⟩
  have hx64 : 0 <= x /\ x <= 18446744073709551615 := by rw [<- HX.out]; exact HXU.out.wr.2 _ hq
  have hfar : (⟨op, d, q, bb, imm⟩ : In).far = d + 1 := by
   rcases qAo ⟨op, d, q, bb, imm⟩ with g | g | g | g
   ·exact absurd hr (by rw [g.1]; decide)
   ·exact g.2.2.2.1
   ·exact absurd (show (op : Int) = 20 from g.2.1) (by omega)
   ·exact absurd (show (op : Int) < 15 ∨ 20 < (op : Int) from g.2.1) (by omega)
  have b0 : (op == 0) = false := by simp; omega
  have b11 : (op == 11) = false := by simp; omega
  have b12 : (op == 12) = false := by simp; omega
  have b13 : (op == 13) = false := by simp; omega
  have b14 : (op == 14) = false := by simp; omega
  have b15 : (op == 15) = false := by simp; omega
  have hop16 : 16 <= op := cW.1
  have hop19 : op <= 19 := cW.2
  have hopn : ¬ op <= 11 := by omega
  have hopm : ¬ op <= 10 := by omega
  have hop1 : 1 <= op := by omega
  have hop0 : 0 <= op := by omega
  cases hH : holdL op x y
  ·have HG : Hid (goesE ⟨op, d, q, bb, imm⟩ M = false) := by
    show _ = _
    unfold goesE
    rw [if_neg (by show ¬ op = 15; omega), if_neg (by show ¬ op = 20; omega)]
    show holdL op (M.regs.getD q 0) _ = _
    rw [HX.out, HY.out, hH]
   obtain ⟨p, hp1⟩ := Int.eq_ofNat_of_zero_le (show 0 <= (M.pc : Int) + 1 by omega)
   have hst := step_goes (ms := ms) (xs := xs) (ev := ev) (p := p) (T := M.turn) hm0 HI hr (by show 15 <= (op : Int) /\ (op : Int) <= 20; omega) HG.out (by unfold turnE; rw [if_neg (by show ¬ op = 20; omega)]) (by rw [if_neg (by decide)]; omega)
   have hp64' : p < 64 := by have g := hsafe.pc; rw [hst] at g; have g2 : p < xs.length := g; omega
   go_wp2_with (go_at_call 25; rw [HZ.out]; go_must (refine (qAr ⟨op, d, q, bb, imm⟩ Z HXZ.out hb HY).mono ?_); rintro e w4 ⟨rfl, hb4⟩; go_must (obtain ⟨Ha4', Ho4', Hi4', HX4', hB4⟩ := HPre.out w4 hb4; have Ha4 := keepT Ha4'; have Ho4 := keepT Ho4'; have Hi4 := keepT Hi4'; have HX4 := keepT HX4'; (have j0 := Hi4.out.cell (j := 0) rfl); (have j1 := Hi4.out.cell (j := 1) rfl); (have j2 := Hi4.out.cell (j := 2) rfl); (have j3 := Hi4.out.cell (j := 3) rfl); (have j4 := Hi4.out.cell (j := 4) rfl); obtain ⟨l0, l1, l2, l3, l4, l5, l6, _⟩ := act7 Ha4'; obtain ⟨o0, o1, o2, o3, o4, o5, o6, p0, p1, p2, p3, p4, p5, p6⟩ := act7 Ho4'; have g92 := HX4'.at.1; have f92 := HX4'.hp.frozen 92; have y1 := HX4'.reg hq; rw [HX.out] at y1; clear Ha4' Ho4' Hi4' HX4' hb4))
   have hJ : w4.cell? ⟨w.heap.size + 1, 0, none⟩ = some (.int .i64 op) /\ w4.cell? ⟨w.heap.size + 1, 2, none⟩ = some (.int .i64 q) /\ w4.cell? ⟨b, 4 + q, none⟩ = some (.int .u64 x) := ⟨j0, j2, y1⟩
   go_region_held3 (fun w' => w'.cell? ⟨w.heap.size + 1, 0, none⟩ = some (.int .i64 op) /\ w'.cell? ⟨w.heap.size + 1, 2, none⟩ = some (.int .i64 q) /\ w'.cell? ⟨b, 4 + q, none⟩ = some (.int .u64 x)) (first | with_reducible exact hJ | exact hJ) (first | (go_at_call 27; go_must (refine (holdsT_any op x y _ cW).mono ?_); rintro e w5 ⟨rfl, rfl⟩; go_must (rw [hH])))
   go_wp2
   exact xend (n := 1) hst rfl rfl Ho4.out rfl hB4 hlt (stP (v := (p : Int)) HX4.out rfl hp64') rfl rfl rfl rfl rfl
  ·have HG : Hid (goesE ⟨op, d, q, bb, imm⟩ M = true) := by
    show _ = _
    unfold goesE
    rw [if_neg (by show ¬ op = 15; omega), if_neg (by show ¬ op = 20; omega)]
    show holdL op (M.regs.getD q 0) _ = _
    rw [HX.out, HY.out, hH]
   obtain ⟨p, hp1⟩ := Int.eq_ofNat_of_zero_le (show 0 <= (M.pc : Int) + 1 + d by omega)
   have hst := step_goes (ms := ms) (xs := xs) (ev := ev) (p := p) (T := M.turn) hm0 HI hr (by show 15 <= (op : Int) /\ (op : Int) <= 20; omega) HG.out (by unfold turnE; rw [if_neg (by show ¬ op = 20; omega)]) (by rw [if_pos rfl, hfar]; omega)
   have hp64' : p < 64 := by have g := hsafe.pc; rw [hst] at g; have g2 : p < xs.length := g; omega
   go_wp2_with (go_at_call 25; rw [HZ.out]; go_must (refine (qAr ⟨op, d, q, bb, imm⟩ Z HXZ.out hb HY).mono ?_); rintro e w4 ⟨rfl, hb4⟩; go_must (obtain ⟨Ha4', Ho4', Hi4', HX4', hB4⟩ := HPre.out w4 hb4; have Ha4 := keepT Ha4'; have Ho4 := keepT Ho4'; have Hi4 := keepT Hi4'; have HX4 := keepT HX4'; (have j0 := Hi4.out.cell (j := 0) rfl); (have j1 := Hi4.out.cell (j := 1) rfl); (have j2 := Hi4.out.cell (j := 2) rfl); (have j3 := Hi4.out.cell (j := 3) rfl); (have j4 := Hi4.out.cell (j := 4) rfl); obtain ⟨l0, l1, l2, l3, l4, l5, l6, _⟩ := act7 Ha4'; obtain ⟨o0, o1, o2, o3, o4, o5, o6, p0, p1, p2, p3, p4, p5, p6⟩ := act7 Ho4'; have g92 := HX4'.at.1; have f92 := HX4'.hp.frozen 92; have y1 := HX4'.reg hq; rw [HX.out] at y1; clear Ha4' Ho4' Hi4' HX4' hb4))
   have hJ : w4.cell? ⟨w.heap.size + 1, 0, none⟩ = some (.int .i64 op) /\ w4.cell? ⟨w.heap.size + 1, 2, none⟩ = some (.int .i64 q) /\ w4.cell? ⟨b, 4 + q, none⟩ = some (.int .u64 x) := ⟨j0, j2, y1⟩
   go_region_held3 (fun w' => w'.cell? ⟨w.heap.size + 1, 0, none⟩ = some (.int .i64 op) /\ w'.cell? ⟨w.heap.size + 1, 2, none⟩ = some (.int .i64 q) /\ w'.cell? ⟨b, 4 + q, none⟩ = some (.int .u64 x)) (first | with_reducible exact hJ | exact hJ) (first | (go_at_call 27; go_must (refine (holdsT_any op x y _ cW).mono ?_); rintro e w5 ⟨rfl, rfl⟩; go_must (rw [hH])))
   go_wp2
   exact xend (n := 1) hst rfl rfl Ho4.out rfl hB4 hlt (stP (v := (p : Int)) HX4.out rfl hp64') rfl rfl rfl rfl rfl
 ·clear hop
  by_cases cW : op = 20 /\ 0 < (M.regs.getD a.toNat 0) /\ M.turn M.pc < imm
  ·clear cV hO
   clear hcnt
   obtain ⟨cW, cx, ct⟩ := cW
   subst cW
   obtain ⟨q, rfl⟩ := Int.eq_ofNat_of_zero_le ha7.1
   have hq : q < 8 := by omega
   have hqI : (q : Int) < 8 := by omega
   have hqI2 : ¬ (7 : Int) < q := by omega
   have hqI4 : ¬ (q : Int) < 0 := by omega
   obtain ⟨x, HX⟩ : ∃ x, Hid (M.regs.getD q 0 = x) := ⟨_, rfl⟩
   have hx64 : 0 <= x /\ x <= 18446744073709551615 := by rw [<- HX.out]; exact HXU.out.wr.2 _ hq
   have hfar : (⟨20, d, q, bb, imm⟩ : In).far = -d := by
    rcases qAo ⟨20, d, q, bb, imm⟩ with g | g | g | g
    ·exact absurd hr (by rw [g.1]; decide)
    ·exact absurd (show (20 : Int) <= 19 from g.2.2.1) (by omega)
    ·exact g.2.2.1
    ·exact absurd (show (20 : Int) < 15 ∨ 20 < (20 : Int) from g.2.1) (by omega)
   obtain ⟨t, HT⟩ : ∃ t, Hid (M.turn M.pc = t) := ⟨_, rfl⟩
   have htb : 0 <= t /\ t <= 255 := by rw [<- HT.out]; exact turn_in hKn hS (by rw [HI.out])
   have him : 1 <= imm /\ imm <= 255 /\ 1 <= d := by
    have g := hr
    unfold In.right at g
    simp only at g
    rw [rightB_20] at g
    simp at g
    omega
   obtain ⟨ht0, ht1⟩ := htb
   have hpI64 : (M.pc : Int) < 64 := by have := HXU.out.pc; omega
   obtain ⟨hx0, hx1⟩ := hx64
   rw [HT.out] at ct
   simp only [Int.toNat_natCast] at cx
   rw [HX.out] at cx
   have HG0 : Hid (goesE ⟨20, d, q, bb, imm⟩ M = (decide (0 < x) && decide (t < imm))) := by
    show _ = _
    unfold goesE
    rw [if_neg (by simp), if_pos rfl]
    show decide (0 < M.regs.getD q 0 /\ M.turn M.pc < imm) = _
    simp only [HX.out, HT.out, Bool.decide_and]
   have hxn : ¬ x = 0 := by omega
   have hxb : (x == 0) = false := by simpa using hxn
   have hxc : (x != 0) = true := by simpa using hxn
   have HG : Hid (goesE ⟨20, d, q, bb, imm⟩ M = true) := by show _ = _; rw [HG0.out, decide_eq_true cx, decide_eq_true ct]; rfl
   have hback : d <= M.pc := by obtain ⟨z, hz, _⟩ := hKn.back hS.pc hS.kn (by rw [HI.out]); rw [HI.out] at hz; simp only [hfar] at hz; omega
   obtain ⟨p, hp1⟩ := Int.eq_ofNat_of_zero_le (show 0 <= (M.pc : Int) - d by omega)
   have hst := step_goes (ms := ms) (xs := xs) (ev := ev) (p := p) (T := fun u => if u = M.pc then t + 1 else M.turn u) hm0 HI hr (by show 15 <= (20 : Int) /\ (20 : Int) <= 20; omega) HG.out (by unfold turnE; rw [if_pos rfl, HG.out, HT.out]; rfl) (by rw [if_pos rfl, hfar]; omega)
   have hp64' : p < 64 := by have g := hsafe.pc; rw [hst] at g; have g2 : p < xs.length := g; omega
   have HWR : Hid (IntKind.i64.wrap (t + 1) = t + 1) := by show _ = _; rw [IntKind.wrap_i64]; omega
   go_wp2_with (go_at_call 25; rw [HZ.out]; go_must (refine (qAr ⟨20, d, q, bb, imm⟩ Z HXZ.out hb HY).mono ?_); rintro e w4 ⟨rfl, hb4⟩; go_must (obtain ⟨Ha4', Ho4', Hi4', HX4', hB4⟩ := HPre.out w4 hb4; have Ha4 := keepT Ha4'; have Ho4 := keepT Ho4'; have Hi4 := keepT Hi4'; have HX4 := keepT HX4'; (have j0 := Hi4.out.cell (j := 0) rfl); (have j1 := Hi4.out.cell (j := 1) rfl); (have j2 := Hi4.out.cell (j := 2) rfl); (have j3 := Hi4.out.cell (j := 3) rfl); (have j4 := Hi4.out.cell (j := 4) rfl); obtain ⟨l0, l1, l2, l3, l4, l5, l6, _⟩ := act7 Ha4'; obtain ⟨o0, o1, o2, o3, o4, o5, o6, p0, p1, p2, p3, p4, p5, p6⟩ := act7 Ho4'; have g92 := HX4'.at.1; have f92 := HX4'.hp.frozen 92; have y1 := HX4'.reg hq; rw [HX.out] at y1; have y5 := HX4'.turn; rw [HT.out] at y5; have f5 := HX4'.hp.frozen (28 + M.pc); clear Ha4' Ho4' Hi4' HX4' hb4))
   have HXT := keepT (HX4.out.setT (t + 1))
   go_region
   go_wp2
   refine wp_region_held_drew (S := fun w' => w'.cell? ⟨b, 92, none⟩ = some (.int .i64 M.pc)) (by kernel_rfl) g92 (fun hHeld => ?_)
   refine tks [0, 1, 2, 3, 4, 5, 6, 7, 10, 11] ?_
   repeat (refine tk (v := ?_) rfl (by kernel_rfl) (by kernel_rfl) (by kernel_rfl) (fun _ _ _ h => h) (by assumption) (by rfl) ?_ ?_; rotate_left; (intro wy hSw; (try dsimp only at hSw); go_simp; (first | done | with_reducible rfl)); try simp only [Act.put, List.getElem_toArray, List.getElem_cons_zero, List.getElem_cons_succ, List.setIfInBounds_toArray, List.set_cons_zero, List.set_cons_succ])
   refine tkE ?_
   refine wpAnyH_ready (rs := [8]) (by kernel_rfl) (by simp) ?_
   refine AllReadyH.cons rfl (fun KK hK => ?_) AllReadyH.nil
   rw [if_pos (by rfl)]
   go_simp
   refine hK.out _ _ g92 (fun hHeld => ?_)
   clear hK KK
   try simp only [Act.put, List.getElem_toArray, List.getElem_cons_zero, List.getElem_cons_succ, List.setIfInBounds_toArray, List.set_cons_zero, List.set_cons_succ]
   refine tks [9, 12] ?_
   repeat (refine tk (v := ?_) rfl (by kernel_rfl) (by kernel_rfl) (by kernel_rfl) (fun _ _ _ h => h) (by assumption) (by rfl) ?_ ?_; rotate_left; (intro wy hSw; (try dsimp only at hSw); go_simp; (first | done | with_reducible rfl)); try simp only [Act.put, List.getElem_toArray, List.getElem_cons_zero, List.getElem_cons_succ, List.setIfInBounds_toArray, List.set_cons_zero, List.set_cons_succ])
   refine tkE ?_
   refine wpAnyH_ready (rs := [13]) (by kernel_rfl) (by simp) ?_
   refine AllReadyH.cons rfl (fun KK hK => ?_) AllReadyH.nil
   rw [if_pos (by rfl)]
   go_simp
   rw [HWR.out]
   refine hK.out _ _ HXT.out.at.1 (fun hHeld => ?_)
   clear hK KK
   try simp only [Act.put, List.getElem_toArray, List.getElem_cons_zero, List.getElem_cons_succ, List.setIfInBounds_toArray, List.set_cons_zero, List.set_cons_succ]
   refine wpAnyH_done (by kernel_rfl) ?_ _
   clear hHeld
   have g92' := HXT.out.at.1
   have g1' : (w4.setCell ⟨b, 28 + M.pc, none⟩ (.int .i64 (t + 1))).cell? ⟨w.heap.size + 1, 1, none⟩ = some (.int .i64 d) := (World.cell?_setCell_other _ _ _ _ (fun e => n6 (by injection e))).trans j1
   go_wp2
   go_region
   go_wp2
   exact xend (n := 3) hst rfl rfl Ho4.out rfl hB4 hlt (stT (v := (p : Int)) HX4.out (t + 1) rfl hp64') rfl rfl rfl rfl rfl
  have cWgo := cW
  clear cW
  by_cases cW : op = 20 /\ 0 < (M.regs.getD a.toNat 0)
  ·clear cV hO
   clear hcnt
   obtain ⟨cW, cx⟩ := cW
   have ct : ¬ M.turn M.pc < imm := fun e => cWgo ⟨cW, cx, e⟩
   clear cWgo
   subst cW
   obtain ⟨q, rfl⟩ := Int.eq_ofNat_of_zero_le ha7.1
   have hq : q < 8 := by omega
   have hqI : (q : Int) < 8 := by omega
   have hqI2 : ¬ (7 : Int) < q := by omega
   have hqI4 : ¬ (q : Int) < 0 := by omega
   obtain ⟨x, HX⟩ : ∃ x, Hid (M.regs.getD q 0 = x) := ⟨_, rfl⟩
   have hx64 : 0 <= x /\ x <= 18446744073709551615 := by rw [<- HX.out]; exact HXU.out.wr.2 _ hq
   have hfar : (⟨20, d, q, bb, imm⟩ : In).far = -d := by
    rcases qAo ⟨20, d, q, bb, imm⟩ with g | g | g | g
    ·exact absurd hr (by rw [g.1]; decide)
    ·exact absurd (show (20 : Int) <= 19 from g.2.2.1) (by omega)
    ·exact g.2.2.1
    ·exact absurd (show (20 : Int) < 15 ∨ 20 < (20 : Int) from g.2.1) (by omega)
   obtain ⟨t, HT⟩ : ∃ t, Hid (M.turn M.pc = t) := ⟨_, rfl⟩
   have htb : 0 <= t /\ t <= 255 := by rw [<- HT.out]; exact turn_in hKn hS (by rw [HI.out])
   have him : 1 <= imm /\ imm <= 255 /\ 1 <= d := by
    have g := hr
    unfold In.right at g
    simp only at g
    rw [rightB_20] at g
    simp at g
    omega
   obtain ⟨ht0, ht1⟩ := htb
   have hpI64 : (M.pc : Int) < 64 := by have := HXU.out.pc; omega
   obtain ⟨hx0, hx1⟩ := hx64
   rw [HT.out] at ct
   simp only [Int.toNat_natCast] at cx
   rw [HX.out] at cx
   have hxn : ¬ x = 0 := by omega
   have hxb : (x == 0) = false := by simpa using hxn
   have hxc : (x != 0) = true := by simpa using hxn
   have HG0 : Hid (goesE ⟨20, d, q, bb, imm⟩ M = (decide (0 < x) && decide (t < imm))) := by
    show _ = _
    unfold goesE
    rw [if_neg (by simp), if_pos rfl]
    show decide (0 < M.regs.getD q 0 /\ M.turn M.pc < imm) = _
    simp only [HX.out, HT.out, Bool.decide_and]
   have HG : Hid (goesE ⟨20, d, q, bb, imm⟩ M = false) := by show _ = _; rw [HG0.out]; rw [decide_eq_false ct, Bool.and_false]
   obtain ⟨p, hp1⟩ := Int.eq_ofNat_of_zero_le (show 0 <= (M.pc : Int) + 1 by omega)
   have hst := step_goes (ms := ms) (xs := xs) (ev := ev) (p := p) (T := fun u => if u = M.pc then 0 else M.turn u) hm0 HI hr (by show 15 <= (20 : Int) /\ (20 : Int) <= 20; omega) HG.out (by unfold turnE; rw [if_pos rfl, HG.out]; rfl) (by rw [if_neg (by decide)]; omega)
   have hp64' : p < 64 := by have g := hsafe.pc; rw [hst] at g; have g2 : p < xs.length := g; omega
   go_wp2_with (go_at_call 25; rw [HZ.out]; go_must (refine (qAr ⟨20, d, q, bb, imm⟩ Z HXZ.out hb HY).mono ?_); rintro e w4 ⟨rfl, hb4⟩; go_must (obtain ⟨Ha4', Ho4', Hi4', HX4', hB4⟩ := HPre.out w4 hb4; have Ha4 := keepT Ha4'; have Ho4 := keepT Ho4'; have Hi4 := keepT Hi4'; have HX4 := keepT HX4'; (have j0 := Hi4.out.cell (j := 0) rfl); (have j1 := Hi4.out.cell (j := 1) rfl); (have j2 := Hi4.out.cell (j := 2) rfl); (have j3 := Hi4.out.cell (j := 3) rfl); (have j4 := Hi4.out.cell (j := 4) rfl); obtain ⟨l0, l1, l2, l3, l4, l5, l6, _⟩ := act7 Ha4'; obtain ⟨o0, o1, o2, o3, o4, o5, o6, p0, p1, p2, p3, p4, p5, p6⟩ := act7 Ho4'; have g92 := HX4'.at.1; have f92 := HX4'.hp.frozen 92; have y1 := HX4'.reg hq; rw [HX.out] at y1; have y5 := HX4'.turn; rw [HT.out] at y5; have f5 := HX4'.hp.frozen (28 + M.pc); clear Ha4' Ho4' Hi4' HX4' hb4))
   have HXT := keepT (HX4.out.setT 0)
   have hS5 := HXT.out.at.1
   go_region
   go_wp2
   go_region_held3 (fun w' => w'.cell? ⟨b, 92, none⟩ = some (.int .i64 M.pc)) (first | with_reducible exact g92 | exact hS5 | exact g92) (fail)
   go_wp2
   exact xend (n := 2) hst rfl rfl Ho4.out rfl hB4 hlt (stT (v := (p : Int)) HX4.out 0 rfl hp64') rfl rfl rfl rfl rfl
  have cWno := cW
  clear cW
  have cW := cV
  clear cV
  clear hO
  clear hcnt
  have cx : ¬ 0 < M.regs.getD a.toNat 0 := fun e => cWno ⟨cW, e⟩
  clear cWgo cWno
  subst cW
  obtain ⟨q, rfl⟩ := Int.eq_ofNat_of_zero_le ha7.1
  have hq : q < 8 := by omega
  have hqI : (q : Int) < 8 := by omega
  have hqI2 : ¬ (7 : Int) < q := by omega
  have hqI4 : ¬ (q : Int) < 0 := by omega
  obtain ⟨x, HX⟩ : ∃ x, Hid (M.regs.getD q 0 = x) := ⟨_, rfl⟩
  have hx64 : 0 <= x /\ x <= 18446744073709551615 := by rw [<- HX.out]; exact HXU.out.wr.2 _ hq
  have hfar : (⟨20, d, q, bb, imm⟩ : In).far = -d := by
   rcases qAo ⟨20, d, q, bb, imm⟩ with g | g | g | g
   ·exact absurd hr (by rw [g.1]; decide)
   ·exact absurd (show (20 : Int) <= 19 from g.2.2.1) (by omega)
   ·exact g.2.2.1
   ·exact absurd (show (20 : Int) < 15 ∨ 20 < (20 : Int) from g.2.1) (by omega)
  obtain ⟨t, HT⟩ : ∃ t, Hid (M.turn M.pc = t) := ⟨_, rfl⟩
  have htb : 0 <= t /\ t <= 255 := by rw [<- HT.out]; exact turn_in hKn hS (by rw [HI.out])
  have him : 1 <= imm /\ imm <= 255 /\ 1 <= d := by
   have g := hr
   unfold In.right at g
   simp only at g
   rw [rightB_20] at g
   simp at g
   omega
  obtain ⟨ht0, ht1⟩ := htb
  have hpI64 : (M.pc : Int) < 64 := by have := HXU.out.pc; omega
  obtain ⟨hx0, hx1⟩ := hx64
  simp only [Int.toNat_natCast] at cx
  rw [HX.out] at cx
  have hxz : x = 0 := by omega
  subst hxz
  have HG0 : Hid (goesE ⟨20, d, q, bb, imm⟩ M = (decide ((0 : Int) < 0) && decide (t < imm))) := by
   show _ = _
   unfold goesE
   rw [if_neg (by simp), if_pos rfl]
   show decide (0 < M.regs.getD q 0 /\ M.turn M.pc < imm) = _
   simp only [HX.out, HT.out, Bool.decide_and]
  have HG : Hid (goesE ⟨20, d, q, bb, imm⟩ M = false) := by show _ = _; rw [HG0.out]; rfl
  obtain ⟨p, hp1⟩ := Int.eq_ofNat_of_zero_le (show 0 <= (M.pc : Int) + 1 by omega)
  have hst := step_goes (ms := ms) (xs := xs) (ev := ev) (p := p) (T := fun u => if u = M.pc then 0 else M.turn u) hm0 HI hr (by show 15 <= (20 : Int) /\ (20 : Int) <= 20; omega) HG.out (by unfold turnE; rw [if_pos rfl, HG.out]; rfl) (by rw [if_neg (by decide)]; omega)
  have hp64' : p < 64 := by have g := hsafe.pc; rw [hst] at g; have g2 : p < xs.length := g; omega
  go_wp2_with (go_at_call 25; rw [HZ.out]; go_must (refine (qAr ⟨20, d, q, bb, imm⟩ Z HXZ.out hb HY).mono ?_); rintro e w4 ⟨rfl, hb4⟩; go_must (obtain ⟨Ha4', Ho4', Hi4', HX4', hB4⟩ := HPre.out w4 hb4; have Ha4 := keepT Ha4'; have Ho4 := keepT Ho4'; have Hi4 := keepT Hi4'; have HX4 := keepT HX4'; (have j0 := Hi4.out.cell (j := 0) rfl); (have j1 := Hi4.out.cell (j := 1) rfl); (have j2 := Hi4.out.cell (j := 2) rfl); (have j3 := Hi4.out.cell (j := 3) rfl); (have j4 := Hi4.out.cell (j := 4) rfl); obtain ⟨l0, l1, l2, l3, l4, l5, l6, _⟩ := act7 Ha4'; obtain ⟨o0, o1, o2, o3, o4, o5, o6, p0, p1, p2, p3, p4, p5, p6⟩ := act7 Ho4'; have g92 := HX4'.at.1; have f92 := HX4'.hp.frozen 92; have y1 := HX4'.reg hq; rw [HX.out] at y1; have y5 := HX4'.turn; rw [HT.out] at y5; have f5 := HX4'.hp.frozen (28 + M.pc); clear Ha4' Ho4' Hi4' HX4' hb4))
  have HXT := keepT (HX4.out.setT 0)
  have hS5 := HXT.out.at.1
  go_region
  go_wp2
  go_region_held3 (fun w' => w'.cell? ⟨b, 92, none⟩ = some (.int .i64 M.pc)) (first | with_reducible exact g92 | exact hS5 | exact g92) (fail)
  go_wp2
  exact xend (n := 2) hst rfl rfl Ho4.out rfl hB4 hlt (stT (v := (p : Int)) HX4.out 0 rfl hp64') rfl rfl rfl rfl rfl
 ·exact absurd (cV ▸ hO.2) (by decide)
 ·exact absurd (cV ▸ hO.2) (by decide)
end
end Go.Proofs.YtbaeakbnoijkcaaGreat
