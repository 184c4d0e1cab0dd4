
/-
 The machine of the theorems of the whole: its step, the instructions of one kind. Condition: its code is judged good.
-/
import Derived.Test.YtbaeakbnoijkcaaGreatMT0
import Derived.Test.YtbaeakbnoijkcaaGreatMT43
namespace Go.Proofs.YtbaeakbnoijkcaaGreat
open Go.RowKit
set_option linter.unusedVariables false
set_option linter.unusedSimpArgs false
set_option maxRecDepth 100000

section
variable {b : Nat} {vm : Value} {ev : Int × Int} {M : Mc}
set_option maxHeartbeats 12800000 in
theorem xstepD {cb co ccap : Nat} {ms : List Int} {xs : List In} {known : List St} (cnt : Int) (w : World) (h : Xa w b vm (.slice (some ⟨cb, co, none⟩) xs.length ccap) ev M) (hm : Sees .i64 w vm ms) (hmb : ms = [] ∨ vm.ownBlock ≠ some b) (hx : SeesI w (.slice (some ⟨cb, co, none⟩) xs.length ccap) xs) (hcb' : cb ≠ b) (hKn : Known xs ms.length known) (hS : Safe xs ms.length known M) (hm0 : M.mode = 0) (hev : (0 <= ev.1 /\ ev.1 <= 18446744073709551615) /\ 0 <= ev.2 /\ ev.2 <= 18446744073709551615) (hcnt : (nth xs M.pc).op = 21 -> (nth xs M.pc).imm = 5 -> cnt = upW (M.cs.getD (regV M.regs 1).toNat 0) 1) (hO : ((nth xs M.pc).op = 21 /\ 5 <= (nth xs M.pc).imm) ∨ (nth xs M.pc).op = 22) (hcn : 0 <= cnt /\ cnt <= 18446744073709551615) :
  Calls Tryz.prog 12 #[.pointer (some ⟨b, 0, none⟩), .int .u64 cnt] w fun e w' => e = .returned (acV (stepE ms xs ev M).1) /\ Chg w w' (fun k => k = b) /\ Xa w' b vm (.slice (some ⟨cb, co, none⟩) xs.length ccap) ev (stepE ms xs ev M).2 := by
 have hr := hKn.T.right hS.pc
 have hop := qAt hr
 have hma := hKn.made hS.pc hS.kn
 have ha := hKn.asks hS.pc hS.kn
 have htop := hKn.T.top
 obtain ⟨hsafe, _, _⟩ := safe_run (ms := ms) hKn hS hm0 hev
 have hlt := h.hp.lt
 have hp := hS.pc
 have hpI : (M.pc : Int) < xs.length := by omega
 have hp64 : (M.pc : Int) <= 100 := by have := h.pc; omega
 have hpL : ¬ (xs.length : Int) <= M.pc := by omega
 have hp0 : ¬ (M.pc : Int) < 0 := by omega
 obtain ⟨_, hcb, hcc1, hcc2⟩ := codeL hx hp
 obtain ⟨⟨op, d, a, bb, imm⟩, HI⟩ : ∃ i, Hid (nth xs M.pc = i) := ⟨_, rfl⟩
 have HK0 := keepT (h.code hx hp HI)
 obtain ⟨V, HV, HoV, hBV, hzV⟩ : ∃ V, Hid ((w.alloc (.cells #[.int .i64 0, .int .i64 0, .int .i64 0, .int .i64 0, .int .u64 0, .int .u64 0, .int .u64 0] 57)).drew = V) /\ Hid (Hp V w.heap.size 57 (actC 0 0 0 0 0 0 0)) /\ Below w.heap.size w V /\ V.heap.size = w.heap.size + 1 := ⟨_, rfl, (Hp.new w _ _).drew, qAf ((Below.refl _ _).alloc (Nat.le_refl _) _), by simp⟩
 have HXV := keepT (h.below hBV hlt)
 have hBA : Below w.heap.size w (w.alloc (.cells #[.int .i64 0, .int .i64 0, .int .i64 0, .int .i64 0, .int .u64 0, .int .u64 0, .int .u64 0] 57)) := (Below.refl _ _).alloc (Nat.le_refl _) _
 have HKV : Hid (∀ wx : World, Below V.heap.size V wx -> _) := fun wx hb => HK0.out wx (hBV.trans (hb.mono (by omega)))
 go_enter Tryz.func12, Tryz.ntmps12
 go_wp2
 refine wp_region_held_drew (S := fun w' => w'.cell? ⟨b, 1, none⟩ = some (.slice (some ⟨cb, co, none⟩) xs.length ccap) /\ w'.cell? ⟨b, 92, none⟩ = some (.int .i64 M.pc)) (by kernel_rfl) (by have := HK0.out _ hBA; exact ⟨this.1, this.2.1⟩) (fun hHeld => ?_)
 refine tks [0, 1, 2, 3, 4, 5, 6, 7, 8, 9, 10, 11, 12, 13, 14, 15, 16, 17] ?_
 repeat (refine tk (v := ?_) rfl (by kernel_rfl) (by kernel_rfl) (by kernel_rfl) (fun _ _ _ h => h) (by assumption) (by rfl) ?_ ?_; rotate_left; (intro wy hSw; (try dsimp only at hSw); go_simp; (first | done | with_reducible rfl)); try simp only [Act.put, List.getElem_toArray, List.getElem_cons_zero, List.getElem_cons_succ, List.setIfInBounds_toArray, List.set_cons_zero, List.set_cons_succ])
 refine tkE ?_
 refine wpAnyH_done (by kernel_rfl) ?_ _
 rw [HV.out]
 clear hHeld
 go_wp2
 refine wp_region_held_drew (S := fun w' => w'.cell? ⟨b, 1, none⟩ = some (.slice (some ⟨cb, co, none⟩) xs.length ccap) /\ w'.cell? ⟨b, 92, none⟩ = some (.int .i64 M.pc) /\ w'.cell? ⟨cb, co + M.pc * 5, none⟩ = some (.int .i64 op) /\ w'.cell? ⟨cb, co + M.pc * 5 + 1, none⟩ = some (.int .i64 d) /\ w'.cell? ⟨cb, co + M.pc * 5 + 2, none⟩ = some (.int .i64 a) /\ w'.cell? ⟨cb, co + M.pc * 5 + 3, none⟩ = some (.int .i64 bb) /\ w'.cell? ⟨cb, co + M.pc * 5 + 4, none⟩ = some (.int .i64 imm)) (by kernel_rfl) (HKV.out V (Below.refl _ _)) (fun hHeld => ?_)
 refine tks [0, 1, 2, 3, 4, 5, 6, 7, 8, 9, 10] ?_
 repeat (refine tk (v := ?_) rfl (by kernel_rfl) (by kernel_rfl) (by kernel_rfl) (fun _ _ _ h => h) (by assumption) (by rfl) ?_ ?_; rotate_left; (intro wy hSw; (try dsimp only at hSw); go_simp; (first | done | with_reducible rfl)); try simp only [Act.put, List.getElem_toArray, List.getElem_cons_zero, List.getElem_cons_succ, List.setIfInBounds_toArray, List.set_cons_zero, List.set_cons_succ])
 refine tkE ?_
 refine wpAnyH_ready (rs := [11]) (by kernel_rfl) (by simp) ?_
 refine AllReadyH.cons rfl (fun KK hK => ?_) AllReadyH.nil
 rw [if_pos (by rfl)]
 go_simp
 obtain ⟨Y, HY, hBY⟩ : ∃ Y, Hid (Y = V.alloc (.cells #[.int .i64 0, .int .i64 0, .int .i64 0, .int .i64 0, .int .i64 0] 70)) /\ Below V.heap.size V Y := ⟨_, rfl, (Below.refl _ _).alloc (Nat.le_refl _) _⟩
 rw [<- HY.out]
 refine hK.out _ _ (HKV.out _ (qAf hBY)) (fun hHeld => ?_)
 clear hK KK
 try simp only [Act.put, List.getElem_toArray, List.getElem_cons_zero, List.getElem_cons_succ, List.setIfInBounds_toArray, List.set_cons_zero, List.set_cons_succ]
 obtain ⟨U0, HU, hBU0, HiU0, hzU0⟩ := inst_box (n := w.heap.size + 1) (op := op) (d := d) (a := a) (bb := bb) (imm := imm) HY.out hzV.symm
 have hY : Hp Y (w.heap.size + 1) 70 [.int .i64 0, .int .i64 0, .int .i64 0, .int .i64 0, .int .i64 0] := by rw [HY.out, <- hzV]; exact Hp.new V _ _
 have a0 := hY.cell (j := 0) rfl
 have q0 := hY.frozen 0
 have a1 := hY.cell (j := 1) rfl
 have q1 := hY.frozen 1
 have a2 := hY.cell (j := 2) rfl
 have q2 := hY.frozen 2
 have a3 := hY.cell (j := 3) rfl
 have q3 := hY.frozen 3
 have a4 := hY.cell (j := 4) rfl
 have q4 := hY.frozen 4
 refine wpAnyH_ready (rs := [12]) (by kernel_rfl) (by simp) ?_
 refine AllReadyH.cons rfl (fun KK hK => ?_) AllReadyH.nil
 rw [if_pos (by rfl)]
 go_simp
 rw [HU.out]
 refine hK.out _ _ (HKV.out _ (qAf hBU0)) (fun hHeld => ?_)
 clear hK KK
 try simp only [Act.put, List.getElem_toArray, List.getElem_cons_zero, List.getElem_cons_succ, List.setIfInBounds_toArray, List.set_cons_zero, List.set_cons_succ]
 refine wpAnyH_done (by kernel_rfl) ?_ _
 clear a0 a1 a2 a3 a4 q0 q1 q2 q3 q4 hHeld hY HY
 obtain ⟨U, HUd, HoU, HiU, HXU, hBU, HzU⟩ : ∃ U, Hid (U0.drew = U) /\ Hid (Hp U w.heap.size 57 (actC 0 0 0 0 0 0 0)) /\ Hid (Hp U (w.heap.size + 1) 70 [.int .i64 op, .int .i64 d, .int .i64 a, .int .i64 bb, .int .i64 imm]) /\ Hid (Xa U b vm (.slice (some ⟨cb, co, none⟩) xs.length ccap) ev M) /\ Below w.heap.size w U /\ Hid (U.heap.size = w.heap.size + 2) :=
  ⟨_, rfl, (HoV.out.below hBU0 HoV.out.lt).drew, HiU0.out.drew, (HXV.out.below hBU0 HXV.out.hp.lt).drew, qAf (hBV.trans (hBU0.mono (by omega))), by show U0.heap.size = _; omega⟩
 rw [HUd.out]
 obtain ⟨Z, HZ, HaZ, HoZ, HiZ, HXZ, hBZ, HzZ⟩ : ∃ Z, Hid (U.alloc (.cells #[.int .i64 1, .int .i64 M.pc, .int .i64 0, .int .i64 0, .int .u64 0, .int .u64 0, .int .u64 0] 57) = Z) /\ Hid (Hp Z U.heap.size 57 (actC 1 M.pc 0 0 0 0 0)) /\ Hid (Hp Z w.heap.size 57 (actC 0 0 0 0 0 0 0)) /\ Hid (Hp Z (w.heap.size + 1) 70 [.int .i64 op, .int .i64 d, .int .i64 a, .int .i64 bb, .int .i64 imm]) /\ Hid (Xa Z b vm (.slice (some ⟨cb, co, none⟩) xs.length ccap) ev M) /\ Below w.heap.size w Z /\ Hid (Z.heap.size = w.heap.size + 3) :=
  ⟨_, rfl, Hp.new U _ _, HoU.out.alloc _, HiU.out.alloc _, HXU.out.below ((Below.refl _ _).alloc (Nat.le_refl _) _) HXU.out.hp.lt, hBU.trans (((Below.refl _ _).alloc (Nat.le_refl _) _).mono hBU.size), by show (U.alloc _).heap.size = _; have := HzU.out; rw [World.size_alloc, this]⟩
 have z0 := HzU.out
 have i0 := HiU.out.cell (j := 0) rfl
 have i1 := HiU.out.cell (j := 1) rfl
 have i2 := HiU.out.cell (j := 2) rfl
 have i3 := HiU.out.cell (j := 3) rfl
 have i4 := HiU.out.cell (j := 4) rfl
 have hatU := HXU.out.at.1
 have hltU : b < U.heap.size := by omega
 have hlt1 : w.heap.size < U.heap.size := by omega
 have hlt2 : w.heap.size + 1 < U.heap.size := by omega
 have n1 : ¬ U.heap.size = b := by omega
 have n2 : ¬ b = U.heap.size := by omega
 have n3 : ¬ w.heap.size = b := by omega
 have n4 : ¬ b = w.heap.size := by omega
 have n5 : ¬ w.heap.size + 1 = b := by omega
 have n6 : ¬ b = w.heap.size + 1 := by omega
 have n7 : ¬ U.heap.size = w.heap.size := by omega
 have n8 : ¬ w.heap.size = U.heap.size := by omega
 clear z0 HK0 HKV HoV hBV hzV HXV hBA HU hBU0 HiU0 hzU0 hBY HUd
 have HPre : Hid (∀ w4 : World, Below Z.heap.size Z w4 -> Hp w4 U.heap.size 57 (actC 1 M.pc 0 0 0 0 0) /\ Hp w4 w.heap.size 57 (actC 0 0 0 0 0 0 0) /\ Hp w4 (w.heap.size + 1) 70 [.int .i64 op, .int .i64 d, .int .i64 a, .int .i64 bb, .int .i64 imm] /\ Xa w4 b vm (.slice (some ⟨cb, co, none⟩) xs.length ccap) ev M /\ Below w.heap.size w w4) := fun w4 hb => ⟨HaZ.out.below hb HaZ.out.lt, HoZ.out.below hb HoZ.out.lt, HiZ.out.below hb HiZ.out.lt, HXZ.out.below hb HXZ.out.hp.lt, hBZ.trans (hb.mono hBZ.size)⟩
 rw [HI.out] at hr ha hcnt hO
 simp only at hO
 have hop : 0 <= op /\ op <= 22 := by have := qAt hr; exact this
 obtain ⟨⟨hd0, hd63⟩, ha7, hb⟩ := right_all hr
 simp only at hd0 hd63 ha7 hb
 have hdI : ¬ d < 0 := by omega
 have hdI2 : ¬ 63 < d := by omega
 have haI : ¬ a < 0 := by omega
 have haI2 : ¬ 7 < a := by omega
 have hpn : op <= 14 ∨ op = 21 /\ 5 <= imm -> M.pc + 1 < 64 := fun ho => by
  have := hsafe.pc
  rw [step_pc hm0 HI hr ho] at this
  omega
 obtain ⟨y, HY⟩ : ∃ y, Hid (srcV ⟨op, d, a, bb, imm⟩ M.regs = y) := ⟨_, rfl⟩
 have hold0 := hS.hold
 rcases op_cases hop with cV | cV | cV | cV | cV | cV | cV | cV | cV | cV | cV
 ·exact hO.elim (fun h => absurd (cV.symm.trans h.1) (by decide)) (fun h => absurd (cV.symm.trans h) (by decide))
 ·exact hO.elim (fun h => absurd (h.1 ▸ cV.2) (by decide)) (fun h => absurd (h ▸ cV.2) (by decide))
 ·exact hO.elim (fun h => absurd (cV.symm.trans h.1) (by decide)) (fun h => absurd (cV.symm.trans h) (by decide))
 ·exact hO.elim (fun h => absurd (cV.symm.trans h.1) (by decide)) (fun h => absurd (cV.symm.trans h) (by decide))
 ·exact hO.elim (fun h => absurd (cV.symm.trans h.1) (by decide)) (fun h => absurd (cV.symm.trans h) (by decide))
 ·exact hO.elim (fun h => absurd (cV.symm.trans h.1) (by decide)) (fun h => absurd (cV.symm.trans h) (by decide))
 ·exact hO.elim (fun h => absurd (cV.symm.trans h.1) (by decide)) (fun h => absurd (cV.symm.trans h) (by decide))
 ·exact hO.elim (fun h => absurd (h.1 ▸ cV.2) (by decide)) (fun h => absurd (h ▸ cV.2) (by decide))
 ·exact hO.elim (fun h => absurd (cV.symm.trans h.1) (by decide)) (fun h => absurd (cV.symm.trans h) (by decide))
 ·clear hop
  by_cases cW : op = 21 /\ imm = 5
  ·clear cV hO
   have hc := qBp hr (by first | exact cW.1 | exact cW)
   simp only at hc
   obtain ⟨a1, a2⟩ := qBu hr hma HXU.out.wr hold0 ha (by first | exact cW.1 | exact cW)
   simp only at a1 a2
   obtain ⟨rfl, rfl⟩ := cW
   have hx1 := a2 rfl
   obtain ⟨g, H1⟩ : ∃ g, Hid (regV M.regs 1 = g) := ⟨_, rfl⟩
   rw [H1.out] at hx1
   have hgI : ¬ 15 < g := by omega
   have hpc1 := hpn (.inr ⟨rfl, by decide⟩)
   clear hpn
   have hst := step_mark (ms := ms) (xs := xs) (ev := ev) hm0 HI rfl rfl (hcnt rfl rfl)
   clear hcnt
   go_wp2_with (go_at_call 25; rw [HZ.out]; go_must (refine (qAr ⟨21, d, a, bb, 5⟩ Z HXZ.out hb HY).mono ?_); rintro e w4 ⟨rfl, hb4⟩; go_must (obtain ⟨Ha4', Ho4', Hi4', HX4', hB4⟩ := HPre.out w4 hb4; have Ha4 := keepT Ha4'; have Ho4 := keepT Ho4'; have Hi4 := keepT Hi4'; have HX4 := keepT HX4'; (have j0 := Hi4.out.cell (j := 0) rfl); (have j1 := Hi4.out.cell (j := 1) rfl); (have j2 := Hi4.out.cell (j := 2) rfl); (have j3 := Hi4.out.cell (j := 3) rfl); (have j4 := Hi4.out.cell (j := 4) rfl); obtain ⟨l0, l1, l2, l3, l4, l5, l6, _⟩ := act7 Ha4'; obtain ⟨o0, o1, o2, o3, o4, o5, o6, p0, p1, p2, p3, p4, p5, p6⟩ := act7 Ho4'; have g92 := HX4'.at.1; have f92 := HX4'.hp.frozen 92; have z3 := HX4'.reg (k := 1) (by omega); rw [show M.regs.getD 1 0 = g from H1.out] at z3; have y0 := HX4'.reg (k := 0) (by omega); have f0 := HX4'.hp.frozen 4; have q6 := Ha4'.frozen 6; clear Ha4' Ho4' Hi4' HX4' hb4))
   exact xendA (n := 0) hst rfl rfl Ho4.out rfl hB4 hlt (hA := qAd w4 U.heap.size 6 (.int .u64 cnt)) (by omega) (by omega) (by omega) HX4.out (fun h5 => stR 4 h5 (h5.setR (k := 0) (by omega) hcn) hpc1) rfl rfl rfl rfl rfl
  have cWmark := cW
  clear cW
  have cWmap0 : ¬ (op = 21 /\ imm <= 4) := fun e => hO.elim (fun h => absurd (Int.le_trans h.2 e.2) (by decide)) (fun h => absurd (e.1.symm.trans h) (by decide))
  have cWmap2 := True.intro
  have cWmap4 := True.intro
  have cW := cV
  clear cV
  clear hO
  have hc := qBp hr (by first | exact cW.1 | exact cW)
  simp only at hc
  obtain ⟨a1, a2⟩ := qBu hr hma HXU.out.wr hold0 ha (by first | exact cW.1 | exact cW)
  simp only at a1 a2
  subst cW
  have hi6 : ¬ imm < 5 := by have h1 : ¬ imm <= 4 := fun e => cWmap0 ⟨rfl, e⟩; omega
  have hi7 : ¬ imm = 5 := fun e => cWmark ⟨rfl, e⟩
  have bi5 : (imm == 5) = false := by simpa using hi7
  have hi0 : 0 <= imm := hc.1
  have hi8 : 5 <= imm := by omega
  clear cWmap0 cWmap2 cWmap4 cWmark
  obtain ⟨g, H1⟩ : ∃ g, Hid (regV M.regs 1 = g) := ⟨_, rfl⟩
  have hpc1 := hpn (.inr ⟨rfl, hi8⟩)
  clear hpn
  have hst := step_note (ms := ms) (xs := xs) (ev := ev) hm0 HI rfl (show ¬ imm <= 5 by omega) H1.out
  clear hcnt
  go_wp2_with (go_at_call 25; rw [HZ.out]; go_must (refine (qAr ⟨21, d, a, bb, imm⟩ Z HXZ.out hb HY).mono ?_); rintro e w4 ⟨rfl, hb4⟩; go_must (obtain ⟨Ha4', Ho4', Hi4', HX4', hB4⟩ := HPre.out w4 hb4; have Ha4 := keepT Ha4'; have Ho4 := keepT Ho4'; have Hi4 := keepT Hi4'; have HX4 := keepT HX4'; (have j0 := Hi4.out.cell (j := 0) rfl); (have j1 := Hi4.out.cell (j := 1) rfl); (have j2 := Hi4.out.cell (j := 2) rfl); (have j3 := Hi4.out.cell (j := 3) rfl); (have j4 := Hi4.out.cell (j := 4) rfl); obtain ⟨l0, l1, l2, l3, l4, l5, l6, _⟩ := act7 Ha4'; obtain ⟨o0, o1, o2, o3, o4, o5, o6, p0, p1, p2, p3, p4, p5, p6⟩ := act7 Ho4'; have g92 := HX4'.at.1; have f92 := HX4'.hp.frozen 92; have z3 := HX4'.reg (k := 1) (by omega); rw [show M.regs.getD 1 0 = g from H1.out] at z3; have y0 := HX4'.reg (k := 0) (by omega); have f0 := HX4'.hp.frozen 4; have q0 := Ha4'.frozen 0; have q6 := Ha4'.frozen 6; clear Ha4' Ho4' Hi4' HX4' hb4))
  exact xendA (n := 0) hst rfl rfl Ho4.out rfl hB4 hlt (hA := qAl (qAd w4 U.heap.size 0 (.int .i64 3)) (qAd _ U.heap.size 6 (.int .u64 g))) (by omega) (by omega) (by omega) HX4.out (fun h5 => stR 4 h5 (h5.setR (k := 0) (by omega) (by decide)) hpc1) rfl rfl rfl rfl rfl
 ·clear hop
  have cW := cV
  clear cV
  clear hO
  clear hcnt
  subst cW
  obtain ⟨q, rfl⟩ := Int.eq_ofNat_of_zero_le ha7.1
  have hq : q < 8 := by omega
  have hqI : (q : Int) < 8 := by omega
  have hqI2 : ¬ (7 : Int) < q := by omega
  have hqI4 : ¬ (q : Int) < 0 := by omega
  obtain ⟨x, HX⟩ : ∃ x, Hid (M.regs.getD q 0 = x) := ⟨_, rfl⟩
  have hx64 : 0 <= x /\ x <= 18446744073709551615 := by rw [<- HX.out]; exact HXU.out.wr.2 _ hq
  have hst := step_exit (ms := ms) (xs := xs) (ev := ev) hm0 HI rfl (show regV M.regs (q : Int) = x by simpa [regV] using HX.out)
  go_wp2_with (go_at_call 25; rw [HZ.out]; go_must (refine (qAr ⟨22, d, q, bb, imm⟩ Z HXZ.out hb HY).mono ?_); rintro e w4 ⟨rfl, hb4⟩; go_must (obtain ⟨Ha4', Ho4', Hi4', HX4', hB4⟩ := HPre.out w4 hb4; have Ha4 := keepT Ha4'; have Ho4 := keepT Ho4'; have Hi4 := keepT Hi4'; have HX4 := keepT HX4'; (have j0 := Hi4.out.cell (j := 0) rfl); (have j1 := Hi4.out.cell (j := 1) rfl); (have j2 := Hi4.out.cell (j := 2) rfl); (have j3 := Hi4.out.cell (j := 3) rfl); (have j4 := Hi4.out.cell (j := 4) rfl); obtain ⟨l0, l1, l2, l3, l4, l5, l6, _⟩ := act7 Ha4'; obtain ⟨o0, o1, o2, o3, o4, o5, o6, p0, p1, p2, p3, p4, p5, p6⟩ := act7 Ho4'; have g92 := HX4'.at.1; have f92 := HX4'.hp.frozen 92; have y1 := HX4'.reg hq; rw [HX.out] at y1; have q0 := Ha4'.frozen 0; have q6 := Ha4'.frozen 6; clear Ha4' Ho4' Hi4' HX4' hb4))
  have n10 : ¬ U.heap.size = w.heap.size + 1 := by omega
  have hJ : (w4.setCell ⟨U.heap.size, 0, none⟩ (.int .i64 4)).cell? ⟨w.heap.size + 1, 2, none⟩ = some (.int .i64 q) /\ (w4.setCell ⟨U.heap.size, 0, none⟩ (.int .i64 4)).cell? ⟨b, 4 + q, none⟩ = some (.int .u64 x) := ⟨(World.cell?_setCell_other _ _ _ _ (fun e => n10 (by injection e))).trans j2, (World.cell?_setCell_other _ _ _ _ (fun e => n1 (by injection e))).trans y1⟩
  have hS5 : ((w4.setCell ⟨U.heap.size, 0, none⟩ (.int .i64 4)).setCell ⟨U.heap.size, 6, none⟩ (.int .u64 x)).cell? ⟨w.heap.size + 1, 2, none⟩ = some (.int .i64 q) /\ ((w4.setCell ⟨U.heap.size, 0, none⟩ (.int .i64 4)).setCell ⟨U.heap.size, 6, none⟩ (.int .u64 x)).cell? ⟨b, 4 + q, none⟩ = some (.int .u64 x) := ⟨(World.cell?_setCell_other _ _ _ _ (fun e => n10 (by injection e))).trans hJ.1, (World.cell?_setCell_other _ _ _ _ (fun e => n1 (by injection e))).trans hJ.2⟩
  go_region_held3 (fun w' => w'.cell? ⟨w.heap.size + 1, 2, none⟩ = some (.int .i64 q) /\ w'.cell? ⟨b, 4 + q, none⟩ = some (.int .u64 x)) (first | with_reducible exact hJ | exact hS5 | exact hJ) (fail)
  go_wp2
  exact xendA (n := 1) hst rfl rfl Ho4.out rfl hB4 hlt (hA := qAl (qAd w4 U.heap.size 0 (.int .i64 4)) (qAd _ U.heap.size 6 (.int .u64 x))) (by omega) (by omega) (by omega) HX4.out (stN _) rfl rfl rfl rfl rfl
end
end Go.Proofs.YtbaeakbnoijkcaaGreat
