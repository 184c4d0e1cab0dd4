
/-
 The machine of the theorems of the whole: its step, the instructions of one kind. Condition: its code is judged good.
-/
import Derived.Test.YtbaeakbnoijkcaaGreatMT0
import Derived.Test.YtbaeakbnoijkcaaGreatMT43
namespace Go.Proofs.YtbaeakbnoijkcaaGreat
open Go.RowKit
set_option linter.unusedVariables false
set_option linter.unusedSimpArgs false
set_option maxRecDepth 100000

section
variable {b : Nat} {vm : Value} {ev : Int × Int} {M : Mc}
set_option maxHeartbeats 12800000 in
theorem xstepC {cb co ccap : Nat} {ms : List Int} {xs : List In} {known : List St} (cnt : Int) (w : World) (h : Xa w b vm (.slice (some ⟨cb, co, none⟩) xs.length ccap) ev M) (hm : Sees .i64 w vm ms) (hmb : ms = [] ∨ vm.ownBlock ≠ some b) (hx : SeesI w (.slice (some ⟨cb, co, none⟩) xs.length ccap) xs) (hcb' : cb ≠ b) (hKn : Known xs ms.length known) (hS : Safe xs ms.length known M) (hm0 : M.mode = 0) (hev : (0 <= ev.1 /\ ev.1 <= 18446744073709551615) /\ 0 <= ev.2 /\ ev.2 <= 18446744073709551615) (hcnt : (nth xs M.pc).op = 21 -> (nth xs M.pc).imm = 5 -> cnt = upW (M.cs.getD (regV M.regs 1).toNat 0) 1) (hO : (nth xs M.pc).op = 21 /\ (nth xs M.pc).imm <= 4) (hcn : 0 <= cnt /\ cnt <= 18446744073709551615) :
  Calls Tryz.prog 12 #[.pointer (some ⟨b, 0, none⟩), .int .u64 cnt] w fun e w' => e = .returned (acV (stepE ms xs ev M).1) /\ Chg w w' (fun k => k = b) /\ Xa w' b vm (.slice (some ⟨cb, co, none⟩) xs.length ccap) ev (stepE ms xs ev M).2 := by
 have hr := hKn.T.right hS.pc
 have hop := qAt hr
 have hma := hKn.made hS.pc hS.kn
 have ha := hKn.asks hS.pc hS.kn
 have htop := hKn.T.top
 obtain ⟨hsafe, _, _⟩ := safe_run (ms := ms) hKn hS hm0 hev
 have hlt := h.hp.lt
 have hp := hS.pc
 have hpI : (M.pc : Int) < xs.length := by omega
 have hp64 : (M.pc : Int) <= 100 := by have := h.pc; omega
 have hpL : ¬ (xs.length : Int) <= M.pc := by omega
 have hp0 : ¬ (M.pc : Int) < 0 := by omega
 obtain ⟨_, hcb, hcc1, hcc2⟩ := codeL hx hp
 obtain ⟨⟨op, d, a, bb, imm⟩, HI⟩ : ∃ i, Hid (nth xs M.pc = i) := ⟨_, rfl⟩
 have HK0 := keepT (h.code hx hp HI)
 obtain ⟨V, HV, HoV, hBV, hzV⟩ : ∃ V, Hid ((w.alloc (.cells #[.int .i64 0, .int .i64 0, .int .i64 0, .int .i64 0, .int .u64 0, .int .u64 0, .int .u64 0] 57)).drew = V) /\ Hid (Hp V w.heap.size 57 (actC 0 0 0 0 0 0 0)) /\ Below w.heap.size w V /\ V.heap.size = w.heap.size + 1 := ⟨_, rfl, (Hp.new w _ _).drew, qAf ((Below.refl _ _).alloc (Nat.le_refl _) _), by simp⟩
 have HXV := keepT (h.below hBV hlt)
 have hBA : Below w.heap.size w (w.alloc (.cells #[.int .i64 0, .int .i64 0, .int .i64 0, .int .i64 0, .int .u64 0, .int .u64 0, .int .u64 0] 57)) := (Below.refl _ _).alloc (Nat.le_refl _) _
 have HKV : Hid (∀ wx : World, Below V.heap.size V wx -> _) := fun wx hb => HK0.out wx (hBV.trans (hb.mono (by omega)))
 go_enter Tryz.func12, Tryz.ntmps12
 go_wp2
 refine wp_region_held_drew (S := fun w' => w'.cell? ⟨b, 1, none⟩ = some (.slice (some ⟨cb, co, none⟩) xs.length ccap) /\ w'.cell? ⟨b, 92, none⟩ = some (.int .i64 M.pc)) (by kernel_rfl) (by have := HK0.out _ hBA; exact ⟨this.1, this.2.1⟩) (fun hHeld => ?_)
 refine tks [0, 1, 2, 3, 4, 5, 6, 7, 8, 9, 10, 11, 12, 13, 14, 15, 16, 17] ?_
 repeat (refine tk (v := ?_) rfl (by kernel_rfl) (by kernel_rfl) (by kernel_rfl) (fun _ _ _ h => h) (by assumption) (by rfl) ?_ ?_; rotate_left; (intro wy hSw; (try dsimp only at hSw); go_simp; (first | done | with_reducible rfl)); try simp only [Act.put, List.getElem_toArray, List.getElem_cons_zero, List.getElem_cons_succ, List.setIfInBounds_toArray, List.set_cons_zero, List.set_cons_succ])
 refine tkE ?_
 refine wpAnyH_done (by kernel_rfl) ?_ _
 rw [HV.out]
 clear hHeld
 go_wp2
 refine wp_region_held_drew (S := fun w' => w'.cell? ⟨b, 1, none⟩ = some (.slice (some ⟨cb, co, none⟩) xs.length ccap) /\ w'.cell? ⟨b, 92, none⟩ = some (.int .i64 M.pc) /\ w'.cell? ⟨cb, co + M.pc * 5, none⟩ = some (.int .i64 op) /\ w'.cell? ⟨cb, co + M.pc * 5 + 1, none⟩ = some (.int .i64 d) /\ w'.cell? ⟨cb, co + M.pc * 5 + 2, none⟩ = some (.int .i64 a) /\ w'.cell? ⟨cb, co + M.pc * 5 + 3, none⟩ = some (.int .i64 bb) /\ w'.cell? ⟨cb, co + M.pc * 5 + 4, none⟩ = some (.int .i64 imm)) (by kernel_rfl) (HKV.out V (Below.refl _ _)) (fun hHeld => ?_)
 refine tks [0, 1, 2, 3, 4, 5, 6, 7, 8, 9, 10] ?_
 repeat (refine tk (v := ?_) rfl (by kernel_rfl) (by kernel_rfl) (by kernel_rfl) (fun _ _ _ h => h) (by assumption) (by rfl) ?_ ?_; rotate_left; (intro wy hSw; (try dsimp only at hSw); go_simp; (first | done | with_reducible rfl)); try simp only [Act.put, List.getElem_toArray, List.getElem_cons_zero, List.getElem_cons_succ, List.setIfInBounds_toArray, List.set_cons_zero, List.set_cons_succ])
 refine tkE ?_
 refine wpAnyH_ready (rs := [11]) (by kernel_rfl) (by simp) ?_
 refine AllReadyH.cons rfl (fun KK hK => ?_) AllReadyH.nil
 rw [if_pos (by rfl)]
 go_simp
 obtain ⟨Y, HY, hBY⟩ : ∃ Y, Hid (Y = V.alloc (.cells #[.int .i64 0, .int .i64 0, .int .i64 0, .int .i64 0, .int .i64 0] 70)) /\ Below V.heap.size V Y := ⟨_, rfl, (Below.refl _ _).alloc (Nat.le_refl _) _⟩
 rw [<- HY.out]
 refine hK.out _ _ (HKV.out _ (qAf hBY)) (fun hHeld => ?_)
 clear hK KK
 try simp only [Act.put, List.getElem_toArray, List.getElem_cons_zero, List.getElem_cons_succ, List.setIfInBounds_toArray, List.set_cons_zero, List.set_cons_succ]
 obtain ⟨U0, HU, hBU0, HiU0, hzU0⟩ := inst_box (n := w.heap.size + 1) (op := op) (d := d) (a := a) (bb := bb) (imm := imm) HY.out hzV.symm
 have hY : Hp Y (w.heap.size + 1) 70 [.int .i64 0, .int .i64 0, .int .i64 0, .int .i64 0, .int .i64 0] := by rw [HY.out, <- hzV]; exact Hp.new V _ _
 have a0 := hY.cell (j := 0) rfl
 have q0 := hY.frozen 0
 have a1 := hY.cell (j := 1) rfl
 have q1 := hY.frozen 1
 have a2 := hY.cell (j := 2) rfl
 have q2 := hY.frozen 2
 have a3 := hY.cell (j := 3) rfl
 have q3 := hY.frozen 3
 have a4 := hY.cell (j := 4) rfl
 have q4 := hY.frozen 4
 refine wpAnyH_ready (rs := [12]) (by kernel_rfl) (by simp) ?_
 refine AllReadyH.cons rfl (fun KK hK => ?_) AllReadyH.nil
 rw [if_pos (by rfl)]
 go_simp
 rw [HU.out]
 refine hK.out _ _ (HKV.out _ (qAf hBU0)) (fun hHeld => ?_)
 clear hK KK
 try simp only [Act.put, List.getElem_toArray, List.getElem_cons_zero, List.getElem_cons_succ, List.setIfInBounds_toArray, List.set_cons_zero, List.set_cons_succ]
 refine wpAnyH_done (by kernel_rfl) ?_ _
 clear a0 a1 a2 a3 a4 q0 q1 q2 q3 q4 hHeld hY HY
 obtain ⟨U, HUd, HoU, HiU, HXU, hBU, HzU⟩ : ∃ U, Hid (U0.drew = U) /\ Hid (Hp U w.heap.size 57 (actC 0 0 0 0 0 0 0)) /\ Hid (Hp U (w.heap.size + 1) 70 [.int .i64 op, .int .i64 d, .int .i64 a, .int .i64 bb, .int .i64 imm]) /\ Hid (Xa U b vm (.slice (some ⟨cb, co, none⟩) xs.length ccap) ev M) /\ Below w.heap.size w U /\ Hid (U.heap.size = w.heap.size + 2) :=
  ⟨_, rfl, (HoV.out.below hBU0 HoV.out.lt).drew, HiU0.out.drew, (HXV.out.below hBU0 HXV.out.hp.lt).drew, qAf (hBV.trans (hBU0.mono (by omega))), by show U0.heap.size = _; omega⟩
 rw [HUd.out]
 obtain ⟨Z, HZ, HaZ, HoZ, HiZ, HXZ, hBZ, HzZ⟩ : ∃ Z, Hid (U.alloc (.cells #[.int .i64 1, .int .i64 M.pc, .int .i64 0, .int .i64 0, .int .u64 0, .int .u64 0, .int .u64 0] 57) = Z) /\ Hid (Hp Z U.heap.size 57 (actC 1 M.pc 0 0 0 0 0)) /\ Hid (Hp Z w.heap.size 57 (actC 0 0 0 0 0 0 0)) /\ Hid (Hp Z (w.heap.size + 1) 70 [.int .i64 op, .int .i64 d, .int .i64 a, .int .i64 bb, .int .i64 imm]) /\ Hid (Xa Z b vm (.slice (some ⟨cb, co, none⟩) xs.length ccap) ev M) /\ Below w.heap.size w Z /\ Hid (Z.heap.size = w.heap.size + 3) :=
  ⟨_, rfl, Hp.new U _ _, HoU.out.alloc _, HiU.out.alloc _, HXU.out.below ((Below.refl _ _).alloc (Nat.le_refl _) _) HXU.out.hp.lt, hBU.trans (((Below.refl _ _).alloc (Nat.le_refl _) _).mono hBU.size), by show (U.alloc _).heap.size = _; have := HzU.out; rw [World.size_alloc, this]⟩
 have z0 := HzU.out
 have i0 := HiU.out.cell (j := 0) rfl
 have i1 := HiU.out.cell (j := 1) rfl
 have i2 := HiU.out.cell (j := 2) rfl
 have i3 := HiU.out.cell (j := 3) rfl
 have i4 := HiU.out.cell (j := 4) rfl
 have hatU := HXU.out.at.1
 have hltU : b < U.heap.size := by omega
 have hlt1 : w.heap.size < U.heap.size := by omega
 have hlt2 : w.heap.size + 1 < U.heap.size := by omega
 have n1 : ¬ U.heap.size = b := by omega
 have n2 : ¬ b = U.heap.size := by omega
 have n3 : ¬ w.heap.size = b := by omega
 have n4 : ¬ b = w.heap.size := by omega
 have n5 : ¬ w.heap.size + 1 = b := by omega
 have n6 : ¬ b = w.heap.size + 1 := by omega
 have n7 : ¬ U.heap.size = w.heap.size := by omega
 have n8 : ¬ w.heap.size = U.heap.size := by omega
 clear z0 HK0 HKV HoV hBV hzV HXV hBA HU hBU0 HiU0 hzU0 hBY HUd
 have HPre : Hid (∀ w4 : World, Below Z.heap.size Z w4 -> Hp w4 U.heap.size 57 (actC 1 M.pc 0 0 0 0 0) /\ Hp w4 w.heap.size 57 (actC 0 0 0 0 0 0 0) /\ Hp w4 (w.heap.size + 1) 70 [.int .i64 op, .int .i64 d, .int .i64 a, .int .i64 bb, .int .i64 imm] /\ Xa w4 b vm (.slice (some ⟨cb, co, none⟩) xs.length ccap) ev M /\ Below w.heap.size w w4) := fun w4 hb => ⟨HaZ.out.below hb HaZ.out.lt, HoZ.out.below hb HoZ.out.lt, HiZ.out.below hb HiZ.out.lt, HXZ.out.below hb HXZ.out.hp.lt, hBZ.trans (hb.mono hBZ.size)⟩
 rw [HI.out] at hr ha hcnt hO
 simp only at hO
 have hop : 0 <= op /\ op <= 22 := by have := qAt hr; exact this
 obtain ⟨⟨hd0, hd63⟩, ha7, hb⟩ := right_all hr
 simp only at hd0 hd63 ha7 hb
 have hdI : ¬ d < 0 := by omega
 have hdI2 : ¬ 63 < d := by omega
 have haI : ¬ a < 0 := by omega
 have haI2 : ¬ 7 < a := by omega
 have hpn : op <= 14 ∨ op = 21 /\ 5 <= imm -> M.pc + 1 < 64 := fun ho => by
  have := hsafe.pc
  rw [step_pc hm0 HI hr ho] at this
  omega
 obtain ⟨y, HY⟩ : ∃ y, Hid (srcV ⟨op, d, a, bb, imm⟩ M.regs = y) := ⟨_, rfl⟩
 have hold0 := hS.hold
 rcases op_cases hop with cV | cV | cV | cV | cV | cV | cV | cV | cV | cV | cV
 ·exact absurd (cV.symm.trans hO.1) (by decide)
 ·exact absurd (hO.1 ▸ cV.2) (by decide)
 ·exact absurd (cV.symm.trans hO.1) (by decide)
 ·exact absurd (cV.symm.trans hO.1) (by decide)
 ·exact absurd (cV.symm.trans hO.1) (by decide)
 ·exact absurd (cV.symm.trans hO.1) (by decide)
 ·exact absurd (cV.symm.trans hO.1) (by decide)
 ·exact absurd (hO.1 ▸ cV.2) (by decide)
 ·exact absurd (cV.symm.trans hO.1) (by decide)
 ·clear hop
  by_cases cW : op = 21 /\ imm = 4
  ·clear cV hO
   clear hcnt
   have hc := qBp hr (by first | exact cW.1 | exact cW)
   simp only at hc
   obtain ⟨a1, a2⟩ := qBu hr hma HXU.out.wr hold0 ha (by first | exact cW.1 | exact cW)
   simp only at a1 a2
   obtain ⟨cW, rfl⟩ := cW
   subst cW
   have him : (0 : Int) <= 4 /\ (4 : Int) <= 4 := by omega
   obtain ⟨b1, b2⟩ := a1 him.2
   obtain ⟨h1, H1'⟩ := Int.eq_ofNat_of_zero_le b1
   have H1 : Hid ((regV M.regs 1).toNat = h1) := by show _ = _; omega
   have H1' : Hid (regV M.regs 1 = h1) := H1'
   have hjl : h1 < ms.length := by have := H1'.out; omega
   obtain ⟨ad, mcap, rfl, hl, hmm, _, _, hcell⟩ := hm
   obtain ⟨mb, mo, rfl, hmb, hcs⟩ := hcell (fun e => by rw [e] at hjl; simp at hjl)
   obtain ⟨m, HM⟩ : ∃ m, Hid (ms.getD h1 0 = m) := ⟨_, rfl⟩
   have hcs := hcs h1 hjl
   rw [HM.out] at hcs
   obtain ⟨g2, H2⟩ : ∃ g, Hid (regV M.regs 2 = g) := ⟨_, rfl⟩
   obtain ⟨g3, H3⟩ : ∃ g, Hid (regV M.regs 3 = g) := ⟨_, rfl⟩
   have hmx : maxLen = 9223372036854775807 := rfl
   have hwm : IntKind.u64.wrap (ms.length : Int) = ms.length := by rw [IntKind.wrap_u64]; omega
   have hjI : ¬ (ms.length : Int) <= h1 := by omega
   have hjI2 : (h1 : Int) < ms.length := by omega
   have hi0 : (0 : Int) <= 4 := him.1
   have hi5 : (4 : Int) < 5 := by omega
   have n9 : ¬ U.heap.size = mb := by omega
   have n10 : ¬ U.heap.size = w.heap.size + 1 := by omega
   have hst := step_map (ms := ms) (xs := xs) (ev := ev) (m := m) (g2 := g2) (g3 := g3) hm0 HI rfl (by exact him.2) (by rw [H1.out]; exact HM.out) H2.out (by rw [if_pos (by first | exact .inl rfl | exact .inr rfl)]; exact H3.out)
   go_wp2_with (go_at_call 25; rw [HZ.out]; go_must (refine (qAr ⟨21, d, a, bb, 4⟩ Z HXZ.out hb HY).mono ?_); rintro e w4 ⟨rfl, hb4⟩; go_must (obtain ⟨Ha4', Ho4', Hi4', HX4', hB4⟩ := HPre.out w4 hb4; have Ha4 := keepT Ha4'; have Ho4 := keepT Ho4'; have Hi4 := keepT Hi4'; have HX4 := keepT HX4'; (have j0 := Hi4.out.cell (j := 0) rfl); (have j1 := Hi4.out.cell (j := 1) rfl); (have j2 := Hi4.out.cell (j := 2) rfl); (have j3 := Hi4.out.cell (j := 3) rfl); (have j4 := Hi4.out.cell (j := 4) rfl); obtain ⟨l0, l1, l2, l3, l4, l5, l6, _⟩ := act7 Ha4'; obtain ⟨o0, o1, o2, o3, o4, o5, o6, p0, p1, p2, p3, p4, p5, p6⟩ := act7 Ho4'; have g92 := HX4'.at.1; have f92 := HX4'.hp.frozen 92; have z0 := HX4'.low.1; have z1 := (hB4.cell (p := ⟨mb, mo + h1, none⟩) hmb).trans hcs; have z2 := HX4'.reg (k := 2) (by omega); have z3 := HX4'.reg (k := 1) (by omega); have z4 := HX4'.reg (k := 3) (by omega); rw [show M.regs.getD 2 0 = g2 from H2.out] at z2; rw [show M.regs.getD 1 0 = h1 from H1'.out] at z3; rw [show M.regs.getD 3 0 = g3 from H3.out] at z4; have q0 := Ha4'.frozen 0; have q2 := Ha4'.frozen 2; have q3 := Ha4'.frozen 3; have q4 := Ha4'.frozen 4; have q5 := Ha4'.frozen 5; clear Ha4' Ho4' Hi4' HX4' hb4))
   have hJ : (w4.setCell ⟨U.heap.size, 0, none⟩ (.int .i64 2)).cell? ⟨b, 0, none⟩ = some (.slice (some ⟨mb, mo, none⟩) ms.length mcap) /\ (w4.setCell ⟨U.heap.size, 0, none⟩ (.int .i64 2)).cell? ⟨mb, mo + h1, none⟩ = some (.int .i64 m) /\ (w4.setCell ⟨U.heap.size, 0, none⟩ (.int .i64 2)).cell? ⟨w.heap.size + 1, 4, none⟩ = some (.int .i64 4) /\ (w4.setCell ⟨U.heap.size, 0, none⟩ (.int .i64 2)).cell? ⟨b, 6, none⟩ = some (.int .u64 g2) := ⟨(World.cell?_setCell_other _ _ _ _ (fun e => n1 (by injection e))).trans z0, (World.cell?_setCell_other _ _ _ _ (fun e => n9 (by injection e))).trans z1, (World.cell?_setCell_other _ _ _ _ (fun e => n10 (by injection e))).trans j4, (World.cell?_setCell_other _ _ _ _ (fun e => n1 (by injection e))).trans z2⟩
   obtain ⟨Q5, HQ5, Ha5, hS5, HG5⟩ : ∃ Q5, Hid (((((w4.setCell ⟨U.heap.size, 0, none⟩ (.int .i64 2)).setCell ⟨U.heap.size, 2, none⟩ (.int .i64 m)).setCell ⟨U.heap.size, 3, none⟩ (.int .i64 4)).setCell ⟨U.heap.size, 4, none⟩ (.int .u64 g2)).setCell ⟨U.heap.size, 5, none⟩ (.int .u64 0) = Q5) /\ Hid (Hp Q5 U.heap.size 57 (actC 2 M.pc m 4 g2 0 0)) /\ ((Q5).cell? ⟨b, 0, none⟩ = some (.slice (some ⟨mb, mo, none⟩) ms.length mcap) /\ (Q5).cell? ⟨mb, mo + h1, none⟩ = some (.int .i64 m) /\ (Q5).cell? ⟨w.heap.size + 1, 4, none⟩ = some (.int .i64 4) /\ (Q5).cell? ⟨b, 6, none⟩ = some (.int .u64 g2)) /\ Hid (w4.grownBy Q5 (some U.heap.size)) := ⟨_, rfl, (Ha4.out.set 0 (.int .i64 2)).sets [.int .i64 m, .int .i64 4, .int .u64 g2, .int .u64 0] 2, ⟨(qBn (w4.setCell ⟨U.heap.size, 0, none⟩ (.int .i64 2)) U.heap.size 2 [.int .i64 m, .int .i64 4, .int .u64 g2, .int .u64 0] (fun e => n1 e.symm)).trans hJ.1, (qBn (w4.setCell ⟨U.heap.size, 0, none⟩ (.int .i64 2)) U.heap.size 2 [.int .i64 m, .int .i64 4, .int .u64 g2, .int .u64 0] (fun e => n9 e.symm)).trans hJ.2.1, (qBn (w4.setCell ⟨U.heap.size, 0, none⟩ (.int .i64 2)) U.heap.size 2 [.int .i64 m, .int .i64 4, .int .u64 g2, .int .u64 0] (fun e => n10 e.symm)).trans hJ.2.2.1, (qBn (w4.setCell ⟨U.heap.size, 0, none⟩ (.int .i64 2)) U.heap.size 2 [.int .i64 m, .int .i64 4, .int .u64 g2, .int .u64 0] (fun e => n1 e.symm)).trans hJ.2.2.2⟩, qAl (qAd w4 U.heap.size 0 (.int .i64 2)) (qAa U.heap.size [.int .i64 m, .int .i64 4, .int .u64 g2, .int .u64 0] _ 2)⟩
   refine wp_region_held_drew (S := fun w' => w'.cell? ⟨b, 0, none⟩ = some (.slice (some ⟨mb, mo, none⟩) ms.length mcap) /\ w'.cell? ⟨mb, mo + h1, none⟩ = some (.int .i64 m) /\ w'.cell? ⟨w.heap.size + 1, 4, none⟩ = some (.int .i64 4) /\ w'.cell? ⟨b, 6, none⟩ = some (.int .u64 g2)) (by kernel_rfl) hJ (fun hHeld => ?_)
   refine tks [0, 1, 2, 3, 4, 5, 6, 7, 8, 9, 10, 11, 12, 13, 14, 15, 16] ?_
   repeat (refine tk (v := ?_) rfl (by kernel_rfl) (by kernel_rfl) (by kernel_rfl) (fun _ _ _ h => h) (by assumption) (by rfl) ?_ ?_; rotate_left; (intro wy hSw; (try dsimp only at hSw); go_simp; (first | done | with_reducible rfl)); try simp only [Act.put, List.getElem_toArray, List.getElem_cons_zero, List.getElem_cons_succ, List.setIfInBounds_toArray, List.set_cons_zero, List.set_cons_succ])
   refine tkE ?_
   refine wpAnyH_ready (rs := [17]) (by kernel_rfl) (by simp) ?_
   refine AllReadyH.cons rfl (fun KK hK => ?_) AllReadyH.nil
   rw [if_pos (by rfl)]
   go_simp
   rw [HQ5.out]
   refine hK.out _ _ hS5 (fun hHeld => ?_)
   clear hK KK
   try simp only [Act.put, List.getElem_toArray, List.getElem_cons_zero, List.getElem_cons_succ, List.setIfInBounds_toArray, List.set_cons_zero, List.set_cons_succ]
   refine wpAnyH_done (by kernel_rfl) ?_ _
   clear hHeld l0 l1 l2 l3 l4 l5 l6 o0 o1 o2 o3 o4 o5 o6 p0 p1 p2 p3 p4 p5 p6 z0 z1 z2 z3 z4 q0 q2 q3 q4 q5 j0 j1 j2 j3 j4 hJ
   obtain ⟨l0, l1, l2, l3, l4, l5, l6, _⟩ := act7 Ha5.out
   obtain ⟨o0, o1, o2, o3, o4, o5, o6, p0, p1, p2, p3, p4, p5, p6⟩ := act7 (Ho4.out.grown HG5.out (fun e => n7 (Option.some.inj e).symm))
   have q5 := Ha5.out.frozen 5
   have j4 := hS5.2.2.1
   have z4 := (Xa.reg (k := 3) ⟨HX4.out.hp.grown HG5.out (fun e => n1 (Option.some.inj e).symm), HX4.out.wr, HX4.out.ww, HX4.out.pc⟩ (by omega))
   rw [show M.regs.getD 3 0 = g3 from H3.out] at z4
   go_wp2
   exact xendA (n := 1) hst rfl rfl Ho4.out rfl hB4 hlt (hA := qAl HG5.out (qAd Q5 U.heap.size 5 (.int .u64 g3))) (by omega) (by omega) (by omega) HX4.out (stN _) rfl rfl rfl rfl rfl
  have cWmap4 := cW
  clear cW
  by_cases cW : op = 21 /\ imm = 2
  ·clear cV hO
   clear hcnt
   have hc := qBp hr (by first | exact cW.1 | exact cW)
   simp only at hc
   obtain ⟨a1, a2⟩ := qBu hr hma HXU.out.wr hold0 ha (by first | exact cW.1 | exact cW)
   simp only at a1 a2
   obtain ⟨cW, rfl⟩ := cW
   subst cW
   have him : (0 : Int) <= 2 /\ (2 : Int) <= 4 := by omega
   obtain ⟨b1, b2⟩ := a1 him.2
   obtain ⟨h1, H1'⟩ := Int.eq_ofNat_of_zero_le b1
   have H1 : Hid ((regV M.regs 1).toNat = h1) := by show _ = _; omega
   have H1' : Hid (regV M.regs 1 = h1) := H1'
   have hjl : h1 < ms.length := by have := H1'.out; omega
   obtain ⟨ad, mcap, rfl, hl, hmm, _, _, hcell⟩ := hm
   obtain ⟨mb, mo, rfl, hmb, hcs⟩ := hcell (fun e => by rw [e] at hjl; simp at hjl)
   obtain ⟨m, HM⟩ : ∃ m, Hid (ms.getD h1 0 = m) := ⟨_, rfl⟩
   have hcs := hcs h1 hjl
   rw [HM.out] at hcs
   obtain ⟨g2, H2⟩ : ∃ g, Hid (regV M.regs 2 = g) := ⟨_, rfl⟩
   obtain ⟨g3, H3⟩ : ∃ g, Hid (regV M.regs 3 = g) := ⟨_, rfl⟩
   have hmx : maxLen = 9223372036854775807 := rfl
   have hwm : IntKind.u64.wrap (ms.length : Int) = ms.length := by rw [IntKind.wrap_u64]; omega
   have hjI : ¬ (ms.length : Int) <= h1 := by omega
   have hjI2 : (h1 : Int) < ms.length := by omega
   have hi0 : (0 : Int) <= 2 := him.1
   have hi5 : (2 : Int) < 5 := by omega
   have n9 : ¬ U.heap.size = mb := by omega
   have n10 : ¬ U.heap.size = w.heap.size + 1 := by omega
   have hst := step_map (ms := ms) (xs := xs) (ev := ev) (m := m) (g2 := g2) (g3 := g3) hm0 HI rfl (by exact him.2) (by rw [H1.out]; exact HM.out) H2.out (by rw [if_pos (by first | exact .inl rfl | exact .inr rfl)]; exact H3.out)
   go_wp2_with (go_at_call 25; rw [HZ.out]; go_must (refine (qAr ⟨21, d, a, bb, 2⟩ Z HXZ.out hb HY).mono ?_); rintro e w4 ⟨rfl, hb4⟩; go_must (obtain ⟨Ha4', Ho4', Hi4', HX4', hB4⟩ := HPre.out w4 hb4; have Ha4 := keepT Ha4'; have Ho4 := keepT Ho4'; have Hi4 := keepT Hi4'; have HX4 := keepT HX4'; (have j0 := Hi4.out.cell (j := 0) rfl); (have j1 := Hi4.out.cell (j := 1) rfl); (have j2 := Hi4.out.cell (j := 2) rfl); (have j3 := Hi4.out.cell (j := 3) rfl); (have j4 := Hi4.out.cell (j := 4) rfl); obtain ⟨l0, l1, l2, l3, l4, l5, l6, _⟩ := act7 Ha4'; obtain ⟨o0, o1, o2, o3, o4, o5, o6, p0, p1, p2, p3, p4, p5, p6⟩ := act7 Ho4'; have g92 := HX4'.at.1; have f92 := HX4'.hp.frozen 92; have z0 := HX4'.low.1; have z1 := (hB4.cell (p := ⟨mb, mo + h1, none⟩) hmb).trans hcs; have z2 := HX4'.reg (k := 2) (by omega); have z3 := HX4'.reg (k := 1) (by omega); have z4 := HX4'.reg (k := 3) (by omega); rw [show M.regs.getD 2 0 = g2 from H2.out] at z2; rw [show M.regs.getD 1 0 = h1 from H1'.out] at z3; rw [show M.regs.getD 3 0 = g3 from H3.out] at z4; have q0 := Ha4'.frozen 0; have q2 := Ha4'.frozen 2; have q3 := Ha4'.frozen 3; have q4 := Ha4'.frozen 4; have q5 := Ha4'.frozen 5; clear Ha4' Ho4' Hi4' HX4' hb4))
   have hJ : (w4.setCell ⟨U.heap.size, 0, none⟩ (.int .i64 2)).cell? ⟨b, 0, none⟩ = some (.slice (some ⟨mb, mo, none⟩) ms.length mcap) /\ (w4.setCell ⟨U.heap.size, 0, none⟩ (.int .i64 2)).cell? ⟨mb, mo + h1, none⟩ = some (.int .i64 m) /\ (w4.setCell ⟨U.heap.size, 0, none⟩ (.int .i64 2)).cell? ⟨w.heap.size + 1, 4, none⟩ = some (.int .i64 2) /\ (w4.setCell ⟨U.heap.size, 0, none⟩ (.int .i64 2)).cell? ⟨b, 6, none⟩ = some (.int .u64 g2) := ⟨(World.cell?_setCell_other _ _ _ _ (fun e => n1 (by injection e))).trans z0, (World.cell?_setCell_other _ _ _ _ (fun e => n9 (by injection e))).trans z1, (World.cell?_setCell_other _ _ _ _ (fun e => n10 (by injection e))).trans j4, (World.cell?_setCell_other _ _ _ _ (fun e => n1 (by injection e))).trans z2⟩
   obtain ⟨Q5, HQ5, Ha5, hS5, HG5⟩ : ∃ Q5, Hid (((((w4.setCell ⟨U.heap.size, 0, none⟩ (.int .i64 2)).setCell ⟨U.heap.size, 2, none⟩ (.int .i64 m)).setCell ⟨U.heap.size, 3, none⟩ (.int .i64 2)).setCell ⟨U.heap.size, 4, none⟩ (.int .u64 g2)).setCell ⟨U.heap.size, 5, none⟩ (.int .u64 0) = Q5) /\ Hid (Hp Q5 U.heap.size 57 (actC 2 M.pc m 2 g2 0 0)) /\ ((Q5).cell? ⟨b, 0, none⟩ = some (.slice (some ⟨mb, mo, none⟩) ms.length mcap) /\ (Q5).cell? ⟨mb, mo + h1, none⟩ = some (.int .i64 m) /\ (Q5).cell? ⟨w.heap.size + 1, 4, none⟩ = some (.int .i64 2) /\ (Q5).cell? ⟨b, 6, none⟩ = some (.int .u64 g2)) /\ Hid (w4.grownBy Q5 (some U.heap.size)) := ⟨_, rfl, (Ha4.out.set 0 (.int .i64 2)).sets [.int .i64 m, .int .i64 2, .int .u64 g2, .int .u64 0] 2, ⟨(qBn (w4.setCell ⟨U.heap.size, 0, none⟩ (.int .i64 2)) U.heap.size 2 [.int .i64 m, .int .i64 2, .int .u64 g2, .int .u64 0] (fun e => n1 e.symm)).trans hJ.1, (qBn (w4.setCell ⟨U.heap.size, 0, none⟩ (.int .i64 2)) U.heap.size 2 [.int .i64 m, .int .i64 2, .int .u64 g2, .int .u64 0] (fun e => n9 e.symm)).trans hJ.2.1, (qBn (w4.setCell ⟨U.heap.size, 0, none⟩ (.int .i64 2)) U.heap.size 2 [.int .i64 m, .int .i64 2, .int .u64 g2, .int .u64 0] (fun e => n10 e.symm)).trans hJ.2.2.1, (qBn (w4.setCell ⟨U.heap.size, 0, none⟩ (.int .i64 2)) U.heap.size 2 [.int .i64 m, .int .i64 2, .int .u64 g2, .int .u64 0] (fun e => n1 e.symm)).trans hJ.2.2.2⟩, qAl (qAd w4 U.heap.size 0 (.int .i64 2)) (qAa U.heap.size [.int .i64 m, .int .i64 2, .int .u64 g2, .int .u64 0] _ 2)⟩
   refine wp_region_held_drew (S := fun w' => w'.cell? ⟨b, 0, none⟩ = some (.slice (some ⟨mb, mo, none⟩) ms.length mcap) /\ w'.cell? ⟨mb, mo + h1, none⟩ = some (.int .i64 m) /\ w'.cell? ⟨w.heap.size + 1, 4, none⟩ = some (.int .i64 2) /\ w'.cell? ⟨b, 6, none⟩ = some (.int .u64 g2)) (by kernel_rfl) hJ (fun hHeld => ?_)
   refine tks [0, 1, 2, 3, 4, 5, 6, 7, 8, 9, 10, 11, 12, 13, 14, 15, 16] ?_
   repeat (refine tk (v := ?_) rfl (by kernel_rfl) (by kernel_rfl) (by kernel_rfl) (fun _ _ _ h => h) (by assumption) (by rfl) ?_ ?_; rotate_left; (intro wy hSw; (try dsimp only at hSw); go_simp; (first | done | with_reducible rfl)); try simp only [Act.put, List.getElem_toArray, List.getElem_cons_zero, List.getElem_cons_succ, List.setIfInBounds_toArray, List.set_cons_zero, List.set_cons_succ])
   refine tkE ?_
   refine wpAnyH_ready (rs := [17]) (by kernel_rfl) (by simp) ?_
   refine AllReadyH.cons rfl (fun KK hK => ?_) AllReadyH.nil
   rw [if_pos (by rfl)]
   go_simp
   rw [HQ5.out]
   refine hK.out _ _ hS5 (fun hHeld => ?_)
   clear hK KK
   try simp only [Act.put, List.getElem_toArray, List.getElem_cons_zero, List.getElem_cons_succ, List.setIfInBounds_toArray, List.set_cons_zero, List.set_cons_succ]
   refine wpAnyH_done (by kernel_rfl) ?_ _
   clear hHeld l0 l1 l2 l3 l4 l5 l6 o0 o1 o2 o3 o4 o5 o6 p0 p1 p2 p3 p4 p5 p6 z0 z1 z2 z3 z4 q0 q2 q3 q4 q5 j0 j1 j2 j3 j4 hJ
   obtain ⟨l0, l1, l2, l3, l4, l5, l6, _⟩ := act7 Ha5.out
   obtain ⟨o0, o1, o2, o3, o4, o5, o6, p0, p1, p2, p3, p4, p5, p6⟩ := act7 (Ho4.out.grown HG5.out (fun e => n7 (Option.some.inj e).symm))
   have q5 := Ha5.out.frozen 5
   have j4 := hS5.2.2.1
   have z4 := (Xa.reg (k := 3) ⟨HX4.out.hp.grown HG5.out (fun e => n1 (Option.some.inj e).symm), HX4.out.wr, HX4.out.ww, HX4.out.pc⟩ (by omega))
   rw [show M.regs.getD 3 0 = g3 from H3.out] at z4
   go_wp2
   exact xendA (n := 1) hst rfl rfl Ho4.out rfl hB4 hlt (hA := qAl HG5.out (qAd Q5 U.heap.size 5 (.int .u64 g3))) (by omega) (by omega) (by omega) HX4.out (stN _) rfl rfl rfl rfl rfl
  have cWmap2 := cW
  clear cW
  have cW := hO
  clear cV hO
  clear hcnt
  have hi2 : ¬ imm = 2 := fun e => cWmap2 ⟨cW.1, e⟩
  have hi4 : ¬ imm = 4 := fun e => cWmap4 ⟨cW.1, e⟩
  clear cWmap2 cWmap4
  have bi2 : (imm == 2) = false := by simpa using hi2
  have bi4 : (imm == 4) = false := by simpa using hi4
  have hc := qBp hr (by first | exact cW.1 | exact cW)
  simp only at hc
  obtain ⟨a1, a2⟩ := qBu hr hma HXU.out.wr hold0 ha (by first | exact cW.1 | exact cW)
  simp only at a1 a2
  obtain ⟨cW, him⟩ := cW
  subst cW
  have him : (0 : Int) <= imm /\ (imm : Int) <= 4 := ⟨hc.1, him⟩
  obtain ⟨b1, b2⟩ := a1 him.2
  obtain ⟨h1, H1'⟩ := Int.eq_ofNat_of_zero_le b1
  have H1 : Hid ((regV M.regs 1).toNat = h1) := by show _ = _; omega
  have H1' : Hid (regV M.regs 1 = h1) := H1'
  have hjl : h1 < ms.length := by have := H1'.out; omega
  obtain ⟨ad, mcap, rfl, hl, hmm, _, _, hcell⟩ := hm
  obtain ⟨mb, mo, rfl, hmb, hcs⟩ := hcell (fun e => by rw [e] at hjl; simp at hjl)
  obtain ⟨m, HM⟩ : ∃ m, Hid (ms.getD h1 0 = m) := ⟨_, rfl⟩
  have hcs := hcs h1 hjl
  rw [HM.out] at hcs
  obtain ⟨g2, H2⟩ : ∃ g, Hid (regV M.regs 2 = g) := ⟨_, rfl⟩
  obtain ⟨g3, H3⟩ : ∃ g, Hid (regV M.regs 3 = g) := ⟨_, rfl⟩
  have hmx : maxLen = 9223372036854775807 := rfl
  have hwm : IntKind.u64.wrap (ms.length : Int) = ms.length := by rw [IntKind.wrap_u64]; omega
  have hjI : ¬ (ms.length : Int) <= h1 := by omega
  have hjI2 : (h1 : Int) < ms.length := by omega
  have hi0 : (0 : Int) <= imm := him.1
  have hi5 : (imm : Int) < 5 := by omega
  have n9 : ¬ U.heap.size = mb := by omega
  have n10 : ¬ U.heap.size = w.heap.size + 1 := by omega
  have hst := step_map (ms := ms) (xs := xs) (ev := ev) (m := m) (g2 := g2) (g3 := 0) hm0 HI rfl (by exact him.2) (by rw [H1.out]; exact HM.out) H2.out (by show (if imm = 2 ∨ imm = 4 then _ else _) = _; rw [if_neg (by omega)])
  go_wp2_with (go_at_call 25; rw [HZ.out]; go_must (refine (qAr ⟨21, d, a, bb, imm⟩ Z HXZ.out hb HY).mono ?_); rintro e w4 ⟨rfl, hb4⟩; go_must (obtain ⟨Ha4', Ho4', Hi4', HX4', hB4⟩ := HPre.out w4 hb4; have Ha4 := keepT Ha4'; have Ho4 := keepT Ho4'; have Hi4 := keepT Hi4'; have HX4 := keepT HX4'; (have j0 := Hi4.out.cell (j := 0) rfl); (have j1 := Hi4.out.cell (j := 1) rfl); (have j2 := Hi4.out.cell (j := 2) rfl); (have j3 := Hi4.out.cell (j := 3) rfl); (have j4 := Hi4.out.cell (j := 4) rfl); obtain ⟨l0, l1, l2, l3, l4, l5, l6, _⟩ := act7 Ha4'; obtain ⟨o0, o1, o2, o3, o4, o5, o6, p0, p1, p2, p3, p4, p5, p6⟩ := act7 Ho4'; have g92 := HX4'.at.1; have f92 := HX4'.hp.frozen 92; have z0 := HX4'.low.1; have z1 := (hB4.cell (p := ⟨mb, mo + h1, none⟩) hmb).trans hcs; have z2 := HX4'.reg (k := 2) (by omega); have z3 := HX4'.reg (k := 1) (by omega); have z4 := HX4'.reg (k := 3) (by omega); rw [show M.regs.getD 2 0 = g2 from H2.out] at z2; rw [show M.regs.getD 1 0 = h1 from H1'.out] at z3; rw [show M.regs.getD 3 0 = g3 from H3.out] at z4; have q0 := Ha4'.frozen 0; have q2 := Ha4'.frozen 2; have q3 := Ha4'.frozen 3; have q4 := Ha4'.frozen 4; have q5 := Ha4'.frozen 5; clear Ha4' Ho4' Hi4' HX4' hb4))
  have hJ : (w4.setCell ⟨U.heap.size, 0, none⟩ (.int .i64 2)).cell? ⟨b, 0, none⟩ = some (.slice (some ⟨mb, mo, none⟩) ms.length mcap) /\ (w4.setCell ⟨U.heap.size, 0, none⟩ (.int .i64 2)).cell? ⟨mb, mo + h1, none⟩ = some (.int .i64 m) /\ (w4.setCell ⟨U.heap.size, 0, none⟩ (.int .i64 2)).cell? ⟨w.heap.size + 1, 4, none⟩ = some (.int .i64 imm) /\ (w4.setCell ⟨U.heap.size, 0, none⟩ (.int .i64 2)).cell? ⟨b, 6, none⟩ = some (.int .u64 g2) := ⟨(World.cell?_setCell_other _ _ _ _ (fun e => n1 (by injection e))).trans z0, (World.cell?_setCell_other _ _ _ _ (fun e => n9 (by injection e))).trans z1, (World.cell?_setCell_other _ _ _ _ (fun e => n10 (by injection e))).trans j4, (World.cell?_setCell_other _ _ _ _ (fun e => n1 (by injection e))).trans z2⟩
  obtain ⟨Q5, HQ5, Ha5, hS5, HG5⟩ : ∃ Q5, Hid (((((w4.setCell ⟨U.heap.size, 0, none⟩ (.int .i64 2)).setCell ⟨U.heap.size, 2, none⟩ (.int .i64 m)).setCell ⟨U.heap.size, 3, none⟩ (.int .i64 imm)).setCell ⟨U.heap.size, 4, none⟩ (.int .u64 g2)).setCell ⟨U.heap.size, 5, none⟩ (.int .u64 0) = Q5) /\ Hid (Hp Q5 U.heap.size 57 (actC 2 M.pc m imm g2 0 0)) /\ ((Q5).cell? ⟨b, 0, none⟩ = some (.slice (some ⟨mb, mo, none⟩) ms.length mcap) /\ (Q5).cell? ⟨mb, mo + h1, none⟩ = some (.int .i64 m) /\ (Q5).cell? ⟨w.heap.size + 1, 4, none⟩ = some (.int .i64 imm) /\ (Q5).cell? ⟨b, 6, none⟩ = some (.int .u64 g2)) /\ Hid (w4.grownBy Q5 (some U.heap.size)) := ⟨_, rfl, (Ha4.out.set 0 (.int .i64 2)).sets [.int .i64 m, .int .i64 imm, .int .u64 g2, .int .u64 0] 2, ⟨(qBn (w4.setCell ⟨U.heap.size, 0, none⟩ (.int .i64 2)) U.heap.size 2 [.int .i64 m, .int .i64 imm, .int .u64 g2, .int .u64 0] (fun e => n1 e.symm)).trans hJ.1, (qBn (w4.setCell ⟨U.heap.size, 0, none⟩ (.int .i64 2)) U.heap.size 2 [.int .i64 m, .int .i64 imm, .int .u64 g2, .int .u64 0] (fun e => n9 e.symm)).trans hJ.2.1, (qBn (w4.setCell ⟨U.heap.size, 0, none⟩ (.int .i64 2)) U.heap.size 2 [.int .i64 m, .int .i64 imm, .int .u64 g2, .int .u64 0] (fun e => n10 e.symm)).trans hJ.2.2.1, (qBn (w4.setCell ⟨U.heap.size, 0, none⟩ (.int .i64 2)) U.heap.size 2 [.int .i64 m, .int .i64 imm, .int .u64 g2, .int .u64 0] (fun e => n1 e.symm)).trans hJ.2.2.2⟩, qAl (qAd w4 U.heap.size 0 (.int .i64 2)) (qAa U.heap.size [.int .i64 m, .int .i64 imm, .int .u64 g2, .int .u64 0] _ 2)⟩
  refine wp_region_held_drew (S := fun w' => w'.cell? ⟨b, 0, none⟩ = some (.slice (some ⟨mb, mo, none⟩) ms.length mcap) /\ w'.cell? ⟨mb, mo + h1, none⟩ = some (.int .i64 m) /\ w'.cell? ⟨w.heap.size + 1, 4, none⟩ = some (.int .i64 imm) /\ w'.cell? ⟨b, 6, none⟩ = some (.int .u64 g2)) (by kernel_rfl) hJ (fun hHeld => ?_)
  refine tks [0, 1, 2, 3, 4, 5, 6, 7, 8, 9, 10, 11, 12, 13, 14, 15, 16] ?_
  repeat (refine tk (v := ?_) rfl (by kernel_rfl) (by kernel_rfl) (by kernel_rfl) (fun _ _ _ h => h) (by assumption) (by rfl) ?_ ?_; rotate_left; (intro wy hSw; (try dsimp only at hSw); go_simp; (first | done | with_reducible rfl)); try simp only [Act.put, List.getElem_toArray, List.getElem_cons_zero, List.getElem_cons_succ, List.setIfInBounds_toArray, List.set_cons_zero, List.set_cons_succ])
  refine tkE ?_
  refine wpAnyH_ready (rs := [17]) (by kernel_rfl) (by simp) ?_
  refine AllReadyH.cons rfl (fun KK hK => ?_) AllReadyH.nil
  rw [if_pos (by rfl)]
  go_simp
  rw [HQ5.out]
  refine hK.out _ _ hS5 (fun hHeld => ?_)
  clear hK KK
  try simp only [Act.put, List.getElem_toArray, List.getElem_cons_zero, List.getElem_cons_succ, List.setIfInBounds_toArray, List.set_cons_zero, List.set_cons_succ]
  refine wpAnyH_done (by kernel_rfl) ?_ _
  clear hHeld l0 l1 l2 l3 l4 l5 l6 o0 o1 o2 o3 o4 o5 o6 p0 p1 p2 p3 p4 p5 p6 z0 z1 z2 z3 z4 q0 q2 q3 q4 q5 j0 j1 j2 j3 j4 hJ
  obtain ⟨l0, l1, l2, l3, l4, l5, l6, _⟩ := act7 Ha5.out
  obtain ⟨o0, o1, o2, o3, o4, o5, o6, p0, p1, p2, p3, p4, p5, p6⟩ := act7 (Ho4.out.grown HG5.out (fun e => n7 (Option.some.inj e).symm))
  have q5 := Ha5.out.frozen 5
  have j4 := hS5.2.2.1
  have z4 := (Xa.reg (k := 3) ⟨HX4.out.hp.grown HG5.out (fun e => n1 (Option.some.inj e).symm), HX4.out.wr, HX4.out.ww, HX4.out.pc⟩ (by omega))
  rw [show M.regs.getD 3 0 = g3 from H3.out] at z4
  go_wp2
  exact xendA (n := 1) hst rfl rfl Ho4.out rfl hB4 hlt (hA := HG5.out) (by omega) (by omega) (by omega) HX4.out (stN _) rfl rfl rfl rfl rfl
 ·exact absurd (cV.symm.trans hO.1) (by decide)
end
end Go.Proofs.YtbaeakbnoijkcaaGreat
