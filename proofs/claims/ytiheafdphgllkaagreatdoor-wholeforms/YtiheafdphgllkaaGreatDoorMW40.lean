/-
  E11LTurn
  E11LAsk
  E11LCall
  E11LMark
  E11LMap
  E11LAns
  E11LAll
  E11LStep
  E11LStepC
  E11LStepE
  E11LStepR
  JArr
-/
import Derived.Test.YtiheafdphgllkaaGreatDoorMW5
import Derived.Test.YtiheafdphgllkaaGreatDoorMW39
import Derived.Test.YtiheafdphgllkaaGreatDoorMW37
import Derived.Test.YtiheafdphgllkaaGreatDoorMW21
import Derived.Test.YtiheafdphgllkaaGreatDoorMW35
import Derived.Test.YtiheafdphgllkaaGreatDoorMW4
import Derived.Test.YtiheafdphgllkaaGreatDoorMW36
import Derived.Deep.RegionHeldLaw
namespace Go.Proofs.YtiheafdphgllkaaGreatDoor
open Go.RowKit
set_option linter.unusedVariables false
set_option linter.unusedSimpArgs false
set_option maxRecDepth 100000
section
variable {b sb : Nat} {vm vc : Value} {ev : Int × Int} {M : Mc}
set_option maxHeartbeats 6400000 in
theorem mturn_any (d a bb imm : Int) (w : World) (h : Ma w b sb vm vc ev M) (hd : 0 <= d /\ d <= 63) (ha : 0 <= a /\ a <= 7) (hi : 1 <= imm /\ imm <= 255) (ht : 0 <= M.turn M.pc /\ M.turn M.pc <= 255) {p : Int} (HP : Hid ((if goesE ⟨20, d, a, bb, imm⟩ M = true then (M.pc : Int) - d else (M.pc : Int) + 1) = p)) :
  Calls Tryz.prog 106 #[.pointer (some ⟨b, 0, none⟩), instV 20 d a bb imm] w fun e w' => e = .returned (.int .i64 p) /\ w.grownBy w' (some b) /\ Ma w' b sb vm vc ev { M with turn := turnE ⟨20, d, a, bb, imm⟩ M } := by
 obtain ⟨Z, HZ, hBZ, hzZ, HR, x0, x1, x2, x3, x4⟩ := boxL h 20 d a bb imm
 obtain ⟨k, rfl⟩ := Int.eq_ofNat_of_zero_le ha.1
 have hk : k < 8 := by omega
 have hkI : (k : Int) < 8 := by omega
 have hpI : (M.pc : Int) < 64 := by have := h.pc; omega
 have hp64 : (M.pc : Int) <= 100 := by omega
 obtain ⟨hd0, hd1⟩ := hd
 have hlt := h.hp.lt
 have hltZ := HR.out.hp.lt
 have hwb : w.heap.size ≠ b := by omega
 have c2 := HR.out.last.1
 have c3 := HR.out.reg hk
 have c4 := HR.out.turn
 obtain ⟨x, HX⟩ : ∃ x, Hid (M.regs.getD k 0 = x) := ⟨_, rfl⟩
 obtain ⟨t, HT⟩ : ∃ t, Hid (M.turn M.pc = t) := ⟨_, rfl⟩
 rw [HX.out] at c3
 rw [HT.out] at c4 ht
 obtain ⟨ht0, ht1⟩ := ht
 have hx : 0 <= x /\ x <= 18446744073709551615 := by rw [<- HX.out]; exact h.wr.2 k hk
 have f0 := HR.out.hp.frozen (13 + M.pc)
 have HG : Hid (goesE ⟨20, d, k, bb, imm⟩ M = (decide (0 < x) && decide (t < imm))) := by
  show _ = _
  unfold goesE
  rw [if_neg (by simp), if_pos rfl]
  show decide (0 < M.regs.getD k 0 /\ M.turn M.pc < imm) = _
  simp only [HX.out, HT.out, Bool.decide_and]
 have HU : Hid (turnE ⟨20, d, k, bb, imm⟩ M = fun u : Int => if u = M.pc then (if goesE ⟨20, d, k, bb, imm⟩ M = true then t + 1 else 0) else M.turn u) := by
  show _ = _
  unfold turnE
  rw [if_pos rfl, HT.out]
 have HS : Hid (∀ v : Int, Ma (Z.setCell ⟨b, 13 + M.pc, none⟩ (.int .i64 v)) b sb vm vc ev { M with turn := fun u : Int => if u = M.pc then v else M.turn u }) := fun v => HR.out.setT v
 have HGr : Hid (∀ v : Int, w.grownBy (Z.setCell ⟨b, 13 + M.pc, none⟩ (.int .i64 v)) (some b)) := fun v => grownJ_trans (grown_of_below hBZ _) (grown_set Z b (13 + M.pc) _)
 have HWR : Hid (IntKind.i64.wrap (t + 1) = t + 1) := by show _ = _; rw [IntKind.wrap_i64]; omega
 have HKS : Hid (∀ v : Int, (Z.setCell ⟨b, 13 + M.pc, none⟩ (.int .i64 v)).cell? ⟨b, 77, none⟩ = some (.int .i64 M.pc)) := fun v => (HS.out v).last.1
 have HKD : Hid (∀ v : Int, (Z.setCell ⟨b, 13 + M.pc, none⟩ (.int .i64 v)).cell? ⟨w.heap.size, 1, none⟩ = some (.int .i64 d)) := fun v => (grown_farL (grown_set Z b (13 + M.pc) (.int .i64 v)) (by omega) hwb).trans x1
 by_cases hx0 : 0 < x
 ·have hxne : ¬ x = 0 := by omega
  have hx1 : (x == 0) = false := by simpa using hxne
  have hx2 : (x != 0) = true := by simpa using hxne
  by_cases hti : t < imm
  ·have HG1 : Hid (goesE ⟨20, d, k, bb, imm⟩ M = true) := by show _ = _; rw [HG.out, decide_eq_true hx0, decide_eq_true hti]; rfl
   rw [HG1.out, if_pos rfl] at HP
   rw [HU.out, HG1.out, <- HP.out]
   go_enter Tryz.func106, Tryz.ntmps106
   go_wp2
   rw [<- HZ.out]
   go_region
   go_wp2
   refine wp_region_held_drew (S := fun w' => w'.cell? ⟨b, 77, none⟩ = some (.int .i64 M.pc)) (by kernel_rfl) c2 (fun hHeld => ?_)
   refine tkGo [0, 1, 2, 3, 4, 5, 6, 7, 10, 11] ?_
   repeat (refine tkO (v := ?_) rfl ?_ ?_; rotate_left; (intro wy hSw; (try dsimp only at hSw); go_simp; (first | done | with_reducible rfl)); try simp only [Act.put, p1q, p2q, p3q, p4q, p5q, p6q])
   refine tkEnd ?_
   refine runO 8 (by kernel_rfl) rfl (by rfl) (fun KK hK => ?_)
   go_simp
   refine hK.out _ _ c2 (fun hHeld => ?_)
   clear hK KK
   try simp only [Act.put, p1q, p2q, p3q, p4q, p5q, p6q]
   refine tkGo [9, 12] ?_
   repeat (refine tkO (v := ?_) rfl ?_ ?_; rotate_left; (intro wy hSw; (try dsimp only at hSw); go_simp; (first | done | with_reducible rfl)); try simp only [Act.put, p1q, p2q, p3q, p4q, p5q, p6q])
   refine tkEnd ?_
   refine runO 13 (by kernel_rfl) rfl (by rfl) (fun KK hK => ?_)
   go_simp
   rw [HWR.out]
   refine hK.out _ _ (HKS.out (t + 1)) (fun hHeld => ?_)
   clear hK KK
   try simp only [Act.put, p1q, p2q, p3q, p4q, p5q, p6q]
   refine wpAnyH_done (by kernel_rfl) ?_ _
   have y7 := HKS.out (t + 1)
   have y1 := HKD.out (t + 1)
   have HS1 := keepJ (HS.out (t + 1))
   have HG2 := keepJ (HGr.out (t + 1))
   obtain ⟨Y, HY⟩ : ∃ Y, Hid (Z.setCell ⟨b, 13 + M.pc, none⟩ (.int .i64 (t + 1)) = Y) := ⟨_, rfl⟩
   rw [HY.out] at y7 y1 HS1 HG2
   try rw [HY.out]
   clear HS HGr HKS HKD
   go_wp2
   go_region
   go_wp2
   go_ret
   exact ⟨rfl, grown_drew (grown_drew (grown_drew HG2.out)), HS1.out.drew.drew.drew⟩
  ·have htI : ¬ t < imm := hti
   have HG1 : Hid (goesE ⟨20, d, k, bb, imm⟩ M = false) := by show _ = _; rw [HG.out, decide_eq_false hti, Bool.and_false]
   rw [HG1.out, if_neg (by simp)] at HP
   rw [HU.out, HG1.out, <- HP.out]
   have hS5 := HKS.out 0
   go_enter Tryz.func106, Tryz.ntmps106
   go_wp2
   rw [<- HZ.out]
   go_region
   go_wp2
   go_region_held3 (fun w' => w'.cell? ⟨b, 77, none⟩ = some (.int .i64 M.pc))
    (first | with_reducible exact c2 | exact hS5 | exact c2)
    (fail)
   have y7 := HKS.out 0
   have HS1 := keepJ (HS.out 0)
   have HG2 := keepJ (HGr.out 0)
   obtain ⟨Y, HY⟩ : ∃ Y, Hid (Z.setCell ⟨b, 13 + M.pc, none⟩ (.int .i64 0) = Y) := ⟨_, rfl⟩
   rw [HY.out] at y7 HS1 HG2
   try rw [HY.out]
   clear HS HGr HKS HKD hS5
   go_wp2
   go_ret
   exact ⟨rfl, grown_drew (grown_drew HG2.out), HS1.out.drew.drew⟩
 ·obtain rfl : x = 0 := by omega
  have HG1 : Hid (goesE ⟨20, d, k, bb, imm⟩ M = false) := by show _ = _; rw [HG.out, decide_eq_false hx0, Bool.false_and]
  rw [HG1.out, if_neg (by simp)] at HP
  rw [HU.out, HG1.out, <- HP.out]
  have hS5 := HKS.out 0
  go_enter Tryz.func106, Tryz.ntmps106
  go_wp2
  rw [<- HZ.out]
  go_region
  go_wp2
  go_region_held3 (fun w' => w'.cell? ⟨b, 77, none⟩ = some (.int .i64 M.pc))
   (first | with_reducible exact c2 | exact hS5 | exact c2)
   (fail)
  have y7 := HKS.out 0
  have HS1 := keepJ (HS.out 0)
  have HG2 := keepJ (HGr.out 0)
  obtain ⟨Y, HY⟩ : ∃ Y, Hid (Z.setCell ⟨b, 13 + M.pc, none⟩ (.int .i64 0) = Y) := ⟨_, rfl⟩
  rw [HY.out] at y7 HS1 HG2
  try rw [HY.out]
  clear HS HGr HKS HKD hS5
  go_wp2
  go_ret
  exact ⟨rfl, grown_drew (grown_drew HG2.out), HS1.out.drew.drew⟩
set_option maxHeartbeats 3200000 in
theorem mnext_jump (d a bb imm : Int) (w : World) (h : Ma w b sb vm vc ev M) (hd : 0 <= d /\ d <= 63) :
  Calls Tryz.prog 66 #[.pointer (some ⟨b, 0, none⟩), instV 15 d a bb imm] w fun e w' => e = .returned (.int .i64 ((M.pc : Int) + 1 + d)) /\ Below w.heap.size w w' := by
 obtain ⟨Z, HZ, hBZ, hzZ, HR, x0, x1, x2, x3, x4⟩ := boxL h 15 d a bb imm
 have hpI : (M.pc : Int) < 64 := by have := h.pc; omega
 have hp64 : (M.pc : Int) <= 100 := by omega
 obtain ⟨hd0, hd1⟩ := hd
 have c2 := HR.out.last.1
 have hlt := h.hp.lt
 go_enter Tryz.func66, Tryz.ntmps66
 go_wp2
 rw [<- HZ.out]
 go_region
 go_wp2
 go_ret
 exact ⟨rfl, below_drE hBZ⟩
set_option maxHeartbeats 3200000 in
theorem mnext_loop (d a bb imm : Int) (w : World) (h : Ma w b sb vm vc ev M) (hd : 0 <= d /\ d <= 63) (ha : 0 <= a /\ a <= 7) (hi : 1 <= imm /\ imm <= 255) (ht : 0 <= M.turn M.pc /\ M.turn M.pc <= 255) {p : Int} (HP : Hid ((if goesE ⟨20, d, a, bb, imm⟩ M = true then (M.pc : Int) - d else (M.pc : Int) + 1) = p)) :
  Calls Tryz.prog 66 #[.pointer (some ⟨b, 0, none⟩), instV 20 d a bb imm] w fun e w' => e = .returned (.int .i64 p) /\ w.grownBy w' (some b) /\ Ma w' b sb vm vc ev { M with turn := turnE ⟨20, d, a, bb, imm⟩ M } := by
 obtain ⟨Z, HZ, hBZ, hzZ, HR, x0, x1, x2, x3, x4⟩ := boxL h 20 d a bb imm
 have hlt := h.hp.lt
 go_enter Tryz.func66, Tryz.ntmps66
 go_wp2_with (go_at_call 106; rw [<- HZ.out]; go_must (refine (mturn_any d a bb imm Z HR.out hd ha hi ht HP).mono ?_); rintro e w4 ⟨rfl, hg4, hm4⟩)
 go_ret
 exact ⟨rfl, grownJ_trans (grown_of_below hBZ _) hg4, hm4⟩
set_option maxHeartbeats 3200000 in
theorem mnext_cond (op d a bb imm : Int) (w : World) (h : Ma w b sb vm vc ev M) (h15 : (op == 15) = false) (h20 : (op == 20) = false) (ha : 0 <= a /\ a <= 7) (hb : bb = 8 ∨ (0 <= bb /\ bb <= 7)) {r : Bool} (hr : Hid (holdL op (regV M.regs a) (srcV ⟨op, d, a, bb, imm⟩ M.regs) = r)) (hd : r = true -> 0 <= d /\ d <= 63) {p : Int} (HP : Hid ((if r = true then (M.pc : Int) + 1 + d else (M.pc : Int) + 1) = p)) :
  Calls Tryz.prog 66 #[.pointer (some ⟨b, 0, none⟩), instV op d a bb imm] w fun e w' => e = .returned (.int .i64 p) /\ Below w.heap.size w w' := by
 obtain ⟨Z, HZ, hBZ, hzZ, HR, x0, x1, x2, x3, x4⟩ := boxL h op d a bb imm
 obtain ⟨k, rfl⟩ := Int.eq_ofNat_of_zero_le ha.1
 have hk : k < 8 := by omega
 have hkI : (k : Int) < 8 := by omega
 have hpI : (M.pc : Int) < 64 := by have := h.pc; omega
 have hp64 : (M.pc : Int) <= 100 := by omega
 obtain ⟨x, HX⟩ : ∃ x, Hid (M.regs.getD k 0 = x) := ⟨_, rfl⟩
 obtain ⟨y, HY⟩ : ∃ y, Hid (srcV ⟨op, d, k, bb, imm⟩ M.regs = y) := ⟨_, rfl⟩
 have hx : 0 <= x /\ x <= 18446744073709551615 := by rw [<- HX.out]; exact h.wr.2 k hk
 have hy : 0 <= y /\ y <= 18446744073709551615 := by rw [<- HY.out]; exact srcV_in h.wr hb
 have HH : Hid (r = holdL op x y) := by
  show _ = _
  rw [<- hr.out, <- HX.out, <- HY.out]
  rfl
 obtain ⟨c, HC⟩ : ∃ c, Hid (c = isCond op) := ⟨_, rfl⟩
 have hlt := h.hp.lt
 have hltZ := HR.out.hp.lt
 have HKP : Hid (∀ wx : World, Below Z.heap.size Z wx -> wx.cell? ⟨b, 5 + k, none⟩ = some (.int .u64 x) /\ wx.cell? ⟨b, 77, none⟩ = some (.int .i64 M.pc) /\ wx.cell? ⟨w.heap.size, 0, none⟩ = some (.int .i64 op) /\ wx.cell? ⟨w.heap.size, 1, none⟩ = some (.int .i64 d) /\ wx.cell? ⟨w.heap.size, 2, none⟩ = some (.int .i64 k) /\ wx.cell? ⟨w.heap.size, 3, none⟩ = some (.int .i64 bb) /\ wx.cell? ⟨w.heap.size, 4, none⟩ = some (.int .i64 imm)) := fun wx hb => by
  have hc := (HR.out.below hb hltZ).reg hk
  rw [HX.out] at hc
  exact ⟨hc, (HR.out.below hb hltZ).last.1, (hb.cell (p := ⟨w.heap.size, 0, none⟩) (show w.heap.size < Z.heap.size by omega)).trans x0, (hb.cell (p := ⟨w.heap.size, 1, none⟩) (show w.heap.size < Z.heap.size by omega)).trans x1, (hb.cell (p := ⟨w.heap.size, 2, none⟩) (show w.heap.size < Z.heap.size by omega)).trans x2, (hb.cell (p := ⟨w.heap.size, 3, none⟩) (show w.heap.size < Z.heap.size by omega)).trans x3, (hb.cell (p := ⟨w.heap.size, 4, none⟩) (show w.heap.size < Z.heap.size by omega)).trans x4⟩
 clear hr
 cases r with
 | true =>
  obtain ⟨hd0, hd1⟩ := hd rfl
  rw [if_pos rfl] at HP
  rw [<- HP.out]
  go_enter Tryz.func66, Tryz.ntmps66
  go_wp2
  rw [<- HZ.out]
  clear x0 x1 x2 x3 x4
  go_region_held3 (fun w' => w'.cell? ⟨b, 5 + k, none⟩ = some (.int .u64 x) /\ w'.cell? ⟨b, 77, none⟩ = some (.int .i64 M.pc) /\ w'.cell? ⟨w.heap.size, 0, none⟩ = some (.int .i64 op) /\ w'.cell? ⟨w.heap.size, 1, none⟩ = some (.int .i64 d) /\ w'.cell? ⟨w.heap.size, 2, none⟩ = some (.int .i64 k) /\ w'.cell? ⟨w.heap.size, 3, none⟩ = some (.int .i64 bb) /\ w'.cell? ⟨w.heap.size, 4, none⟩ = some (.int .i64 imm))
   (first | with_reducible exact hS4 | exact HKP.out Z (Below.refl _ _))
   (first
    | (go_at_call 101; go_must (refine (msource_any ⟨op, d, k, bb, imm⟩ Z.drew HR.out.drew hb HY).mono ?_); rintro e w4 ⟨rfl, hb4'⟩; go_must (have hb4 : Below Z.heap.size Z w4 := below_undrew hb4'; have hS4 := HKP.out w4 hb4; have hB4 : Below w.heap.size w w4 := hBZ.trans (hb4.mono hBZ.size); clear hb4'))
    | (go_at_call 107; go_must (refine (holds_as HH HC _ hx hy).mono ?_); rintro e w5 ⟨rfl, rfl⟩))
  obtain ⟨s0, s1, s2, s3, s4, s5, s6⟩ := hS4
  go_wp2
  go_region
  go_wp2
  go_ret
  exact ⟨rfl, below_drE hB4⟩
 | false =>
  rw [if_neg (by simp)] at HP
  rw [<- HP.out]
  clear hd
  go_enter Tryz.func66, Tryz.ntmps66
  go_wp2
  rw [<- HZ.out]
  clear x0 x1 x2 x3 x4
  go_region_held3 (fun w' => w'.cell? ⟨b, 5 + k, none⟩ = some (.int .u64 x) /\ w'.cell? ⟨b, 77, none⟩ = some (.int .i64 M.pc) /\ w'.cell? ⟨w.heap.size, 0, none⟩ = some (.int .i64 op) /\ w'.cell? ⟨w.heap.size, 1, none⟩ = some (.int .i64 d) /\ w'.cell? ⟨w.heap.size, 2, none⟩ = some (.int .i64 k) /\ w'.cell? ⟨w.heap.size, 3, none⟩ = some (.int .i64 bb) /\ w'.cell? ⟨w.heap.size, 4, none⟩ = some (.int .i64 imm))
   (first | with_reducible exact hS4 | exact HKP.out Z (Below.refl _ _))
   (first
    | (go_at_call 101; go_must (refine (msource_any ⟨op, d, k, bb, imm⟩ Z.drew HR.out.drew hb HY).mono ?_); rintro e w4 ⟨rfl, hb4'⟩; go_must (have hb4 : Below Z.heap.size Z w4 := below_undrew hb4'; have hS4 := HKP.out w4 hb4; have hB4 : Below w.heap.size w w4 := hBZ.trans (hb4.mono hBZ.size); clear hb4'))
    | (go_at_call 107; go_must (refine (holds_as HH HC _ hx hy).mono ?_); rintro e w5 ⟨rfl, rfl⟩))
  obtain ⟨s0, s1, s2, s3, s4, s5, s6⟩ := hS4
  go_wp2
  go_ret
  exact ⟨rfl, hB4⟩
end
abbrev itemC (im io ik iv : Int) : List Value := [.int .i64 im, .int .i64 io, .int .u64 ik, .int .u64 iv]
abbrev itemV (im io ik iv : Int) : Value := .agg #[.int .i64 im, .int .i64 io, .int .u64 ik, .int .u64 iv]
theorem run_boxM {w : World} {n : Nat} {im io ik iv : Int} (h : Hp w n 53 (itemC im io ik iv)) : (loadVar 53 ⟨n, 0, none⟩).run Tryz.prog w = .ok (itemV im io ik iv) w := by
 refine run_loadVar_mid w n 0 53 (itemC im io ik iv) _ ?_ Tryz.underlying53 rfl (by kernel_rfl)
 intro j x hx
 rw [Nat.zero_add]
 exact h.cell hx
theorem item_ret {fn : Func} {p : Tmp} {w2 : World} {n : Nat} {tmps : Array Value} {im io ik iv : Int} {Q : Ending -> World -> Prop} (hr : fn.results = #[.cell p 53]) (hp : tmps.getD p undef = .pointer (some ⟨n, 0, none⟩)) (hx : Hp w2 n 53 (itemC im io ik iv)) (hQ : Q (.returned (itemV im io ik iv)) w2) : bodyPost Tryz.prog fn Q .ret ⟨tmps, []⟩ w2 := by
 refine bodyPost_ret (v := itemV im io ik iv) ?_ rfl hQ
 rw [results_cell hr, hp]
 simp only [asAddr, Sem.run_pure, Result.andThen]
 rw [run_boxM hx]
theorem lasks5 (h : Int) (hh : 0 <= h /\ h <= 4) (w : World) : Calls Tryz.prog 134 #[.int .i64 h] w fun e w' => e = .returned (.tuple #[.int .i64 h, .bool true]) /\ w = w' := by
 obtain rfl | rfl | rfl | rfl | rfl : h = 0 ∨ h = 1 ∨ h = 2 ∨ h = 3 ∨ h = 4 := by omega
 all_goals go_enter Tryz.func134, Tryz.ntmps134
 all_goals go_wp2
 all_goals go_ret2
 all_goals exact ⟨rfl, rfl⟩
section
variable {b sb : Nat} {vc : Value} {ev : Int × Int} {M : Mc}
set_option maxHeartbeats 6400000 in
theorem masks_any (hh : Int) (hi : 0 <= hh /\ hh <= 4) {mb mo mcap nm j : Nat} (w : World) (h : Ma w b sb (.slice (some ⟨mb, mo, none⟩) nm mcap) vc ev M) (hj : j < nm) (hmb : mb < w.heap.size) (hmc : nm <= mcap) {g : Int} (hcell : w.cell? ⟨mb, mo + j, none⟩ = some (.int .i64 g)) {y z q : Int} (H1 : Hid (regV M.regs 1 = (j : Int))) (H2 : Hid (regV M.regs 2 = y)) (H3 : Hid (regV M.regs 3 = z)) (HQ : Hid ((if hh = 2 ∨ hh = 4 then z else 0) = q)) :
  Calls Tryz.prog 100 #[.pointer (some ⟨b, 0, none⟩), .int .i64 hh] w fun e w' => e = .returned (itemV g hh y q) /\ Below w.heap.size w w' := by
 have hlt := h.hp.lt
 have hjI : (j : Int) < nm := by omega
 obtain ⟨V, HV, hBV, hzV, HoV, HmV⟩ : ∃ V, Hid (V = w.alloc (.cells #[.int .i64 0, .int .i64 0, .int .u64 0, .int .u64 0] 53)) /\ Below w.heap.size w V /\ V.heap.size = w.heap.size + 1 /\ Hid (Hp V w.heap.size 53 (itemC 0 0 0 0)) /\ Hid (Ma V b sb (.slice (some ⟨mb, mo, none⟩) nm mcap) vc ev M) :=
  ⟨_, rfl, by go_grown, by simp, Hp.new w _ _, h.below ((Below.refl _ _).alloc (Nat.le_refl _) _) hlt⟩
 have HP : Hid (∀ wx : World, Below w.heap.size w wx -> wx.cell? ⟨b, 2, none⟩ = some (.slice (some ⟨mb, mo, none⟩) nm mcap) /\ wx.cell? ⟨b, 6, none⟩ = some (.int .u64 j) /\ wx.cell? ⟨b, 7, none⟩ = some (.int .u64 y) /\ wx.cell? ⟨mb, mo + j, none⟩ = some (.int .i64 g)) := fun wx hb => by
  have r1 := (h.below hb hlt).reg (show 1 < 8 by omega)
  have r2 := (h.below hb hlt).reg (show 2 < 8 by omega)
  rw [show M.regs.getD 1 0 = (j : Int) from H1.out] at r1
  rw [show M.regs.getD 2 0 = y from H2.out] at r2
  exact ⟨(h.below hb hlt).low.2.2.1, r1, r2, (hb.cell (p := ⟨mb, mo + j, none⟩) hmb).trans hcell⟩
 have HP3 : Hid (∀ wx : World, Below w.heap.size w wx -> wx.cell? ⟨b, 8, none⟩ = some (.int .u64 z)) := fun wx hb => by
  have r3 := (h.below hb hlt).reg (show 3 < 8 by omega)
  rw [show M.regs.getD 3 0 = z from H3.out] at r3
  exact r3
 go_enter Tryz.func100, Tryz.ntmps100
 go_wp2_with (go_at_call 134; rw [<- HV.out]; go_must (refine (lasks5 hh hi _).mono ?_); rintro e w1 ⟨rfl, rfl⟩)
 refine wp_region_held_drew (S := fun w' => w'.cell? ⟨b, 2, none⟩ = some (.slice (some ⟨mb, mo, none⟩) nm mcap) /\ w'.cell? ⟨b, 6, none⟩ = some (.int .u64 j) /\ w'.cell? ⟨b, 7, none⟩ = some (.int .u64 y) /\ w'.cell? ⟨mb, mo + j, none⟩ = some (.int .i64 g)) (by kernel_rfl) (HP.out _ (below_drE hBV)) (fun hHeld => ?_)
 refine tkGo [0, 1, 2, 3, 4, 5, 6, 7, 8, 9, 10, 11, 12, 13, 14, 15, 16, 17] ?_
 repeat (refine tkO (v := ?_) rfl ?_ ?_; rotate_left; (intro wy hSw; (try dsimp only at hSw); go_simp; (first | done | with_reducible rfl)); try simp only [Act.put, p1q, p2q, p3q, p4q, p5q, p6q])
 refine tkEnd ?_
 refine runO 18 (by kernel_rfl) rfl (by rfl) (fun KK hK => ?_)
 go_simp
 obtain ⟨Y, HY, hBY, HoY, HiY, hzY⟩ : ∃ Y, Hid (Y = V.alloc (.cells #[.int .i64 0, .int .i64 0, .int .u64 0, .int .u64 0] 53)) /\ Below w.heap.size w Y /\ Hid (Hp Y w.heap.size 53 (itemC 0 0 0 0)) /\ Hid (Hp Y (w.heap.size + 1) 53 (itemC 0 0 0 0)) /\ Y.heap.size = w.heap.size + 2 :=
  ⟨_, rfl, hBV.alloc (by omega) _, HoV.out.alloc _, by have := Hp.new V (itemC 0 0 0 0) 53; rw [hzV] at this; exact this, by simp [hzV]⟩
 rw [<- HY.out]
 refine hK.out _ _ (HP.out _ (below_drE hBY)) (fun hHeld => ?_)
 clear hK KK
 try simp only [Act.put, p1q, p2q, p3q, p4q, p5q, p6q]
 have a0 := HiY.out.cell (j := 0) rfl
 have a1 := HiY.out.cell (j := 1) rfl
 have a2 := HiY.out.cell (j := 2) rfl
 have a3 := HiY.out.cell (j := 3) rfl
 have q0 := HiY.out.frozen 0
 have q1 := HiY.out.frozen 1
 have q2 := HiY.out.frozen 2
 have q3 := HiY.out.frozen 3
 refine runO 19 (by kernel_rfl) rfl (by rfl) (fun KK hK => ?_)
 go_simp
 obtain ⟨U, HU, hBU, HoU, HiU, hzU⟩ : ∃ U, Hid (U = (((Y.setCell ⟨w.heap.size + 1, 0, none⟩ (.int .i64 g)).setCell ⟨w.heap.size + 1, 1, none⟩ (.int .i64 hh)).setCell ⟨w.heap.size + 1, 2, none⟩ (.int .u64 y)).setCell ⟨w.heap.size + 1, 3, none⟩ (.int .u64 0)) /\ Below w.heap.size w U /\ Hid (Hp U w.heap.size 53 (itemC 0 0 0 0)) /\ Hid (Hp U (w.heap.size + 1) 53 (itemC g hh y 0)) /\ w.heap.size + 2 <= U.heap.size :=
  ⟨_, rfl, hBY.trans (grown_to_below (grown_sets (w.heap.size + 1) (itemC g hh y 0) Y 0) (by omega) hBY.size), by have := HoY.out.fars (show w.heap.size ≠ w.heap.size + 1 by omega) (itemC g hh y 0) 0; exact this, by have := HiY.out.sets (itemC g hh y 0) 0; rw [splice_all (itemC g hh y 0) (itemC 0 0 0 0) rfl] at this; exact this, by have := (grown_sets (w.heap.size + 1) (itemC g hh y 0) Y 0).size; show w.heap.size + 2 <= (Y.setCells (w.heap.size + 1) 0 (itemC g hh y 0)).heap.size; omega⟩
 rw [<- HU.out]
 refine hK.out _ _ (HP.out _ (below_drE hBU)) (fun hHeld => ?_)
 clear hK KK
 try simp only [Act.put, p1q, p2q, p3q, p4q, p5q, p6q]
 refine wpAnyH_done (by kernel_rfl) ?_ _
 clear a0 a1 a2 a3 q0 q1 q2 q3 hHeld
 have z3 := HP3.out U hBU
 have hn01 : w.heap.size ≠ w.heap.size + 1 := by omega
 by_cases h24 : hh = 2 ∨ hh = 4
 ·rw [if_pos h24] at HQ
  have HI3 : Hid (Hp (U.setCell ⟨w.heap.size + 1, 3, none⟩ (.int .u64 z)) (w.heap.size + 1) 53 (itemC g hh y z)) := HiU.out.set 3 _
  have HO3 : Hid (Hp (U.setCell ⟨w.heap.size + 1, 3, none⟩ (.int .u64 z)) w.heap.size 53 (itemC 0 0 0 0)) := HoU.out.far hn01
  have HB3 : Hid (Below w.heap.size w (U.setCell ⟨w.heap.size + 1, 3, none⟩ (.int .u64 z))) := hBU.trans (grown_to_below (grown_set U (w.heap.size + 1) 3 _) (by omega) hBU.size)
  have a3 := HiU.out.cell (j := 3) rfl
  have q3 := HiU.out.frozen 3
  obtain ⟨T, HT⟩ : ∃ T, Hid (U.setCell ⟨w.heap.size + 1, 3, none⟩ (.int .u64 z) = T) := ⟨_, rfl⟩
  rw [HT.out] at HI3 HO3 HB3
  have i0 := HI3.out.cell (j := 0) rfl
  have i1 := HI3.out.cell (j := 1) rfl
  have i2 := HI3.out.cell (j := 2) rfl
  have i3 := HI3.out.cell (j := 3) rfl
  have o0 := HO3.out.cell (j := 0) rfl
  have p0 := HO3.out.frozen 0
  have o1 := HO3.out.cell (j := 1) rfl
  have p1 := HO3.out.frozen 1
  have o2 := HO3.out.cell (j := 2) rfl
  have p2 := HO3.out.frozen 2
  have o3 := HO3.out.cell (j := 3) rfl
  have p3 := HO3.out.frozen 3
  have HF : Hid (Hp (T.setCells w.heap.size 0 (itemC g hh y z)) w.heap.size 53 (itemC g hh y z)) := by have := HO3.out.sets (itemC g hh y z) 0; rw [splice_all (itemC g hh y z) (itemC 0 0 0 0) rfl] at this; exact this
  have HFB : Hid (Below w.heap.size w (T.setCells w.heap.size 0 (itemC g hh y z))) := HB3.out.trans (grown_to_below (grown_sets w.heap.size (itemC g hh y z) T 0) (Nat.le_refl _) HB3.out.size)
  rcases h24 with rfl | rfl
  all_goals go_wp2_with (rw [HT.out])
  all_goals exact item_ret rfl rfl HF.out.drew ⟨by rw [HQ.out], below_drE HFB.out⟩
 ·have c2 : (hh == 2) = false := by simp; omega
  have c4 : (hh == 4) = false := by simp; omega
  rw [if_neg h24] at HQ
  have HI3 := HiU
  have HO3 := HoU
  have i0 := HI3.out.cell (j := 0) rfl
  have i1 := HI3.out.cell (j := 1) rfl
  have i2 := HI3.out.cell (j := 2) rfl
  have i3 := HI3.out.cell (j := 3) rfl
  have o0 := HO3.out.cell (j := 0) rfl
  have p0 := HO3.out.frozen 0
  have o1 := HO3.out.cell (j := 1) rfl
  have p1 := HO3.out.frozen 1
  have o2 := HO3.out.cell (j := 2) rfl
  have p2 := HO3.out.frozen 2
  have o3 := HO3.out.cell (j := 3) rfl
  have p3 := HO3.out.frozen 3
  have HF : Hid (Hp (U.setCells w.heap.size 0 (itemC g hh y 0)) w.heap.size 53 (itemC g hh y 0)) := by have := HO3.out.sets (itemC g hh y 0) 0; rw [splice_all (itemC g hh y 0) (itemC 0 0 0 0) rfl] at this; exact this
  have HFB : Hid (Below w.heap.size w (U.setCells w.heap.size 0 (itemC g hh y 0))) := hBU.trans (grown_to_below (grown_sets w.heap.size (itemC g hh y 0) U 0) (Nat.le_refl _) hBU.size)
  go_wp2
  exact item_ret rfl rfl HF.out.drew ⟨by rw [HQ.out], below_drE HFB.out⟩
end
section
variable {b sb : Nat} {vm vc : Value} {ev : Int × Int} {M : Mc}
theorem boxO {w : World} (h : Ma w b sb vm vc ev M) : ∃ V, Hid (w.alloc (.cells #[.int .i64 0, .int .i64 0, .int .i64 0, .int .i64 0, .int .u64 0, .int .u64 0, .int .u64 0] 55) = V) /\ Hid (Ma V b sb vm vc ev M) /\ Hid (Hp V w.heap.size 55 (actC 0 0 0 0 0 0 0)) /\ Below w.heap.size w V /\ V.heap.size = w.heap.size + 1 :=
 ⟨_, rfl, h.below ((Below.refl _ _).alloc (Nat.le_refl _) _) h.hp.lt, Hp.new w _ _, (Below.refl _ _).alloc (Nat.le_refl _) _, by simp⟩
theorem boxA {w4 : World} {n0 : Nat} (h : Ma w4 b sb vm vc ev M) (ho : Hp w4 n0 55 (actC 0 0 0 0 0 0 0)) (k pc im io ik iv v : Int) : ∃ Y, Hid (w4.alloc (.cells #[.int .i64 k, .int .i64 pc, .int .i64 im, .int .i64 io, .int .u64 ik, .int .u64 iv, .int .u64 v] 55) = Y) /\ Hid (Ma Y b sb vm vc ev M) /\ Hid (Hp Y w4.heap.size 55 (actC k pc im io ik iv v)) /\ Hid (Hp Y n0 55 (actC 0 0 0 0 0 0 0)) /\ Below w4.heap.size w4 Y /\ Y.heap.size = w4.heap.size + 1 :=
 ⟨_, rfl, h.below ((Below.refl _ _).alloc (Nat.le_refl _) _) h.hp.lt, Hp.new w4 _ _, ho.alloc _, (Below.refl _ _).alloc (Nat.le_refl _) _, by simp⟩
set_option maxHeartbeats 6400000 in
theorem mcall_note (w : World) (h : Ma w b sb vm vc ev M) (hp : M.pc + 1 < 64) {x : Int} (HX : Hid (regV M.regs 1 = x)) :
  Calls Tryz.prog 64 #[.pointer (some ⟨b, 0, none⟩), .int .i64 6] w fun e w' => e = .returned (actV 3 M.pc 0 0 0 0 x) /\ Chg w w' (fun k => k = b) /\ Ma w' b sb vm vc ev { M with regs := M.regs.set 0 0, pc := M.pc + 1 } := by
 have hlt := h.hp.lt
 obtain ⟨V, HV, HmV, HoV, hBV, hzV⟩ := boxO h
 have c6 := h.reg (show 1 < 8 by omega)
 rw [show M.regs.getD 1 0 = x from HX.out] at c6
 have hn0 : w.heap.size ≠ b := by omega
 go_enter Tryz.func64, Tryz.ntmps64
 go_wp2_with (first
  | (go_at_call 62; rw [HV.out]; go_must (refine (mtold_any 3 x V HmV.out).mono ?_); rintro e w4 ⟨rfl, hb4⟩; go_must (obtain ⟨Y, HY, HmY, HaY, HoY, hbY, hzY⟩ := boxA (HmV.out.below hb4 HmV.out.hp.lt) (HoV.out.below hb4 HoV.out.lt) 3 M.pc 0 0 0 0 x; have hz4 := hb4.size))
  | (go_at_call 67; rw [HY.out]; go_must (refine (mtakes_any 0 Y HmY.out (by decide) hp).mono ?_); rintro e w6 ⟨rfl, hg6, hm6'⟩; go_must (have HM6 := keepJ hm6'; have HA6 := keepJ (HaY.out.grown hg6 (fun e => by injection e with e; omega)); have HO6 := keepJ (HoY.out.grown hg6 (fun e => by injection e with e; omega)); (have a0 := HA6.out.cell (j := 0) rfl); (have a1 := HA6.out.cell (j := 1) rfl); (have a2 := HA6.out.cell (j := 2) rfl); (have a3 := HA6.out.cell (j := 3) rfl); (have a4 := HA6.out.cell (j := 4) rfl); (have a5 := HA6.out.cell (j := 5) rfl); (have a6 := HA6.out.cell (j := 6) rfl); (have o0 := HO6.out.cell (j := 0) rfl); (have o1 := HO6.out.cell (j := 1) rfl); (have o2 := HO6.out.cell (j := 2) rfl); (have o3 := HO6.out.cell (j := 3) rfl); (have o4 := HO6.out.cell (j := 4) rfl); (have o5 := HO6.out.cell (j := 5) rfl); (have o6 := HO6.out.cell (j := 6) rfl); (have q0 := HO6.out.frozen 0); (have q1 := HO6.out.frozen 1); (have q2 := HO6.out.frozen 2); (have q3 := HO6.out.frozen 3); (have q4 := HO6.out.frozen 4); (have q5 := HO6.out.frozen 5); (have q6 := HO6.out.frozen 6); clear hm6')))
 have hO := HO6.out.sets (actC 3 M.pc 0 0 0 0 x) 0
 rw [splice_all (actC 3 M.pc 0 0 0 0 x) (actC 0 0 0 0 0 0 0) rfl] at hO
 refine act_ret rfl rfl hO ⟨rfl, ?_, ?_⟩
 ·exact (((Chg.of_below (S := fun k => k = b) hBV).trans (Chg.of_below (S := fun k => k = b) (hb4.mono (by omega))) (fun _ _ e => e)).trans (Chg.of_below (S := fun k => k = b) hbY) (fun _ _ e => e) |>.trans (Chg.of_grown (S := fun k => k = b) hg6 rfl) (fun _ _ e => e)).trans (Chg.of_grown (grown_sets w.heap.size (actC 3 M.pc 0 0 0 0 x) w6 0) (S := fun k => k = w.heap.size) rfl) (fun k hk e => by omega)
 ·exact HM6.out.grown (grown_sets w.heap.size (actC 3 M.pc 0 0 0 0 x) w6 0) (fun e => by injection e with e; omega)
end
section
variable {b sb : Nat} {vm vc : Value} {ev : Int × Int} {M : Mc}
set_option maxHeartbeats 800000 in
theorem mcall_mark (w : World) (h : Ma w b sb vm vc ev M) (hp : M.pc + 1 < 64) {ws cs us : List Int} (hs : Sc w sb ws cs) (hne : b ≠ sb) {x n : Int} (HX : Hid (regV M.regs 1 = x)) (hx : 0 <= x /\ x <= 15) (HN : Hid (upW (cs.getD x.toNat 0) 1 = n)) (HU : Hid (cs.set x.toNat n = us)) :
  Calls Tryz.prog 64 #[.pointer (some ⟨b, 0, none⟩), .int .i64 5] w fun e w' => e = .returned (actV 1 M.pc 0 0 0 0 n) /\ Chg w w' (fun k => k = b ∨ k = sb) /\ Ma w' b sb vm vc ev { M with regs := M.regs.set 0 n, pc := M.pc + 1 } /\ Sc w' sb ws us := by
 have hlt := h.hp.lt
 have hsl := hs.lt
 have hwx : IntKind.i64.wrap x = x := by rw [IntKind.wrap_i64]; omega
 have HIn : Hid (inB x = true) := decide_eq_true (by omega)
 have hn : 0 <= n /\ n <= 18446744073709551615 := by rw [<- HN.out]; exact upW_in _ _
 have HN2 : Hid ((if inB x then addW (cs.getD x.toNat 0) 1 else 0) = n) := by show _ = _; rw [HIn.out]; exact HN.out
 have HU2 : Hid ((if inB x then oneUp cs x.toNat else cs) = us) := by
  show _ = _
  rw [HIn.out, <- HU.out]
  show cs.set x.toNat (addW (cs.getD x.toNat 0) 1) = _
  rw [show addW (cs.getD x.toNat 0) 1 = n from HN.out]
 have HN3 : Hid ((if inB x then 0 else 35 : Int) = 0) := by show _ = _; rw [HIn.out]; rfl
 obtain ⟨V, HV, HmV, HoV, hBV, hzV⟩ := boxO h
 have hS0 : V.cell? ⟨b, 4, none⟩ = some (.pointer (some ⟨sb, 0, none⟩)) /\ V.cell? ⟨b, 6, none⟩ = some (.int .u64 x) := by
  have c6 := HmV.out.reg (show 1 < 8 by omega)
  rw [show M.regs.getD 1 0 = x from HX.out] at c6
  exact ⟨HmV.out.low.2.2.2.2, c6⟩
 have HSV := keepJ (hs.below hBV hsl)
 have hn0 : w.heap.size ≠ b := by omega
 have hltV := HmV.out.hp.lt
 go_enter Tryz.func64, Tryz.ntmps64
 go_wp2
 rw [HV.out]
 go_region_held3 (fun w' => w'.cell? ⟨b, 4, none⟩ = some (.pointer (some ⟨sb, 0, none⟩)) /\ w'.cell? ⟨b, 6, none⟩ = some (.int .u64 x))
  (first | with_reducible exact hS3 | exact hS0)
  (first | (go_at_call 99; go_must (refine (mark_as HN2 HU2 HN3 V.drew HSV.out.drew).mono ?_); rintro e w3 ⟨rfl, hs3', hg3', hz3⟩; go_must (have hg3 : V.grownBy w3 (some sb) := grown_undrew hg3'; have HS3 := keepJ hs3'; have HM3 := keepJ (HmV.out.grown hg3 (fun e => hne (by injection e))); have HO3 := keepJ (HoV.out.grown hg3 (fun e => by injection e with e; omega)); have hS3 : w3.cell? ⟨b, 4, none⟩ = some (.pointer (some ⟨sb, 0, none⟩)) /\ w3.cell? ⟨b, 6, none⟩ = some (.int .u64 x) := ⟨(grown_farL hg3 hltV hne).trans hS0.1, (grown_farL hg3 hltV hne).trans hS0.2⟩; clear hg3' hs3')))
 have hz3V := hg3.size
 go_wp2_with (first
  | (go_at_call 62; go_must (refine (mtold_any 1 n w3 HM3.out).mono ?_); rintro e w4 ⟨rfl, hb4⟩; go_must (obtain ⟨Y, HY, HmY, HaY, HoY, hbY, hzY⟩ := boxA (HM3.out.below hb4 HM3.out.hp.lt) (HO3.out.below hb4 HO3.out.lt) 1 M.pc 0 0 0 0 n; have hz4 := hb4.size))
  | (go_at_call 67; rw [HY.out]; go_must (refine (mtakes_any n Y HmY.out hn hp).mono ?_); rintro e w6 ⟨rfl, hg6, hm6'⟩; go_must (have HM6 := keepJ hm6'; have HA6 := keepJ (HaY.out.grown hg6 (fun e => by injection e with e; omega)); have HO6 := keepJ (HoY.out.grown hg6 (fun e => by injection e with e; omega)); (have a0 := HA6.out.cell (j := 0) rfl); (have a1 := HA6.out.cell (j := 1) rfl); (have a2 := HA6.out.cell (j := 2) rfl); (have a3 := HA6.out.cell (j := 3) rfl); (have a4 := HA6.out.cell (j := 4) rfl); (have a5 := HA6.out.cell (j := 5) rfl); (have a6 := HA6.out.cell (j := 6) rfl); (have o0 := HO6.out.cell (j := 0) rfl); (have o1 := HO6.out.cell (j := 1) rfl); (have o2 := HO6.out.cell (j := 2) rfl); (have o3 := HO6.out.cell (j := 3) rfl); (have o4 := HO6.out.cell (j := 4) rfl); (have o5 := HO6.out.cell (j := 5) rfl); (have o6 := HO6.out.cell (j := 6) rfl); (have q0 := HO6.out.frozen 0); (have q1 := HO6.out.frozen 1); (have q2 := HO6.out.frozen 2); (have q3 := HO6.out.frozen 3); (have q4 := HO6.out.frozen 4); (have q5 := HO6.out.frozen 5); (have q6 := HO6.out.frozen 6); clear hm6')))
 have hO := HO6.out.sets (actC 1 M.pc 0 0 0 0 n) 0
 rw [splice_all (actC 1 M.pc 0 0 0 0 n) (actC 0 0 0 0 0 0 0) rfl] at hO
 have hG := grown_sets w.heap.size (actC 1 M.pc 0 0 0 0 n) w6 0
 have hC3 : Chg w w3 (fun k => k = b ∨ k = sb) := (Chg.of_below hBV).trans (Chg.of_grown (S := fun k => k = b ∨ k = sb) hg3 (.inr rfl)) (fun _ _ e => e)
 have hC4 : Chg w w4 (fun k => k = b ∨ k = sb) := hC3.trans (Chg.of_below (S := fun _ => False) hb4) (fun _ _ e => e.elim)
 have hCY : Chg w Y (fun k => k = b ∨ k = sb) := hC4.trans (Chg.of_below (S := fun _ => False) hbY) (fun _ _ e => e.elim)
 have hC6 : Chg w w6 (fun k => k = b ∨ k = sb) := hCY.trans (Chg.of_grown (S := fun k => k = b) hg6 rfl) (fun _ _ e => .inl e)
 refine act_ret rfl rfl hO ⟨rfl, hC6.trans (Chg.of_grown hG (S := fun k => k = w.heap.size) rfl) (fun k hk e => by omega), HM6.out.grown hG (fun e => by injection e with e; omega), ?_⟩
 have hS4 := HS3.out.below hb4 HS3.out.lt
 have hS6 := (hS4.below hbY hS4.lt).grown hg6 (show some sb ≠ some b from fun e => hne (Option.some.inj e).symm)
 exact hS6.grown hG (show some sb ≠ some w.heap.size from fun e => by have := Option.some.inj e; omega)
end
section
variable {b sb : Nat} {vm vc : Value} {ev : Int × Int} {M : Mc}
set_option maxHeartbeats 800000 in
theorem mcall_map (hh : Int) (hi : 0 <= hh /\ hh <= 4) {mb mo mcap nm j : Nat} (w : World) (h : Ma w b sb (.slice (some ⟨mb, mo, none⟩) nm mcap) vc ev M) (hj : j < nm) (hmb : mb < w.heap.size) (hmc : nm <= mcap) {g : Int} (hcell : w.cell? ⟨mb, mo + j, none⟩ = some (.int .i64 g)) {y z q : Int} (H1 : Hid (regV M.regs 1 = (j : Int))) (H2 : Hid (regV M.regs 2 = y)) (H3 : Hid (regV M.regs 3 = z)) (HQ : Hid ((if hh = 2 ∨ hh = 4 then z else 0) = q)) :
  Calls Tryz.prog 64 #[.pointer (some ⟨b, 0, none⟩), .int .i64 hh] w fun e w' => e = .returned (actV 2 M.pc g hh y q 0) /\ Chg w w' (fun k => k = b) /\ Ma w' b sb (.slice (some ⟨mb, mo, none⟩) nm mcap) vc ev { M with mode := 1 } := by
 have hlt := h.hp.lt
 have c5 : (hh == 5) = false := by simp; omega
 have c6 : (hh == 6) = false := by simp; omega
 obtain ⟨V, HV, HmV, HoV, hBV, hzV⟩ := boxO h
 have hn0 : w.heap.size ≠ b := by omega
 go_enter Tryz.func64, Tryz.ntmps64
 go_wp2_with (first
  | (go_at_call 62; rw [HV.out]; go_must (refine (mtold_any 2 0 V HmV.out).mono ?_); rintro e w4 ⟨rfl, hb4⟩; go_must (obtain ⟨Y, HY, HmY, HaY, HoY, hbY, hzY⟩ := boxA (HmV.out.below hb4 HmV.out.hp.lt) (HoV.out.below hb4 HoV.out.lt) 2 M.pc 0 0 0 0 0; have hz4 := hb4.size; have hB4 : Below w.heap.size w w4 := hBV.trans (hb4.mono (by omega)); have hBY : Below w.heap.size w Y := hB4.trans (hbY.mono (by omega))))
  | (go_at_call 100; rw [HY.out]; go_must (refine (masks_any hh hi Y HmY.out hj (by omega) hmc ((hBY.cell (p := ⟨mb, mo + j, none⟩) hmb).trans hcell) H1 H2 H3 HQ).mono ?_); rintro e w5 ⟨rfl, hb5⟩; go_must (have HM5 := keepJ (HmY.out.below hb5 (by omega)); have HA5 := keepJ (HaY.out.below hb5 (by omega)); have HO5 := keepJ (HoY.out.below hb5 (by omega)); have hz5 := hb5.size; have d2 := HA5.out.cell (j := 2) rfl; have d3 := HA5.out.cell (j := 3) rfl; have d4 := HA5.out.cell (j := 4) rfl; have d5 := HA5.out.cell (j := 5) rfl; have e2 := HA5.out.frozen 2; have e3 := HA5.out.frozen 3; have e4 := HA5.out.frozen 4; have e5 := HA5.out.frozen 5; obtain ⟨T, HT, HMT, HAT, HOT, hgT⟩ : ∃ T, Hid ((((w5.setCell ⟨w4.heap.size, 2, none⟩ (.int .i64 g)).setCell ⟨w4.heap.size, 3, none⟩ (.int .i64 hh)).setCell ⟨w4.heap.size, 4, none⟩ (.int .u64 y)).setCell ⟨w4.heap.size, 5, none⟩ (.int .u64 q) = T) /\ Hid (Ma T b sb (.slice (some ⟨mb, mo, none⟩) nm mcap) vc ev M) /\ Hid (Hp T w4.heap.size 55 (actC 2 M.pc g hh y q 0)) /\ Hid (Hp T w.heap.size 55 (actC 0 0 0 0 0 0 0)) /\ w5.grownBy T (some w4.heap.size) := ⟨_, rfl, HM5.out.grown (grown_sets w4.heap.size (itemC g hh y q) w5 2) (fun e => by injection e with e; omega), by have := HA5.out.sets (itemC g hh y q) 2; exact this, HO5.out.grown (grown_sets w4.heap.size (itemC g hh y q) w5 2) (fun e => by injection e with e; omega), grown_sets w4.heap.size (itemC g hh y q) w5 2⟩; have t9 := HMT.out.last.2.2; have u9 := HMT.out.hp.frozen 79; obtain ⟨U, HU, HMU, HA6, HO6, hgU⟩ : ∃ U, Hid (T.setCell ⟨b, 79, none⟩ (.int .i64 1) = U) /\ Hid (Ma U b sb (.slice (some ⟨mb, mo, none⟩) nm mcap) vc ev { M with mode := 1 }) /\ Hid (Hp U w4.heap.size 55 (actC 2 M.pc g hh y q 0)) /\ Hid (Hp U w.heap.size 55 (actC 0 0 0 0 0 0 0)) /\ T.grownBy U (some b) := ⟨_, rfl, HMT.out.setM 1, HAT.out.far (by omega), HOT.out.far hn0, grown_set T b 79 _⟩; (have a0 := HA6.out.cell (j := 0) rfl); (have a1 := HA6.out.cell (j := 1) rfl); (have a2 := HA6.out.cell (j := 2) rfl); (have a3 := HA6.out.cell (j := 3) rfl); (have a4 := HA6.out.cell (j := 4) rfl); (have a5 := HA6.out.cell (j := 5) rfl); (have a6 := HA6.out.cell (j := 6) rfl); (have o0 := HO6.out.cell (j := 0) rfl); (have o1 := HO6.out.cell (j := 1) rfl); (have o2 := HO6.out.cell (j := 2) rfl); (have o3 := HO6.out.cell (j := 3) rfl); (have o4 := HO6.out.cell (j := 4) rfl); (have o5 := HO6.out.cell (j := 5) rfl); (have o6 := HO6.out.cell (j := 6) rfl); (have q0 := HO6.out.frozen 0); (have q1 := HO6.out.frozen 1); (have q2 := HO6.out.frozen 2); (have q3 := HO6.out.frozen 3); (have q4 := HO6.out.frozen 4); (have q5 := HO6.out.frozen 5); (have q6 := HO6.out.frozen 6); skip))
  | rw [HT.out]
  | rw [HU.out])
 have hO := HO6.out.sets (actC 2 M.pc g hh y q 0) 0
 rw [splice_all (actC 2 M.pc g hh y q 0) (actC 0 0 0 0 0 0 0) rfl] at hO
 have hG := grown_sets w.heap.size (actC 2 M.pc g hh y q 0) U 0
 have hC5 : Chg w w5 (fun k => k = b) := (Chg.of_below (S := fun k => k = b) hBY).trans (Chg.of_below (S := fun _ => False) hb5) (fun _ _ e => e.elim)
 have hCT : Chg w T (fun k => k = b) := hC5.trans (Chg.of_grown (S := fun k => k = w4.heap.size) hgT rfl) (fun k hk e => by have := hB4.size; omega)
 have hCU : Chg w U (fun k => k = b) := hCT.trans (Chg.of_grown (S := fun k => k = b) hgU rfl) (fun _ _ e => e)
 refine act_ret rfl rfl hO ⟨rfl, hCU.trans (Chg.of_grown hG (S := fun k => k = w.heap.size) rfl) (fun k hk e => by omega), HMU.out.grown hG (fun e => by injection e with e; omega)⟩
end
theorem mvalue_as {h E : Int} {f : Bool} {v : Int} {o : Bool} {k u r : Int} (hr : Hid (valL h E f v = r)) (w : World) : Calls Tryz.prog 68 #[.int .i64 h, resV E f v o k u] w fun e w' => e = .returned (.int .u64 r) /\ Below w.heap.size w w' := by
 rw [<- hr.out]; exact value_any h E f v o k u w
theorem valL_in {h E : Int} {f : Bool} {v : Int} (hv : 0 <= v /\ v <= 18446744073709551615) : 0 <= valL h E f v /\ valL h E f v <= 18446744073709551615 := by
 unfold valL
 repeat' split
 all_goals omega
section
variable {b sb : Nat} {vm vc : Value} {ev : Int × Int} {M : Mc}
set_option maxHeartbeats 1600000 in
theorem manswer_yes {cb co ccap : Nat} {xs : List In} (E : Int) (f : Bool) (v : Int) (o : Bool) (k u : Int) (w : World) (h : Ma w b sb vm (.slice (some ⟨cb, co, none⟩) xs.length ccap) ev M) (hm : M.mode = 1) (hx : SeesI w (.slice (some ⟨cb, co, none⟩) xs.length ccap) xs) (hp : M.pc < xs.length) (hp1 : M.pc + 1 < 64) (hcb' : cb ≠ b) (hv : 0 <= v /\ v <= 18446744073709551615) {n : Int} (hn : Hid (valL (nth xs M.pc).imm E f v = n)) :
  Calls Tryz.prog 33 #[.pointer (some ⟨b, 0, none⟩), resV E f v o k u] w fun e w' => e = .returned (.int .i64 0) /\ w.grownBy w' (some b) /\ Ma w' b sb vm (.slice (some ⟨cb, co, none⟩) xs.length ccap) ev { M with regs := M.regs.set 0 n, mode := 0, pc := M.pc + 1 } := by
 have hlt := h.hp.lt
 have hpI : (M.pc : Int) < xs.length := by omega
 have hp64 : (M.pc : Int) <= 100 := by omega
 obtain ⟨hat, hcb, hcc, hcm⟩ := codeL hx hp
 obtain ⟨⟨op, d, a, bb, imm⟩, HI⟩ : ∃ i, Hid (nth xs M.pc = i) := ⟨_, rfl⟩
 rw [HI.out] at hat hn
 have hn2 : Hid (valL imm E f v = n) := hn
 have hnr : 0 <= n /\ n <= 18446744073709551615 := by rw [<- hn2.out]; exact valL_in hv
 obtain ⟨_, _, _, _, k4⟩ := hat
 simp only at k4
 have c9 := h.last.2.2
 rw [hm] at c9
 have hwb : w.heap.size ≠ b := by omega
 obtain ⟨Z, HZ, HmZ, HrZ, hBZ, hzZ⟩ : ∃ Z, Hid ((w.setCell ⟨b, 79, none⟩ (.int .i64 0)).alloc (.cells #[.int .i64 E, .bool f, .int .u64 v, .bool o, .int .u64 k, .int .u64 u] 95) = Z) /\ Hid (Ma Z b sb vm (.slice (some ⟨cb, co, none⟩) xs.length ccap) ev { M with mode := 0 }) /\ Hid (Hp Z w.heap.size 95 [.int .i64 E, .bool f, .int .u64 v, .bool o, .int .u64 k, .int .u64 u]) /\ w.grownBy Z (some b) /\ w.heap.size < Z.heap.size := by
  have hsz : (w.setCell ⟨b, 79, none⟩ (.int .i64 0)).heap.size = w.heap.size := by simp [World.setCell]
  have hB := (Below.refl (w.setCell ⟨b, 79, none⟩ (.int .i64 0)).heap.size (w.setCell ⟨b, 79, none⟩ (.int .i64 0))).alloc (Nat.le_refl _) (.cells #[.int .i64 E, .bool f, .int .u64 v, .bool o, .int .u64 k, .int .u64 u] 95)
  have hN := Hp.new (w.setCell ⟨b, 79, none⟩ (.int .i64 0)) [.int .i64 E, .bool f, .int .u64 v, .bool o, .int .u64 k, .int .u64 u] 95
  rw [hsz] at hN
  exact ⟨_, rfl, (h.setM 0).below hB (by rw [hsz]; exact hlt), hN, grownJ_trans (grown_set w b 79 _) (grown_of_below hB _), by simp [hsz]⟩
 have f9 := h.hp.frozen 79
 have hcbZ : cb < Z.heap.size := by omega
 have k4Z : Z.cell? ⟨cb, co + M.pc * 5 + 4, none⟩ = some (.int .i64 imm) := (grown_farL hBZ hcb hcb').trans k4
 have HKP : Hid (∀ wx : World, Below Z.heap.size Z wx -> wx.cell? ⟨b, 3, none⟩ = some (.slice (some ⟨cb, co, none⟩) xs.length ccap) /\ wx.cell? ⟨cb, co + M.pc * 5 + 4, none⟩ = some (.int .i64 imm) /\ wx.cell? ⟨w.heap.size, 0, none⟩ = some (.int .i64 E) /\ wx.cell? ⟨w.heap.size, 1, none⟩ = some (.bool f) /\ wx.cell? ⟨w.heap.size, 2, none⟩ = some (.int .u64 v) /\ wx.cell? ⟨w.heap.size, 3, none⟩ = some (.bool o) /\ wx.cell? ⟨w.heap.size, 4, none⟩ = some (.int .u64 k) /\ wx.cell? ⟨w.heap.size, 5, none⟩ = some (.int .u64 u)) := fun wx hb => ⟨(HmZ.out.below hb HmZ.out.hp.lt).low.2.2.2.1, (hb.cell (p := ⟨cb, co + M.pc * 5 + 4, none⟩) hcbZ).trans k4Z, (HrZ.out.below hb hzZ).cell rfl, (HrZ.out.below hb hzZ).cell rfl, (HrZ.out.below hb hzZ).cell rfl, (HrZ.out.below hb hzZ).cell rfl, (HrZ.out.below hb hzZ).cell rfl, (HrZ.out.below hb hzZ).cell rfl⟩
 have z7 := HmZ.out.last.1
 clear k4 k4Z hx
 go_enter Tryz.func33, Tryz.ntmps33
 go_wp2
 rw [HZ.out]
 refine wp_region_held_drew (S := fun w' => w'.cell? ⟨b, 3, none⟩ = some (.slice (some ⟨cb, co, none⟩) xs.length ccap) /\ w'.cell? ⟨cb, co + M.pc * 5 + 4, none⟩ = some (.int .i64 imm) /\ w'.cell? ⟨w.heap.size, 0, none⟩ = some (.int .i64 E) /\ w'.cell? ⟨w.heap.size, 1, none⟩ = some (.bool f) /\ w'.cell? ⟨w.heap.size, 2, none⟩ = some (.int .u64 v) /\ w'.cell? ⟨w.heap.size, 3, none⟩ = some (.bool o) /\ w'.cell? ⟨w.heap.size, 4, none⟩ = some (.int .u64 k) /\ w'.cell? ⟨w.heap.size, 5, none⟩ = some (.int .u64 u)) (by kernel_rfl) (HKP.out _ (below_drE (Below.refl _ _))) (fun hHeld => ?_)
 refine tkGo [0, 1, 2, 3, 4, 5, 6, 7, 12] ?_
 repeat (refine tkO (v := ?_) rfl ?_ ?_; rotate_left; (intro wy hSw; (try dsimp only at hSw); go_simp; (first | done | with_reducible rfl)); try simp only [Act.put, p1q, p2q, p3q, p4q, p5q, p6q])
 refine tkEnd ?_
 refine runO 8 (by kernel_rfl) rfl (by rfl) (fun KK hK => ?_)
 go_simp
 refine hK.out _ _ (HKP.out _ (below_drE (Below.refl _ _))) (fun hHeld => ?_)
 clear hK KK
 try simp only [Act.put, p1q, p2q, p3q, p4q, p5q, p6q]
 refine tkGo [9, 10, 11] ?_
 repeat (refine tkO (v := ?_) rfl ?_ ?_; rotate_left; (intro wy hSw; (try dsimp only at hSw); go_simp; (first | done | with_reducible rfl)); try simp only [Act.put, p1q, p2q, p3q, p4q, p5q, p6q])
 refine tkEnd ?_
 refine runO 13 (by kernel_rfl) rfl (by rfl) (fun KK hK => ?_)
 go_simp
 go_at_call 68
 refine (mvalue_as hn2 _).mono ?_
 rintro e w4 ⟨rfl, hb4'⟩
 have hb4 : Below Z.heap.size Z w4 := below_undrew hb4'
 go_simp
 refine hK.out _ _ (HKP.out w4 hb4) (fun hHeld => ?_)
 clear hK KK
 try simp only [Act.put, p1q, p2q, p3q, p4q, p5q, p6q]
 have HM4 := keepJ (HmZ.out.below hb4 HmZ.out.hp.lt)
 have hz4 := hb4.size
 refine runO 14 (by kernel_rfl) rfl (by rfl) (fun KK hK => ?_)
 go_simp
 go_at_call 67
 refine (mtakes_any n _ HM4.out hnr hp1).mono ?_
 rintro e w5 ⟨rfl, hg5, hm5⟩
 go_simp
 have hS4 := HKP.out w4 hb4
 have hS5 : w5.cell? ⟨b, 3, none⟩ = some (.slice (some ⟨cb, co, none⟩) xs.length ccap) /\ w5.cell? ⟨cb, co + M.pc * 5 + 4, none⟩ = some (.int .i64 imm) /\ w5.cell? ⟨w.heap.size, 0, none⟩ = some (.int .i64 E) /\ w5.cell? ⟨w.heap.size, 1, none⟩ = some (.bool f) /\ w5.cell? ⟨w.heap.size, 2, none⟩ = some (.int .u64 v) /\ w5.cell? ⟨w.heap.size, 3, none⟩ = some (.bool o) /\ w5.cell? ⟨w.heap.size, 4, none⟩ = some (.int .u64 k) /\ w5.cell? ⟨w.heap.size, 5, none⟩ = some (.int .u64 u) := ⟨hm5.low.2.2.2.1, (grown_farL hg5 (by omega) hcb').trans hS4.2.1, (grown_farL hg5 (by omega) hwb).trans hS4.2.2.1, (grown_farL hg5 (by omega) hwb).trans hS4.2.2.2.1, (grown_farL hg5 (by omega) hwb).trans hS4.2.2.2.2.1, (grown_farL hg5 (by omega) hwb).trans hS4.2.2.2.2.2.1, (grown_farL hg5 (by omega) hwb).trans hS4.2.2.2.2.2.2.1, (grown_farL hg5 (by omega) hwb).trans hS4.2.2.2.2.2.2.2⟩
 refine hK.out _ _ hS5 (fun hHeld => ?_)
 clear hK KK
 try simp only [Act.put, p1q, p2q, p3q, p4q, p5q, p6q]
 refine wpAnyH_done (by kernel_rfl) ?_ _
 go_wp2
 go_ret
 exact ⟨rfl, grownJ_trans (grownJ_trans hBZ (grown_of_below hb4 _)) hg5, hm5⟩
end
theorem right_ab {i : In} (hr : i.right = true) (ho : i.op <= 20) : (0 <= i.a /\ i.a <= 7) /\ (i.b = 8 ∨ (0 <= i.b /\ i.b <= 7)) := by
 obtain ⟨op, d, a, b, imm⟩ := i
 have h0 := right_op hr
 unfold In.right at hr
 simp only at hr ho h0 ⊢
 by_cases c1 : op = 0 ∨ op = 11
 ·unfold rightB at hr; rw [if_pos c1] at hr; simp [sourcedB, regB] at hr; omega
 by_cases c2 : 1 <= op /\ op <= 10
 ·rw [rightB_three c2] at hr; simp [sourcedB, regB] at hr; omega
 by_cases c3 : op = 12
 ·subst c3; rw [rightB_12] at hr; simp [sourcedB, regB] at hr; omega
 by_cases c4 : op = 13
 ·subst c4; rw [rightB_13] at hr; simp at hr; omega
 by_cases c5 : op = 14
 ·subst c5; rw [rightB_14] at hr; simp at hr; omega
 by_cases c6 : op = 15
 ·subst c6; rw [rightB_15] at hr; simp at hr; omega
 by_cases c7 : 16 <= op /\ op <= 19
 ·rw [rightB_jump c7] at hr; simp [sourcedB, regB] at hr; omega
 ·obtain rfl : op = 20 := by omega
  rw [rightB_20] at hr; simp [regB] at hr; omega
theorem right_14E {i : In} (hr : i.right = true) (ho : i.op = 14) : 0 <= i.imm /\ i.imm <= 3 := by
 obtain ⟨op, d, a, b, imm⟩ := i
 unfold In.right at hr
 simp only at hr ho ⊢
 subst ho
 rw [rightB_14] at hr; simp at hr; omega
theorem hold_none {op a b : Int} (h : op < 16 ∨ 19 < op) : holdL op a b = false := by
 unfold holdL
 rw [if_neg (by omega), if_neg (by omega), if_neg (by omega), if_neg (by omega)]
section
variable {b sb : Nat} {vm vc : Value} {ev : Int × Int} {M : Mc}
theorem Sc.chg {w w' : World} {ws cs : List Int} {S : Nat -> Prop} (h : Sc w sb ws cs) (hc : Chg w w' S) (hS : ¬ S sb) : Sc w' sb ws cs := ⟨h.hp.chg hc hS, h.lw, h.lc⟩
theorem Ma.chg {w w' : World} {S : Nat -> Prop} (h : Ma w b sb vm vc ev M) (hc : Chg w w' S) (hS : ¬ S b) : Ma w' b sb vm vc ev M := ⟨h.hp.chg hc hS, h.wr, h.pc⟩
theorem Ma.same {w : World} {M' : Mc} (h : Ma w b sb vm vc ev M) (h1 : M'.regs = M.regs) (h2 : M'.turn = M.turn) (h3 : M'.pc = M.pc) (h4 : M'.steps = M.steps) (h5 : M'.mode = M.mode) : Ma w b sb vm vc ev M' := by
 obtain ⟨r, t, p, s, m, x, y⟩ := M'
 simp only at h1 h2 h3 h4 h5
 subst h1; subst h2; subst h3; subst h4; subst h5
 exact ⟨h.hp, h.wr, h.pc⟩
theorem mdo_all (i : In) (hr : i.right = true) (ho : i.op <= 20) (w : World) (h : Ma w b sb vm vc ev M) (hs : Sc w sb M.ws M.cs) (hne : b ≠ sb) (hws : W16 M.ws) (hev : (0 <= ev.1 /\ ev.1 <= 18446744073709551615) /\ 0 <= ev.2 /\ ev.2 <= 18446744073709551615) (hw : i.op = 11 ∨ i.op = 12 -> 0 <= srcV i M.regs /\ srcV i M.regs <= 15) :
  Calls Tryz.prog 65 #[.pointer (some ⟨b, 0, none⟩), instV i.op i.d i.a i.b i.imm] w fun e w' => e = .returned (.tuple #[]) /\ Chg w w' (fun k => k = b ∨ k = sb) /\ Ma w' b sb vm vc ev { M with regs := (laysE ev i M).1, ws := (laysE ev i M).2 } /\ Sc w' sb (laysE ev i M).2 M.cs := by
 have h0 := right_op hr
 obtain ⟨ha, hb⟩ := right_ab hr ho
 have fin : ∀ {w' : World} {R : List Int}, w.grownBy w' (some b) -> Ma w' b sb vm vc ev { M with regs := R } -> laysE ev i M = (R, M.ws) -> Chg w w' (fun k => k = b ∨ k = sb) /\ Ma w' b sb vm vc ev { M with regs := (laysE ev i M).1, ws := (laysE ev i M).2 } /\ Sc w' sb (laysE ev i M).2 M.cs := fun {w' R} hg hm e => by
  rw [e]
  exact ⟨Chg.of_grown hg (.inl rfl), hm.same rfl rfl rfl rfl rfl, hs.grown hg (fun e => hne (Option.some.inj e).symm)⟩
 by_cases c0 : i.op = 0
 ·have hd := right_dest hr (.inl (by omega))
  obtain ⟨op, d, a, bb, imm⟩ := i
  simp only at c0 ha hb hd
  subst c0
  refine (mdo_set d a bb imm w h hd hb rfl).mono ?_
  rintro e w' ⟨rfl, hg, hm⟩
  exact ⟨rfl, fin hg hm rfl⟩
 by_cases c1 : 1 <= i.op /\ i.op <= 10
 ·have hd := right_dest hr (.inl (by omega))
  obtain ⟨op, d, a, bb, imm⟩ := i
  simp only at c0 c1 ha hb hd
  refine (mdo_three op d a bb imm w h c1 hd ha hb rfl rfl rfl (doL_in op (h.wr.2 _ (by omega)) (srcV_in h.wr hb))).mono ?_
  rintro e w' ⟨rfl, hg, hm⟩
  exact ⟨rfl, fin hg hm (by unfold laysE; rw [if_neg c0, if_pos c1]; rfl)⟩
 by_cases c2 : i.op = 11
 ·have hd := right_dest hr (.inl (by omega))
  have hw1 := hw (.inl c2)
  obtain ⟨op, d, a, bb, imm⟩ := i
  simp only at c0 c1 c2 ha hb hd
  subst c2
  refine (mdo_load d a bb imm w h hd hb rfl hw1 hs rfl (hws.2 _ (by omega))).mono ?_
  rintro e w' ⟨rfl, hg, hm⟩
  exact ⟨rfl, fin hg hm rfl⟩
 by_cases c3 : i.op = 12
 ·have hw1 := hw (.inr c3)
  obtain ⟨op, d, a, bb, imm⟩ := i
  simp only at c3 ha hb
  subst c3
  refine (mdo_store d a bb imm w h ha hb rfl rfl hw1 hs hne rfl).mono ?_
  rintro e w' ⟨rfl, hg, hs'⟩
  exact ⟨rfl, Chg.of_grown hg (.inr rfl), (h.grown hg (fun e => hne (Option.some.inj e))).same rfl rfl rfl rfl rfl, hs'⟩
 by_cases c4 : i.op = 13
 ·have hd := right_dest hr (.inr (.inl c4))
  obtain ⟨op, d, a, bb, imm⟩ := i
  simp only at c4 ha hb hd
  subst c4
  refine (mdo_field d a bb imm w h hd rfl (by split <;> omega)).mono ?_
  rintro e w' ⟨rfl, hg, hm⟩
  exact ⟨rfl, fin hg hm rfl⟩
 by_cases c5 : i.op = 14
 ·have hd := right_dest hr (.inr (.inr c5))
  have hi := right_14E hr c5
  obtain ⟨op, d, a, bb, imm⟩ := i
  simp only at c5 ha hb hd hi
  subst c5
  refine (mdo_map d a bb imm w h hd hi).mono ?_
  rintro e w' ⟨rfl, hg, hm⟩
  exact ⟨rfl, fin hg hm rfl⟩
 ·have hl : laysE ev i M = (M.regs, M.ws) := by
   unfold laysE
   rw [if_neg c0, if_neg c1, if_neg c2, if_neg c3, if_neg c4, if_neg c5]
  rw [hl]
  have h15 : 15 <= i.op /\ i.op <= 20 := by omega
  obtain ⟨op, d, a, bb, imm⟩ := i
  simp only at h15 ha hb
  refine (mdo_none op d a bb imm w h h15 ha hb).mono ?_
  rintro e w' ⟨rfl, hbw⟩
  exact ⟨rfl, Chg.of_below hbw, h.below hbw h.hp.lt, hs.below hbw hs.lt⟩
def nextE (i : In) (M : Mc) : Int := if (i.leads && goesE i M) = true then (M.pc : Int) + i.far else (M.pc : Int) + 1
theorem mnext_all (i : In) (hr : i.right = true) (ho : i.op <= 20) (w : World) (h : Ma w b sb vm vc ev M) (ht : i.op = 20 -> 0 <= M.turn M.pc /\ M.turn M.pc <= 255) {p : Int} (HP : Hid (nextE i M = p)) :
  Calls Tryz.prog 66 #[.pointer (some ⟨b, 0, none⟩), instV i.op i.d i.a i.b i.imm] w fun e w' => e = .returned (.int .i64 p) /\ w.grownBy w' (some b) /\ Ma w' b sb vm vc ev { M with turn := turnE i M } := by
 obtain ⟨ha, hb⟩ := right_ab hr ho
 have h0 := right_op hr
 have HP2 : Hid ((if (i.leads && goesE i M) = true then (M.pc : Int) + i.far else (M.pc : Int) + 1) = p) := HP
 clear HP
 rcases goes_parts i with g | g | g | g
 ·rw [hr] at g; cases g.1
 ·obtain ⟨_, g1, g2, g3, g4, g5, g6, g7⟩ := g
  rw [g3, g4, Bool.true_and] at HP2
  have hu : turnE i M = M.turn := by unfold turnE; rw [if_neg (by omega)]
  rw [hu]
  by_cases c15 : i.op = 15
  ·have hg : goesE i M = true := by unfold goesE; rw [if_pos c15]
   rw [hg, if_pos rfl] at HP2
   obtain ⟨op, d, a, bb, imm⟩ := i
   simp only at c15 ha hb g6 g7 HP2
   subst c15
   refine (mnext_jump d a bb imm w h ⟨g6, g7⟩).mono ?_
   rintro e w' ⟨rfl, hbw⟩
   exact ⟨by rw [<- HP2.out]; congr 2; omega, grown_of_below hbw _, h.below hbw h.hp.lt⟩
  ·have hg : goesE i M = holdL i.op (regV M.regs i.a) (srcV i M.regs) := by unfold goesE; rw [if_neg c15, if_neg (by omega)]
   rw [hg] at HP2
   obtain ⟨op, d, a, bb, imm⟩ := i
   simp only at c15 g1 g2 ha hb g6 g7 HP2
   refine (mnext_cond op d a bb imm w h (by simp; omega) (by simp; omega) ha hb (r := holdL op (regV M.regs a) (srcV ⟨op, d, a, bb, imm⟩ M.regs)) rfl (fun _ => ⟨g6, g7⟩) (p := p) (by show _ = _; rw [<- HP2.out]; split <;> omega)).mono ?_
   rintro e w' ⟨rfl, hbw⟩
   exact ⟨rfl, grown_of_below hbw _, h.below hbw h.hp.lt⟩
 ·obtain ⟨_, g1, g2, g3, g4, g5, g6, g7, g8⟩ := g
  rw [g2, g3, Bool.true_and] at HP2
  have ht1 := ht g1
  obtain ⟨op, d, a, bb, imm⟩ := i
  simp only at g1 ha hb g5 g6 g7 g8 HP2
  subst g1
  refine (mnext_loop d a bb imm w h ⟨by omega, g6⟩ ha ⟨g7, g8⟩ ht1 (p := p) (by show _ = _; rw [<- HP2.out]; split <;> omega)).mono ?_
  rintro e w' ⟨rfl, hg, hm⟩
  exact ⟨rfl, hg, hm⟩
 ·obtain ⟨_, g1, g2, g3, g4⟩ := g
  rw [g3, Bool.false_and, if_neg (by simp)] at HP2
  have hu : turnE i M = M.turn := by unfold turnE; rw [if_neg (by omega)]
  rw [hu]
  obtain ⟨op, d, a, bb, imm⟩ := i
  simp only at g1 ha hb ho h0
  have hf : holdL op (regV M.regs a) (srcV ⟨op, d, a, bb, imm⟩ M.regs) = false := hold_none (by omega)
  refine (mnext_cond op d a bb imm w h (by simp; omega) (by simp; omega) ha hb (r := false) hf (fun h => by cases h) (p := p) (by show _ = _; rw [<- HP2.out]; rfl)).mono ?_
  rintro e w' ⟨rfl, hbw⟩
  exact ⟨rfl, grown_of_below hbw _, h.below hbw h.hp.lt⟩
end
section
variable {b sb : Nat} {vm : Value} {ev : Int × Int} {M : Mc}
theorem Chg.drewE {w w' : World} {S : Nat -> Prop} (h : Chg w w' S) : Chg w w'.drew S := ⟨h.os, h.tape, h.output, h.size, h.block⟩
set_option maxHeartbeats 800000 in
theorem mstep_wait {vc : Value} (w : World) (h : Ma w b sb vm vc ev M) (hm : M.mode = 1) :
  Calls Tryz.prog 32 #[.pointer (some ⟨b, 0, none⟩)] w fun e w' => e = .returned (actV 5 M.pc 0 0 0 0 0) /\ Below w.heap.size w w' := by
 have hlt := h.hp.lt
 have c9 := h.last.2.2
 rw [hm] at c9
 obtain ⟨V, HV, HmV, HoV, hBV, hzV⟩ := boxO h
 go_enter Tryz.func32, Tryz.ntmps32
 go_wp2_with (go_at_call 62; rw [HV.out]; go_must (refine (mtold_any 5 0 V HmV.out).mono ?_); rintro e w6 ⟨rfl, hb6⟩; go_must (have HO6 := keepJ (HoV.out.below hb6 HoV.out.lt); (have o0 := HO6.out.cell (j := 0) rfl); (have o1 := HO6.out.cell (j := 1) rfl); (have o2 := HO6.out.cell (j := 2) rfl); (have o3 := HO6.out.cell (j := 3) rfl); (have o4 := HO6.out.cell (j := 4) rfl); (have o5 := HO6.out.cell (j := 5) rfl); (have o6 := HO6.out.cell (j := 6) rfl); (have q0 := HO6.out.frozen 0); (have q1 := HO6.out.frozen 1); (have q2 := HO6.out.frozen 2); (have q3 := HO6.out.frozen 3); (have q4 := HO6.out.frozen 4); (have q5 := HO6.out.frozen 5); (have q6 := HO6.out.frozen 6);  skip))
 have hO := HO6.out.sets (actC 5 M.pc 0 0 0 0 0) 0
 rw [splice_all (actC 5 M.pc 0 0 0 0 0) (actC 0 0 0 0 0 0 0) rfl] at hO
 have hG := grown_sets w.heap.size (actC 5 M.pc 0 0 0 0 0) w6 0
 exact act_ret rfl rfl hO ⟨rfl, (hBV.trans (hb6.mono (by omega))).trans (grown_to_below hG (Nat.le_refl _) (hBV.trans (hb6.mono (by omega))).size)⟩
set_option maxHeartbeats 800000 in
theorem mstep_over {cb co ccap : Nat} {xs : List In} (w : World) (h : Ma w b sb vm (.slice (some ⟨cb, co, none⟩) xs.length ccap) ev M) (hx : SeesI w (.slice (some ⟨cb, co, none⟩) xs.length ccap) xs) (hp : M.pc < xs.length) (hm : M.mode = 2) (ha : 0 <= (nth xs M.pc).a /\ (nth xs M.pc).a <= 7) {n : Int} (hn : Hid (regV M.regs (nth xs M.pc).a = n)) :
  Calls Tryz.prog 32 #[.pointer (some ⟨b, 0, none⟩)] w fun e w' => e = .returned (actV 6 M.pc 0 0 0 0 n) /\ Below w.heap.size w w' := by
 have hlt := h.hp.lt
 have c9 := h.last.2.2
 rw [hm] at c9
 obtain ⟨V, HV, HmV, HoV, hBV, hzV⟩ := boxO h
 have HXV := keepJ (hx.below hBV)
 clear hx
 go_enter Tryz.func32, Tryz.ntmps32
 go_wp2_with (first
  | (go_at_call 63; rw [HV.out]; go_must (refine (mresult_any V HmV.out HXV.out hp ha hn).mono ?_); rintro e w5 ⟨rfl, hb5⟩; go_must (have HM5 := keepJ (HmV.out.below hb5 HmV.out.hp.lt); have hz5 := hb5.size))
  | (go_at_call 62; go_must (refine (mtold_any 6 n w5 HM5.out).mono ?_); rintro e w6 ⟨rfl, hb6⟩; go_must (have HO6 := keepJ ((HoV.out.below hb5 HoV.out.lt).below hb6 (by omega)); (have o0 := HO6.out.cell (j := 0) rfl); (have o1 := HO6.out.cell (j := 1) rfl); (have o2 := HO6.out.cell (j := 2) rfl); (have o3 := HO6.out.cell (j := 3) rfl); (have o4 := HO6.out.cell (j := 4) rfl); (have o5 := HO6.out.cell (j := 5) rfl); (have o6 := HO6.out.cell (j := 6) rfl); (have q0 := HO6.out.frozen 0); (have q1 := HO6.out.frozen 1); (have q2 := HO6.out.frozen 2); (have q3 := HO6.out.frozen 3); (have q4 := HO6.out.frozen 4); (have q5 := HO6.out.frozen 5); (have q6 := HO6.out.frozen 6);  skip)))
 have hO := HO6.out.sets (actC 6 M.pc 0 0 0 0 n) 0
 rw [splice_all (actC 6 M.pc 0 0 0 0 n) (actC 0 0 0 0 0 0 0) rfl] at hO
 have hG := grown_sets w.heap.size (actC 6 M.pc 0 0 0 0 n) w6 0
 have hB6 := (hBV.trans (hb5.mono (by omega))).trans (hb6.mono (show w.heap.size <= w5.heap.size by omega))
 exact act_ret rfl rfl hO ⟨rfl, hB6.trans (grown_to_below hG (Nat.le_refl _) hB6.size)⟩
end
section
variable {b sb : Nat} {vm : Value} {ev : Int × Int} {M : Mc}
set_option maxHeartbeats 3200000 in
theorem mstep_call {cb co ccap : Nat} {xs : List In} (w : World) (h : Ma w b sb vm (.slice (some ⟨cb, co, none⟩) xs.length ccap) ev M) (hx : SeesI w (.slice (some ⟨cb, co, none⟩) xs.length ccap) xs) (hp : M.pc < xs.length) (hm : M.mode = 0) (hst : M.steps <= 1000) (hcb' : cb ≠ b) {op d a bb imm : Int} (HI : Hid (nth xs M.pc = ⟨op, d, a, bb, imm⟩)) (ho : op = 21) (hi : 0 <= imm /\ imm <= 6) {ak apc am ao aq av an : Int} {Q : World -> Prop}
  (HC : Hid (∀ U : World, Ma U b sb vm (.slice (some ⟨cb, co, none⟩) xs.length ccap) ev { M with steps := M.steps + 1 } -> Chg w U (fun k => k = b) -> Calls Tryz.prog 64 #[.pointer (some ⟨b, 0, none⟩), .int .i64 imm] U fun e w' => e = .returned (actV ak apc am ao aq av an) /\ Chg U w' (fun k => k = b ∨ k = sb) /\ Q w')) (hsb : sb < w.heap.size) :
  Calls Tryz.prog 32 #[.pointer (some ⟨b, 0, none⟩)] w fun e w' => e = .returned (actV ak apc am ao aq av an) /\ Chg w w' (fun k => k = b ∨ k = sb) /\ ∃ w5, Q w5 /\ w5.grownBy w' (some w.heap.size) := by
 have o21 : (op == 21) = true := by simp [ho]
 clear ho
 have hwi : IntKind.i64.wrap imm = imm := by rw [IntKind.wrap_i64]; omega
 have hlt := h.hp.lt
 have hpI : (M.pc : Int) < xs.length := by omega
 have hp64 : (M.pc : Int) <= 100 := by have := h.pc; omega
 have hstI : (M.steps : Int) <= 1000 := by omega
 obtain ⟨hat, hcb, hcc, hcm⟩ := codeL hx hp
 rw [HI.out] at hat
 obtain ⟨k0, k1, k2, k3, k4⟩ := hat
 simp only at k0 k1 k2 k3 k4
 have HX := keepJ hx
 clear hx
 have c9 := h.last.2.2
 have c8 := h.last.2.1
 have f8 := h.hp.frozen 78
 rw [hm] at c9
 have hn0 : w.heap.size ≠ b := by omega
 obtain ⟨V, HV, HmV, HoV, HcV, hzV⟩ : ∃ V, Hid ((w.setCell ⟨b, 78, none⟩ (.int .i64 ((M.steps : Int) + 1))).alloc (.cells #[.int .i64 0, .int .i64 0, .int .i64 0, .int .i64 0, .int .u64 0, .int .u64 0, .int .u64 0] 55) = V) /\ Hid (Ma V b sb vm (.slice (some ⟨cb, co, none⟩) xs.length ccap) ev { M with steps := M.steps + 1 }) /\ Hid (Hp V w.heap.size 55 (actC 0 0 0 0 0 0 0)) /\ Hid (Chg w V (fun k => k = b)) /\ V.heap.size = w.heap.size + 1 := by
  have hsz : (w.setCell ⟨b, 78, none⟩ (.int .i64 ((M.steps : Int) + 1))).heap.size = w.heap.size := by simp [World.setCell]
  have hB := (Below.refl (w.setCell ⟨b, 78, none⟩ (.int .i64 ((M.steps : Int) + 1))).heap.size (w.setCell ⟨b, 78, none⟩ (.int .i64 ((M.steps : Int) + 1)))).alloc (Nat.le_refl _) (.cells #[.int .i64 0, .int .i64 0, .int .i64 0, .int .i64 0, .int .u64 0, .int .u64 0, .int .u64 0] 55)
  have hN := Hp.new (w.setCell ⟨b, 78, none⟩ (.int .i64 ((M.steps : Int) + 1))) (actC 0 0 0 0 0 0 0) 55
  rw [hsz] at hN
  have hM := h.setN (M.steps + 1)
  rw [show ((M.steps + 1 : Nat) : Int) = (M.steps : Int) + 1 by omega] at hM
  exact ⟨_, rfl, hM.below hB (by rw [hsz]; exact hlt), hN, (Chg.of_grown (S := fun k => k = b) (grown_set w b 78 _) rfl).trans (Chg.of_below (S := fun _ => False) hB) (fun _ _ e => e.elim), by simp [hsz]⟩
 have HKV : Hid (∀ wx : World, Below V.heap.size V wx -> wx.cell? ⟨b, 3, none⟩ = some (.slice (some ⟨cb, co, none⟩) xs.length ccap) /\ wx.cell? ⟨b, 77, none⟩ = some (.int .i64 M.pc) /\ wx.cell? ⟨cb, co + M.pc * 5, none⟩ = some (.int .i64 op) /\ wx.cell? ⟨cb, co + M.pc * 5 + 1, none⟩ = some (.int .i64 d) /\ wx.cell? ⟨cb, co + M.pc * 5 + 2, none⟩ = some (.int .i64 a) /\ wx.cell? ⟨cb, co + M.pc * 5 + 3, none⟩ = some (.int .i64 bb) /\ wx.cell? ⟨cb, co + M.pc * 5 + 4, none⟩ = some (.int .i64 imm)) := fun wx hb => by
  have cc : ∀ {j : Nat} {u : Value}, w.cell? ⟨cb, j, none⟩ = some u -> wx.cell? ⟨cb, j, none⟩ = some u := fun {j u} e => (hb.cell (p := ⟨cb, j, none⟩) (show cb < V.heap.size by omega)).trans ((HcV.out.cellL hcb hcb').trans e)
  exact ⟨(HmV.out.below hb HmV.out.hp.lt).low.2.2.2.1, (HmV.out.below hb HmV.out.hp.lt).last.1, cc k0, cc k1, cc k2, cc k3, cc k4⟩
 clear k0 k1 k2 k3 k4
 go_enter Tryz.func32, Tryz.ntmps32
 go_wp2
 rw [HV.out]
 refine wp_region_held_drew (S := fun w' => w'.cell? ⟨b, 3, none⟩ = some (.slice (some ⟨cb, co, none⟩) xs.length ccap) /\ w'.cell? ⟨b, 77, none⟩ = some (.int .i64 M.pc) /\ w'.cell? ⟨cb, co + M.pc * 5, none⟩ = some (.int .i64 op) /\ w'.cell? ⟨cb, co + M.pc * 5 + 1, none⟩ = some (.int .i64 d) /\ w'.cell? ⟨cb, co + M.pc * 5 + 2, none⟩ = some (.int .i64 a) /\ w'.cell? ⟨cb, co + M.pc * 5 + 3, none⟩ = some (.int .i64 bb) /\ w'.cell? ⟨cb, co + M.pc * 5 + 4, none⟩ = some (.int .i64 imm)) (by kernel_rfl) (HKV.out _ (below_drE (Below.refl _ _))) (fun hHeld => ?_)
 refine tkGo [0, 1, 2, 3, 4, 5, 6, 7, 8, 9] ?_
 repeat (refine tkO (v := ?_) rfl ?_ ?_; rotate_left; (intro wy hSw; (try dsimp only at hSw); go_simp; (first | done | with_reducible rfl)); try simp only [Act.put, p1q, p2q, p3q, p4q, p5q, p6q])
 refine tkEnd ?_
 refine runO 10 (by kernel_rfl) rfl (by rfl) (fun KK hK => ?_)
 go_simp
 obtain ⟨Y, HY, hBY, HoY, HiY, hzY⟩ : ∃ Y, Hid (V.alloc (.cells #[.int .i64 0, .int .i64 0, .int .i64 0, .int .i64 0, .int .i64 0] 59) = Y) /\ Below V.heap.size V Y /\ Hid (Hp Y w.heap.size 55 (actC 0 0 0 0 0 0 0)) /\ Hid (Hp Y (w.heap.size + 1) 59 [.int .i64 0, .int .i64 0, .int .i64 0, .int .i64 0, .int .i64 0]) /\ Y.heap.size = w.heap.size + 2 :=
  ⟨_, rfl, (Below.refl _ _).alloc (Nat.le_refl _) _, HoV.out.alloc _, by have := Hp.new V [.int .i64 0, .int .i64 0, .int .i64 0, .int .i64 0, .int .i64 0] 59; rw [hzV] at this; exact this, by simp [hzV]⟩
 try rw [hzV]
 rw [HY.out]
 refine hK.out _ _ (HKV.out _ (below_drE hBY)) (fun hHeld => ?_)
 clear hK KK
 try simp only [Act.put, p1q, p2q, p3q, p4q, p5q, p6q]
 have a0 := HiY.out.cell (j := 0) rfl
 have q0 := HiY.out.frozen 0
 have a1 := HiY.out.cell (j := 1) rfl
 have q1 := HiY.out.frozen 1
 have a2 := HiY.out.cell (j := 2) rfl
 have q2 := HiY.out.frozen 2
 have a3 := HiY.out.cell (j := 3) rfl
 have q3 := HiY.out.frozen 3
 have a4 := HiY.out.cell (j := 4) rfl
 have q4 := HiY.out.frozen 4
 refine runO 11 (by kernel_rfl) rfl (by rfl) (fun KK hK => ?_)
 go_simp
 obtain ⟨U, HU, hBU, HmU, HoU, HiU, hzU⟩ : ∃ U, Hid (((((Y.setCell ⟨w.heap.size + 1, 0, none⟩ (.int .i64 op)).setCell ⟨w.heap.size + 1, 1, none⟩ (.int .i64 d)).setCell ⟨w.heap.size + 1, 2, none⟩ (.int .i64 a)).setCell ⟨w.heap.size + 1, 3, none⟩ (.int .i64 bb)).setCell ⟨w.heap.size + 1, 4, none⟩ (.int .i64 imm) = U) /\ Below V.heap.size V U /\ Hid (Ma U b sb vm (.slice (some ⟨cb, co, none⟩) xs.length ccap) ev { M with steps := M.steps + 1 }) /\ Hid (Hp U w.heap.size 55 (actC 0 0 0 0 0 0 0)) /\ Hid (Hp U (w.heap.size + 1) 59 [.int .i64 op, .int .i64 d, .int .i64 a, .int .i64 bb, .int .i64 imm]) /\ w.heap.size + 2 <= U.heap.size := by
  have hg := grown_sets (w.heap.size + 1) [.int .i64 op, .int .i64 d, .int .i64 a, .int .i64 bb, .int .i64 imm] Y 0
  have hB : Below V.heap.size V (Y.setCells (w.heap.size + 1) 0 [.int .i64 op, .int .i64 d, .int .i64 a, .int .i64 bb, .int .i64 imm]) := hBY.trans (grown_to_below hg (by omega) hBY.size)
  exact ⟨_, rfl, hB, HmV.out.below hB HmV.out.hp.lt, HoY.out.grown hg (fun e => by have := Option.some.inj e; omega), HiY.out.sets [.int .i64 op, .int .i64 d, .int .i64 a, .int .i64 bb, .int .i64 imm] 0, by have := hg.size; show w.heap.size + 2 <= (Y.setCells (w.heap.size + 1) 0 [.int .i64 op, .int .i64 d, .int .i64 a, .int .i64 bb, .int .i64 imm]).heap.size; omega⟩
 rw [HU.out]
 refine hK.out _ _ (HKV.out _ (below_drE hBU)) (fun hHeld => ?_)
 clear hK KK
 try simp only [Act.put, p1q, p2q, p3q, p4q, p5q, p6q]
 refine wpAnyH_done (by kernel_rfl) ?_ _
 clear a0 a1 a2 a3 a4 q0 q1 q2 q3 q4 hHeld
 have HcU := keepJ (HcV.out.trans (Chg.of_below (S := fun _ => False) hBU) (fun _ _ e => e.elim))
 have i0 := HiU.out.cell (j := 0) rfl
 have i1 := HiU.out.cell (j := 1) rfl
 have i2 := HiU.out.cell (j := 2) rfl
 have i3 := HiU.out.cell (j := 3) rfl
 have i4 := HiU.out.cell (j := 4) rfl
 go_wp2_with (go_at_call 64; go_must (refine (HC.out _ HmU.out.drew HcU.out.drewE).mono ?_); rintro e w5 ⟨rfl, hc5, hq5⟩; go_must (have HO6 := keepJ (HoU.out.drew.chg hc5 (fun e => by omega)); (have o0 := HO6.out.cell (j := 0) rfl); (have o1 := HO6.out.cell (j := 1) rfl); (have o2 := HO6.out.cell (j := 2) rfl); (have o3 := HO6.out.cell (j := 3) rfl); (have o4 := HO6.out.cell (j := 4) rfl); (have o5 := HO6.out.cell (j := 5) rfl); (have o6 := HO6.out.cell (j := 6) rfl); (have q0 := HO6.out.frozen 0); (have q1 := HO6.out.frozen 1); (have q2 := HO6.out.frozen 2); (have q3 := HO6.out.frozen 3); (have q4 := HO6.out.frozen 4); (have q5 := HO6.out.frozen 5); (have q6 := HO6.out.frozen 6);  skip))
 have hO := HO6.out.sets (actC ak apc am ao aq av an) 0
 rw [splice_all (actC ak apc am ao aq av an) (actC 0 0 0 0 0 0 0) rfl] at hO
 have hG := grown_sets w.heap.size (actC ak apc am ao aq av an) w5 0
 have hC5 : Chg w w5 (fun k => k = b ∨ k = sb) := (HcU.out.drewE.mono (fun _ e => .inl e)).trans (T := fun k => k = b ∨ k = sb) hc5 (fun _ _ e => e)
 exact act_ret rfl rfl hO ⟨rfl, hC5.trans (Chg.of_grown hG (S := fun k => k = w.heap.size) rfl) (fun k hk e => by omega), w5, hq5, hG⟩
end
theorem SeesI.chg {w w' : World} {cb co ccap n : Nat} {xs : List In} {S : Nat -> Prop} (h : SeesI w (.slice (some ⟨cb, co, none⟩) n ccap) xs) (hc : Chg w w' S) (hS : ¬ S cb) : SeesI w' (.slice (some ⟨cb, co, none⟩) n ccap) xs := by
 obtain ⟨a, cap, e, h1, h2, h3, h4⟩ := h
 refine ⟨a, cap, e, h1, h2, h3, fun hne => ?_⟩
 obtain ⟨b, off, rfl, hlt, hat⟩ := h4 hne
 injection e with e1 e2 e3
 injection e1 with e1
 injection e1 with e1 e4
 subst e1
 subst e4
 refine ⟨_, _, rfl, Nat.lt_of_lt_of_le hlt hc.size, fun k hk => ?_⟩
 have cc : ∀ {j : Nat} {u : Value}, w.cell? ⟨cb, j, none⟩ = some u -> w'.cell? ⟨cb, j, none⟩ = some u := fun {j u} e => (hc.cellL hlt hS).trans e
 obtain ⟨a0, a1, a2, a3, a4⟩ := hat k hk
 exact ⟨cc a0, cc a1, cc a2, cc a3, cc a4⟩
theorem SeesI.drewI {w : World} {v : Value} {xs : List In} (h : SeesI w v xs) : SeesI w.drew v xs := h
section
variable {b sb : Nat} {vm : Value} {ev : Int × Int} {M : Mc}
set_option maxHeartbeats 3200000 in
theorem mstep_exit {cb co ccap : Nat} {xs : List In} (w : World) (h : Ma w b sb vm (.slice (some ⟨cb, co, none⟩) xs.length ccap) ev M) (hx : SeesI w (.slice (some ⟨cb, co, none⟩) xs.length ccap) xs) (hp : M.pc < xs.length) (hm : M.mode = 0) (hst : M.steps <= 1000) (hcb' : cb ≠ b) {op d a bb imm : Int} (HI : Hid (nth xs M.pc = ⟨op, d, a, bb, imm⟩)) (ho : op = 22) (ha : 0 <= a /\ a <= 7) {n : Int} (hn : Hid (regV M.regs a = n)) :
  Calls Tryz.prog 32 #[.pointer (some ⟨b, 0, none⟩)] w fun e w' => e = .returned (actV 4 M.pc 0 0 0 0 n) /\ Chg w w' (fun k => k = b) /\ Ma w' b sb vm (.slice (some ⟨cb, co, none⟩) xs.length ccap) ev { M with steps := M.steps + 1, mode := 2 } := by
 have o21 : (op == 21) = false := by simp; omega
 have o22 : (op == 22) = true := by simp [ho]
 clear ho
 have hlt := h.hp.lt
 have hpI : (M.pc : Int) < xs.length := by omega
 have hp64 : (M.pc : Int) <= 100 := by have := h.pc; omega
 have hstI : (M.steps : Int) <= 1000 := by omega
 obtain ⟨hat, hcb, hcc, hcm⟩ := codeL hx hp
 rw [HI.out] at hat
 obtain ⟨k0, k1, k2, k3, k4⟩ := hat
 simp only at k0 k1 k2 k3 k4
 have HX := keepJ hx
 clear hx
 have c9 := h.last.2.2
 have c8 := h.last.2.1
 have f8 := h.hp.frozen 78
 rw [hm] at c9
 have hn0 : w.heap.size ≠ b := by omega
 obtain ⟨V, HV, HmV, HoV, HcV, hzV⟩ : ∃ V, Hid ((w.setCell ⟨b, 78, none⟩ (.int .i64 ((M.steps : Int) + 1))).alloc (.cells #[.int .i64 0, .int .i64 0, .int .i64 0, .int .i64 0, .int .u64 0, .int .u64 0, .int .u64 0] 55) = V) /\ Hid (Ma V b sb vm (.slice (some ⟨cb, co, none⟩) xs.length ccap) ev { M with steps := M.steps + 1 }) /\ Hid (Hp V w.heap.size 55 (actC 0 0 0 0 0 0 0)) /\ Hid (Chg w V (fun k => k = b)) /\ V.heap.size = w.heap.size + 1 := by
  have hsz : (w.setCell ⟨b, 78, none⟩ (.int .i64 ((M.steps : Int) + 1))).heap.size = w.heap.size := by simp [World.setCell]
  have hB := (Below.refl (w.setCell ⟨b, 78, none⟩ (.int .i64 ((M.steps : Int) + 1))).heap.size (w.setCell ⟨b, 78, none⟩ (.int .i64 ((M.steps : Int) + 1)))).alloc (Nat.le_refl _) (.cells #[.int .i64 0, .int .i64 0, .int .i64 0, .int .i64 0, .int .u64 0, .int .u64 0, .int .u64 0] 55)
  have hN := Hp.new (w.setCell ⟨b, 78, none⟩ (.int .i64 ((M.steps : Int) + 1))) (actC 0 0 0 0 0 0 0) 55
  rw [hsz] at hN
  have hM := h.setN (M.steps + 1)
  rw [show ((M.steps + 1 : Nat) : Int) = (M.steps : Int) + 1 by omega] at hM
  exact ⟨_, rfl, hM.below hB (by rw [hsz]; exact hlt), hN, (Chg.of_grown (S := fun k => k = b) (grown_set w b 78 _) rfl).trans (Chg.of_below (S := fun _ => False) hB) (fun _ _ e => e.elim), by simp [hsz]⟩
 have HKV : Hid (∀ wx : World, Below V.heap.size V wx -> wx.cell? ⟨b, 3, none⟩ = some (.slice (some ⟨cb, co, none⟩) xs.length ccap) /\ wx.cell? ⟨b, 77, none⟩ = some (.int .i64 M.pc) /\ wx.cell? ⟨cb, co + M.pc * 5, none⟩ = some (.int .i64 op) /\ wx.cell? ⟨cb, co + M.pc * 5 + 1, none⟩ = some (.int .i64 d) /\ wx.cell? ⟨cb, co + M.pc * 5 + 2, none⟩ = some (.int .i64 a) /\ wx.cell? ⟨cb, co + M.pc * 5 + 3, none⟩ = some (.int .i64 bb) /\ wx.cell? ⟨cb, co + M.pc * 5 + 4, none⟩ = some (.int .i64 imm)) := fun wx hb => by
  have cc : ∀ {j : Nat} {u : Value}, w.cell? ⟨cb, j, none⟩ = some u -> wx.cell? ⟨cb, j, none⟩ = some u := fun {j u} e => (hb.cell (p := ⟨cb, j, none⟩) (show cb < V.heap.size by omega)).trans ((HcV.out.cellL hcb hcb').trans e)
  exact ⟨(HmV.out.below hb HmV.out.hp.lt).low.2.2.2.1, (HmV.out.below hb HmV.out.hp.lt).last.1, cc k0, cc k1, cc k2, cc k3, cc k4⟩
 clear k0 k1 k2 k3 k4
 go_enter Tryz.func32, Tryz.ntmps32
 go_wp2
 rw [HV.out]
 refine wp_region_held_drew (S := fun w' => w'.cell? ⟨b, 3, none⟩ = some (.slice (some ⟨cb, co, none⟩) xs.length ccap) /\ w'.cell? ⟨b, 77, none⟩ = some (.int .i64 M.pc) /\ w'.cell? ⟨cb, co + M.pc * 5, none⟩ = some (.int .i64 op) /\ w'.cell? ⟨cb, co + M.pc * 5 + 1, none⟩ = some (.int .i64 d) /\ w'.cell? ⟨cb, co + M.pc * 5 + 2, none⟩ = some (.int .i64 a) /\ w'.cell? ⟨cb, co + M.pc * 5 + 3, none⟩ = some (.int .i64 bb) /\ w'.cell? ⟨cb, co + M.pc * 5 + 4, none⟩ = some (.int .i64 imm)) (by kernel_rfl) (HKV.out _ (below_drE (Below.refl _ _))) (fun hHeld => ?_)
 refine tkGo [0, 1, 2, 3, 4, 5, 6, 7, 8, 9] ?_
 repeat (refine tkO (v := ?_) rfl ?_ ?_; rotate_left; (intro wy hSw; (try dsimp only at hSw); go_simp; (first | done | with_reducible rfl)); try simp only [Act.put, p1q, p2q, p3q, p4q, p5q, p6q])
 refine tkEnd ?_
 refine runO 10 (by kernel_rfl) rfl (by rfl) (fun KK hK => ?_)
 go_simp
 obtain ⟨Y, HY, hBY, HoY, HiY, hzY⟩ : ∃ Y, Hid (V.alloc (.cells #[.int .i64 0, .int .i64 0, .int .i64 0, .int .i64 0, .int .i64 0] 59) = Y) /\ Below V.heap.size V Y /\ Hid (Hp Y w.heap.size 55 (actC 0 0 0 0 0 0 0)) /\ Hid (Hp Y (w.heap.size + 1) 59 [.int .i64 0, .int .i64 0, .int .i64 0, .int .i64 0, .int .i64 0]) /\ Y.heap.size = w.heap.size + 2 :=
  ⟨_, rfl, (Below.refl _ _).alloc (Nat.le_refl _) _, HoV.out.alloc _, by have := Hp.new V [.int .i64 0, .int .i64 0, .int .i64 0, .int .i64 0, .int .i64 0] 59; rw [hzV] at this; exact this, by simp [hzV]⟩
 try rw [hzV]
 rw [HY.out]
 refine hK.out _ _ (HKV.out _ (below_drE hBY)) (fun hHeld => ?_)
 clear hK KK
 try simp only [Act.put, p1q, p2q, p3q, p4q, p5q, p6q]
 have a0 := HiY.out.cell (j := 0) rfl
 have q0 := HiY.out.frozen 0
 have a1 := HiY.out.cell (j := 1) rfl
 have q1 := HiY.out.frozen 1
 have a2 := HiY.out.cell (j := 2) rfl
 have q2 := HiY.out.frozen 2
 have a3 := HiY.out.cell (j := 3) rfl
 have q3 := HiY.out.frozen 3
 have a4 := HiY.out.cell (j := 4) rfl
 have q4 := HiY.out.frozen 4
 refine runO 11 (by kernel_rfl) rfl (by rfl) (fun KK hK => ?_)
 go_simp
 obtain ⟨U, HU, hBU, HmU, HoU, HiU, hzU⟩ : ∃ U, Hid (((((Y.setCell ⟨w.heap.size + 1, 0, none⟩ (.int .i64 op)).setCell ⟨w.heap.size + 1, 1, none⟩ (.int .i64 d)).setCell ⟨w.heap.size + 1, 2, none⟩ (.int .i64 a)).setCell ⟨w.heap.size + 1, 3, none⟩ (.int .i64 bb)).setCell ⟨w.heap.size + 1, 4, none⟩ (.int .i64 imm) = U) /\ Below V.heap.size V U /\ Hid (Ma U b sb vm (.slice (some ⟨cb, co, none⟩) xs.length ccap) ev { M with steps := M.steps + 1 }) /\ Hid (Hp U w.heap.size 55 (actC 0 0 0 0 0 0 0)) /\ Hid (Hp U (w.heap.size + 1) 59 [.int .i64 op, .int .i64 d, .int .i64 a, .int .i64 bb, .int .i64 imm]) /\ w.heap.size + 2 <= U.heap.size := by
  have hg := grown_sets (w.heap.size + 1) [.int .i64 op, .int .i64 d, .int .i64 a, .int .i64 bb, .int .i64 imm] Y 0
  have hB : Below V.heap.size V (Y.setCells (w.heap.size + 1) 0 [.int .i64 op, .int .i64 d, .int .i64 a, .int .i64 bb, .int .i64 imm]) := hBY.trans (grown_to_below hg (by omega) hBY.size)
  exact ⟨_, rfl, hB, HmV.out.below hB HmV.out.hp.lt, HoY.out.grown hg (fun e => by have := Option.some.inj e; omega), HiY.out.sets [.int .i64 op, .int .i64 d, .int .i64 a, .int .i64 bb, .int .i64 imm] 0, by have := hg.size; show w.heap.size + 2 <= (Y.setCells (w.heap.size + 1) 0 [.int .i64 op, .int .i64 d, .int .i64 a, .int .i64 bb, .int .i64 imm]).heap.size; omega⟩
 rw [HU.out]
 refine hK.out _ _ (HKV.out _ (below_drE hBU)) (fun hHeld => ?_)
 clear hK KK
 try simp only [Act.put, p1q, p2q, p3q, p4q, p5q, p6q]
 refine wpAnyH_done (by kernel_rfl) ?_ _
 clear a0 a1 a2 a3 a4 q0 q1 q2 q3 q4 hHeld
 have HcU := keepJ (HcV.out.trans (Chg.of_below (S := fun _ => False) hBU) (fun _ _ e => e.elim))
 have i0 := HiU.out.cell (j := 0) rfl
 have i1 := HiU.out.cell (j := 1) rfl
 have i2 := HiU.out.cell (j := 2) rfl
 have i3 := HiU.out.cell (j := 3) rfl
 have i4 := HiU.out.cell (j := 4) rfl
 obtain ⟨T, HT, HmT, HcT, hgT⟩ : ∃ T, Hid (U.setCell ⟨b, 79, none⟩ (.int .i64 2) = T) /\ Hid (Ma T b sb vm (.slice (some ⟨cb, co, none⟩) xs.length ccap) ev { M with steps := M.steps + 1, mode := 2 }) /\ Hid (Chg w T (fun k => k = b)) /\ U.grownBy T (some b) :=
  ⟨_, rfl, HmU.out.setM 2, HcU.out.trans (Chg.of_grown (S := fun k => k = b) (grown_set U b 79 _) rfl) (fun _ _ e => e), grown_set U b 79 _⟩
 have HoT := keepJ (HoU.out.grown hgT (fun e => by have := Option.some.inj e; omega))
 have HXT := keepJ (HX.out.chg HcT.out hcb')
 have HA := keepJ ha
 have t9 := HmU.out.last.2.2
 have u9 := HmU.out.hp.frozen 79
 have hzT := hgT.size
 go_wp2_with (first
  | rw [HT.out]
  | (go_at_call 63; go_must (refine (mresult_any T.drew HmT.out.drew HXT.out.drewI hp (show 0 <= (nth xs M.pc).a /\ (nth xs M.pc).a <= 7 by rw [HI.out]; exact HA.out) (show Hid (regV M.regs (nth xs M.pc).a = n) by show _ = _; rw [HI.out]; exact hn.out)).mono ?_); rintro e w5 ⟨rfl, hb5'⟩; go_must (have hb5 : Below T.heap.size T w5 := below_undrew hb5'; have HM5 := keepJ (HmT.out.below hb5 HmT.out.hp.lt); have hz5 := hb5.size))
  | (go_at_call 62; go_must (refine (mtold_any 4 n w5 HM5.out).mono ?_); rintro e w6 ⟨rfl, hb6⟩; go_must (have HO6 := keepJ ((HoT.out.below hb5 HoT.out.lt).below hb6 (by omega)); have HM6 := keepJ (HM5.out.below hb6 HM5.out.hp.lt); (have o0 := HO6.out.cell (j := 0) rfl); (have o1 := HO6.out.cell (j := 1) rfl); (have o2 := HO6.out.cell (j := 2) rfl); (have o3 := HO6.out.cell (j := 3) rfl); (have o4 := HO6.out.cell (j := 4) rfl); (have o5 := HO6.out.cell (j := 5) rfl); (have o6 := HO6.out.cell (j := 6) rfl); (have q0 := HO6.out.frozen 0); (have q1 := HO6.out.frozen 1); (have q2 := HO6.out.frozen 2); (have q3 := HO6.out.frozen 3); (have q4 := HO6.out.frozen 4); (have q5 := HO6.out.frozen 5); (have q6 := HO6.out.frozen 6);  skip)))
 have hO := HO6.out.sets (actC 4 M.pc 0 0 0 0 n) 0
 rw [splice_all (actC 4 M.pc 0 0 0 0 n) (actC 0 0 0 0 0 0 0) rfl] at hO
 have hG := grown_sets w.heap.size (actC 4 M.pc 0 0 0 0 n) w6 0
 have hC6 : Chg w w6 (fun k => k = b) := (HcT.out.trans (Chg.of_below (S := fun _ => False) hb5) (fun _ _ e => e.elim)).trans (Chg.of_below (S := fun _ => False) hb6) (fun _ _ e => e.elim)
 exact act_ret rfl rfl hO ⟨rfl, hC6.trans (Chg.of_grown hG (S := fun k => k = w.heap.size) rfl) (fun k hk e => by omega), HM6.out.grown hG (fun e => by have := Option.some.inj e; omega)⟩
end
section
variable {b sb : Nat} {vm : Value} {ev : Int × Int} {M : Mc}
theorem lays_id {ev : Int × Int} {i : In} {M : Mc} (h : 15 <= i.op) : laysE ev i M = (M.regs, M.ws) := by
 unfold laysE
 rw [if_neg (by omega), if_neg (by omega), if_neg (by omega), if_neg (by omega), if_neg (by omega), if_neg (by omega)]
theorem next_lays {ev : Int × Int} {i : In} (hr : i.right = true) (ho : i.op <= 20) (M : Mc) : nextE i { M with regs := (laysE ev i M).1, ws := (laysE ev i M).2 } = nextE i M /\ turnE i { M with regs := (laysE ev i M).1, ws := (laysE ev i M).2 } = turnE i M := by
 by_cases h : 15 <= i.op
 ·rw [lays_id h]
  exact ⟨rfl, rfl⟩
 ·have hl : i.leads = false := by
   rcases goes_parts i with g | g | g | g
   ·rw [hr] at g; cases g.1
   ·omega
   ·omega
   ·exact g.2.2.2.1
  refine ⟨?_, ?_⟩
  ·unfold nextE
   rw [hl]
   rfl
  ·unfold turnE
   rw [if_neg (by omega), if_neg (by omega)]
set_option maxHeartbeats 3200000 in
theorem mstep_ran {cb co ccap : Nat} {xs : List In} (w : World) (h : Ma w b sb vm (.slice (some ⟨cb, co, none⟩) xs.length ccap) ev M) (hx : SeesI w (.slice (some ⟨cb, co, none⟩) xs.length ccap) xs) (hp : M.pc < xs.length) (hm : M.mode = 0) (hst : M.steps <= 1000) (hcb' : cb ≠ b) {op d a bb imm : Int} (HI : Hid (nth xs M.pc = ⟨op, d, a, bb, imm⟩)) (hr : (⟨op, d, a, bb, imm⟩ : In).right = true) (ho : op <= 20) (hs : Sc w sb M.ws M.cs) (hne : b ≠ sb) (hws : W16 M.ws) (hev : (0 <= ev.1 /\ ev.1 <= 18446744073709551615) /\ 0 <= ev.2 /\ ev.2 <= 18446744073709551615) (hw : op = 11 ∨ op = 12 -> 0 <= srcV ⟨op, d, a, bb, imm⟩ M.regs /\ srcV ⟨op, d, a, bb, imm⟩ M.regs <= 15) (ht : op = 20 -> 0 <= M.turn M.pc /\ M.turn M.pc <= 255) {p : Nat} (HP : Hid (nextE ⟨op, d, a, bb, imm⟩ M = (p : Int))) (hp6 : p < 64) {R ws : List Int} (HL : Hid (laysE ev ⟨op, d, a, bb, imm⟩ M = (R, ws))) {tn : Int -> Int} (HTn : Hid (turnE ⟨op, d, a, bb, imm⟩ M = tn)) :
  Calls Tryz.prog 32 #[.pointer (some ⟨b, 0, none⟩)] w fun e w' => e = .returned (actV 1 M.pc 0 0 0 0 0) /\ Chg w w' (fun k => k = b ∨ k = sb) /\ Ma w' b sb vm (.slice (some ⟨cb, co, none⟩) xs.length ccap) ev { M with regs := R, ws := ws, turn := tn, steps := M.steps + 1, pc := p } /\ Sc w' sb ws M.cs := by
 have h0 := right_op hr
 simp only at h0
 have o21 : (op == 21) = false := by simp; omega
 have o22 : (op == 22) = false := by simp; omega
 have hsb := hs.lt
 obtain ⟨N, HN⟩ : ∃ N : Mc, Hid ({ M with steps := M.steps + 1 } = N) := ⟨_, rfl⟩
 have HN1 : Hid (nextE ⟨op, d, a, bb, imm⟩ { N with regs := R, ws := ws } = (p : Int)) := by
  show _ = _
  have := (next_lays (ev := ev) hr ho N).1
  rw [<- HN.out] at this ⊢
  rw [<- HP.out]
  have e : laysE ev ⟨op, d, a, bb, imm⟩ { M with steps := M.steps + 1 } = (R, ws) := HL.out
  rw [e] at this
  exact this
 have HN2 : Hid (turnE ⟨op, d, a, bb, imm⟩ { N with regs := R, ws := ws } = tn) := by
  show _ = _
  have := (next_lays (ev := ev) hr ho N).2
  rw [<- HN.out] at this ⊢
  rw [<- HTn.out]
  have e : laysE ev ⟨op, d, a, bb, imm⟩ { M with steps := M.steps + 1 } = (R, ws) := HL.out
  rw [e] at this
  exact this
 have HN3 : Hid (laysE ev ⟨op, d, a, bb, imm⟩ N = (R, ws)) := by show _ = _; rw [<- HN.out]; exact HL.out
 have HN4 : Hid (N.ws = M.ws /\ N.cs = M.cs /\ N.regs = M.regs /\ N.turn = M.turn /\ N.pc = M.pc /\ N.mode = M.mode /\ N.steps = M.steps + 1) := by rw [<- HN.out]; exact ⟨rfl, rfl, rfl, rfl, rfl, rfl, rfl⟩
 clear HL HTn HP
 have hlt := h.hp.lt
 have hpI : (M.pc : Int) < xs.length := by omega
 have hp64 : (M.pc : Int) <= 100 := by have := h.pc; omega
 have hstI : (M.steps : Int) <= 1000 := by omega
 obtain ⟨hat, hcb, hcc, hcm⟩ := codeL hx hp
 rw [HI.out] at hat
 obtain ⟨k0, k1, k2, k3, k4⟩ := hat
 simp only at k0 k1 k2 k3 k4
 have HX := keepJ hx
 clear hx
 have c9 := h.last.2.2
 have c8 := h.last.2.1
 have f8 := h.hp.frozen 78
 rw [hm] at c9
 have hn0 : w.heap.size ≠ b := by omega
 obtain ⟨V, HV, HmV, HoV, HcV, hzV⟩ : ∃ V, Hid ((w.setCell ⟨b, 78, none⟩ (.int .i64 ((M.steps : Int) + 1))).alloc (.cells #[.int .i64 0, .int .i64 0, .int .i64 0, .int .i64 0, .int .u64 0, .int .u64 0, .int .u64 0] 55) = V) /\ Hid (Ma V b sb vm (.slice (some ⟨cb, co, none⟩) xs.length ccap) ev { M with steps := M.steps + 1 }) /\ Hid (Hp V w.heap.size 55 (actC 0 0 0 0 0 0 0)) /\ Hid (Chg w V (fun k => k = b)) /\ V.heap.size = w.heap.size + 1 := by
  have hsz : (w.setCell ⟨b, 78, none⟩ (.int .i64 ((M.steps : Int) + 1))).heap.size = w.heap.size := by simp [World.setCell]
  have hB := (Below.refl (w.setCell ⟨b, 78, none⟩ (.int .i64 ((M.steps : Int) + 1))).heap.size (w.setCell ⟨b, 78, none⟩ (.int .i64 ((M.steps : Int) + 1)))).alloc (Nat.le_refl _) (.cells #[.int .i64 0, .int .i64 0, .int .i64 0, .int .i64 0, .int .u64 0, .int .u64 0, .int .u64 0] 55)
  have hN := Hp.new (w.setCell ⟨b, 78, none⟩ (.int .i64 ((M.steps : Int) + 1))) (actC 0 0 0 0 0 0 0) 55
  rw [hsz] at hN
  have hM := h.setN (M.steps + 1)
  rw [show ((M.steps + 1 : Nat) : Int) = (M.steps : Int) + 1 by omega] at hM
  exact ⟨_, rfl, hM.below hB (by rw [hsz]; exact hlt), hN, (Chg.of_grown (S := fun k => k = b) (grown_set w b 78 _) rfl).trans (Chg.of_below (S := fun _ => False) hB) (fun _ _ e => e.elim), by simp [hsz]⟩
 have HKV : Hid (∀ wx : World, Below V.heap.size V wx -> wx.cell? ⟨b, 3, none⟩ = some (.slice (some ⟨cb, co, none⟩) xs.length ccap) /\ wx.cell? ⟨b, 77, none⟩ = some (.int .i64 M.pc) /\ wx.cell? ⟨cb, co + M.pc * 5, none⟩ = some (.int .i64 op) /\ wx.cell? ⟨cb, co + M.pc * 5 + 1, none⟩ = some (.int .i64 d) /\ wx.cell? ⟨cb, co + M.pc * 5 + 2, none⟩ = some (.int .i64 a) /\ wx.cell? ⟨cb, co + M.pc * 5 + 3, none⟩ = some (.int .i64 bb) /\ wx.cell? ⟨cb, co + M.pc * 5 + 4, none⟩ = some (.int .i64 imm)) := fun wx hb => by
  have cc : ∀ {j : Nat} {u : Value}, w.cell? ⟨cb, j, none⟩ = some u -> wx.cell? ⟨cb, j, none⟩ = some u := fun {j u} e => (hb.cell (p := ⟨cb, j, none⟩) (show cb < V.heap.size by omega)).trans ((HcV.out.cellL hcb hcb').trans e)
  exact ⟨(HmV.out.below hb HmV.out.hp.lt).low.2.2.2.1, (HmV.out.below hb HmV.out.hp.lt).last.1, cc k0, cc k1, cc k2, cc k3, cc k4⟩
 clear k0 k1 k2 k3 k4
 go_enter Tryz.func32, Tryz.ntmps32
 go_wp2
 rw [HV.out]
 refine wp_region_held_drew (S := fun w' => w'.cell? ⟨b, 3, none⟩ = some (.slice (some ⟨cb, co, none⟩) xs.length ccap) /\ w'.cell? ⟨b, 77, none⟩ = some (.int .i64 M.pc) /\ w'.cell? ⟨cb, co + M.pc * 5, none⟩ = some (.int .i64 op) /\ w'.cell? ⟨cb, co + M.pc * 5 + 1, none⟩ = some (.int .i64 d) /\ w'.cell? ⟨cb, co + M.pc * 5 + 2, none⟩ = some (.int .i64 a) /\ w'.cell? ⟨cb, co + M.pc * 5 + 3, none⟩ = some (.int .i64 bb) /\ w'.cell? ⟨cb, co + M.pc * 5 + 4, none⟩ = some (.int .i64 imm)) (by kernel_rfl) (HKV.out _ (below_drE (Below.refl _ _))) (fun hHeld => ?_)
 refine tkGo [0, 1, 2, 3, 4, 5, 6, 7, 8, 9] ?_
 repeat (refine tkO (v := ?_) rfl ?_ ?_; rotate_left; (intro wy hSw; (try dsimp only at hSw); go_simp; (first | done | with_reducible rfl)); try simp only [Act.put, p1q, p2q, p3q, p4q, p5q, p6q])
 refine tkEnd ?_
 refine runO 10 (by kernel_rfl) rfl (by rfl) (fun KK hK => ?_)
 go_simp
 obtain ⟨Y, HY, hBY, HoY, HiY, hzY⟩ : ∃ Y, Hid (V.alloc (.cells #[.int .i64 0, .int .i64 0, .int .i64 0, .int .i64 0, .int .i64 0] 59) = Y) /\ Below V.heap.size V Y /\ Hid (Hp Y w.heap.size 55 (actC 0 0 0 0 0 0 0)) /\ Hid (Hp Y (w.heap.size + 1) 59 [.int .i64 0, .int .i64 0, .int .i64 0, .int .i64 0, .int .i64 0]) /\ Y.heap.size = w.heap.size + 2 :=
  ⟨_, rfl, (Below.refl _ _).alloc (Nat.le_refl _) _, HoV.out.alloc _, by have := Hp.new V [.int .i64 0, .int .i64 0, .int .i64 0, .int .i64 0, .int .i64 0] 59; rw [hzV] at this; exact this, by simp [hzV]⟩
 try rw [hzV]
 rw [HY.out]
 refine hK.out _ _ (HKV.out _ (below_drE hBY)) (fun hHeld => ?_)
 clear hK KK
 try simp only [Act.put, p1q, p2q, p3q, p4q, p5q, p6q]
 have a0 := HiY.out.cell (j := 0) rfl
 have q0 := HiY.out.frozen 0
 have a1 := HiY.out.cell (j := 1) rfl
 have q1 := HiY.out.frozen 1
 have a2 := HiY.out.cell (j := 2) rfl
 have q2 := HiY.out.frozen 2
 have a3 := HiY.out.cell (j := 3) rfl
 have q3 := HiY.out.frozen 3
 have a4 := HiY.out.cell (j := 4) rfl
 have q4 := HiY.out.frozen 4
 refine runO 11 (by kernel_rfl) rfl (by rfl) (fun KK hK => ?_)
 go_simp
 obtain ⟨U, HU, hBU, HmU, HoU, HiU, hzU⟩ : ∃ U, Hid (((((Y.setCell ⟨w.heap.size + 1, 0, none⟩ (.int .i64 op)).setCell ⟨w.heap.size + 1, 1, none⟩ (.int .i64 d)).setCell ⟨w.heap.size + 1, 2, none⟩ (.int .i64 a)).setCell ⟨w.heap.size + 1, 3, none⟩ (.int .i64 bb)).setCell ⟨w.heap.size + 1, 4, none⟩ (.int .i64 imm) = U) /\ Below V.heap.size V U /\ Hid (Ma U b sb vm (.slice (some ⟨cb, co, none⟩) xs.length ccap) ev { M with steps := M.steps + 1 }) /\ Hid (Hp U w.heap.size 55 (actC 0 0 0 0 0 0 0)) /\ Hid (Hp U (w.heap.size + 1) 59 [.int .i64 op, .int .i64 d, .int .i64 a, .int .i64 bb, .int .i64 imm]) /\ w.heap.size + 2 <= U.heap.size := by
  have hg := grown_sets (w.heap.size + 1) [.int .i64 op, .int .i64 d, .int .i64 a, .int .i64 bb, .int .i64 imm] Y 0
  have hB : Below V.heap.size V (Y.setCells (w.heap.size + 1) 0 [.int .i64 op, .int .i64 d, .int .i64 a, .int .i64 bb, .int .i64 imm]) := hBY.trans (grown_to_below hg (by omega) hBY.size)
  exact ⟨_, rfl, hB, HmV.out.below hB HmV.out.hp.lt, HoY.out.grown hg (fun e => by have := Option.some.inj e; omega), HiY.out.sets [.int .i64 op, .int .i64 d, .int .i64 a, .int .i64 bb, .int .i64 imm] 0, by have := hg.size; show w.heap.size + 2 <= (Y.setCells (w.heap.size + 1) 0 [.int .i64 op, .int .i64 d, .int .i64 a, .int .i64 bb, .int .i64 imm]).heap.size; omega⟩
 rw [HU.out]
 refine hK.out _ _ (HKV.out _ (below_drE hBU)) (fun hHeld => ?_)
 clear hK KK
 try simp only [Act.put, p1q, p2q, p3q, p4q, p5q, p6q]
 refine wpAnyH_done (by kernel_rfl) ?_ _
 clear a0 a1 a2 a3 a4 q0 q1 q2 q3 q4 hHeld
 have HcU := keepJ (HcV.out.trans (Chg.of_below (S := fun _ => False) hBU) (fun _ _ e => e.elim))
 have i0 := HiU.out.cell (j := 0) rfl
 have i1 := HiU.out.cell (j := 1) rfl
 have i2 := HiU.out.cell (j := 2) rfl
 have i3 := HiU.out.cell (j := 3) rfl
 have i4 := HiU.out.cell (j := 4) rfl
 have HsU := keepJ (hs.chg HcU.out (fun e => hne e.symm))
 rw [HN.out] at HmU
 have hltU := HmU.out.hp.lt
 have hno : w.heap.size ≠ sb := by omega
 have hn1 : w.heap.size + 1 ≠ b := by omega
 have hn2 : w.heap.size + 1 ≠ sb := by omega
 go_wp2_with (first
  | (go_at_call 62; go_must (refine (mtold_any 1 0 U.drew HmU.out.drew).mono ?_); rintro e w4 ⟨rfl, hb4'⟩; go_must (have hb4 : Below U.heap.size U w4 := below_undrew hb4'; have hz4 := hb4.size; obtain ⟨T, HT, HmT, HaT, HoT, hbT, hzT⟩ := boxA (HmU.out.below hb4 hltU) (HoU.out.below hb4 HoU.out.lt) 1 N.pc 0 0 0 0 0; have HsT := keepJ ((HsU.out.below hb4 HsU.out.lt).below hbT (by have := HsU.out.lt; omega)); have HiT := keepJ ((HiU.out.below hb4 HiU.out.lt).below hbT (by have := HiU.out.lt; omega)); have HcT := keepJ ((HcU.out.trans (Chg.of_below (S := fun _ => False) hb4) (fun _ _ e => e.elim)).trans (Chg.of_below (S := fun _ => False) hbT) (fun _ _ e => e.elim)); (have j0 := HiT.out.cell (j := 0) rfl); (have j1 := HiT.out.cell (j := 1) rfl); (have j2 := HiT.out.cell (j := 2) rfl); (have j3 := HiT.out.cell (j := 3) rfl); (have j4 := HiT.out.cell (j := 4) rfl);  clear hb4'))
  | rw [HT.out]
  | (go_at_call 65; go_must (refine (mdo_all ⟨op, d, a, bb, imm⟩ hr ho T HmT.out (by rw [HN4.out.1, HN4.out.2.1]; exact HsT.out) hne (by rw [HN4.out.1]; exact hws) hev (by rw [HN4.out.2.2.1]; exact hw)).mono ?_); rintro e w5 ⟨rfl, hc5, hm5, hs5⟩; go_must (rw [HN3.out] at hm5 hs5; have hz5 := hc5.size; have HM5 := keepJ hm5; have HS5 := keepJ hs5; have HA5 := keepJ (HaT.out.chg hc5 (fun e => by omega)); have HO5 := keepJ (HoT.out.chg hc5 (fun e => by omega)); have HI5 := keepJ (HiT.out.chg hc5 (fun e => by omega)); (have l0 := HI5.out.cell (j := 0) rfl); (have l1 := HI5.out.cell (j := 1) rfl); (have l2 := HI5.out.cell (j := 2) rfl); (have l3 := HI5.out.cell (j := 3) rfl); (have l4 := HI5.out.cell (j := 4) rfl);  clear hm5 hs5))
  | (go_at_call 66; go_must (refine (mnext_all ⟨op, d, a, bb, imm⟩ hr ho w5 HM5.out (fun e => by show 0 <= N.turn N.pc /\ N.turn N.pc <= 255; rw [HN4.out.2.2.2.1, HN4.out.2.2.2.2.1]; exact ht e) HN1).mono ?_); rintro e w6 ⟨rfl, hg6, hm6⟩; go_must (rw [HN2.out] at hm6; have hz6 := hg6.size; obtain ⟨X, HXX, HMX, hgX⟩ : ∃ X, Hid (w6.setCell ⟨b, 77, none⟩ (.int .i64 (p : Int)) = X) /\ Hid (Ma X b sb vm (.slice (some ⟨cb, co, none⟩) xs.length ccap) ev { N with regs := R, ws := ws, turn := tn, pc := p }) /\ w6.grownBy X (some b) := ⟨_, rfl, hm6.setP hp6, grown_set w6 b 77 _⟩; have v7 := hm6.last.1; have g7 := hm6.hp.frozen 77; have HA6 := keepJ ((HA5.out.grown hg6 (fun e => by have := Option.some.inj e; omega)).grown hgX (fun e => by have := Option.some.inj e; omega)); have HO6 := keepJ ((HO5.out.grown hg6 (fun e => by have := Option.some.inj e; omega)).grown hgX (fun e => by have := Option.some.inj e; omega)); (have a0 := HA6.out.cell (j := 0) rfl); (have a1 := HA6.out.cell (j := 1) rfl); (have a2 := HA6.out.cell (j := 2) rfl); (have a3 := HA6.out.cell (j := 3) rfl); (have a4 := HA6.out.cell (j := 4) rfl); (have a5 := HA6.out.cell (j := 5) rfl); (have a6 := HA6.out.cell (j := 6) rfl);  (have o0 := HO6.out.cell (j := 0) rfl); (have o1 := HO6.out.cell (j := 1) rfl); (have o2 := HO6.out.cell (j := 2) rfl); (have o3 := HO6.out.cell (j := 3) rfl); (have o4 := HO6.out.cell (j := 4) rfl); (have o5 := HO6.out.cell (j := 5) rfl); (have o6 := HO6.out.cell (j := 6) rfl); (have q0 := HO6.out.frozen 0); (have q1 := HO6.out.frozen 1); (have q2 := HO6.out.frozen 2); (have q3 := HO6.out.frozen 3); (have q4 := HO6.out.frozen 4); (have q5 := HO6.out.frozen 5); (have q6 := HO6.out.frozen 6);  skip))
  | rw [HXX.out])
 have hO := HO6.out.sets (actC 1 N.pc 0 0 0 0 0) 0
 rw [splice_all (actC 1 N.pc 0 0 0 0 0) (actC 0 0 0 0 0 0 0) rfl] at hO
 have hG := grown_sets w.heap.size (actC 1 N.pc 0 0 0 0 0) X 0
 have hC5 : Chg w w5 (fun k => k = b ∨ k = sb) := (HcT.out.mono (fun _ e => .inl e)).trans (T := fun k => k = b ∨ k = sb) hc5 (fun _ _ e => e)
 have hC6 : Chg w w6 (fun k => k = b ∨ k = sb) := hC5.trans (Chg.of_grown (S := fun k => k = b) hg6 rfl) (fun _ _ e => .inl e)
 have hCX : Chg w X (fun k => k = b ∨ k = sb) := hC6.trans (Chg.of_grown (S := fun k => k = b) hgX rfl) (fun _ _ e => .inl e)
 have hS6 := HS5.out.grown hg6 (show some sb ≠ some b from fun e => hne (Option.some.inj e).symm)
 have hSX := hS6.grown hgX (show some sb ≠ some b from fun e => hne (Option.some.inj e).symm)
 have hSF := hSX.grown hG (show some sb ≠ some w.heap.size from fun e => hno (Option.some.inj e).symm)
 have hMF := HMX.out.grown hG (show some b ≠ some w.heap.size from fun e => hn0 (Option.some.inj e).symm)
 refine act_ret rfl rfl hO ⟨by rw [HN4.out.2.2.2.2.1], hCX.trans (Chg.of_grown hG (S := fun k => k = w.heap.size) rfl) (fun k hk e => by omega), hMF.same rfl rfl rfl HN4.out.2.2.2.2.2.2.symm HN4.out.2.2.2.2.2.1.symm, ?_⟩
 rw [<- HN4.out.2.1]
 exact hSF
end
def joinU (h s : St) (n : Nat) : St := (List.range 8).map fun i => if i < n then join2 (h.getD i Ty.nil) (s.getD i Ty.nil) else h.getD i Ty.nil
def arrK (K : Kn) (p : Nat) (r : Bool) (s : St) : Kn := if r = false then K else if (K.getD p kn0).1 = false then K.set p (r, s) else K.set p ((K.getD p kn0).1, joinU (K.getD p kn0).2 s 8)
theorem joinU_len (h s : St) (n : Nat) : (joinU h s n).length = 8 := by simp [joinU]
theorem joinU_at (h s : St) {n k : Nat} (hk : k < 8) : (joinU h s n).getD k Ty.nil = if k < n then join2 (h.getD k Ty.nil) (s.getD k Ty.nil) else h.getD k Ty.nil := by
 unfold joinU
 simp [List.getD, List.getElem?_map, List.getElem?_range hk]
theorem joinU_zero {h : St} (s : St) (h8 : h.length = 8) : joinU h s 0 = h := by
 apply List.ext_getElem?
 intro i
 by_cases hi : i < 8
 ·simp [joinU, List.getElem?_range hi, List.getElem?_eq_getElem (show i < h.length by omega)]
 ·rw [List.getElem?_eq_none (by rw [joinU_len]; omega), List.getElem?_eq_none (by omega)]
theorem joinU_step (h s : St) {k : Nat} (hk : k < 8) : joinU h s (k + 1) = (joinU h s k).set k (join2 (h.getD k Ty.nil) (s.getD k Ty.nil)) := by
 apply List.ext_getElem?
 intro i
 rw [List.getElem?_set]
 by_cases hi : i < 8
 ·by_cases hik : k = i
  ·subst hik
   simp [joinU, List.getElem?_range hi, hi]
  ·rw [if_neg hik]
   simp only [joinU, List.getElem?_map, List.getElem?_range hi, Option.map_some]
   by_cases hl : i < k
   ·rw [if_pos hl, if_pos (by omega)]
   ·rw [if_neg hl, if_neg (by omega)]
 ·rw [List.getElem?_eq_none (by rw [joinU_len]; omega), if_neg (by omega), List.getElem?_eq_none (by rw [joinU_len]; omega)]
theorem kn_set {K : Kn} {p : Nat} {x : Bool × St} (hp : p < K.length) : (K.set p x).getD p kn0 = x := by simp [List.getD, List.getElem?_set, hp]
theorem kn_self {K : Kn} (p : Nat) : K.set p (K.getD p kn0) = K := by
 apply List.ext_getElem?
 intro i
 rw [List.getElem?_set]
 by_cases h : p = i
 ·subst h
  by_cases hl : p < K.length
  ·simp [hl, List.getD, List.getElem?_eq_getElem hl]
  ·simp [hl, List.getElem?_eq_none (show K.length <= p by omega)]
 ·rw [if_neg h]
def qC (nm : Nat) (vc vl : Value) (kb n : Nat) : List Value := [.int .i64 nm, vc, vl, .slice (some ⟨kb, 0, none⟩) n n]

theorem keepA {w : World} {qb kb sb o : Nat} {v : Value} {r : Bool} {s : St} {n : Nat} (h : w.cell? ⟨qb, 3, none⟩ = some v /\ StAt w sb 0 r s /\ w.there kb o n) (h1 : qb ≠ kb) (h2 : sb ≠ kb) (o' : Nat) (vs : List Value) :
  (w.setCells kb o' vs).cell? ⟨qb, 3, none⟩ = some v /\ StAt (w.setCells kb o' vs) sb 0 r s /\ (w.setCells kb o' vs).there kb o n :=
 ⟨(World.cell?_of_block ((grown_sets kb vs w o').block qb (World.block_lt_of_cell? w _ h.1) (fun e => h1 (by injection e)))).trans h.1, World.rangeAt_setCells_apart h.2.1 _ _ _ (.inl h2), World.there_setCells h.2.2 _ _ _⟩
theorem ljoined_as {a b t : Ty} (ha : Hid (wfS (a.lo, a.hi))) (hb : Hid (wfS (b.lo, b.hi))) (h : Hid (join2 a b = t)) (w : World) : Calls Tryz.prog 86 #[tyV a, tyV b] w fun e w' => e = .returned (tyV t) /\ Below w.heap.size w w' := by
 rw [<- h.out]; exact ljoined_any a b w ha hb
theorem keep5 {w w' : World} {qb nb : Nat} {v x0 x1 x2 x3 : Value} (h : w.cell? ⟨qb, 3, none⟩ = some v /\ w.cell? ⟨nb, 0, none⟩ = some x0 /\ w.cell? ⟨nb, 1, none⟩ = some x1 /\ w.cell? ⟨nb, 2, none⟩ = some x2 /\ w.cell? ⟨nb, 3, none⟩ = some x3) (hb : Below w.heap.size w w') (hq : qb < w.heap.size) (hn : nb < w.heap.size) :
  w'.cell? ⟨qb, 3, none⟩ = some v /\ w'.cell? ⟨nb, 0, none⟩ = some x0 /\ w'.cell? ⟨nb, 1, none⟩ = some x1 /\ w'.cell? ⟨nb, 2, none⟩ = some x2 /\ w'.cell? ⟨nb, 3, none⟩ = some x3 := by
 rw [hb.cell (p := ⟨qb, 3, none⟩) hq, hb.cell (p := ⟨nb, 0, none⟩) hn, hb.cell (p := ⟨nb, 1, none⟩) hn, hb.cell (p := ⟨nb, 2, none⟩) hn, hb.cell (p := ⟨nb, 3, none⟩) hn]
 exact h
theorem keep5s {w : World} {qb nb kb o : Nat} {t : Ty} {v x0 x1 x2 x3 : Value} (h : w.cell? ⟨qb, 3, none⟩ = some v /\ w.cell? ⟨nb, 0, none⟩ = some x0 /\ w.cell? ⟨nb, 1, none⟩ = some x1 /\ w.cell? ⟨nb, 2, none⟩ = some x2 /\ w.cell? ⟨nb, 3, none⟩ = some x3) (hq : qb ≠ kb) (hn : nb ≠ kb) :
  (setT w kb o t).cell? ⟨qb, 3, none⟩ = some v /\ (setT w kb o t).cell? ⟨nb, 0, none⟩ = some x0 /\ (setT w kb o t).cell? ⟨nb, 1, none⟩ = some x1 /\ (setT w kb o t).cell? ⟨nb, 2, none⟩ = some x2 /\ (setT w kb o t).cell? ⟨nb, 3, none⟩ = some x3 := by
 have key : ∀ b j u, b ≠ kb -> w.cell? ⟨b, j, none⟩ = some u -> (setT w kb o t).cell? ⟨b, j, none⟩ = some u := fun b j u hb hc =>
  (grown_sets kb (tyC t) w o).cell hc (fun e => hb (by injection e))
 exact ⟨key _ _ _ hq h.1, key _ _ _ hn h.2.1, key _ _ _ hn h.2.2.1, key _ _ _ hn h.2.2.2.1, key _ _ _ hn h.2.2.2.2⟩
set_option maxHeartbeats 1600000 in
theorem larrive_any (qb kb p nm : Nat) (vc vl : Value) (K : Kn) (r : Bool) (s : St) (w : World) (hq : Hp w qb 129 (qC nm vc vl kb K.length)) (hk : Hp w kb 138 (flatK K)) (hne : qb ≠ kb) (h8 : Eight K) (hp : p < K.length) (hs : Made8 nm s) (hK : Made8 nm (K.getD p kn0).2) :
  Calls Tryz.prog 55 #[.pointer (some ⟨qb, 0, none⟩), .int .i64 p, stV r s] w fun e w' => e = .returned (.tuple #[]) /\ w.grownBy w' (some kb) /\ Hp w' kb 138 (flatK (arrK K p r s)) := by
 obtain ⟨r0, s0, HK⟩ : ∃ r0 s0, Hid (K.getD p kn0 = (r0, s0)) := ⟨_, _, rfl⟩
 have hz : (stC r s)[0]? = some (.bool r) := rfl
 have c3 : w.cell? ⟨qb, 3, none⟩ = some (.slice (some ⟨kb, 0, none⟩) K.length K.length) := hq.cell rfl
 have k0 : w.cell? ⟨kb, p * 33, none⟩ = some (.bool r0) := (hk.state h8 hp HK.out).cell
 have hq1 := hq.lt
 have hk1 := hk.lt
 have hn1 : ¬ qb = w.heap.size := by omega
 have hn2 : ¬ w.heap.size = qb := by omega
 have hn3 : ¬ kb = w.heap.size := by omega
 have hn4 : ¬ w.heap.size = kb := by omega
 have hpI : (p : Int) < K.length := by omega
 cases r with
 | false =>
  go_enter Tryz.func55, Tryz.ntmps55
  go_wp2
  exact bodyPost_end (results_none rfl _ _ _) rfl ⟨rfl, World.grownBy_alloc _ _ _, by unfold arrK; rw [if_pos rfl]; exact hk.alloc _⟩
 | true =>
  cases r0 with
  | false =>
   go_enter Tryz.func55, Tryz.ntmps55
   go_wp2
   obtain ⟨W, HW, hSt, hc3, hth, HkW, HgW⟩ : ∃ W, Hid (W = w.alloc (Obj.cells (stC true s).toArray 138)) /\ StAt W w.heap.size 0 true s /\ W.cell? ⟨qb, 3, none⟩ = some (.slice (some ⟨kb, 0, none⟩) K.length K.length) /\ W.there kb (p * 33) 33 /\ Hid (Hp W kb 138 (flatK K)) /\ Hid (w.grownBy W (some kb)) :=
    ⟨_, rfl, stAt_new w true s, (hq.alloc _).cell rfl, (hk.alloc _).there (by rw [flatK_len h8]; omega), hk.alloc _, World.grownBy_alloc _ _ _⟩
   rw [<- HW.out]
   have hld : ∀ w', StAt w' w.heap.size 0 true s -> (Instr.loadAt 138 (.pointer (some ⟨w.heap.size, 0, none⟩))).run Tryz.prog w' = .ok (stV true s) w' := fun w' h => run_loadAt_mid w' _ _ _ _ _ h Tryz.underlying138 rfl (sizeJ hs.1)
   have hst : ∀ w', w'.there kb (p * 33) 33 -> (Instr.storeAt 138 (.pointer (some ⟨kb, p * 33, none⟩)) (stV true s)).run Tryz.prog w' = .ok () (w'.setCells kb (p * 33) (stC true s)) := fun w' h => run_storeAt_mid w' _ _ _ _ (by rw [stC_size true hs.1]; exact h) (sizeJA hs.1) (stC_all true s)
   have hne2 : w.heap.size ≠ kb := by omega
   have Hhp := keepJ h8
   have HqK := keepJ hp
   have HMs := keepJ hs
   clear hz c3 k0 hq hk hK h8 hs
   refine wp_region_held_drew (S := fun w' => w'.cell? ⟨qb, 3, none⟩ = some (.slice (some ⟨kb, 0, none⟩) K.length K.length) /\ StAt w' w.heap.size 0 true s /\ w'.there kb (p * 33) 33) (by kernel_rfl) ⟨hc3, hSt, hth⟩ (fun hHeld => ?_)
   refine tkGo [0, 1, 2, 3, 4] ?_
   repeat (refine tkO (v := ?_) rfl ?_ ?_; rotate_left; (intro wy hSw; (try dsimp only at hSw); go_simp; (first | done | with_reducible rfl)); try simp only [Act.put, p1q, p2q, p3q, p4q, p5q, p6q])
   refine tkEnd ?_
   refine wpAnyH_take (i := 5) rfl (by kernel_rfl) (by kernel_rfl) (by kernel_rfl) (fun _ _ _ h => h) (yieldsIf_load_mid (by rfl) _ _ rfl _ _ rfl (stC true s) _ (fun w h => h.2.1) Tryz.underlying138 rfl (sizeJ HMs.out.1)) (by assumption) ?_
   try simp only [Act.put, p1q, p2q, p3q, p4q, p5q, p6q]
   refine tkGo [6] ?_
   repeat (refine tkO (v := ?_) rfl ?_ ?_; rotate_left; (intro wy hSw; (try dsimp only at hSw); go_simp; (first | done | with_reducible rfl)); try simp only [Act.put, p1q, p2q, p3q, p4q, p5q, p6q])
   refine tkEnd ?_
   refine runO 7 (by kernel_rfl) rfl (by rfl) (fun KK hK => ?_)
   refine wp_store_mid _ _ _ rfl _ _ (List.toArray _) rfl rfl (by rw [stC_size true HMs.out.1]; exact hth) (sizeJA HMs.out.1) (stC_all true s) ?_
   refine hK.out _ _ (keepA (w := W.drew) ⟨hc3, hSt, hth⟩ hne hne2 _ _) (fun hHeld => ?_)
   clear hK KK
   try simp only [Act.put, p1q, p2q, p3q, p4q, p5q, p6q]
   refine wpAnyH_done (by kernel_rfl) ?_ _
   go_wp2
   refine bodyPost_end (results_none rfl _ _ _) rfl ⟨rfl, grownJ_trans HgW.out (grown_undrew (grown_sets kb _ W.drew _)), ?_⟩
   unfold arrK
   rw [if_neg (by decide), HK.out, if_pos rfl]
   exact HkW.out.drew.put Hhp.out HqK.out true HMs.out.1
  | true =>
   go_enter Tryz.func55, Tryz.ntmps55
   have HL : Hid ((w.alloc (stO true s)).rangeAt w.heap.size 1 (flatT s)) := by
    have := (stAt_new w true s).types
    show World.rangeAt _ _ _ _
    simpa using this
   have HZ : Hid ((Tryz.prog.info? 136).map (·.size) = some (flatT s).length) := sizeA8 hs.1
   go_wp2_with ((with_reducible refine wpList_load_mid ?qa 136 (.tmp 8) ?qb w.heap.size 1 ?qc (flatT s) _ HL.out Tryz.underlying136 ?qd HZ.out ?qe); (case qa => rfl); (case qb => rfl); (case qc => rfl); (case qd => rfl))
   obtain ⟨W, HW, HqW, HkW, HgW, hWz⟩ : ∃ W, Hid (W = w.alloc (Obj.cells (stC true s).toArray 138)) /\ Hid (Hp W qb 129 (qC nm vc vl kb K.length)) /\ Hid (Hp W kb 138 (flatK K)) /\ Hid (w.grownBy W (some kb)) /\ w.heap.size < W.heap.size :=
    ⟨_, rfl, hq.alloc _, hk.alloc _, World.grownBy_alloc _ _ _, by simp⟩
   rw [<- HW.out]
   have Hhp := keepJ h8
   have HqK := keepJ hp
   have HMs := keepJ hs
   have HMK := keepJ hK
   rw [HK.out] at HMK
   clear hz c3 k0 hq hk hK h8 hs HL HZ HW
   go_loopw [10] (fun i wr => ∃ k : Nat, k <= 8 /\ i = .int .i64 k /\ Hid (Hp wr kb 138 (flatK (K.set p (true, joinU s0 s k)))) /\ Hid (W.grownBy wr (some kb))) (fun i _ => 8 - (intOf i).toNat)
   case atStart => exact ⟨0, by omega, rfl, by rw [joinU_zero s HMK.out.1, show K.set p (true, s0) = K from by rw [<- HK.out]; exact kn_self p]; exact HkW.out, grownJ_refl _ _⟩
   case round =>
    obtain ⟨k, hk8, rfl, HKr, HGr⟩ := hrel
    by_cases hlt : k < 8
    ·obtain ⟨tk, tl, th, tm, HT⟩ : ∃ k' lo hi m, Hid (s.getD k Ty.nil = ⟨k', lo, hi, m⟩) := ⟨_, _, _, _, rfl⟩
     obtain ⟨sk, sl, sh, sm, HS⟩ : ∃ k' lo hi m, Hid (s0.getD k Ty.nil = ⟨k', lo, hi, m⟩) := ⟨_, _, _, _, rfl⟩
     obtain ⟨jk, jl, jh, jm, HJ⟩ : ∃ k' lo hi m, Hid (join2 ⟨sk, sl, sh, sm⟩ ⟨tk, tl, th, tm⟩ = ⟨k', lo, hi, m⟩) := ⟨_, _, _, _, rfl⟩
     have hidx := run_index9 HMs.out.1 hlt HT.out
     have hkI : (k : Int) < 8 := by omega
     go_wp2
     have h8K : Eight (K.set p (true, joinU s0 s k)) := Hhp.out.set p (joinU_len _ _ _)
     have hpK : p < (K.set p (true, joinU s0 s k)).length := by rw [List.length_set]; exact HqK.out
     have hgK : (K.set p (true, joinU s0 s k)).getD p kn0 = (true, joinU s0 s k) := kn_set HqK.out
     obtain ⟨Y, HY, HqY, HkY, HGY, hYz, b0, b1, b2, b3, hYk⟩ : ∃ Y, Hid (Y = wr.alloc (Obj.cells #[.int .i64 tk, .int .u64 tl, .int .u64 th, .int .i64 tm] 135)) /\ Hid (Hp Y qb 129 (qC nm vc vl kb K.length)) /\ Hid (Hp Y kb 138 (flatK (K.set p (true, joinU s0 s k)))) /\ Hid (W.grownBy Y (some kb)) /\ wr.heap.size < Y.heap.size /\
      Y.cell? ⟨wr.heap.size, 0, none⟩ = some (.int .i64 tk) /\ Y.cell? ⟨wr.heap.size, 1, none⟩ = some (.int .u64 tl) /\ Y.cell? ⟨wr.heap.size, 2, none⟩ = some (.int .u64 th) /\ Y.cell? ⟨wr.heap.size, 3, none⟩ = some (.int .i64 tm) /\ wr.heap.size ≠ kb :=
      ⟨_, rfl, (HqW.out.grown HGr.out (fun e => hne (by injection e))).alloc _, HKr.out.alloc _, grownJ_trans HGr.out (World.grownBy_alloc _ _ _), by simp, by go_cell, by go_cell, by go_cell, by go_cell, by have := HKr.out.lt; omega⟩
     rw [<- HY.out]
     have c3 : Y.cell? ⟨qb, 3, none⟩ = some (.slice (some ⟨kb, 0, none⟩) K.length K.length) := HqY.out.cell rfl
     have hAT := (HkY.out.state h8K hpK hgK).typ (joinU_len _ _ _) hlt
     rw [joinU_at _ _ hlt, if_neg (by omega), HS.out] at hAT
     obtain ⟨e0, e1, e2, e3⟩ := hAT
     simp only at e0 e1 e2 e3
     have hqY := HqY.out.lt
     have hkY := HkY.out.lt
     have HM1 : Hid (wfS (sl, sh)) := by have := HMK.out.ends hlt; rw [HS.out] at this; exact this
     have HM2 : Hid (wfS (tl, th)) := by have := HMs.out.ends hlt; rw [HT.out] at this; exact this
     refine wp_region_held_drew (S := fun w' => w'.cell? ⟨qb, 3, none⟩ = some (.slice (some ⟨kb, 0, none⟩) K.length K.length) /\ w'.cell? ⟨wr.heap.size, 0, none⟩ = some (.int .i64 tk) /\ w'.cell? ⟨wr.heap.size, 1, none⟩ = some (.int .u64 tl) /\ w'.cell? ⟨wr.heap.size, 2, none⟩ = some (.int .u64 th) /\ w'.cell? ⟨wr.heap.size, 3, none⟩ = some (.int .i64 tm)) (by kernel_rfl) ⟨c3, b0, b1, b2, b3⟩ (fun hHeld => ?_)
     refine tkGo [0, 1, 2, 3, 4, 5, 6, 7, 8, 9, 10, 11, 12, 13, 14, 16, 18, 19] ?_
     repeat (refine tkO (v := ?_) rfl ?_ ?_; rotate_left; (intro wy hSw; (try dsimp only at hSw); go_simp; (first | done | with_reducible rfl)); try simp only [Act.put, p1q, p2q, p3q, p4q, p5q, p6q])
     refine tkEnd ?_
     refine runO 15 (by kernel_rfl) rfl (by rfl) (fun KK hK => ?_)
     go_simp
     refine hK.out _ _ ⟨c3, b0, b1, b2, b3⟩ (fun hHeld => ?_)
     clear hK KK
     try simp only [Act.put, p1q, p2q, p3q, p4q, p5q, p6q]
     refine runO 17 (by kernel_rfl) rfl (by rfl) (fun KK hK => ?_)
     go_simp
     go_at_call 86
     refine (ljoined_as HM1 HM2 HJ _).mono ?_
     rintro e w3 ⟨rfl, hb3'⟩
     have hb3 : Below Y.heap.size Y w3 := below_undrew hb3'
     have hS3 := keep5 ⟨c3, b0, b1, b2, b3⟩ hb3 hqY hYz
     have HqW3 : Hid (Hp w3 qb 129 (qC nm vc vl kb K.length)) := HqY.out.below hb3 hqY
     have HkW3 : Hid (Hp w3 kb 138 (flatK (K.set p (true, joinU s0 s k)))) := HkY.out.below hb3 hkY
     refine hK.out _ _ hS3 (fun hHeld => ?_)
     clear hK KK
     try simp only [Act.put, p1q, p2q, p3q, p4q, p5q, p6q]
     refine tkGo [20] ?_
     repeat (refine tkO (v := ?_) rfl ?_ ?_; rotate_left; (intro wy hSw; (try dsimp only at hSw); go_simp; (first | done | with_reducible rfl)); try simp only [Act.put, p1q, p2q, p3q, p4q, p5q, p6q])
     refine tkEnd ?_
     have hAT3 := (HkW3.out.state h8K hpK hgK).typ (joinU_len _ _ _) hlt
     rw [joinU_at _ _ hlt, if_neg (by omega), HS.out] at hAT3
     obtain ⟨m0, m1, m2, m3⟩ := hAT3
     simp only at m0 m1 m2 m3
     have f0 := HkW3.out.frozen (p * 33 + 1 + k * 4)
     have f1 := HkW3.out.frozen (p * 33 + 1 + k * 4 + 1)
     have f2 := HkW3.out.frozen (p * 33 + 1 + k * 4 + 2)
     have f3 := HkW3.out.frozen (p * 33 + 1 + k * 4 + 3)
     have HP := keepJ (HkW3.out.putT h8K hpK hgK hlt ⟨jk, jl, jh, jm⟩)
     have HS5 := keepJ (keep5s (kb := kb) (o := p * 33 + 1 + k * 4) (t := ⟨jk, jl, jh, jm⟩) hS3 hne hYk)
     refine runO 21 (by kernel_rfl) rfl (by rfl) (fun KK hK => ?_)
     go_simp
     refine hK.out _ _ HS5.out (fun hHeld => ?_)
     clear hK KK
     try simp only [Act.put, p1q, p2q, p3q, p4q, p5q, p6q]
     refine wpAnyH_done (by kernel_rfl) ?_ _
     go_wp2
     go_roundw
     case rel => exact ⟨k + 1, by omega, by go_num, by rw [joinU_step _ _ hlt, HS.out, HT.out, HJ.out]; have := HP.out; rw [List.set_set] at this; exact this, grownJ_trans (grownJ_trans HGY.out (grown_of_below hb3 _)) (grown_sets kb (tyC ⟨jk, jl, jh, jm⟩) w3 _)⟩
     case measure => simp [intOf]; omega
    ·obtain rfl : k = 8 := by omega
     go_wp2
     refine bodyPost_end (results_none rfl _ _ _) rfl ⟨rfl, grownJ_trans HgW.out HGr.out, ?_⟩
     unfold arrK
     rw [if_neg (by decide), HK.out, if_neg (fun h => by cases h)]
     exact HKr.out
end Go.Proofs.YtiheafdphgllkaaGreatDoor
