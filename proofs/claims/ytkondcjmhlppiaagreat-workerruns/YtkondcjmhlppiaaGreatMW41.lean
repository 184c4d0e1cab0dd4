/-
  E11LTurn
  E11LAsk
  E11LCall
  E11LMark
  E11LMap
  E11LAns
  E11LAll
  E11LStep
-/
import Derived.Test.YtkondcjmhlppiaaGreatMW0
import Derived.Test.YtkondcjmhlppiaaGreatMW30
import Derived.Test.YtkondcjmhlppiaaGreatMW31
import Derived.Test.YtkondcjmhlppiaaGreatMW14
import Derived.Test.YtkondcjmhlppiaaGreatMW27
import Derived.Test.YtkondcjmhlppiaaGreatMW11
namespace Go.Proofs.YtkondcjmhlppiaaGreat
open Go.RowKit
set_option linter.unusedVariables false
set_option linter.unusedSimpArgs false
set_option maxRecDepth 100000
section
variable {b sb : Nat} {vm vc : Value} {ev : Int × Int} {M : Mc}
set_option maxHeartbeats 6400000 in
theorem mturn_any (d a bb imm : Int) (w : World) (h : Ma w b sb vm vc ev M) (hd : 0 <= d /\ d <= 63) (ha : 0 <= a /\ a <= 7) (hi : 1 <= imm /\ imm <= 255) (ht : 0 <= M.turn M.pc /\ M.turn M.pc <= 255) {p : Int} (HP : Hid ((if goesE ⟨20, d, a, bb, imm⟩ M = true then (M.pc : Int) - d else (M.pc : Int) + 1) = p)) :
  Calls Tryz.prog 72 #[.pointer (some ⟨b, 0, none⟩), instV 20 d a bb imm] w fun e w' => e = .returned (.int .i64 p) /\ w.grownBy w' (some b) /\ Ma w' b sb vm vc ev { M with turn := turnE ⟨20, d, a, bb, imm⟩ M } := by
 obtain ⟨Z, HZ, hBZ, hzZ, HR, x0, x1, x2, x3, x4⟩ := boxL h 20 d a bb imm
 obtain ⟨k, rfl⟩ := Int.eq_ofNat_of_zero_le ha.1
 have hk : k < 8 := by omega
 have hkI : (k : Int) < 8 := by omega
 have hpI : (M.pc : Int) < 64 := by have := h.pc; omega
 have hp64 : (M.pc : Int) <= 100 := by omega
 obtain ⟨hd0, hd1⟩ := hd
 have hlt := h.hp.lt
 have hltZ := HR.out.hp.lt
 have hwb : w.heap.size ≠ b := by omega
 have c2 := HR.out.last.1
 have c3 := HR.out.reg hk
 have c4 := HR.out.turn
 obtain ⟨x, HX⟩ : ∃ x, Hid (M.regs.getD k 0 = x) := ⟨_, rfl⟩
 obtain ⟨t, HT⟩ : ∃ t, Hid (M.turn M.pc = t) := ⟨_, rfl⟩
 rw [HX.out] at c3
 rw [HT.out] at c4 ht
 obtain ⟨ht0, ht1⟩ := ht
 have hx : 0 <= x /\ x <= 18446744073709551615 := by rw [<- HX.out]; exact h.wr.2 k hk
 have f0 := HR.out.hp.frozen (13 + M.pc)
 have HG : Hid (goesE ⟨20, d, k, bb, imm⟩ M = (decide (0 < x) && decide (t < imm))) := by
  show _ = _
  unfold goesE
  rw [if_neg (by simp), if_pos rfl]
  show decide (0 < M.regs.getD k 0 /\ M.turn M.pc < imm) = _
  simp only [HX.out, HT.out, Bool.decide_and]
 have HU : Hid (turnE ⟨20, d, k, bb, imm⟩ M = fun u : Int => if u = M.pc then (if goesE ⟨20, d, k, bb, imm⟩ M = true then t + 1 else 0) else M.turn u) := by
  show _ = _
  unfold turnE
  rw [if_pos rfl, HT.out]
 have HS : Hid (∀ v : Int, Ma (Z.setCell ⟨b, 13 + M.pc, none⟩ (.int .i64 v)) b sb vm vc ev { M with turn := fun u : Int => if u = M.pc then v else M.turn u }) := fun v => HR.out.setT v
 have HGr : Hid (∀ v : Int, w.grownBy (Z.setCell ⟨b, 13 + M.pc, none⟩ (.int .i64 v)) (some b)) := fun v => grownJ_trans (grown_of_below hBZ _) (grown_set Z b (13 + M.pc) _)
 have HWR : Hid (IntKind.i64.wrap (t + 1) = t + 1) := by show _ = _; rw [IntKind.wrap_i64]; omega
 have HKS : Hid (∀ v : Int, (Z.setCell ⟨b, 13 + M.pc, none⟩ (.int .i64 v)).cell? ⟨b, 77, none⟩ = some (.int .i64 M.pc)) := fun v => (HS.out v).last.1
 have HKD : Hid (∀ v : Int, (Z.setCell ⟨b, 13 + M.pc, none⟩ (.int .i64 v)).cell? ⟨w.heap.size, 1, none⟩ = some (.int .i64 d)) := fun v => (grown_farL (grown_set Z b (13 + M.pc) (.int .i64 v)) (by omega) hwb).trans x1
 by_cases hx0 : 0 < x
 ·have hxne : ¬ x = 0 := by omega
  have hx1 : (x == 0) = false := by simpa using hxne
  have hx2 : (x != 0) = true := by simpa using hxne
  by_cases hti : t < imm
  ·have HG1 : Hid (goesE ⟨20, d, k, bb, imm⟩ M = true) := by show _ = _; rw [HG.out, decide_eq_true hx0, decide_eq_true hti]; rfl
   rw [HG1.out, if_pos rfl] at HP
   rw [HU.out, HG1.out, <- HP.out]
   go_enter Tryz.func72, Tryz.ntmps72
   go_wp2
   rw [<- HZ.out]
   go_region
   go_wp2
   refine wp_region_held_drew (S := fun w' => w'.cell? ⟨b, 77, none⟩ = some (.int .i64 M.pc)) (by kernel_rfl) c2 (fun hHeld => ?_)
   refine tkGo [0, 1, 2, 3, 4, 5, 6, 7, 10, 11] ?_
   repeat (refine tkO (v := ?_) rfl ?_ ?_; rotate_left; (intro wy hSw; (try dsimp only at hSw); go_simp; (first | done | with_reducible rfl)); try simp only [Act.put, p1q, p2q, p3q, p4q, p5q, p6q])
   refine tkEnd ?_
   refine runO 8 (by kernel_rfl) rfl (by rfl) (fun KK hK => ?_)
   go_simp
   refine hK.out _ _ c2 (fun hHeld => ?_)
   clear hK KK
   try simp only [Act.put, p1q, p2q, p3q, p4q, p5q, p6q]
   refine tkGo [9, 12] ?_
   repeat (refine tkO (v := ?_) rfl ?_ ?_; rotate_left; (intro wy hSw; (try dsimp only at hSw); go_simp; (first | done | with_reducible rfl)); try simp only [Act.put, p1q, p2q, p3q, p4q, p5q, p6q])
   refine tkEnd ?_
   refine runO 13 (by kernel_rfl) rfl (by rfl) (fun KK hK => ?_)
   go_simp
   rw [HWR.out]
   refine hK.out _ _ (HKS.out (t + 1)) (fun hHeld => ?_)
   clear hK KK
   try simp only [Act.put, p1q, p2q, p3q, p4q, p5q, p6q]
   refine wpAnyH_done (by kernel_rfl) ?_ _
   have y7 := HKS.out (t + 1)
   have y1 := HKD.out (t + 1)
   have HS1 := keepJ (HS.out (t + 1))
   have HG2 := keepJ (HGr.out (t + 1))
   obtain ⟨Y, HY⟩ : ∃ Y, Hid (Z.setCell ⟨b, 13 + M.pc, none⟩ (.int .i64 (t + 1)) = Y) := ⟨_, rfl⟩
   rw [HY.out] at y7 y1 HS1 HG2
   try rw [HY.out]
   clear HS HGr HKS HKD
   go_wp2
   go_region
   go_wp2
   go_ret
   exact ⟨rfl, grown_drew (grown_drew (grown_drew HG2.out)), HS1.out.drew.drew.drew⟩
  ·have htI : ¬ t < imm := hti
   have HG1 : Hid (goesE ⟨20, d, k, bb, imm⟩ M = false) := by show _ = _; rw [HG.out, decide_eq_false hti, Bool.and_false]
   rw [HG1.out, if_neg (by simp)] at HP
   rw [HU.out, HG1.out, <- HP.out]
   have hS5 := HKS.out 0
   go_enter Tryz.func72, Tryz.ntmps72
   go_wp2
   rw [<- HZ.out]
   go_region
   go_wp2
   go_region_held3 (fun w' => w'.cell? ⟨b, 77, none⟩ = some (.int .i64 M.pc))
    (first | with_reducible exact c2 | exact hS5 | exact c2)
    (fail)
   have y7 := HKS.out 0
   have HS1 := keepJ (HS.out 0)
   have HG2 := keepJ (HGr.out 0)
   obtain ⟨Y, HY⟩ : ∃ Y, Hid (Z.setCell ⟨b, 13 + M.pc, none⟩ (.int .i64 0) = Y) := ⟨_, rfl⟩
   rw [HY.out] at y7 HS1 HG2
   try rw [HY.out]
   clear HS HGr HKS HKD hS5
   go_wp2
   go_ret
   exact ⟨rfl, grown_drew (grown_drew HG2.out), HS1.out.drew.drew⟩
 ·obtain rfl : x = 0 := by omega
  have HG1 : Hid (goesE ⟨20, d, k, bb, imm⟩ M = false) := by show _ = _; rw [HG.out, decide_eq_false hx0, Bool.false_and]
  rw [HG1.out, if_neg (by simp)] at HP
  rw [HU.out, HG1.out, <- HP.out]
  have hS5 := HKS.out 0
  go_enter Tryz.func72, Tryz.ntmps72
  go_wp2
  rw [<- HZ.out]
  go_region
  go_wp2
  go_region_held3 (fun w' => w'.cell? ⟨b, 77, none⟩ = some (.int .i64 M.pc))
   (first | with_reducible exact c2 | exact hS5 | exact c2)
   (fail)
  have y7 := HKS.out 0
  have HS1 := keepJ (HS.out 0)
  have HG2 := keepJ (HGr.out 0)
  obtain ⟨Y, HY⟩ : ∃ Y, Hid (Z.setCell ⟨b, 13 + M.pc, none⟩ (.int .i64 0) = Y) := ⟨_, rfl⟩
  rw [HY.out] at y7 HS1 HG2
  try rw [HY.out]
  clear HS HGr HKS HKD hS5
  go_wp2
  go_ret
  exact ⟨rfl, grown_drew (grown_drew HG2.out), HS1.out.drew.drew⟩
set_option maxHeartbeats 3200000 in
theorem mnext_jump (d a bb imm : Int) (w : World) (h : Ma w b sb vm vc ev M) (hd : 0 <= d /\ d <= 63) :
  Calls Tryz.prog 42 #[.pointer (some ⟨b, 0, none⟩), instV 15 d a bb imm] w fun e w' => e = .returned (.int .i64 ((M.pc : Int) + 1 + d)) /\ Below w.heap.size w w' := by
 obtain ⟨Z, HZ, hBZ, hzZ, HR, x0, x1, x2, x3, x4⟩ := boxL h 15 d a bb imm
 have hpI : (M.pc : Int) < 64 := by have := h.pc; omega
 have hp64 : (M.pc : Int) <= 100 := by omega
 obtain ⟨hd0, hd1⟩ := hd
 have c2 := HR.out.last.1
 have hlt := h.hp.lt
 go_enter Tryz.func42, Tryz.ntmps42
 go_wp2
 rw [<- HZ.out]
 go_region
 go_wp2
 go_ret
 exact ⟨rfl, below_drE hBZ⟩
set_option maxHeartbeats 3200000 in
theorem mnext_loop (d a bb imm : Int) (w : World) (h : Ma w b sb vm vc ev M) (hd : 0 <= d /\ d <= 63) (ha : 0 <= a /\ a <= 7) (hi : 1 <= imm /\ imm <= 255) (ht : 0 <= M.turn M.pc /\ M.turn M.pc <= 255) {p : Int} (HP : Hid ((if goesE ⟨20, d, a, bb, imm⟩ M = true then (M.pc : Int) - d else (M.pc : Int) + 1) = p)) :
  Calls Tryz.prog 42 #[.pointer (some ⟨b, 0, none⟩), instV 20 d a bb imm] w fun e w' => e = .returned (.int .i64 p) /\ w.grownBy w' (some b) /\ Ma w' b sb vm vc ev { M with turn := turnE ⟨20, d, a, bb, imm⟩ M } := by
 obtain ⟨Z, HZ, hBZ, hzZ, HR, x0, x1, x2, x3, x4⟩ := boxL h 20 d a bb imm
 have hlt := h.hp.lt
 go_enter Tryz.func42, Tryz.ntmps42
 go_wp2_with (go_at_call 72; rw [<- HZ.out]; go_must (refine (mturn_any d a bb imm Z HR.out hd ha hi ht HP).mono ?_); rintro e w4 ⟨rfl, hg4, hm4⟩)
 go_ret
 exact ⟨rfl, grownJ_trans (grown_of_below hBZ _) hg4, hm4⟩
set_option maxHeartbeats 3200000 in
theorem mnext_cond (op d a bb imm : Int) (w : World) (h : Ma w b sb vm vc ev M) (h15 : (op == 15) = false) (h20 : (op == 20) = false) (ha : 0 <= a /\ a <= 7) (hb : bb = 8 ∨ (0 <= bb /\ bb <= 7)) {r : Bool} (hr : Hid (holdL op (regV M.regs a) (srcV ⟨op, d, a, bb, imm⟩ M.regs) = r)) (hd : r = true -> 0 <= d /\ d <= 63) {p : Int} (HP : Hid ((if r = true then (M.pc : Int) + 1 + d else (M.pc : Int) + 1) = p)) :
  Calls Tryz.prog 42 #[.pointer (some ⟨b, 0, none⟩), instV op d a bb imm] w fun e w' => e = .returned (.int .i64 p) /\ Below w.heap.size w w' := by
 obtain ⟨Z, HZ, hBZ, hzZ, HR, x0, x1, x2, x3, x4⟩ := boxL h op d a bb imm
 obtain ⟨k, rfl⟩ := Int.eq_ofNat_of_zero_le ha.1
 have hk : k < 8 := by omega
 have hkI : (k : Int) < 8 := by omega
 have hpI : (M.pc : Int) < 64 := by have := h.pc; omega
 have hp64 : (M.pc : Int) <= 100 := by omega
 obtain ⟨x, HX⟩ : ∃ x, Hid (M.regs.getD k 0 = x) := ⟨_, rfl⟩
 obtain ⟨y, HY⟩ : ∃ y, Hid (srcV ⟨op, d, k, bb, imm⟩ M.regs = y) := ⟨_, rfl⟩
 have hx : 0 <= x /\ x <= 18446744073709551615 := by rw [<- HX.out]; exact h.wr.2 k hk
 have hy : 0 <= y /\ y <= 18446744073709551615 := by rw [<- HY.out]; exact srcV_in h.wr hb
 have HH : Hid (r = holdL op x y) := by
  show _ = _
  rw [<- hr.out, <- HX.out, <- HY.out]
  rfl
 obtain ⟨c, HC⟩ : ∃ c, Hid (c = isCond op) := ⟨_, rfl⟩
 have hlt := h.hp.lt
 have hltZ := HR.out.hp.lt
 have HKP : Hid (∀ wx : World, Below Z.heap.size Z wx -> wx.cell? ⟨b, 5 + k, none⟩ = some (.int .u64 x) /\ wx.cell? ⟨b, 77, none⟩ = some (.int .i64 M.pc) /\ wx.cell? ⟨w.heap.size, 0, none⟩ = some (.int .i64 op) /\ wx.cell? ⟨w.heap.size, 1, none⟩ = some (.int .i64 d) /\ wx.cell? ⟨w.heap.size, 2, none⟩ = some (.int .i64 k) /\ wx.cell? ⟨w.heap.size, 3, none⟩ = some (.int .i64 bb) /\ wx.cell? ⟨w.heap.size, 4, none⟩ = some (.int .i64 imm)) := fun wx hb => by
  have hc := (HR.out.below hb hltZ).reg hk
  rw [HX.out] at hc
  exact ⟨hc, (HR.out.below hb hltZ).last.1, (hb.cell (p := ⟨w.heap.size, 0, none⟩) (show w.heap.size < Z.heap.size by omega)).trans x0, (hb.cell (p := ⟨w.heap.size, 1, none⟩) (show w.heap.size < Z.heap.size by omega)).trans x1, (hb.cell (p := ⟨w.heap.size, 2, none⟩) (show w.heap.size < Z.heap.size by omega)).trans x2, (hb.cell (p := ⟨w.heap.size, 3, none⟩) (show w.heap.size < Z.heap.size by omega)).trans x3, (hb.cell (p := ⟨w.heap.size, 4, none⟩) (show w.heap.size < Z.heap.size by omega)).trans x4⟩
 clear hr
 cases r with
 | true =>
  obtain ⟨hd0, hd1⟩ := hd rfl
  rw [if_pos rfl] at HP
  rw [<- HP.out]
  go_enter Tryz.func42, Tryz.ntmps42
  go_wp2
  rw [<- HZ.out]
  clear x0 x1 x2 x3 x4
  go_region_held3 (fun w' => w'.cell? ⟨b, 5 + k, none⟩ = some (.int .u64 x) /\ w'.cell? ⟨b, 77, none⟩ = some (.int .i64 M.pc) /\ w'.cell? ⟨w.heap.size, 0, none⟩ = some (.int .i64 op) /\ w'.cell? ⟨w.heap.size, 1, none⟩ = some (.int .i64 d) /\ w'.cell? ⟨w.heap.size, 2, none⟩ = some (.int .i64 k) /\ w'.cell? ⟨w.heap.size, 3, none⟩ = some (.int .i64 bb) /\ w'.cell? ⟨w.heap.size, 4, none⟩ = some (.int .i64 imm))
   (first | with_reducible exact hS4 | exact HKP.out Z (Below.refl _ _))
   (first
    | (go_at_call 67; go_must (refine (msource_any ⟨op, d, k, bb, imm⟩ Z.drew HR.out.drew hb HY).mono ?_); rintro e w4 ⟨rfl, hb4'⟩; go_must (have hb4 : Below Z.heap.size Z w4 := below_undrew hb4'; have hS4 := HKP.out w4 hb4; have hB4 : Below w.heap.size w w4 := hBZ.trans (hb4.mono hBZ.size); clear hb4'))
    | (go_at_call 73; go_must (refine (holds_as HH HC _ hx hy).mono ?_); rintro e w5 ⟨rfl, rfl⟩))
  obtain ⟨s0, s1, s2, s3, s4, s5, s6⟩ := hS4
  go_wp2
  go_region
  go_wp2
  go_ret
  exact ⟨rfl, below_drE hB4⟩
 | false =>
  rw [if_neg (by simp)] at HP
  rw [<- HP.out]
  clear hd
  go_enter Tryz.func42, Tryz.ntmps42
  go_wp2
  rw [<- HZ.out]
  clear x0 x1 x2 x3 x4
  go_region_held3 (fun w' => w'.cell? ⟨b, 5 + k, none⟩ = some (.int .u64 x) /\ w'.cell? ⟨b, 77, none⟩ = some (.int .i64 M.pc) /\ w'.cell? ⟨w.heap.size, 0, none⟩ = some (.int .i64 op) /\ w'.cell? ⟨w.heap.size, 1, none⟩ = some (.int .i64 d) /\ w'.cell? ⟨w.heap.size, 2, none⟩ = some (.int .i64 k) /\ w'.cell? ⟨w.heap.size, 3, none⟩ = some (.int .i64 bb) /\ w'.cell? ⟨w.heap.size, 4, none⟩ = some (.int .i64 imm))
   (first | with_reducible exact hS4 | exact HKP.out Z (Below.refl _ _))
   (first
    | (go_at_call 67; go_must (refine (msource_any ⟨op, d, k, bb, imm⟩ Z.drew HR.out.drew hb HY).mono ?_); rintro e w4 ⟨rfl, hb4'⟩; go_must (have hb4 : Below Z.heap.size Z w4 := below_undrew hb4'; have hS4 := HKP.out w4 hb4; have hB4 : Below w.heap.size w w4 := hBZ.trans (hb4.mono hBZ.size); clear hb4'))
    | (go_at_call 73; go_must (refine (holds_as HH HC _ hx hy).mono ?_); rintro e w5 ⟨rfl, rfl⟩))
  obtain ⟨s0, s1, s2, s3, s4, s5, s6⟩ := hS4
  go_wp2
  go_ret
  exact ⟨rfl, hB4⟩
end
abbrev itemC (im io ik iv : Int) : List Value := [.int .i64 im, .int .i64 io, .int .u64 ik, .int .u64 iv]
abbrev itemV (im io ik iv : Int) : Value := .agg #[.int .i64 im, .int .i64 io, .int .u64 ik, .int .u64 iv]
theorem run_boxM {w : World} {n : Nat} {im io ik iv : Int} (h : Hp w n 69 (itemC im io ik iv)) : (loadVar 69 ⟨n, 0, none⟩).run Tryz.prog w = .ok (itemV im io ik iv) w := by
 refine run_loadVar_mid w n 0 69 (itemC im io ik iv) _ ?_ Tryz.underlying69 rfl (by kernel_rfl)
 intro j x hx
 rw [Nat.zero_add]
 exact h.cell hx
theorem item_ret {fn : Func} {p : Tmp} {w2 : World} {n : Nat} {tmps : Array Value} {im io ik iv : Int} {Q : Ending -> World -> Prop} (hr : fn.results = #[.cell p 69]) (hp : tmps.getD p undef = .pointer (some ⟨n, 0, none⟩)) (hx : Hp w2 n 69 (itemC im io ik iv)) (hQ : Q (.returned (itemV im io ik iv)) w2) : bodyPost Tryz.prog fn Q .ret ⟨tmps, []⟩ w2 := by
 refine bodyPost_ret (v := itemV im io ik iv) ?_ rfl hQ
 rw [results_cell hr, hp]
 simp only [asAddr, Sem.run_pure, Result.andThen]
 rw [run_boxM hx]
theorem lasks5 (h : Int) (hh : 0 <= h /\ h <= 4) (w : World) : Calls Tryz.prog 93 #[.int .i64 h] w fun e w' => e = .returned (.tuple #[.int .i64 h, .bool true]) /\ w = w' := by
 obtain rfl | rfl | rfl | rfl | rfl : h = 0 ∨ h = 1 ∨ h = 2 ∨ h = 3 ∨ h = 4 := by omega
 all_goals go_enter Tryz.func93, Tryz.ntmps93
 all_goals go_wp2
 all_goals go_ret2
 all_goals exact ⟨rfl, rfl⟩
section
variable {b sb : Nat} {vc : Value} {ev : Int × Int} {M : Mc}
set_option maxHeartbeats 6400000 in
theorem masks_any (hh : Int) (hi : 0 <= hh /\ hh <= 4) {mb mo mcap nm j : Nat} (w : World) (h : Ma w b sb (.slice (some ⟨mb, mo, none⟩) nm mcap) vc ev M) (hj : j < nm) (hmb : mb < w.heap.size) (hmc : nm <= mcap) {g : Int} (hcell : w.cell? ⟨mb, mo + j, none⟩ = some (.int .i64 g)) {y z q : Int} (H1 : Hid (regV M.regs 1 = (j : Int))) (H2 : Hid (regV M.regs 2 = y)) (H3 : Hid (regV M.regs 3 = z)) (HQ : Hid ((if hh = 2 ∨ hh = 4 then z else 0) = q)) :
  Calls Tryz.prog 66 #[.pointer (some ⟨b, 0, none⟩), .int .i64 hh] w fun e w' => e = .returned (itemV g hh y q) /\ Below w.heap.size w w' := by
 have hlt := h.hp.lt
 have hjI : (j : Int) < nm := by omega
 obtain ⟨V, HV, hBV, hzV, HoV, HmV⟩ : ∃ V, Hid (V = w.alloc (.cells #[.int .i64 0, .int .i64 0, .int .u64 0, .int .u64 0] 69)) /\ Below w.heap.size w V /\ V.heap.size = w.heap.size + 1 /\ Hid (Hp V w.heap.size 69 (itemC 0 0 0 0)) /\ Hid (Ma V b sb (.slice (some ⟨mb, mo, none⟩) nm mcap) vc ev M) :=
  ⟨_, rfl, by go_grown, by simp, Hp.new w _ _, h.below ((Below.refl _ _).alloc (Nat.le_refl _) _) hlt⟩
 have HP : Hid (∀ wx : World, Below w.heap.size w wx -> wx.cell? ⟨b, 2, none⟩ = some (.slice (some ⟨mb, mo, none⟩) nm mcap) /\ wx.cell? ⟨b, 6, none⟩ = some (.int .u64 j) /\ wx.cell? ⟨b, 7, none⟩ = some (.int .u64 y) /\ wx.cell? ⟨mb, mo + j, none⟩ = some (.int .i64 g)) := fun wx hb => by
  have r1 := (h.below hb hlt).reg (show 1 < 8 by omega)
  have r2 := (h.below hb hlt).reg (show 2 < 8 by omega)
  rw [show M.regs.getD 1 0 = (j : Int) from H1.out] at r1
  rw [show M.regs.getD 2 0 = y from H2.out] at r2
  exact ⟨(h.below hb hlt).low.2.2.1, r1, r2, (hb.cell (p := ⟨mb, mo + j, none⟩) hmb).trans hcell⟩
 have HP3 : Hid (∀ wx : World, Below w.heap.size w wx -> wx.cell? ⟨b, 8, none⟩ = some (.int .u64 z)) := fun wx hb => by
  have r3 := (h.below hb hlt).reg (show 3 < 8 by omega)
  rw [show M.regs.getD 3 0 = z from H3.out] at r3
  exact r3
 go_enter Tryz.func66, Tryz.ntmps66
 go_wp2_with (go_at_call 93; rw [<- HV.out]; go_must (refine (lasks5 hh hi _).mono ?_); rintro e w1 ⟨rfl, rfl⟩)
 refine wp_region_held_drew (S := fun w' => w'.cell? ⟨b, 2, none⟩ = some (.slice (some ⟨mb, mo, none⟩) nm mcap) /\ w'.cell? ⟨b, 6, none⟩ = some (.int .u64 j) /\ w'.cell? ⟨b, 7, none⟩ = some (.int .u64 y) /\ w'.cell? ⟨mb, mo + j, none⟩ = some (.int .i64 g)) (by kernel_rfl) (HP.out _ (below_drE hBV)) (fun hHeld => ?_)
 refine tkGo [0, 1, 2, 3, 4, 5, 6, 7, 8, 9, 10, 11, 12, 13, 14, 15, 16, 17] ?_
 repeat (refine tkO (v := ?_) rfl ?_ ?_; rotate_left; (intro wy hSw; (try dsimp only at hSw); go_simp; (first | done | with_reducible rfl)); try simp only [Act.put, p1q, p2q, p3q, p4q, p5q, p6q])
 refine tkEnd ?_
 refine runO 18 (by kernel_rfl) rfl (by rfl) (fun KK hK => ?_)
 go_simp
 obtain ⟨Y, HY, hBY, HoY, HiY, hzY⟩ : ∃ Y, Hid (Y = V.alloc (.cells #[.int .i64 0, .int .i64 0, .int .u64 0, .int .u64 0] 69)) /\ Below w.heap.size w Y /\ Hid (Hp Y w.heap.size 69 (itemC 0 0 0 0)) /\ Hid (Hp Y (w.heap.size + 1) 69 (itemC 0 0 0 0)) /\ Y.heap.size = w.heap.size + 2 :=
  ⟨_, rfl, hBV.alloc (by omega) _, HoV.out.alloc _, by have := Hp.new V (itemC 0 0 0 0) 69; rw [hzV] at this; exact this, by simp [hzV]⟩
 rw [<- HY.out]
 refine hK.out _ _ (HP.out _ (below_drE hBY)) (fun hHeld => ?_)
 clear hK KK
 try simp only [Act.put, p1q, p2q, p3q, p4q, p5q, p6q]
 have a0 := HiY.out.cell (j := 0) rfl
 have a1 := HiY.out.cell (j := 1) rfl
 have a2 := HiY.out.cell (j := 2) rfl
 have a3 := HiY.out.cell (j := 3) rfl
 have q0 := HiY.out.frozen 0
 have q1 := HiY.out.frozen 1
 have q2 := HiY.out.frozen 2
 have q3 := HiY.out.frozen 3
 refine runO 19 (by kernel_rfl) rfl (by rfl) (fun KK hK => ?_)
 go_simp
 obtain ⟨U, HU, hBU, HoU, HiU, hzU⟩ : ∃ U, Hid (U = (((Y.setCell ⟨w.heap.size + 1, 0, none⟩ (.int .i64 g)).setCell ⟨w.heap.size + 1, 1, none⟩ (.int .i64 hh)).setCell ⟨w.heap.size + 1, 2, none⟩ (.int .u64 y)).setCell ⟨w.heap.size + 1, 3, none⟩ (.int .u64 0)) /\ Below w.heap.size w U /\ Hid (Hp U w.heap.size 69 (itemC 0 0 0 0)) /\ Hid (Hp U (w.heap.size + 1) 69 (itemC g hh y 0)) /\ w.heap.size + 2 <= U.heap.size :=
  ⟨_, rfl, hBY.trans (grown_to_below (grown_sets (w.heap.size + 1) (itemC g hh y 0) Y 0) (by omega) hBY.size), by have := HoY.out.fars (show w.heap.size ≠ w.heap.size + 1 by omega) (itemC g hh y 0) 0; exact this, by have := HiY.out.sets (itemC g hh y 0) 0; rw [splice_all (itemC g hh y 0) (itemC 0 0 0 0) rfl] at this; exact this, by have := (grown_sets (w.heap.size + 1) (itemC g hh y 0) Y 0).size; show w.heap.size + 2 <= (Y.setCells (w.heap.size + 1) 0 (itemC g hh y 0)).heap.size; omega⟩
 rw [<- HU.out]
 refine hK.out _ _ (HP.out _ (below_drE hBU)) (fun hHeld => ?_)
 clear hK KK
 try simp only [Act.put, p1q, p2q, p3q, p4q, p5q, p6q]
 refine wpAnyH_done (by kernel_rfl) ?_ _
 clear a0 a1 a2 a3 q0 q1 q2 q3 hHeld
 have z3 := HP3.out U hBU
 have hn01 : w.heap.size ≠ w.heap.size + 1 := by omega
 by_cases h24 : hh = 2 ∨ hh = 4
 ·rw [if_pos h24] at HQ
  have HI3 : Hid (Hp (U.setCell ⟨w.heap.size + 1, 3, none⟩ (.int .u64 z)) (w.heap.size + 1) 69 (itemC g hh y z)) := HiU.out.set 3 _
  have HO3 : Hid (Hp (U.setCell ⟨w.heap.size + 1, 3, none⟩ (.int .u64 z)) w.heap.size 69 (itemC 0 0 0 0)) := HoU.out.far hn01
  have HB3 : Hid (Below w.heap.size w (U.setCell ⟨w.heap.size + 1, 3, none⟩ (.int .u64 z))) := hBU.trans (grown_to_below (grown_set U (w.heap.size + 1) 3 _) (by omega) hBU.size)
  have a3 := HiU.out.cell (j := 3) rfl
  have q3 := HiU.out.frozen 3
  obtain ⟨T, HT⟩ : ∃ T, Hid (U.setCell ⟨w.heap.size + 1, 3, none⟩ (.int .u64 z) = T) := ⟨_, rfl⟩
  rw [HT.out] at HI3 HO3 HB3
  have i0 := HI3.out.cell (j := 0) rfl
  have i1 := HI3.out.cell (j := 1) rfl
  have i2 := HI3.out.cell (j := 2) rfl
  have i3 := HI3.out.cell (j := 3) rfl
  have o0 := HO3.out.cell (j := 0) rfl
  have p0 := HO3.out.frozen 0
  have o1 := HO3.out.cell (j := 1) rfl
  have p1 := HO3.out.frozen 1
  have o2 := HO3.out.cell (j := 2) rfl
  have p2 := HO3.out.frozen 2
  have o3 := HO3.out.cell (j := 3) rfl
  have p3 := HO3.out.frozen 3
  have HF : Hid (Hp (T.setCells w.heap.size 0 (itemC g hh y z)) w.heap.size 69 (itemC g hh y z)) := by have := HO3.out.sets (itemC g hh y z) 0; rw [splice_all (itemC g hh y z) (itemC 0 0 0 0) rfl] at this; exact this
  have HFB : Hid (Below w.heap.size w (T.setCells w.heap.size 0 (itemC g hh y z))) := HB3.out.trans (grown_to_below (grown_sets w.heap.size (itemC g hh y z) T 0) (Nat.le_refl _) HB3.out.size)
  rcases h24 with rfl | rfl
  all_goals go_wp2_with (rw [HT.out])
  all_goals exact item_ret rfl rfl HF.out.drew ⟨by rw [HQ.out], below_drE HFB.out⟩
 ·have c2 : (hh == 2) = false := by simp; omega
  have c4 : (hh == 4) = false := by simp; omega
  rw [if_neg h24] at HQ
  have HI3 := HiU
  have HO3 := HoU
  have i0 := HI3.out.cell (j := 0) rfl
  have i1 := HI3.out.cell (j := 1) rfl
  have i2 := HI3.out.cell (j := 2) rfl
  have i3 := HI3.out.cell (j := 3) rfl
  have o0 := HO3.out.cell (j := 0) rfl
  have p0 := HO3.out.frozen 0
  have o1 := HO3.out.cell (j := 1) rfl
  have p1 := HO3.out.frozen 1
  have o2 := HO3.out.cell (j := 2) rfl
  have p2 := HO3.out.frozen 2
  have o3 := HO3.out.cell (j := 3) rfl
  have p3 := HO3.out.frozen 3
  have HF : Hid (Hp (U.setCells w.heap.size 0 (itemC g hh y 0)) w.heap.size 69 (itemC g hh y 0)) := by have := HO3.out.sets (itemC g hh y 0) 0; rw [splice_all (itemC g hh y 0) (itemC 0 0 0 0) rfl] at this; exact this
  have HFB : Hid (Below w.heap.size w (U.setCells w.heap.size 0 (itemC g hh y 0))) := hBU.trans (grown_to_below (grown_sets w.heap.size (itemC g hh y 0) U 0) (Nat.le_refl _) hBU.size)
  go_wp2
  exact item_ret rfl rfl HF.out.drew ⟨by rw [HQ.out], below_drE HFB.out⟩
end
section
variable {b sb : Nat} {vm vc : Value} {ev : Int × Int} {M : Mc}
theorem boxO {w : World} (h : Ma w b sb vm vc ev M) : ∃ V, Hid (w.alloc (.cells #[.int .i64 0, .int .i64 0, .int .i64 0, .int .i64 0, .int .u64 0, .int .u64 0, .int .u64 0] 71) = V) /\ Hid (Ma V b sb vm vc ev M) /\ Hid (Hp V w.heap.size 71 (actC 0 0 0 0 0 0 0)) /\ Below w.heap.size w V /\ V.heap.size = w.heap.size + 1 :=
 ⟨_, rfl, h.below ((Below.refl _ _).alloc (Nat.le_refl _) _) h.hp.lt, Hp.new w _ _, (Below.refl _ _).alloc (Nat.le_refl _) _, by simp⟩
theorem boxA {w4 : World} {n0 : Nat} (h : Ma w4 b sb vm vc ev M) (ho : Hp w4 n0 71 (actC 0 0 0 0 0 0 0)) (k pc im io ik iv v : Int) : ∃ Y, Hid (w4.alloc (.cells #[.int .i64 k, .int .i64 pc, .int .i64 im, .int .i64 io, .int .u64 ik, .int .u64 iv, .int .u64 v] 71) = Y) /\ Hid (Ma Y b sb vm vc ev M) /\ Hid (Hp Y w4.heap.size 71 (actC k pc im io ik iv v)) /\ Hid (Hp Y n0 71 (actC 0 0 0 0 0 0 0)) /\ Below w4.heap.size w4 Y /\ Y.heap.size = w4.heap.size + 1 :=
 ⟨_, rfl, h.below ((Below.refl _ _).alloc (Nat.le_refl _) _) h.hp.lt, Hp.new w4 _ _, ho.alloc _, (Below.refl _ _).alloc (Nat.le_refl _) _, by simp⟩
set_option maxHeartbeats 6400000 in
theorem mcall_note (w : World) (h : Ma w b sb vm vc ev M) (hp : M.pc + 1 < 64) {x : Int} (HX : Hid (regV M.regs 1 = x)) :
  Calls Tryz.prog 40 #[.pointer (some ⟨b, 0, none⟩), .int .i64 6] w fun e w' => e = .returned (actV 3 M.pc 0 0 0 0 x) /\ Chg w w' (fun k => k = b) /\ Ma w' b sb vm vc ev { M with regs := M.regs.set 0 0, pc := M.pc + 1 } := by
 have hlt := h.hp.lt
 obtain ⟨V, HV, HmV, HoV, hBV, hzV⟩ := boxO h
 have c6 := h.reg (show 1 < 8 by omega)
 rw [show M.regs.getD 1 0 = x from HX.out] at c6
 have hn0 : w.heap.size ≠ b := by omega
 go_enter Tryz.func40, Tryz.ntmps40
 go_wp2_with (first
  | (go_at_call 38; rw [HV.out]; go_must (refine (mtold_any 3 x V HmV.out).mono ?_); rintro e w4 ⟨rfl, hb4⟩; go_must (obtain ⟨Y, HY, HmY, HaY, HoY, hbY, hzY⟩ := boxA (HmV.out.below hb4 HmV.out.hp.lt) (HoV.out.below hb4 HoV.out.lt) 3 M.pc 0 0 0 0 x; have hz4 := hb4.size))
  | (go_at_call 43; rw [HY.out]; go_must (refine (mtakes_any 0 Y HmY.out (by decide) hp).mono ?_); rintro e w6 ⟨rfl, hg6, hm6'⟩; go_must (have HM6 := keepJ hm6'; have HA6 := keepJ (HaY.out.grown hg6 (fun e => by injection e with e; omega)); have HO6 := keepJ (HoY.out.grown hg6 (fun e => by injection e with e; omega)); (have a0 := HA6.out.cell (j := 0) rfl); (have a1 := HA6.out.cell (j := 1) rfl); (have a2 := HA6.out.cell (j := 2) rfl); (have a3 := HA6.out.cell (j := 3) rfl); (have a4 := HA6.out.cell (j := 4) rfl); (have a5 := HA6.out.cell (j := 5) rfl); (have a6 := HA6.out.cell (j := 6) rfl); (have o0 := HO6.out.cell (j := 0) rfl); (have o1 := HO6.out.cell (j := 1) rfl); (have o2 := HO6.out.cell (j := 2) rfl); (have o3 := HO6.out.cell (j := 3) rfl); (have o4 := HO6.out.cell (j := 4) rfl); (have o5 := HO6.out.cell (j := 5) rfl); (have o6 := HO6.out.cell (j := 6) rfl); (have q0 := HO6.out.frozen 0); (have q1 := HO6.out.frozen 1); (have q2 := HO6.out.frozen 2); (have q3 := HO6.out.frozen 3); (have q4 := HO6.out.frozen 4); (have q5 := HO6.out.frozen 5); (have q6 := HO6.out.frozen 6); clear hm6')))
 have hO := HO6.out.sets (actC 3 M.pc 0 0 0 0 x) 0
 rw [splice_all (actC 3 M.pc 0 0 0 0 x) (actC 0 0 0 0 0 0 0) rfl] at hO
 refine act_ret rfl rfl hO ⟨rfl, ?_, ?_⟩
 ·exact (((Chg.of_below (S := fun k => k = b) hBV).trans (Chg.of_below (S := fun k => k = b) (hb4.mono (by omega))) (fun _ _ e => e)).trans (Chg.of_below (S := fun k => k = b) hbY) (fun _ _ e => e) |>.trans (Chg.of_grown (S := fun k => k = b) hg6 rfl) (fun _ _ e => e)).trans (Chg.of_grown (grown_sets w.heap.size (actC 3 M.pc 0 0 0 0 x) w6 0) (S := fun k => k = w.heap.size) rfl) (fun k hk e => by omega)
 ·exact HM6.out.grown (grown_sets w.heap.size (actC 3 M.pc 0 0 0 0 x) w6 0) (fun e => by injection e with e; omega)
end
section
variable {b sb : Nat} {vm vc : Value} {ev : Int × Int} {M : Mc}
set_option maxHeartbeats 800000 in
theorem mcall_mark (w : World) (h : Ma w b sb vm vc ev M) (hp : M.pc + 1 < 64) {ws cs us : List Int} (hs : Sc w sb ws cs) (hne : b ≠ sb) {x n : Int} (HX : Hid (regV M.regs 1 = x)) (hx : 0 <= x /\ x <= 15) (HN : Hid (upW (cs.getD x.toNat 0) 1 = n)) (HU : Hid (cs.set x.toNat n = us)) :
  Calls Tryz.prog 40 #[.pointer (some ⟨b, 0, none⟩), .int .i64 5] w fun e w' => e = .returned (actV 1 M.pc 0 0 0 0 n) /\ Chg w w' (fun k => k = b ∨ k = sb) /\ Ma w' b sb vm vc ev { M with regs := M.regs.set 0 n, pc := M.pc + 1 } /\ Sc w' sb ws us := by
 have hlt := h.hp.lt
 have hsl := hs.lt
 have hwx : IntKind.i64.wrap x = x := by rw [IntKind.wrap_i64]; omega
 have HIn : Hid (inB x = true) := decide_eq_true (by omega)
 have hn : 0 <= n /\ n <= 18446744073709551615 := by rw [<- HN.out]; exact upW_in _ _
 have HN2 : Hid ((if inB x then addW (cs.getD x.toNat 0) 1 else 0) = n) := by show _ = _; rw [HIn.out]; exact HN.out
 have HU2 : Hid ((if inB x then oneUp cs x.toNat else cs) = us) := by
  show _ = _
  rw [HIn.out, <- HU.out]
  show cs.set x.toNat (addW (cs.getD x.toNat 0) 1) = _
  rw [show addW (cs.getD x.toNat 0) 1 = n from HN.out]
 have HN3 : Hid ((if inB x then 0 else 35 : Int) = 0) := by show _ = _; rw [HIn.out]; rfl
 obtain ⟨V, HV, HmV, HoV, hBV, hzV⟩ := boxO h
 have hS0 : V.cell? ⟨b, 4, none⟩ = some (.pointer (some ⟨sb, 0, none⟩)) /\ V.cell? ⟨b, 6, none⟩ = some (.int .u64 x) := by
  have c6 := HmV.out.reg (show 1 < 8 by omega)
  rw [show M.regs.getD 1 0 = x from HX.out] at c6
  exact ⟨HmV.out.low.2.2.2.2, c6⟩
 have HSV := keepJ (hs.below hBV hsl)
 have hn0 : w.heap.size ≠ b := by omega
 have hltV := HmV.out.hp.lt
 go_enter Tryz.func40, Tryz.ntmps40
 go_wp2
 rw [HV.out]
 go_region_held3 (fun w' => w'.cell? ⟨b, 4, none⟩ = some (.pointer (some ⟨sb, 0, none⟩)) /\ w'.cell? ⟨b, 6, none⟩ = some (.int .u64 x))
  (first | with_reducible exact hS3 | exact hS0)
  (first | (go_at_call 65; go_must (refine (mark_as HN2 HU2 HN3 V.drew HSV.out.drew).mono ?_); rintro e w3 ⟨rfl, hs3', hg3', hz3⟩; go_must (have hg3 : V.grownBy w3 (some sb) := grown_undrew hg3'; have HS3 := keepJ hs3'; have HM3 := keepJ (HmV.out.grown hg3 (fun e => hne (by injection e))); have HO3 := keepJ (HoV.out.grown hg3 (fun e => by injection e with e; omega)); have hS3 : w3.cell? ⟨b, 4, none⟩ = some (.pointer (some ⟨sb, 0, none⟩)) /\ w3.cell? ⟨b, 6, none⟩ = some (.int .u64 x) := ⟨(grown_farL hg3 hltV hne).trans hS0.1, (grown_farL hg3 hltV hne).trans hS0.2⟩; clear hg3' hs3')))
 have hz3V := hg3.size
 go_wp2_with (first
  | (go_at_call 38; go_must (refine (mtold_any 1 n w3 HM3.out).mono ?_); rintro e w4 ⟨rfl, hb4⟩; go_must (obtain ⟨Y, HY, HmY, HaY, HoY, hbY, hzY⟩ := boxA (HM3.out.below hb4 HM3.out.hp.lt) (HO3.out.below hb4 HO3.out.lt) 1 M.pc 0 0 0 0 n; have hz4 := hb4.size))
  | (go_at_call 43; rw [HY.out]; go_must (refine (mtakes_any n Y HmY.out hn hp).mono ?_); rintro e w6 ⟨rfl, hg6, hm6'⟩; go_must (have HM6 := keepJ hm6'; have HA6 := keepJ (HaY.out.grown hg6 (fun e => by injection e with e; omega)); have HO6 := keepJ (HoY.out.grown hg6 (fun e => by injection e with e; omega)); (have a0 := HA6.out.cell (j := 0) rfl); (have a1 := HA6.out.cell (j := 1) rfl); (have a2 := HA6.out.cell (j := 2) rfl); (have a3 := HA6.out.cell (j := 3) rfl); (have a4 := HA6.out.cell (j := 4) rfl); (have a5 := HA6.out.cell (j := 5) rfl); (have a6 := HA6.out.cell (j := 6) rfl); (have o0 := HO6.out.cell (j := 0) rfl); (have o1 := HO6.out.cell (j := 1) rfl); (have o2 := HO6.out.cell (j := 2) rfl); (have o3 := HO6.out.cell (j := 3) rfl); (have o4 := HO6.out.cell (j := 4) rfl); (have o5 := HO6.out.cell (j := 5) rfl); (have o6 := HO6.out.cell (j := 6) rfl); (have q0 := HO6.out.frozen 0); (have q1 := HO6.out.frozen 1); (have q2 := HO6.out.frozen 2); (have q3 := HO6.out.frozen 3); (have q4 := HO6.out.frozen 4); (have q5 := HO6.out.frozen 5); (have q6 := HO6.out.frozen 6); clear hm6')))
 have hO := HO6.out.sets (actC 1 M.pc 0 0 0 0 n) 0
 rw [splice_all (actC 1 M.pc 0 0 0 0 n) (actC 0 0 0 0 0 0 0) rfl] at hO
 have hG := grown_sets w.heap.size (actC 1 M.pc 0 0 0 0 n) w6 0
 have hC3 : Chg w w3 (fun k => k = b ∨ k = sb) := (Chg.of_below hBV).trans (Chg.of_grown (S := fun k => k = b ∨ k = sb) hg3 (.inr rfl)) (fun _ _ e => e)
 have hC4 : Chg w w4 (fun k => k = b ∨ k = sb) := hC3.trans (Chg.of_below (S := fun _ => False) hb4) (fun _ _ e => e.elim)
 have hCY : Chg w Y (fun k => k = b ∨ k = sb) := hC4.trans (Chg.of_below (S := fun _ => False) hbY) (fun _ _ e => e.elim)
 have hC6 : Chg w w6 (fun k => k = b ∨ k = sb) := hCY.trans (Chg.of_grown (S := fun k => k = b) hg6 rfl) (fun _ _ e => .inl e)
 refine act_ret rfl rfl hO ⟨rfl, hC6.trans (Chg.of_grown hG (S := fun k => k = w.heap.size) rfl) (fun k hk e => by omega), HM6.out.grown hG (fun e => by injection e with e; omega), ?_⟩
 have hS4 := HS3.out.below hb4 HS3.out.lt
 have hS6 := (hS4.below hbY hS4.lt).grown hg6 (show some sb ≠ some b from fun e => hne (Option.some.inj e).symm)
 exact hS6.grown hG (show some sb ≠ some w.heap.size from fun e => by have := Option.some.inj e; omega)
end
section
variable {b sb : Nat} {vm vc : Value} {ev : Int × Int} {M : Mc}
set_option maxHeartbeats 800000 in
theorem mcall_map (hh : Int) (hi : 0 <= hh /\ hh <= 4) {mb mo mcap nm j : Nat} (w : World) (h : Ma w b sb (.slice (some ⟨mb, mo, none⟩) nm mcap) vc ev M) (hj : j < nm) (hmb : mb < w.heap.size) (hmc : nm <= mcap) {g : Int} (hcell : w.cell? ⟨mb, mo + j, none⟩ = some (.int .i64 g)) {y z q : Int} (H1 : Hid (regV M.regs 1 = (j : Int))) (H2 : Hid (regV M.regs 2 = y)) (H3 : Hid (regV M.regs 3 = z)) (HQ : Hid ((if hh = 2 ∨ hh = 4 then z else 0) = q)) :
  Calls Tryz.prog 40 #[.pointer (some ⟨b, 0, none⟩), .int .i64 hh] w fun e w' => e = .returned (actV 2 M.pc g hh y q 0) /\ Chg w w' (fun k => k = b) /\ Ma w' b sb (.slice (some ⟨mb, mo, none⟩) nm mcap) vc ev { M with mode := 1 } := by
 have hlt := h.hp.lt
 have c5 : (hh == 5) = false := by simp; omega
 have c6 : (hh == 6) = false := by simp; omega
 obtain ⟨V, HV, HmV, HoV, hBV, hzV⟩ := boxO h
 have hn0 : w.heap.size ≠ b := by omega
 go_enter Tryz.func40, Tryz.ntmps40
 go_wp2_with (first
  | (go_at_call 38; rw [HV.out]; go_must (refine (mtold_any 2 0 V HmV.out).mono ?_); rintro e w4 ⟨rfl, hb4⟩; go_must (obtain ⟨Y, HY, HmY, HaY, HoY, hbY, hzY⟩ := boxA (HmV.out.below hb4 HmV.out.hp.lt) (HoV.out.below hb4 HoV.out.lt) 2 M.pc 0 0 0 0 0; have hz4 := hb4.size; have hB4 : Below w.heap.size w w4 := hBV.trans (hb4.mono (by omega)); have hBY : Below w.heap.size w Y := hB4.trans (hbY.mono (by omega))))
  | (go_at_call 66; rw [HY.out]; go_must (refine (masks_any hh hi Y HmY.out hj (by omega) hmc ((hBY.cell (p := ⟨mb, mo + j, none⟩) hmb).trans hcell) H1 H2 H3 HQ).mono ?_); rintro e w5 ⟨rfl, hb5⟩; go_must (have HM5 := keepJ (HmY.out.below hb5 (by omega)); have HA5 := keepJ (HaY.out.below hb5 (by omega)); have HO5 := keepJ (HoY.out.below hb5 (by omega)); have hz5 := hb5.size; have d2 := HA5.out.cell (j := 2) rfl; have d3 := HA5.out.cell (j := 3) rfl; have d4 := HA5.out.cell (j := 4) rfl; have d5 := HA5.out.cell (j := 5) rfl; have e2 := HA5.out.frozen 2; have e3 := HA5.out.frozen 3; have e4 := HA5.out.frozen 4; have e5 := HA5.out.frozen 5; obtain ⟨T, HT, HMT, HAT, HOT, hgT⟩ : ∃ T, Hid ((((w5.setCell ⟨w4.heap.size, 2, none⟩ (.int .i64 g)).setCell ⟨w4.heap.size, 3, none⟩ (.int .i64 hh)).setCell ⟨w4.heap.size, 4, none⟩ (.int .u64 y)).setCell ⟨w4.heap.size, 5, none⟩ (.int .u64 q) = T) /\ Hid (Ma T b sb (.slice (some ⟨mb, mo, none⟩) nm mcap) vc ev M) /\ Hid (Hp T w4.heap.size 71 (actC 2 M.pc g hh y q 0)) /\ Hid (Hp T w.heap.size 71 (actC 0 0 0 0 0 0 0)) /\ w5.grownBy T (some w4.heap.size) := ⟨_, rfl, HM5.out.grown (grown_sets w4.heap.size (itemC g hh y q) w5 2) (fun e => by injection e with e; omega), by have := HA5.out.sets (itemC g hh y q) 2; exact this, HO5.out.grown (grown_sets w4.heap.size (itemC g hh y q) w5 2) (fun e => by injection e with e; omega), grown_sets w4.heap.size (itemC g hh y q) w5 2⟩; have t9 := HMT.out.last.2.2; have u9 := HMT.out.hp.frozen 79; obtain ⟨U, HU, HMU, HA6, HO6, hgU⟩ : ∃ U, Hid (T.setCell ⟨b, 79, none⟩ (.int .i64 1) = U) /\ Hid (Ma U b sb (.slice (some ⟨mb, mo, none⟩) nm mcap) vc ev { M with mode := 1 }) /\ Hid (Hp U w4.heap.size 71 (actC 2 M.pc g hh y q 0)) /\ Hid (Hp U w.heap.size 71 (actC 0 0 0 0 0 0 0)) /\ T.grownBy U (some b) := ⟨_, rfl, HMT.out.setM 1, HAT.out.far (by omega), HOT.out.far hn0, grown_set T b 79 _⟩; (have a0 := HA6.out.cell (j := 0) rfl); (have a1 := HA6.out.cell (j := 1) rfl); (have a2 := HA6.out.cell (j := 2) rfl); (have a3 := HA6.out.cell (j := 3) rfl); (have a4 := HA6.out.cell (j := 4) rfl); (have a5 := HA6.out.cell (j := 5) rfl); (have a6 := HA6.out.cell (j := 6) rfl); (have o0 := HO6.out.cell (j := 0) rfl); (have o1 := HO6.out.cell (j := 1) rfl); (have o2 := HO6.out.cell (j := 2) rfl); (have o3 := HO6.out.cell (j := 3) rfl); (have o4 := HO6.out.cell (j := 4) rfl); (have o5 := HO6.out.cell (j := 5) rfl); (have o6 := HO6.out.cell (j := 6) rfl); (have q0 := HO6.out.frozen 0); (have q1 := HO6.out.frozen 1); (have q2 := HO6.out.frozen 2); (have q3 := HO6.out.frozen 3); (have q4 := HO6.out.frozen 4); (have q5 := HO6.out.frozen 5); (have q6 := HO6.out.frozen 6); skip))
  | rw [HT.out]
  | rw [HU.out])
 have hO := HO6.out.sets (actC 2 M.pc g hh y q 0) 0
 rw [splice_all (actC 2 M.pc g hh y q 0) (actC 0 0 0 0 0 0 0) rfl] at hO
 have hG := grown_sets w.heap.size (actC 2 M.pc g hh y q 0) U 0
 have hC5 : Chg w w5 (fun k => k = b) := (Chg.of_below (S := fun k => k = b) hBY).trans (Chg.of_below (S := fun _ => False) hb5) (fun _ _ e => e.elim)
 have hCT : Chg w T (fun k => k = b) := hC5.trans (Chg.of_grown (S := fun k => k = w4.heap.size) hgT rfl) (fun k hk e => by have := hB4.size; omega)
 have hCU : Chg w U (fun k => k = b) := hCT.trans (Chg.of_grown (S := fun k => k = b) hgU rfl) (fun _ _ e => e)
 refine act_ret rfl rfl hO ⟨rfl, hCU.trans (Chg.of_grown hG (S := fun k => k = w.heap.size) rfl) (fun k hk e => by omega), HMU.out.grown hG (fun e => by injection e with e; omega)⟩
end
theorem mvalue_as {h E : Int} {f : Bool} {v : Int} {o : Bool} {k u r : Int} (hr : Hid (valL h E f v = r)) (w : World) : Calls Tryz.prog 44 #[.int .i64 h, resV E f v o k u] w fun e w' => e = .returned (.int .u64 r) /\ Below w.heap.size w w' := by
 rw [<- hr.out]; exact value_any h E f v o k u w
theorem valL_in {h E : Int} {f : Bool} {v : Int} (hv : 0 <= v /\ v <= 18446744073709551615) : 0 <= valL h E f v /\ valL h E f v <= 18446744073709551615 := by
 unfold valL
 repeat' split
 all_goals omega
section
variable {b sb : Nat} {vm vc : Value} {ev : Int × Int} {M : Mc}
set_option maxHeartbeats 1600000 in
theorem manswer_yes {cb co ccap : Nat} {xs : List In} (E : Int) (f : Bool) (v : Int) (o : Bool) (k u : Int) (w : World) (h : Ma w b sb vm (.slice (some ⟨cb, co, none⟩) xs.length ccap) ev M) (hm : M.mode = 1) (hx : SeesI w (.slice (some ⟨cb, co, none⟩) xs.length ccap) xs) (hp : M.pc < xs.length) (hp1 : M.pc + 1 < 64) (hcb' : cb ≠ b) (hv : 0 <= v /\ v <= 18446744073709551615) {n : Int} (hn : Hid (valL (nth xs M.pc).imm E f v = n)) :
  Calls Tryz.prog 24 #[.pointer (some ⟨b, 0, none⟩), resV E f v o k u] w fun e w' => e = .returned (.int .i64 0) /\ w.grownBy w' (some b) /\ Ma w' b sb vm (.slice (some ⟨cb, co, none⟩) xs.length ccap) ev { M with regs := M.regs.set 0 n, mode := 0, pc := M.pc + 1 } := by
 have hlt := h.hp.lt
 have hpI : (M.pc : Int) < xs.length := by omega
 have hp64 : (M.pc : Int) <= 100 := by omega
 obtain ⟨hat, hcb, hcc, hcm⟩ := codeL hx hp
 obtain ⟨⟨op, d, a, bb, imm⟩, HI⟩ : ∃ i, Hid (nth xs M.pc = i) := ⟨_, rfl⟩
 rw [HI.out] at hat hn
 have hn2 : Hid (valL imm E f v = n) := hn
 have hnr : 0 <= n /\ n <= 18446744073709551615 := by rw [<- hn2.out]; exact valL_in hv
 obtain ⟨_, _, _, _, k4⟩ := hat
 simp only at k4
 have c9 := h.last.2.2
 rw [hm] at c9
 have hwb : w.heap.size ≠ b := by omega
 obtain ⟨Z, HZ, HmZ, HrZ, hBZ, hzZ⟩ : ∃ Z, Hid ((w.setCell ⟨b, 79, none⟩ (.int .i64 0)).alloc (.cells #[.int .i64 E, .bool f, .int .u64 v, .bool o, .int .u64 k, .int .u64 u] 62) = Z) /\ Hid (Ma Z b sb vm (.slice (some ⟨cb, co, none⟩) xs.length ccap) ev { M with mode := 0 }) /\ Hid (Hp Z w.heap.size 62 [.int .i64 E, .bool f, .int .u64 v, .bool o, .int .u64 k, .int .u64 u]) /\ w.grownBy Z (some b) /\ w.heap.size < Z.heap.size := by
  have hsz : (w.setCell ⟨b, 79, none⟩ (.int .i64 0)).heap.size = w.heap.size := by simp [World.setCell]
  have hB := (Below.refl (w.setCell ⟨b, 79, none⟩ (.int .i64 0)).heap.size (w.setCell ⟨b, 79, none⟩ (.int .i64 0))).alloc (Nat.le_refl _) (.cells #[.int .i64 E, .bool f, .int .u64 v, .bool o, .int .u64 k, .int .u64 u] 62)
  have hN := Hp.new (w.setCell ⟨b, 79, none⟩ (.int .i64 0)) [.int .i64 E, .bool f, .int .u64 v, .bool o, .int .u64 k, .int .u64 u] 62
  rw [hsz] at hN
  exact ⟨_, rfl, (h.setM 0).below hB (by rw [hsz]; exact hlt), hN, grownJ_trans (grown_set w b 79 _) (grown_of_below hB _), by simp [hsz]⟩
 have f9 := h.hp.frozen 79
 have hcbZ : cb < Z.heap.size := by omega
 have k4Z : Z.cell? ⟨cb, co + M.pc * 5 + 4, none⟩ = some (.int .i64 imm) := (grown_farL hBZ hcb hcb').trans k4
 have HKP : Hid (∀ wx : World, Below Z.heap.size Z wx -> wx.cell? ⟨b, 3, none⟩ = some (.slice (some ⟨cb, co, none⟩) xs.length ccap) /\ wx.cell? ⟨cb, co + M.pc * 5 + 4, none⟩ = some (.int .i64 imm) /\ wx.cell? ⟨w.heap.size, 0, none⟩ = some (.int .i64 E) /\ wx.cell? ⟨w.heap.size, 1, none⟩ = some (.bool f) /\ wx.cell? ⟨w.heap.size, 2, none⟩ = some (.int .u64 v) /\ wx.cell? ⟨w.heap.size, 3, none⟩ = some (.bool o) /\ wx.cell? ⟨w.heap.size, 4, none⟩ = some (.int .u64 k) /\ wx.cell? ⟨w.heap.size, 5, none⟩ = some (.int .u64 u)) := fun wx hb => ⟨(HmZ.out.below hb HmZ.out.hp.lt).low.2.2.2.1, (hb.cell (p := ⟨cb, co + M.pc * 5 + 4, none⟩) hcbZ).trans k4Z, (HrZ.out.below hb hzZ).cell rfl, (HrZ.out.below hb hzZ).cell rfl, (HrZ.out.below hb hzZ).cell rfl, (HrZ.out.below hb hzZ).cell rfl, (HrZ.out.below hb hzZ).cell rfl, (HrZ.out.below hb hzZ).cell rfl⟩
 have z7 := HmZ.out.last.1
 clear k4 k4Z hx
 go_enter Tryz.func24, Tryz.ntmps24
 go_wp2
 rw [HZ.out]
 refine wp_region_held_drew (S := fun w' => w'.cell? ⟨b, 3, none⟩ = some (.slice (some ⟨cb, co, none⟩) xs.length ccap) /\ w'.cell? ⟨cb, co + M.pc * 5 + 4, none⟩ = some (.int .i64 imm) /\ w'.cell? ⟨w.heap.size, 0, none⟩ = some (.int .i64 E) /\ w'.cell? ⟨w.heap.size, 1, none⟩ = some (.bool f) /\ w'.cell? ⟨w.heap.size, 2, none⟩ = some (.int .u64 v) /\ w'.cell? ⟨w.heap.size, 3, none⟩ = some (.bool o) /\ w'.cell? ⟨w.heap.size, 4, none⟩ = some (.int .u64 k) /\ w'.cell? ⟨w.heap.size, 5, none⟩ = some (.int .u64 u)) (by kernel_rfl) (HKP.out _ (below_drE (Below.refl _ _))) (fun hHeld => ?_)
 refine tkGo [0, 1, 2, 3, 4, 5, 6, 7, 12] ?_
 repeat (refine tkO (v := ?_) rfl ?_ ?_; rotate_left; (intro wy hSw; (try dsimp only at hSw); go_simp; (first | done | with_reducible rfl)); try simp only [Act.put, p1q, p2q, p3q, p4q, p5q, p6q])
 refine tkEnd ?_
 refine runO 8 (by kernel_rfl) rfl (by rfl) (fun KK hK => ?_)
 go_simp
 refine hK.out _ _ (HKP.out _ (below_drE (Below.refl _ _))) (fun hHeld => ?_)
 clear hK KK
 try simp only [Act.put, p1q, p2q, p3q, p4q, p5q, p6q]
 refine tkGo [9, 10, 11] ?_
 repeat (refine tkO (v := ?_) rfl ?_ ?_; rotate_left; (intro wy hSw; (try dsimp only at hSw); go_simp; (first | done | with_reducible rfl)); try simp only [Act.put, p1q, p2q, p3q, p4q, p5q, p6q])
 refine tkEnd ?_
 refine runO 13 (by kernel_rfl) rfl (by rfl) (fun KK hK => ?_)
 go_simp
 go_at_call 44
 refine (mvalue_as hn2 _).mono ?_
 rintro e w4 ⟨rfl, hb4'⟩
 have hb4 : Below Z.heap.size Z w4 := below_undrew hb4'
 go_simp
 refine hK.out _ _ (HKP.out w4 hb4) (fun hHeld => ?_)
 clear hK KK
 try simp only [Act.put, p1q, p2q, p3q, p4q, p5q, p6q]
 have HM4 := keepJ (HmZ.out.below hb4 HmZ.out.hp.lt)
 have hz4 := hb4.size
 refine runO 14 (by kernel_rfl) rfl (by rfl) (fun KK hK => ?_)
 go_simp
 go_at_call 43
 refine (mtakes_any n _ HM4.out hnr hp1).mono ?_
 rintro e w5 ⟨rfl, hg5, hm5⟩
 go_simp
 have hS4 := HKP.out w4 hb4
 have hS5 : w5.cell? ⟨b, 3, none⟩ = some (.slice (some ⟨cb, co, none⟩) xs.length ccap) /\ w5.cell? ⟨cb, co + M.pc * 5 + 4, none⟩ = some (.int .i64 imm) /\ w5.cell? ⟨w.heap.size, 0, none⟩ = some (.int .i64 E) /\ w5.cell? ⟨w.heap.size, 1, none⟩ = some (.bool f) /\ w5.cell? ⟨w.heap.size, 2, none⟩ = some (.int .u64 v) /\ w5.cell? ⟨w.heap.size, 3, none⟩ = some (.bool o) /\ w5.cell? ⟨w.heap.size, 4, none⟩ = some (.int .u64 k) /\ w5.cell? ⟨w.heap.size, 5, none⟩ = some (.int .u64 u) := ⟨hm5.low.2.2.2.1, (grown_farL hg5 (by omega) hcb').trans hS4.2.1, (grown_farL hg5 (by omega) hwb).trans hS4.2.2.1, (grown_farL hg5 (by omega) hwb).trans hS4.2.2.2.1, (grown_farL hg5 (by omega) hwb).trans hS4.2.2.2.2.1, (grown_farL hg5 (by omega) hwb).trans hS4.2.2.2.2.2.1, (grown_farL hg5 (by omega) hwb).trans hS4.2.2.2.2.2.2.1, (grown_farL hg5 (by omega) hwb).trans hS4.2.2.2.2.2.2.2⟩
 refine hK.out _ _ hS5 (fun hHeld => ?_)
 clear hK KK
 try simp only [Act.put, p1q, p2q, p3q, p4q, p5q, p6q]
 refine wpAnyH_done (by kernel_rfl) ?_ _
 go_wp2
 go_ret
 exact ⟨rfl, grownJ_trans (grownJ_trans hBZ (grown_of_below hb4 _)) hg5, hm5⟩
end
theorem right_ab {i : In} (hr : i.right = true) (ho : i.op <= 20) : (0 <= i.a /\ i.a <= 7) /\ (i.b = 8 ∨ (0 <= i.b /\ i.b <= 7)) := by
 obtain ⟨op, d, a, b, imm⟩ := i
 have h0 := right_op hr
 unfold In.right at hr
 simp only at hr ho h0 ⊢
 by_cases c1 : op = 0 ∨ op = 11
 ·unfold rightB at hr; rw [if_pos c1] at hr; simp [sourcedB, regB] at hr; omega
 by_cases c2 : 1 <= op /\ op <= 10
 ·rw [rightB_three c2] at hr; simp [sourcedB, regB] at hr; omega
 by_cases c3 : op = 12
 ·subst c3; rw [rightB_12] at hr; simp [sourcedB, regB] at hr; omega
 by_cases c4 : op = 13
 ·subst c4; rw [rightB_13] at hr; simp at hr; omega
 by_cases c5 : op = 14
 ·subst c5; rw [rightB_14] at hr; simp at hr; omega
 by_cases c6 : op = 15
 ·subst c6; rw [rightB_15] at hr; simp at hr; omega
 by_cases c7 : 16 <= op /\ op <= 19
 ·rw [rightB_jump c7] at hr; simp [sourcedB, regB] at hr; omega
 ·obtain rfl : op = 20 := by omega
  rw [rightB_20] at hr; simp [regB] at hr; omega
theorem right_14E {i : In} (hr : i.right = true) (ho : i.op = 14) : 0 <= i.imm /\ i.imm <= 3 := by
 obtain ⟨op, d, a, b, imm⟩ := i
 unfold In.right at hr
 simp only at hr ho ⊢
 subst ho
 rw [rightB_14] at hr; simp at hr; omega
theorem hold_none {op a b : Int} (h : op < 16 ∨ 19 < op) : holdL op a b = false := by
 unfold holdL
 rw [if_neg (by omega), if_neg (by omega), if_neg (by omega), if_neg (by omega)]
section
variable {b sb : Nat} {vm vc : Value} {ev : Int × Int} {M : Mc}
theorem Sc.chg {w w' : World} {ws cs : List Int} {S : Nat -> Prop} (h : Sc w sb ws cs) (hc : Chg w w' S) (hS : ¬ S sb) : Sc w' sb ws cs := ⟨h.hp.chg hc hS, h.lw, h.lc⟩
theorem Ma.chg {w w' : World} {S : Nat -> Prop} (h : Ma w b sb vm vc ev M) (hc : Chg w w' S) (hS : ¬ S b) : Ma w' b sb vm vc ev M := ⟨h.hp.chg hc hS, h.wr, h.pc⟩
theorem Ma.same {w : World} {M' : Mc} (h : Ma w b sb vm vc ev M) (h1 : M'.regs = M.regs) (h2 : M'.turn = M.turn) (h3 : M'.pc = M.pc) (h4 : M'.steps = M.steps) (h5 : M'.mode = M.mode) : Ma w b sb vm vc ev M' := by
 obtain ⟨r, t, p, s, m, x, y⟩ := M'
 simp only at h1 h2 h3 h4 h5
 subst h1; subst h2; subst h3; subst h4; subst h5
 exact ⟨h.hp, h.wr, h.pc⟩
theorem mdo_all (i : In) (hr : i.right = true) (ho : i.op <= 20) (w : World) (h : Ma w b sb vm vc ev M) (hs : Sc w sb M.ws M.cs) (hne : b ≠ sb) (hws : W16 M.ws) (hev : (0 <= ev.1 /\ ev.1 <= 18446744073709551615) /\ 0 <= ev.2 /\ ev.2 <= 18446744073709551615) (hw : i.op = 11 ∨ i.op = 12 -> 0 <= srcV i M.regs /\ srcV i M.regs <= 15) :
  Calls Tryz.prog 41 #[.pointer (some ⟨b, 0, none⟩), instV i.op i.d i.a i.b i.imm] w fun e w' => e = .returned (.tuple #[]) /\ Chg w w' (fun k => k = b ∨ k = sb) /\ Ma w' b sb vm vc ev { M with regs := (laysE ev i M).1, ws := (laysE ev i M).2 } /\ Sc w' sb (laysE ev i M).2 M.cs := by
 have h0 := right_op hr
 obtain ⟨ha, hb⟩ := right_ab hr ho
 have fin : ∀ {w' : World} {R : List Int}, w.grownBy w' (some b) -> Ma w' b sb vm vc ev { M with regs := R } -> laysE ev i M = (R, M.ws) -> Chg w w' (fun k => k = b ∨ k = sb) /\ Ma w' b sb vm vc ev { M with regs := (laysE ev i M).1, ws := (laysE ev i M).2 } /\ Sc w' sb (laysE ev i M).2 M.cs := fun {w' R} hg hm e => by
  rw [e]
  exact ⟨Chg.of_grown hg (.inl rfl), hm.same rfl rfl rfl rfl rfl, hs.grown hg (fun e => hne (Option.some.inj e).symm)⟩
 by_cases c0 : i.op = 0
 ·have hd := right_dest hr (.inl (by omega))
  obtain ⟨op, d, a, bb, imm⟩ := i
  simp only at c0 ha hb hd
  subst c0
  refine (mdo_set d a bb imm w h hd hb rfl).mono ?_
  rintro e w' ⟨rfl, hg, hm⟩
  exact ⟨rfl, fin hg hm rfl⟩
 by_cases c1 : 1 <= i.op /\ i.op <= 10
 ·have hd := right_dest hr (.inl (by omega))
  obtain ⟨op, d, a, bb, imm⟩ := i
  simp only at c0 c1 ha hb hd
  refine (mdo_three op d a bb imm w h c1 hd ha hb rfl rfl rfl (doL_in op (h.wr.2 _ (by omega)) (srcV_in h.wr hb))).mono ?_
  rintro e w' ⟨rfl, hg, hm⟩
  exact ⟨rfl, fin hg hm (by unfold laysE; rw [if_neg c0, if_pos c1]; rfl)⟩
 by_cases c2 : i.op = 11
 ·have hd := right_dest hr (.inl (by omega))
  have hw1 := hw (.inl c2)
  obtain ⟨op, d, a, bb, imm⟩ := i
  simp only at c0 c1 c2 ha hb hd
  subst c2
  refine (mdo_load d a bb imm w h hd hb rfl hw1 hs rfl (hws.2 _ (by omega))).mono ?_
  rintro e w' ⟨rfl, hg, hm⟩
  exact ⟨rfl, fin hg hm rfl⟩
 by_cases c3 : i.op = 12
 ·have hw1 := hw (.inr c3)
  obtain ⟨op, d, a, bb, imm⟩ := i
  simp only at c3 ha hb
  subst c3
  refine (mdo_store d a bb imm w h ha hb rfl rfl hw1 hs hne rfl).mono ?_
  rintro e w' ⟨rfl, hg, hs'⟩
  exact ⟨rfl, Chg.of_grown hg (.inr rfl), (h.grown hg (fun e => hne (Option.some.inj e))).same rfl rfl rfl rfl rfl, hs'⟩
 by_cases c4 : i.op = 13
 ·have hd := right_dest hr (.inr (.inl c4))
  obtain ⟨op, d, a, bb, imm⟩ := i
  simp only at c4 ha hb hd
  subst c4
  refine (mdo_field d a bb imm w h hd rfl (by split <;> omega)).mono ?_
  rintro e w' ⟨rfl, hg, hm⟩
  exact ⟨rfl, fin hg hm rfl⟩
 by_cases c5 : i.op = 14
 ·have hd := right_dest hr (.inr (.inr c5))
  have hi := right_14E hr c5
  obtain ⟨op, d, a, bb, imm⟩ := i
  simp only at c5 ha hb hd hi
  subst c5
  refine (mdo_map d a bb imm w h hd hi).mono ?_
  rintro e w' ⟨rfl, hg, hm⟩
  exact ⟨rfl, fin hg hm rfl⟩
 ·have hl : laysE ev i M = (M.regs, M.ws) := by
   unfold laysE
   rw [if_neg c0, if_neg c1, if_neg c2, if_neg c3, if_neg c4, if_neg c5]
  rw [hl]
  have h15 : 15 <= i.op /\ i.op <= 20 := by omega
  obtain ⟨op, d, a, bb, imm⟩ := i
  simp only at h15 ha hb
  refine (mdo_none op d a bb imm w h h15 ha hb).mono ?_
  rintro e w' ⟨rfl, hbw⟩
  exact ⟨rfl, Chg.of_below hbw, h.below hbw h.hp.lt, hs.below hbw hs.lt⟩
def nextE (i : In) (M : Mc) : Int := if (i.leads && goesE i M) = true then (M.pc : Int) + i.far else (M.pc : Int) + 1
theorem mnext_all (i : In) (hr : i.right = true) (ho : i.op <= 20) (w : World) (h : Ma w b sb vm vc ev M) (ht : i.op = 20 -> 0 <= M.turn M.pc /\ M.turn M.pc <= 255) {p : Int} (HP : Hid (nextE i M = p)) :
  Calls Tryz.prog 42 #[.pointer (some ⟨b, 0, none⟩), instV i.op i.d i.a i.b i.imm] w fun e w' => e = .returned (.int .i64 p) /\ w.grownBy w' (some b) /\ Ma w' b sb vm vc ev { M with turn := turnE i M } := by
 obtain ⟨ha, hb⟩ := right_ab hr ho
 have h0 := right_op hr
 have HP2 : Hid ((if (i.leads && goesE i M) = true then (M.pc : Int) + i.far else (M.pc : Int) + 1) = p) := HP
 clear HP
 rcases goes_parts i with g | g | g | g
 ·rw [hr] at g; cases g.1
 ·obtain ⟨_, g1, g2, g3, g4, g5, g6, g7⟩ := g
  rw [g3, g4, Bool.true_and] at HP2
  have hu : turnE i M = M.turn := by unfold turnE; rw [if_neg (by omega)]
  rw [hu]
  by_cases c15 : i.op = 15
  ·have hg : goesE i M = true := by unfold goesE; rw [if_pos c15]
   rw [hg, if_pos rfl] at HP2
   obtain ⟨op, d, a, bb, imm⟩ := i
   simp only at c15 ha hb g6 g7 HP2
   subst c15
   refine (mnext_jump d a bb imm w h ⟨g6, g7⟩).mono ?_
   rintro e w' ⟨rfl, hbw⟩
   exact ⟨by rw [<- HP2.out]; congr 2; omega, grown_of_below hbw _, h.below hbw h.hp.lt⟩
  ·have hg : goesE i M = holdL i.op (regV M.regs i.a) (srcV i M.regs) := by unfold goesE; rw [if_neg c15, if_neg (by omega)]
   rw [hg] at HP2
   obtain ⟨op, d, a, bb, imm⟩ := i
   simp only at c15 g1 g2 ha hb g6 g7 HP2
   refine (mnext_cond op d a bb imm w h (by simp; omega) (by simp; omega) ha hb (r := holdL op (regV M.regs a) (srcV ⟨op, d, a, bb, imm⟩ M.regs)) rfl (fun _ => ⟨g6, g7⟩) (p := p) (by show _ = _; rw [<- HP2.out]; split <;> omega)).mono ?_
   rintro e w' ⟨rfl, hbw⟩
   exact ⟨rfl, grown_of_below hbw _, h.below hbw h.hp.lt⟩
 ·obtain ⟨_, g1, g2, g3, g4, g5, g6, g7, g8⟩ := g
  rw [g2, g3, Bool.true_and] at HP2
  have ht1 := ht g1
  obtain ⟨op, d, a, bb, imm⟩ := i
  simp only at g1 ha hb g5 g6 g7 g8 HP2
  subst g1
  refine (mnext_loop d a bb imm w h ⟨by omega, g6⟩ ha ⟨g7, g8⟩ ht1 (p := p) (by show _ = _; rw [<- HP2.out]; split <;> omega)).mono ?_
  rintro e w' ⟨rfl, hg, hm⟩
  exact ⟨rfl, hg, hm⟩
 ·obtain ⟨_, g1, g2, g3, g4⟩ := g
  rw [g3, Bool.false_and, if_neg (by simp)] at HP2
  have hu : turnE i M = M.turn := by unfold turnE; rw [if_neg (by omega)]
  rw [hu]
  obtain ⟨op, d, a, bb, imm⟩ := i
  simp only at g1 ha hb ho h0
  have hf : holdL op (regV M.regs a) (srcV ⟨op, d, a, bb, imm⟩ M.regs) = false := hold_none (by omega)
  refine (mnext_cond op d a bb imm w h (by simp; omega) (by simp; omega) ha hb (r := false) hf (fun h => by cases h) (p := p) (by show _ = _; rw [<- HP2.out]; rfl)).mono ?_
  rintro e w' ⟨rfl, hbw⟩
  exact ⟨rfl, grown_of_below hbw _, h.below hbw h.hp.lt⟩
end
section
variable {b sb : Nat} {vm : Value} {ev : Int × Int} {M : Mc}
theorem Chg.drewE {w w' : World} {S : Nat -> Prop} (h : Chg w w' S) : Chg w w'.drew S := ⟨h.os, h.tape, h.output, h.size, h.block⟩
set_option maxHeartbeats 800000 in
theorem mstep_wait {vc : Value} (w : World) (h : Ma w b sb vm vc ev M) (hm : M.mode = 1) :
  Calls Tryz.prog 23 #[.pointer (some ⟨b, 0, none⟩)] w fun e w' => e = .returned (actV 5 M.pc 0 0 0 0 0) /\ Below w.heap.size w w' := by
 have hlt := h.hp.lt
 have c9 := h.last.2.2
 rw [hm] at c9
 obtain ⟨V, HV, HmV, HoV, hBV, hzV⟩ := boxO h
 go_enter Tryz.func23, Tryz.ntmps23
 go_wp2_with (go_at_call 38; rw [HV.out]; go_must (refine (mtold_any 5 0 V HmV.out).mono ?_); rintro e w6 ⟨rfl, hb6⟩; go_must (have HO6 := keepJ (HoV.out.below hb6 HoV.out.lt); (have o0 := HO6.out.cell (j := 0) rfl); (have o1 := HO6.out.cell (j := 1) rfl); (have o2 := HO6.out.cell (j := 2) rfl); (have o3 := HO6.out.cell (j := 3) rfl); (have o4 := HO6.out.cell (j := 4) rfl); (have o5 := HO6.out.cell (j := 5) rfl); (have o6 := HO6.out.cell (j := 6) rfl); (have q0 := HO6.out.frozen 0); (have q1 := HO6.out.frozen 1); (have q2 := HO6.out.frozen 2); (have q3 := HO6.out.frozen 3); (have q4 := HO6.out.frozen 4); (have q5 := HO6.out.frozen 5); (have q6 := HO6.out.frozen 6);  skip))
 have hO := HO6.out.sets (actC 5 M.pc 0 0 0 0 0) 0
 rw [splice_all (actC 5 M.pc 0 0 0 0 0) (actC 0 0 0 0 0 0 0) rfl] at hO
 have hG := grown_sets w.heap.size (actC 5 M.pc 0 0 0 0 0) w6 0
 exact act_ret rfl rfl hO ⟨rfl, (hBV.trans (hb6.mono (by omega))).trans (grown_to_below hG (Nat.le_refl _) (hBV.trans (hb6.mono (by omega))).size)⟩
set_option maxHeartbeats 800000 in
theorem mstep_over {cb co ccap : Nat} {xs : List In} (w : World) (h : Ma w b sb vm (.slice (some ⟨cb, co, none⟩) xs.length ccap) ev M) (hx : SeesI w (.slice (some ⟨cb, co, none⟩) xs.length ccap) xs) (hp : M.pc < xs.length) (hm : M.mode = 2) (ha : 0 <= (nth xs M.pc).a /\ (nth xs M.pc).a <= 7) {n : Int} (hn : Hid (regV M.regs (nth xs M.pc).a = n)) :
  Calls Tryz.prog 23 #[.pointer (some ⟨b, 0, none⟩)] w fun e w' => e = .returned (actV 6 M.pc 0 0 0 0 n) /\ Below w.heap.size w w' := by
 have hlt := h.hp.lt
 have c9 := h.last.2.2
 rw [hm] at c9
 obtain ⟨V, HV, HmV, HoV, hBV, hzV⟩ := boxO h
 have HXV := keepJ (hx.below hBV)
 clear hx
 go_enter Tryz.func23, Tryz.ntmps23
 go_wp2_with (first
  | (go_at_call 39; rw [HV.out]; go_must (refine (mresult_any V HmV.out HXV.out hp ha hn).mono ?_); rintro e w5 ⟨rfl, hb5⟩; go_must (have HM5 := keepJ (HmV.out.below hb5 HmV.out.hp.lt); have hz5 := hb5.size))
  | (go_at_call 38; go_must (refine (mtold_any 6 n w5 HM5.out).mono ?_); rintro e w6 ⟨rfl, hb6⟩; go_must (have HO6 := keepJ ((HoV.out.below hb5 HoV.out.lt).below hb6 (by omega)); (have o0 := HO6.out.cell (j := 0) rfl); (have o1 := HO6.out.cell (j := 1) rfl); (have o2 := HO6.out.cell (j := 2) rfl); (have o3 := HO6.out.cell (j := 3) rfl); (have o4 := HO6.out.cell (j := 4) rfl); (have o5 := HO6.out.cell (j := 5) rfl); (have o6 := HO6.out.cell (j := 6) rfl); (have q0 := HO6.out.frozen 0); (have q1 := HO6.out.frozen 1); (have q2 := HO6.out.frozen 2); (have q3 := HO6.out.frozen 3); (have q4 := HO6.out.frozen 4); (have q5 := HO6.out.frozen 5); (have q6 := HO6.out.frozen 6);  skip)))
 have hO := HO6.out.sets (actC 6 M.pc 0 0 0 0 n) 0
 rw [splice_all (actC 6 M.pc 0 0 0 0 n) (actC 0 0 0 0 0 0 0) rfl] at hO
 have hG := grown_sets w.heap.size (actC 6 M.pc 0 0 0 0 n) w6 0
 have hB6 := (hBV.trans (hb5.mono (by omega))).trans (hb6.mono (show w.heap.size <= w5.heap.size by omega))
 exact act_ret rfl rfl hO ⟨rfl, hB6.trans (grown_to_below hG (Nat.le_refl _) hB6.size)⟩
end
end Go.Proofs.YtkondcjmhlppiaaGreat
