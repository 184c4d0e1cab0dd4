
/-
 The landed machine's turn. Condition: it lies at a block that is known whole.
-/
import Derived.Test.YtbmjanejecfjmaaGreatMP31
import Derived.Test.YtbmjanejecfjmaaGreatMP32
namespace Go.Proofs.YtbmjanejecfjmaaGreat
open Go.RowKit
set_option linter.unusedVariables false
set_option linter.unusedSimpArgs false
set_option maxRecDepth 100000
section
variable {b sb : Nat} {vm vc : Value} {ev : Int × Int} {M : Mc}
set_option maxHeartbeats 6400000 in
theorem mturn_any (d a bb imm : Int) (w : World) (h : Ma w b sb vm vc ev M) (hd : 0 <= d /\ d <= 63) (ha : 0 <= a /\ a <= 7) (hi : 1 <= imm /\ imm <= 255) (ht : 0 <= M.turn M.pc /\ M.turn M.pc <= 255) {p : Int} (HP : Hid ((if goesE ⟨20, d, a, bb, imm⟩ M = true then (M.pc : Int) - d else (M.pc : Int) + 1) = p)) :
  Calls Tryz.prog 73 #[.pointer (some ⟨b, 0, none⟩), instV 20 d a bb imm] w fun e w' => e = .returned (.int .i64 p) /\ w.grownBy w' (some b) /\ Ma w' b sb vm vc ev { M with turn := turnE ⟨20, d, a, bb, imm⟩ M } := by
 obtain ⟨Z, HZ, hBZ, hzZ, HR, x0, x1, x2, x3, x4⟩ := boxL h 20 d a bb imm
 obtain ⟨k, rfl⟩ := Int.eq_ofNat_of_zero_le ha.1
 have hk : k < 8 := by omega
 have hkI : (k : Int) < 8 := by omega
 have hpI : (M.pc : Int) < 64 := by have := h.pc; omega
 have hp64 : (M.pc : Int) <= 100 := by omega
 obtain ⟨hd0, hd1⟩ := hd
 have hlt := h.hp.lt
 have hltZ := HR.out.hp.lt
 have hwb : w.heap.size ≠ b := by omega
 have c2 := HR.out.last.1
 have c3 := HR.out.reg hk
 have c4 := HR.out.turn
 obtain ⟨x, HX⟩ : ∃ x, Hid (M.regs.getD k 0 = x) := ⟨_, rfl⟩
 obtain ⟨t, HT⟩ : ∃ t, Hid (M.turn M.pc = t) := ⟨_, rfl⟩
 rw [HX.out] at c3
 rw [HT.out] at c4 ht
 obtain ⟨ht0, ht1⟩ := ht
 have hx : 0 <= x /\ x <= 18446744073709551615 := by rw [<- HX.out]; exact h.wr.2 k hk
 have f0 := HR.out.hp.frozen (13 + M.pc)
 have HG : Hid (goesE ⟨20, d, k, bb, imm⟩ M = (decide (0 < x) && decide (t < imm))) := by
  show _ = _
  unfold goesE
  rw [if_neg (by simp), if_pos rfl]
  show decide (0 < M.regs.getD k 0 /\ M.turn M.pc < imm) = _
  simp only [HX.out, HT.out, Bool.decide_and]
 have HU : Hid (turnE ⟨20, d, k, bb, imm⟩ M = fun u : Int => if u = M.pc then (if goesE ⟨20, d, k, bb, imm⟩ M = true then t + 1 else 0) else M.turn u) := by
  show _ = _
  unfold turnE
  rw [if_pos rfl, HT.out]
 have HS : Hid (∀ v : Int, Ma (Z.setCell ⟨b, 13 + M.pc, none⟩ (.int .i64 v)) b sb vm vc ev { M with turn := fun u : Int => if u = M.pc then v else M.turn u }) := fun v => HR.out.setT v
 have HGr : Hid (∀ v : Int, w.grownBy (Z.setCell ⟨b, 13 + M.pc, none⟩ (.int .i64 v)) (some b)) := fun v => qAv (qAu hBZ _) (qAj Z b (13 + M.pc) _)
 have HWR : Hid (IntKind.i64.wrap (t + 1) = t + 1) := by show _ = _; rw [IntKind.wrap_i64]; omega
 have HKS : Hid (∀ v : Int, (Z.setCell ⟨b, 13 + M.pc, none⟩ (.int .i64 v)).cell? ⟨b, 77, none⟩ = some (.int .i64 M.pc)) := fun v => (HS.out v).last.1
 have HKD : Hid (∀ v : Int, (Z.setCell ⟨b, 13 + M.pc, none⟩ (.int .i64 v)).cell? ⟨w.heap.size, 1, none⟩ = some (.int .i64 d)) := fun v => (qAf (qAj Z b (13 + M.pc) (.int .i64 v)) (by omega) hwb).trans x1
 by_cases hx0 : 0 < x
 ·have hxne : ¬ x = 0 := by omega
  have hx1 : (x == 0) = false := by simpa using hxne
  have hx2 : (x != 0) = true := by simpa using hxne
  by_cases hti : t < imm
  ·have HG1 : Hid (goesE ⟨20, d, k, bb, imm⟩ M = true) := by show _ = _; rw [HG.out, decide_eq_true hx0, decide_eq_true hti]; rfl
   rw [HG1.out, if_pos rfl] at HP
   rw [HU.out, HG1.out, <- HP.out]
   go_enter Tryz.func73, Tryz.ntmps73
   go_wp2
   rw [<- HZ.out]
   go_region
   go_wp2
   refine wp_region_held_drew (S := fun w' => w'.cell? ⟨b, 77, none⟩ = some (.int .i64 M.pc)) (by kernel_rfl) c2 (fun hHeld => ?_)
   refine wpAnyH_take (i := 0) (v := ?v1) rfl (by kernel_rfl) (by kernel_rfl) (by kernel_rfl) (fun _ _ _ h => h) (Or.inl ⟨by rfl, ?hy1⟩) (by assumption) ?rest1
   case hy1 => (intro wy hSw; (try dsimp only at hSw); go_simp; (first | done | with_reducible rfl))
   try simp only [Act.put, p1q, p2q, p3q, p4q, p5q, p6q]
   refine wpAnyH_take (i := 1) (v := ?v2) rfl (by kernel_rfl) (by kernel_rfl) (by kernel_rfl) (fun _ _ _ h => h) (Or.inl ⟨by rfl, ?hy2⟩) (by assumption) ?rest2
   case hy2 => (intro wy hSw; (try dsimp only at hSw); go_simp; (first | done | with_reducible rfl))
   try simp only [Act.put, p1q, p2q, p3q, p4q, p5q, p6q]
   refine wpAnyH_take (i := 2) (v := ?v3) rfl (by kernel_rfl) (by kernel_rfl) (by kernel_rfl) (fun _ _ _ h => h) (Or.inl ⟨by rfl, ?hy3⟩) (by assumption) ?rest3
   case hy3 => (intro wy hSw; (try dsimp only at hSw); go_simp; (first | done | with_reducible rfl))
   try simp only [Act.put, p1q, p2q, p3q, p4q, p5q, p6q]
   refine wpAnyH_take (i := 3) (v := ?v4) rfl (by kernel_rfl) (by kernel_rfl) (by kernel_rfl) (fun _ _ _ h => h) (Or.inl ⟨by rfl, ?hy4⟩) (by assumption) ?rest4
   case hy4 => (intro wy hSw; (try dsimp only at hSw); go_simp; (first | done | with_reducible rfl))
   try simp only [Act.put, p1q, p2q, p3q, p4q, p5q, p6q]
   refine wpAnyH_take (i := 4) (v := ?v5) rfl (by kernel_rfl) (by kernel_rfl) (by kernel_rfl) (fun _ _ _ h => h) (Or.inl ⟨by rfl, ?hy5⟩) (by assumption) ?rest5
   case hy5 => (intro wy hSw; (try dsimp only at hSw); go_simp; (first | done | with_reducible rfl))
   try simp only [Act.put, p1q, p2q, p3q, p4q, p5q, p6q]
   refine wpAnyH_take (i := 5) (v := ?v6) rfl (by kernel_rfl) (by kernel_rfl) (by kernel_rfl) (fun _ _ _ h => h) (Or.inl ⟨by rfl, ?hy6⟩) (by assumption) ?rest6
   case hy6 => (intro wy hSw; (try dsimp only at hSw); go_simp; (first | done | with_reducible rfl))
   try simp only [Act.put, p1q, p2q, p3q, p4q, p5q, p6q]
   refine wpAnyH_take (i := 6) (v := ?v7) rfl (by kernel_rfl) (by kernel_rfl) (by kernel_rfl) (fun _ _ _ h => h) (Or.inl ⟨by rfl, ?hy7⟩) (by assumption) ?rest7
   case hy7 => (intro wy hSw; (try dsimp only at hSw); go_simp; (first | done | with_reducible rfl))
   try simp only [Act.put, p1q, p2q, p3q, p4q, p5q, p6q]
   refine wpAnyH_take (i := 7) (v := ?v8) rfl (by kernel_rfl) (by kernel_rfl) (by kernel_rfl) (fun _ _ _ h => h) (Or.inl ⟨by rfl, ?hy8⟩) (by assumption) ?rest8
   case hy8 => (intro wy hSw; (try dsimp only at hSw); go_simp; (first | done | with_reducible rfl))
   try simp only [Act.put, p1q, p2q, p3q, p4q, p5q, p6q]
   refine wpAnyH_take (i := 10) (v := ?v9) rfl (by kernel_rfl) (by kernel_rfl) (by kernel_rfl) (fun _ _ _ h => h) (Or.inl ⟨by rfl, ?hy9⟩) (by assumption) ?rest9
   case hy9 => (intro wy hSw; (try dsimp only at hSw); go_simp; (first | done | with_reducible rfl))
   try simp only [Act.put, p1q, p2q, p3q, p4q, p5q, p6q]
   refine wpAnyH_take (i := 11) (v := ?v10) rfl (by kernel_rfl) (by kernel_rfl) (by kernel_rfl) (fun _ _ _ h => h) (Or.inl ⟨by rfl, ?hy10⟩) (by assumption) ?rest10
   case hy10 => (intro wy hSw; (try dsimp only at hSw); go_simp; (first | done | with_reducible rfl))
   try simp only [Act.put, p1q, p2q, p3q, p4q, p5q, p6q]
   refine wpAnyH_ready (rs := [8]) (by kernel_rfl) (by simp) ?_
   refine AllReadyH.cons rfl (fun KK hK => ?_) AllReadyH.nil
   rw [if_pos (by rfl)]
   go_simp
   refine hK.out _ _ c2 (fun hHeld => ?_)
   clear hK KK
   try simp only [Act.put, p1q, p2q, p3q, p4q, p5q, p6q]
   refine wpAnyH_take (i := 9) (v := ?v11) rfl (by kernel_rfl) (by kernel_rfl) (by kernel_rfl) (fun _ _ _ h => h) (Or.inl ⟨by rfl, ?hy11⟩) (by assumption) ?rest11
   case hy11 => (intro wy hSw; (try dsimp only at hSw); go_simp; (first | done | with_reducible rfl))
   try simp only [Act.put, p1q, p2q, p3q, p4q, p5q, p6q]
   refine wpAnyH_take (i := 12) (v := ?v12) rfl (by kernel_rfl) (by kernel_rfl) (by kernel_rfl) (fun _ _ _ h => h) (Or.inl ⟨by rfl, ?hy12⟩) (by assumption) ?rest12
   case hy12 => (intro wy hSw; (try dsimp only at hSw); go_simp; (first | done | with_reducible rfl))
   try simp only [Act.put, p1q, p2q, p3q, p4q, p5q, p6q]
   refine wpAnyH_ready (rs := [13]) (by kernel_rfl) (by simp) ?_
   refine AllReadyH.cons rfl (fun KK hK => ?_) AllReadyH.nil
   rw [if_pos (by rfl)]
   go_simp
   rw [HWR.out]
   refine hK.out _ _ (HKS.out (t + 1)) (fun hHeld => ?_)
   clear hK KK
   try simp only [Act.put, p1q, p2q, p3q, p4q, p5q, p6q]
   refine wpAnyH_done (by kernel_rfl) ?_ _
   have y7 := HKS.out (t + 1)
   have y1 := HKD.out (t + 1)
   have HS1 := keepJ (HS.out (t + 1))
   have HG2 := keepJ (HGr.out (t + 1))
   obtain ⟨Y, HY⟩ : ∃ Y, Hid (Z.setCell ⟨b, 13 + M.pc, none⟩ (.int .i64 (t + 1)) = Y) := ⟨_, rfl⟩
   rw [HY.out] at y7 y1 HS1 HG2
   try rw [HY.out]
   clear HS HGr HKS HKD
   go_wp2
   go_region
   go_wp2
   go_ret
   exact ⟨rfl, qBm (qBm (qBm HG2.out)), HS1.out.drew.drew.drew⟩
  ·have htI : ¬ t < imm := hti
   have HG1 : Hid (goesE ⟨20, d, k, bb, imm⟩ M = false) := by show _ = _; rw [HG.out, decide_eq_false hti, Bool.and_false]
   rw [HG1.out, if_neg (by simp)] at HP
   rw [HU.out, HG1.out, <- HP.out]
   have hS5 := HKS.out 0
   go_enter Tryz.func73, Tryz.ntmps73
   go_wp2
   rw [<- HZ.out]
   go_region
   go_wp2
   go_region_held3 (fun w' => w'.cell? ⟨b, 77, none⟩ = some (.int .i64 M.pc))
    (first | with_reducible exact c2 | exact hS5 | exact c2)
    (fail)
   have y7 := HKS.out 0
   have HS1 := keepJ (HS.out 0)
   have HG2 := keepJ (HGr.out 0)
   obtain ⟨Y, HY⟩ : ∃ Y, Hid (Z.setCell ⟨b, 13 + M.pc, none⟩ (.int .i64 0) = Y) := ⟨_, rfl⟩
   rw [HY.out] at y7 HS1 HG2
   try rw [HY.out]
   clear HS HGr HKS HKD hS5
   go_wp2
   go_ret
   exact ⟨rfl, qBm (qBm HG2.out), HS1.out.drew.drew⟩
 ·obtain rfl : x = 0 := by omega
  have HG1 : Hid (goesE ⟨20, d, k, bb, imm⟩ M = false) := by show _ = _; rw [HG.out, decide_eq_false hx0, Bool.false_and]
  rw [HG1.out, if_neg (by simp)] at HP
  rw [HU.out, HG1.out, <- HP.out]
  have hS5 := HKS.out 0
  go_enter Tryz.func73, Tryz.ntmps73
  go_wp2
  rw [<- HZ.out]
  go_region
  go_wp2
  go_region_held3 (fun w' => w'.cell? ⟨b, 77, none⟩ = some (.int .i64 M.pc))
   (first | with_reducible exact c2 | exact hS5 | exact c2)
   (fail)
  have y7 := HKS.out 0
  have HS1 := keepJ (HS.out 0)
  have HG2 := keepJ (HGr.out 0)
  obtain ⟨Y, HY⟩ : ∃ Y, Hid (Z.setCell ⟨b, 13 + M.pc, none⟩ (.int .i64 0) = Y) := ⟨_, rfl⟩
  rw [HY.out] at y7 HS1 HG2
  try rw [HY.out]
  clear HS HGr HKS HKD hS5
  go_wp2
  go_ret
  exact ⟨rfl, qBm (qBm HG2.out), HS1.out.drew.drew⟩
set_option maxHeartbeats 3200000 in
theorem mnext_jump (d a bb imm : Int) (w : World) (h : Ma w b sb vm vc ev M) (hd : 0 <= d /\ d <= 63) :
  Calls Tryz.prog 44 #[.pointer (some ⟨b, 0, none⟩), instV 15 d a bb imm] w fun e w' => e = .returned (.int .i64 ((M.pc : Int) + 1 + d)) /\ Below w.heap.size w w' := by
 obtain ⟨Z, HZ, hBZ, hzZ, HR, x0, x1, x2, x3, x4⟩ := boxL h 15 d a bb imm
 have hpI : (M.pc : Int) < 64 := by have := h.pc; omega
 have hp64 : (M.pc : Int) <= 100 := by omega
 obtain ⟨hd0, hd1⟩ := hd
 have c2 := HR.out.last.1
 have hlt := h.hp.lt
 go_enter Tryz.func44, Tryz.ntmps44
 go_wp2
 rw [<- HZ.out]
 go_region
 go_wp2
 go_ret
 exact ⟨rfl, qAr hBZ⟩
set_option maxHeartbeats 3200000 in
theorem mnext_loop (d a bb imm : Int) (w : World) (h : Ma w b sb vm vc ev M) (hd : 0 <= d /\ d <= 63) (ha : 0 <= a /\ a <= 7) (hi : 1 <= imm /\ imm <= 255) (ht : 0 <= M.turn M.pc /\ M.turn M.pc <= 255) {p : Int} (HP : Hid ((if goesE ⟨20, d, a, bb, imm⟩ M = true then (M.pc : Int) - d else (M.pc : Int) + 1) = p)) :
  Calls Tryz.prog 44 #[.pointer (some ⟨b, 0, none⟩), instV 20 d a bb imm] w fun e w' => e = .returned (.int .i64 p) /\ w.grownBy w' (some b) /\ Ma w' b sb vm vc ev { M with turn := turnE ⟨20, d, a, bb, imm⟩ M } := by
 obtain ⟨Z, HZ, hBZ, hzZ, HR, x0, x1, x2, x3, x4⟩ := boxL h 20 d a bb imm
 have hlt := h.hp.lt
 go_enter Tryz.func44, Tryz.ntmps44
 go_wp2_with (go_at_call 73; rw [<- HZ.out]; go_must (refine (mturn_any d a bb imm Z HR.out hd ha hi ht HP).mono ?_); rintro e w4 ⟨rfl, hg4, hm4⟩)
 go_ret
 exact ⟨rfl, qAv (qAu hBZ _) hg4, hm4⟩
set_option maxHeartbeats 3200000 in
theorem mnext_cond (op d a bb imm : Int) (w : World) (h : Ma w b sb vm vc ev M) (h15 : (op == 15) = false) (h20 : (op == 20) = false) (ha : 0 <= a /\ a <= 7) (hb : bb = 8 ∨ (0 <= bb /\ bb <= 7)) {r : Bool} (hr : Hid (holdL op (regV M.regs a) (srcV ⟨op, d, a, bb, imm⟩ M.regs) = r)) (hd : r = true -> 0 <= d /\ d <= 63) {p : Int} (HP : Hid ((if r = true then (M.pc : Int) + 1 + d else (M.pc : Int) + 1) = p)) :
  Calls Tryz.prog 44 #[.pointer (some ⟨b, 0, none⟩), instV op d a bb imm] w fun e w' => e = .returned (.int .i64 p) /\ Below w.heap.size w w' := by
 obtain ⟨Z, HZ, hBZ, hzZ, HR, x0, x1, x2, x3, x4⟩ := boxL h op d a bb imm
 obtain ⟨k, rfl⟩ := Int.eq_ofNat_of_zero_le ha.1
 have hk : k < 8 := by omega
 have hkI : (k : Int) < 8 := by omega
 have hpI : (M.pc : Int) < 64 := by have := h.pc; omega
 have hp64 : (M.pc : Int) <= 100 := by omega
 obtain ⟨x, HX⟩ : ∃ x, Hid (M.regs.getD k 0 = x) := ⟨_, rfl⟩
 obtain ⟨y, HY⟩ : ∃ y, Hid (srcV ⟨op, d, k, bb, imm⟩ M.regs = y) := ⟨_, rfl⟩
 have hx : 0 <= x /\ x <= 18446744073709551615 := by rw [<- HX.out]; exact h.wr.2 k hk
 have hy : 0 <= y /\ y <= 18446744073709551615 := by rw [<- HY.out]; exact srcV_in h.wr hb
 have HH : Hid (r = holdL op x y) := by
  show _ = _
  rw [<- hr.out, <- HX.out, <- HY.out]
  rfl
 obtain ⟨c, HC⟩ : ∃ c, Hid (c = isCond op) := ⟨_, rfl⟩
 have hlt := h.hp.lt
 have hltZ := HR.out.hp.lt
 have HKP : Hid (∀ wx : World, Below Z.heap.size Z wx -> wx.cell? ⟨b, 5 + k, none⟩ = some (.int .u64 x) /\ wx.cell? ⟨b, 77, none⟩ = some (.int .i64 M.pc) /\ wx.cell? ⟨w.heap.size, 0, none⟩ = some (.int .i64 op) /\ wx.cell? ⟨w.heap.size, 1, none⟩ = some (.int .i64 d) /\ wx.cell? ⟨w.heap.size, 2, none⟩ = some (.int .i64 k) /\ wx.cell? ⟨w.heap.size, 3, none⟩ = some (.int .i64 bb) /\ wx.cell? ⟨w.heap.size, 4, none⟩ = some (.int .i64 imm)) := fun wx hb => by
  have hc := (HR.out.below hb hltZ).reg hk
  rw [HX.out] at hc
  exact ⟨hc, (HR.out.below hb hltZ).last.1, (hb.cell (p := ⟨w.heap.size, 0, none⟩) (show w.heap.size < Z.heap.size by omega)).trans x0, (hb.cell (p := ⟨w.heap.size, 1, none⟩) (show w.heap.size < Z.heap.size by omega)).trans x1, (hb.cell (p := ⟨w.heap.size, 2, none⟩) (show w.heap.size < Z.heap.size by omega)).trans x2, (hb.cell (p := ⟨w.heap.size, 3, none⟩) (show w.heap.size < Z.heap.size by omega)).trans x3, (hb.cell (p := ⟨w.heap.size, 4, none⟩) (show w.heap.size < Z.heap.size by omega)).trans x4⟩
 clear hr
 cases r with
 | true =>
  obtain ⟨hd0, hd1⟩ := hd rfl
  rw [if_pos rfl] at HP
  rw [<- HP.out]
  go_enter Tryz.func44, Tryz.ntmps44
  go_wp2
  rw [<- HZ.out]
  clear x0 x1 x2 x3 x4
  go_region_held3 (fun w' => w'.cell? ⟨b, 5 + k, none⟩ = some (.int .u64 x) /\ w'.cell? ⟨b, 77, none⟩ = some (.int .i64 M.pc) /\ w'.cell? ⟨w.heap.size, 0, none⟩ = some (.int .i64 op) /\ w'.cell? ⟨w.heap.size, 1, none⟩ = some (.int .i64 d) /\ w'.cell? ⟨w.heap.size, 2, none⟩ = some (.int .i64 k) /\ w'.cell? ⟨w.heap.size, 3, none⟩ = some (.int .i64 bb) /\ w'.cell? ⟨w.heap.size, 4, none⟩ = some (.int .i64 imm))
   (first | with_reducible exact hS4 | exact HKP.out Z (Below.refl _ _))
   (first
    | (go_at_call 69; go_must (refine (qBy ⟨op, d, k, bb, imm⟩ Z.drew HR.out.drew hb HY).mono ?_); rintro e w4 ⟨rfl, hb4'⟩; go_must (have hb4 : Below Z.heap.size Z w4 := qAk hb4'; have hS4 := HKP.out w4 hb4; have hB4 : Below w.heap.size w w4 := hBZ.trans (hb4.mono hBZ.size); clear hb4'))
    | (go_at_call 74; go_must (refine (holds_as HH HC _ hx hy).mono ?_); rintro e w5 ⟨rfl, rfl⟩))
  obtain ⟨s0, s1, s2, s3, s4, s5, s6⟩ := hS4
  go_wp2
  go_region
  go_wp2
  go_ret
  exact ⟨rfl, qAr hB4⟩
 | false =>
  rw [if_neg (by simp)] at HP
  rw [<- HP.out]
  clear hd
  go_enter Tryz.func44, Tryz.ntmps44
  go_wp2
  rw [<- HZ.out]
  clear x0 x1 x2 x3 x4
  go_region_held3 (fun w' => w'.cell? ⟨b, 5 + k, none⟩ = some (.int .u64 x) /\ w'.cell? ⟨b, 77, none⟩ = some (.int .i64 M.pc) /\ w'.cell? ⟨w.heap.size, 0, none⟩ = some (.int .i64 op) /\ w'.cell? ⟨w.heap.size, 1, none⟩ = some (.int .i64 d) /\ w'.cell? ⟨w.heap.size, 2, none⟩ = some (.int .i64 k) /\ w'.cell? ⟨w.heap.size, 3, none⟩ = some (.int .i64 bb) /\ w'.cell? ⟨w.heap.size, 4, none⟩ = some (.int .i64 imm))
   (first | with_reducible exact hS4 | exact HKP.out Z (Below.refl _ _))
   (first
    | (go_at_call 69; go_must (refine (qBy ⟨op, d, k, bb, imm⟩ Z.drew HR.out.drew hb HY).mono ?_); rintro e w4 ⟨rfl, hb4'⟩; go_must (have hb4 : Below Z.heap.size Z w4 := qAk hb4'; have hS4 := HKP.out w4 hb4; have hB4 : Below w.heap.size w w4 := hBZ.trans (hb4.mono hBZ.size); clear hb4'))
    | (go_at_call 74; go_must (refine (holds_as HH HC _ hx hy).mono ?_); rintro e w5 ⟨rfl, rfl⟩))
  obtain ⟨s0, s1, s2, s3, s4, s5, s6⟩ := hS4
  go_wp2
  go_ret
  exact ⟨rfl, hB4⟩
end
end Go.Proofs.YtbmjanejecfjmaaGreat
