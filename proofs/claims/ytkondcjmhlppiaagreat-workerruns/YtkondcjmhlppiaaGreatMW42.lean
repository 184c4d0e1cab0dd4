/-
  E11LStepC
  E11LStepE
  E11LStepR
-/
import Derived.Test.YtkondcjmhlppiaaGreatMW0
import Derived.Test.YtkondcjmhlppiaaGreatMW41
namespace Go.Proofs.YtkondcjmhlppiaaGreat
open Go.RowKit
set_option linter.unusedVariables false
set_option linter.unusedSimpArgs false
set_option maxRecDepth 100000
section
variable {b sb : Nat} {vm : Value} {ev : Int × Int} {M : Mc}
set_option maxHeartbeats 3200000 in
theorem mstep_call {cb co ccap : Nat} {xs : List In} (w : World) (h : Ma w b sb vm (.slice (some ⟨cb, co, none⟩) xs.length ccap) ev M) (hx : SeesI w (.slice (some ⟨cb, co, none⟩) xs.length ccap) xs) (hp : M.pc < xs.length) (hm : M.mode = 0) (hst : M.steps <= 1000) (hcb' : cb ≠ b) {op d a bb imm : Int} (HI : Hid (nth xs M.pc = ⟨op, d, a, bb, imm⟩)) (ho : op = 21) (hi : 0 <= imm /\ imm <= 6) {ak apc am ao aq av an : Int} {Q : World -> Prop}
  (HC : Hid (∀ U : World, Ma U b sb vm (.slice (some ⟨cb, co, none⟩) xs.length ccap) ev { M with steps := M.steps + 1 } -> Chg w U (fun k => k = b) -> Calls Tryz.prog 40 #[.pointer (some ⟨b, 0, none⟩), .int .i64 imm] U fun e w' => e = .returned (actV ak apc am ao aq av an) /\ Chg U w' (fun k => k = b ∨ k = sb) /\ Q w')) (hsb : sb < w.heap.size) :
  Calls Tryz.prog 23 #[.pointer (some ⟨b, 0, none⟩)] w fun e w' => e = .returned (actV ak apc am ao aq av an) /\ Chg w w' (fun k => k = b ∨ k = sb) /\ ∃ w5, Q w5 /\ w5.grownBy w' (some w.heap.size) := by
 have o21 : (op == 21) = true := by simp [ho]
 clear ho
 have hwi : IntKind.i64.wrap imm = imm := by rw [IntKind.wrap_i64]; omega
 have hlt := h.hp.lt
 have hpI : (M.pc : Int) < xs.length := by omega
 have hp64 : (M.pc : Int) <= 100 := by have := h.pc; omega
 have hstI : (M.steps : Int) <= 1000 := by omega
 obtain ⟨hat, hcb, hcc, hcm⟩ := codeL hx hp
 rw [HI.out] at hat
 obtain ⟨k0, k1, k2, k3, k4⟩ := hat
 simp only at k0 k1 k2 k3 k4
 have HX := keepJ hx
 clear hx
 have c9 := h.last.2.2
 have c8 := h.last.2.1
 have f8 := h.hp.frozen 78
 rw [hm] at c9
 have hn0 : w.heap.size ≠ b := by omega
 obtain ⟨V, HV, HmV, HoV, HcV, hzV⟩ : ∃ V, Hid ((w.setCell ⟨b, 78, none⟩ (.int .i64 ((M.steps : Int) + 1))).alloc (.cells #[.int .i64 0, .int .i64 0, .int .i64 0, .int .i64 0, .int .u64 0, .int .u64 0, .int .u64 0] 71) = V) /\ Hid (Ma V b sb vm (.slice (some ⟨cb, co, none⟩) xs.length ccap) ev { M with steps := M.steps + 1 }) /\ Hid (Hp V w.heap.size 71 (actC 0 0 0 0 0 0 0)) /\ Hid (Chg w V (fun k => k = b)) /\ V.heap.size = w.heap.size + 1 := by
  have hsz : (w.setCell ⟨b, 78, none⟩ (.int .i64 ((M.steps : Int) + 1))).heap.size = w.heap.size := by simp [World.setCell]
  have hB := (Below.refl (w.setCell ⟨b, 78, none⟩ (.int .i64 ((M.steps : Int) + 1))).heap.size (w.setCell ⟨b, 78, none⟩ (.int .i64 ((M.steps : Int) + 1)))).alloc (Nat.le_refl _) (.cells #[.int .i64 0, .int .i64 0, .int .i64 0, .int .i64 0, .int .u64 0, .int .u64 0, .int .u64 0] 71)
  have hN := Hp.new (w.setCell ⟨b, 78, none⟩ (.int .i64 ((M.steps : Int) + 1))) (actC 0 0 0 0 0 0 0) 71
  rw [hsz] at hN
  have hM := h.setN (M.steps + 1)
  rw [show ((M.steps + 1 : Nat) : Int) = (M.steps : Int) + 1 by omega] at hM
  exact ⟨_, rfl, hM.below hB (by rw [hsz]; exact hlt), hN, (Chg.of_grown (S := fun k => k = b) (grown_set w b 78 _) rfl).trans (Chg.of_below (S := fun _ => False) hB) (fun _ _ e => e.elim), by simp [hsz]⟩
 have HKV : Hid (∀ wx : World, Below V.heap.size V wx -> wx.cell? ⟨b, 3, none⟩ = some (.slice (some ⟨cb, co, none⟩) xs.length ccap) /\ wx.cell? ⟨b, 77, none⟩ = some (.int .i64 M.pc) /\ wx.cell? ⟨cb, co + M.pc * 5, none⟩ = some (.int .i64 op) /\ wx.cell? ⟨cb, co + M.pc * 5 + 1, none⟩ = some (.int .i64 d) /\ wx.cell? ⟨cb, co + M.pc * 5 + 2, none⟩ = some (.int .i64 a) /\ wx.cell? ⟨cb, co + M.pc * 5 + 3, none⟩ = some (.int .i64 bb) /\ wx.cell? ⟨cb, co + M.pc * 5 + 4, none⟩ = some (.int .i64 imm)) := fun wx hb => by
  have cc : ∀ {j : Nat} {u : Value}, w.cell? ⟨cb, j, none⟩ = some u -> wx.cell? ⟨cb, j, none⟩ = some u := fun {j u} e => (hb.cell (p := ⟨cb, j, none⟩) (show cb < V.heap.size by omega)).trans ((HcV.out.cellL hcb hcb').trans e)
  exact ⟨(HmV.out.below hb HmV.out.hp.lt).low.2.2.2.1, (HmV.out.below hb HmV.out.hp.lt).last.1, cc k0, cc k1, cc k2, cc k3, cc k4⟩
 clear k0 k1 k2 k3 k4
 go_enter Tryz.func23, Tryz.ntmps23
 go_wp2
 rw [HV.out]
 refine wp_region_held_drew (S := fun w' => w'.cell? ⟨b, 3, none⟩ = some (.slice (some ⟨cb, co, none⟩) xs.length ccap) /\ w'.cell? ⟨b, 77, none⟩ = some (.int .i64 M.pc) /\ w'.cell? ⟨cb, co + M.pc * 5, none⟩ = some (.int .i64 op) /\ w'.cell? ⟨cb, co + M.pc * 5 + 1, none⟩ = some (.int .i64 d) /\ w'.cell? ⟨cb, co + M.pc * 5 + 2, none⟩ = some (.int .i64 a) /\ w'.cell? ⟨cb, co + M.pc * 5 + 3, none⟩ = some (.int .i64 bb) /\ w'.cell? ⟨cb, co + M.pc * 5 + 4, none⟩ = some (.int .i64 imm)) (by kernel_rfl) (HKV.out _ (below_drE (Below.refl _ _))) (fun hHeld => ?_)
 refine tkGo [0, 1, 2, 3, 4, 5, 6, 7, 8, 9] ?_
 repeat (refine tkO (v := ?_) rfl ?_ ?_; rotate_left; (intro wy hSw; (try dsimp only at hSw); go_simp; (first | done | with_reducible rfl)); try simp only [Act.put, p1q, p2q, p3q, p4q, p5q, p6q])
 refine tkEnd ?_
 refine runO 10 (by kernel_rfl) rfl (by rfl) (fun KK hK => ?_)
 go_simp
 obtain ⟨Y, HY, hBY, HoY, HiY, hzY⟩ : ∃ Y, Hid (V.alloc (.cells #[.int .i64 0, .int .i64 0, .int .i64 0, .int .i64 0, .int .i64 0] 60) = Y) /\ Below V.heap.size V Y /\ Hid (Hp Y w.heap.size 71 (actC 0 0 0 0 0 0 0)) /\ Hid (Hp Y (w.heap.size + 1) 60 [.int .i64 0, .int .i64 0, .int .i64 0, .int .i64 0, .int .i64 0]) /\ Y.heap.size = w.heap.size + 2 :=
  ⟨_, rfl, (Below.refl _ _).alloc (Nat.le_refl _) _, HoV.out.alloc _, by have := Hp.new V [.int .i64 0, .int .i64 0, .int .i64 0, .int .i64 0, .int .i64 0] 60; rw [hzV] at this; exact this, by simp [hzV]⟩
 try rw [hzV]
 rw [HY.out]
 refine hK.out _ _ (HKV.out _ (below_drE hBY)) (fun hHeld => ?_)
 clear hK KK
 try simp only [Act.put, p1q, p2q, p3q, p4q, p5q, p6q]
 have a0 := HiY.out.cell (j := 0) rfl
 have q0 := HiY.out.frozen 0
 have a1 := HiY.out.cell (j := 1) rfl
 have q1 := HiY.out.frozen 1
 have a2 := HiY.out.cell (j := 2) rfl
 have q2 := HiY.out.frozen 2
 have a3 := HiY.out.cell (j := 3) rfl
 have q3 := HiY.out.frozen 3
 have a4 := HiY.out.cell (j := 4) rfl
 have q4 := HiY.out.frozen 4
 refine runO 11 (by kernel_rfl) rfl (by rfl) (fun KK hK => ?_)
 go_simp
 obtain ⟨U, HU, hBU, HmU, HoU, HiU, hzU⟩ : ∃ U, Hid (((((Y.setCell ⟨w.heap.size + 1, 0, none⟩ (.int .i64 op)).setCell ⟨w.heap.size + 1, 1, none⟩ (.int .i64 d)).setCell ⟨w.heap.size + 1, 2, none⟩ (.int .i64 a)).setCell ⟨w.heap.size + 1, 3, none⟩ (.int .i64 bb)).setCell ⟨w.heap.size + 1, 4, none⟩ (.int .i64 imm) = U) /\ Below V.heap.size V U /\ Hid (Ma U b sb vm (.slice (some ⟨cb, co, none⟩) xs.length ccap) ev { M with steps := M.steps + 1 }) /\ Hid (Hp U w.heap.size 71 (actC 0 0 0 0 0 0 0)) /\ Hid (Hp U (w.heap.size + 1) 60 [.int .i64 op, .int .i64 d, .int .i64 a, .int .i64 bb, .int .i64 imm]) /\ w.heap.size + 2 <= U.heap.size := by
  have hg := grown_sets (w.heap.size + 1) [.int .i64 op, .int .i64 d, .int .i64 a, .int .i64 bb, .int .i64 imm] Y 0
  have hB : Below V.heap.size V (Y.setCells (w.heap.size + 1) 0 [.int .i64 op, .int .i64 d, .int .i64 a, .int .i64 bb, .int .i64 imm]) := hBY.trans (grown_to_below hg (by omega) hBY.size)
  exact ⟨_, rfl, hB, HmV.out.below hB HmV.out.hp.lt, HoY.out.grown hg (fun e => by have := Option.some.inj e; omega), HiY.out.sets [.int .i64 op, .int .i64 d, .int .i64 a, .int .i64 bb, .int .i64 imm] 0, by have := hg.size; show w.heap.size + 2 <= (Y.setCells (w.heap.size + 1) 0 [.int .i64 op, .int .i64 d, .int .i64 a, .int .i64 bb, .int .i64 imm]).heap.size; omega⟩
 rw [HU.out]
 refine hK.out _ _ (HKV.out _ (below_drE hBU)) (fun hHeld => ?_)
 clear hK KK
 try simp only [Act.put, p1q, p2q, p3q, p4q, p5q, p6q]
 refine wpAnyH_done (by kernel_rfl) ?_ _
 clear a0 a1 a2 a3 a4 q0 q1 q2 q3 q4 hHeld
 have HcU := keepJ (HcV.out.trans (Chg.of_below (S := fun _ => False) hBU) (fun _ _ e => e.elim))
 have i0 := HiU.out.cell (j := 0) rfl
 have i1 := HiU.out.cell (j := 1) rfl
 have i2 := HiU.out.cell (j := 2) rfl
 have i3 := HiU.out.cell (j := 3) rfl
 have i4 := HiU.out.cell (j := 4) rfl
 go_wp2_with (go_at_call 40; go_must (refine (HC.out _ HmU.out.drew HcU.out.drewE).mono ?_); rintro e w5 ⟨rfl, hc5, hq5⟩; go_must (have HO6 := keepJ (HoU.out.drew.chg hc5 (fun e => by omega)); (have o0 := HO6.out.cell (j := 0) rfl); (have o1 := HO6.out.cell (j := 1) rfl); (have o2 := HO6.out.cell (j := 2) rfl); (have o3 := HO6.out.cell (j := 3) rfl); (have o4 := HO6.out.cell (j := 4) rfl); (have o5 := HO6.out.cell (j := 5) rfl); (have o6 := HO6.out.cell (j := 6) rfl); (have q0 := HO6.out.frozen 0); (have q1 := HO6.out.frozen 1); (have q2 := HO6.out.frozen 2); (have q3 := HO6.out.frozen 3); (have q4 := HO6.out.frozen 4); (have q5 := HO6.out.frozen 5); (have q6 := HO6.out.frozen 6);  skip))
 have hO := HO6.out.sets (actC ak apc am ao aq av an) 0
 rw [splice_all (actC ak apc am ao aq av an) (actC 0 0 0 0 0 0 0) rfl] at hO
 have hG := grown_sets w.heap.size (actC ak apc am ao aq av an) w5 0
 have hC5 : Chg w w5 (fun k => k = b ∨ k = sb) := (HcU.out.drewE.mono (fun _ e => .inl e)).trans (T := fun k => k = b ∨ k = sb) hc5 (fun _ _ e => e)
 exact act_ret rfl rfl hO ⟨rfl, hC5.trans (Chg.of_grown hG (S := fun k => k = w.heap.size) rfl) (fun k hk e => by omega), w5, hq5, hG⟩
end
theorem SeesI.chg {w w' : World} {cb co ccap n : Nat} {xs : List In} {S : Nat -> Prop} (h : SeesI w (.slice (some ⟨cb, co, none⟩) n ccap) xs) (hc : Chg w w' S) (hS : ¬ S cb) : SeesI w' (.slice (some ⟨cb, co, none⟩) n ccap) xs := by
 obtain ⟨a, cap, e, h1, h2, h3, h4⟩ := h
 refine ⟨a, cap, e, h1, h2, h3, fun hne => ?_⟩
 obtain ⟨b, off, rfl, hlt, hat⟩ := h4 hne
 injection e with e1 e2 e3
 injection e1 with e1
 injection e1 with e1 e4
 subst e1
 subst e4
 refine ⟨_, _, rfl, Nat.lt_of_lt_of_le hlt hc.size, fun k hk => ?_⟩
 have cc : ∀ {j : Nat} {u : Value}, w.cell? ⟨cb, j, none⟩ = some u -> w'.cell? ⟨cb, j, none⟩ = some u := fun {j u} e => (hc.cellL hlt hS).trans e
 obtain ⟨a0, a1, a2, a3, a4⟩ := hat k hk
 exact ⟨cc a0, cc a1, cc a2, cc a3, cc a4⟩
theorem SeesI.drewI {w : World} {v : Value} {xs : List In} (h : SeesI w v xs) : SeesI w.drew v xs := h
section
variable {b sb : Nat} {vm : Value} {ev : Int × Int} {M : Mc}
set_option maxHeartbeats 3200000 in
theorem mstep_exit {cb co ccap : Nat} {xs : List In} (w : World) (h : Ma w b sb vm (.slice (some ⟨cb, co, none⟩) xs.length ccap) ev M) (hx : SeesI w (.slice (some ⟨cb, co, none⟩) xs.length ccap) xs) (hp : M.pc < xs.length) (hm : M.mode = 0) (hst : M.steps <= 1000) (hcb' : cb ≠ b) {op d a bb imm : Int} (HI : Hid (nth xs M.pc = ⟨op, d, a, bb, imm⟩)) (ho : op = 22) (ha : 0 <= a /\ a <= 7) {n : Int} (hn : Hid (regV M.regs a = n)) :
  Calls Tryz.prog 23 #[.pointer (some ⟨b, 0, none⟩)] w fun e w' => e = .returned (actV 4 M.pc 0 0 0 0 n) /\ Chg w w' (fun k => k = b) /\ Ma w' b sb vm (.slice (some ⟨cb, co, none⟩) xs.length ccap) ev { M with steps := M.steps + 1, mode := 2 } := by
 have o21 : (op == 21) = false := by simp; omega
 have o22 : (op == 22) = true := by simp [ho]
 clear ho
 have hlt := h.hp.lt
 have hpI : (M.pc : Int) < xs.length := by omega
 have hp64 : (M.pc : Int) <= 100 := by have := h.pc; omega
 have hstI : (M.steps : Int) <= 1000 := by omega
 obtain ⟨hat, hcb, hcc, hcm⟩ := codeL hx hp
 rw [HI.out] at hat
 obtain ⟨k0, k1, k2, k3, k4⟩ := hat
 simp only at k0 k1 k2 k3 k4
 have HX := keepJ hx
 clear hx
 have c9 := h.last.2.2
 have c8 := h.last.2.1
 have f8 := h.hp.frozen 78
 rw [hm] at c9
 have hn0 : w.heap.size ≠ b := by omega
 obtain ⟨V, HV, HmV, HoV, HcV, hzV⟩ : ∃ V, Hid ((w.setCell ⟨b, 78, none⟩ (.int .i64 ((M.steps : Int) + 1))).alloc (.cells #[.int .i64 0, .int .i64 0, .int .i64 0, .int .i64 0, .int .u64 0, .int .u64 0, .int .u64 0] 71) = V) /\ Hid (Ma V b sb vm (.slice (some ⟨cb, co, none⟩) xs.length ccap) ev { M with steps := M.steps + 1 }) /\ Hid (Hp V w.heap.size 71 (actC 0 0 0 0 0 0 0)) /\ Hid (Chg w V (fun k => k = b)) /\ V.heap.size = w.heap.size + 1 := by
  have hsz : (w.setCell ⟨b, 78, none⟩ (.int .i64 ((M.steps : Int) + 1))).heap.size = w.heap.size := by simp [World.setCell]
  have hB := (Below.refl (w.setCell ⟨b, 78, none⟩ (.int .i64 ((M.steps : Int) + 1))).heap.size (w.setCell ⟨b, 78, none⟩ (.int .i64 ((M.steps : Int) + 1)))).alloc (Nat.le_refl _) (.cells #[.int .i64 0, .int .i64 0, .int .i64 0, .int .i64 0, .int .u64 0, .int .u64 0, .int .u64 0] 71)
  have hN := Hp.new (w.setCell ⟨b, 78, none⟩ (.int .i64 ((M.steps : Int) + 1))) (actC 0 0 0 0 0 0 0) 71
  rw [hsz] at hN
  have hM := h.setN (M.steps + 1)
  rw [show ((M.steps + 1 : Nat) : Int) = (M.steps : Int) + 1 by omega] at hM
  exact ⟨_, rfl, hM.below hB (by rw [hsz]; exact hlt), hN, (Chg.of_grown (S := fun k => k = b) (grown_set w b 78 _) rfl).trans (Chg.of_below (S := fun _ => False) hB) (fun _ _ e => e.elim), by simp [hsz]⟩
 have HKV : Hid (∀ wx : World, Below V.heap.size V wx -> wx.cell? ⟨b, 3, none⟩ = some (.slice (some ⟨cb, co, none⟩) xs.length ccap) /\ wx.cell? ⟨b, 77, none⟩ = some (.int .i64 M.pc) /\ wx.cell? ⟨cb, co + M.pc * 5, none⟩ = some (.int .i64 op) /\ wx.cell? ⟨cb, co + M.pc * 5 + 1, none⟩ = some (.int .i64 d) /\ wx.cell? ⟨cb, co + M.pc * 5 + 2, none⟩ = some (.int .i64 a) /\ wx.cell? ⟨cb, co + M.pc * 5 + 3, none⟩ = some (.int .i64 bb) /\ wx.cell? ⟨cb, co + M.pc * 5 + 4, none⟩ = some (.int .i64 imm)) := fun wx hb => by
  have cc : ∀ {j : Nat} {u : Value}, w.cell? ⟨cb, j, none⟩ = some u -> wx.cell? ⟨cb, j, none⟩ = some u := fun {j u} e => (hb.cell (p := ⟨cb, j, none⟩) (show cb < V.heap.size by omega)).trans ((HcV.out.cellL hcb hcb').trans e)
  exact ⟨(HmV.out.below hb HmV.out.hp.lt).low.2.2.2.1, (HmV.out.below hb HmV.out.hp.lt).last.1, cc k0, cc k1, cc k2, cc k3, cc k4⟩
 clear k0 k1 k2 k3 k4
 go_enter Tryz.func23, Tryz.ntmps23
 go_wp2
 rw [HV.out]
 refine wp_region_held_drew (S := fun w' => w'.cell? ⟨b, 3, none⟩ = some (.slice (some ⟨cb, co, none⟩) xs.length ccap) /\ w'.cell? ⟨b, 77, none⟩ = some (.int .i64 M.pc) /\ w'.cell? ⟨cb, co + M.pc * 5, none⟩ = some (.int .i64 op) /\ w'.cell? ⟨cb, co + M.pc * 5 + 1, none⟩ = some (.int .i64 d) /\ w'.cell? ⟨cb, co + M.pc * 5 + 2, none⟩ = some (.int .i64 a) /\ w'.cell? ⟨cb, co + M.pc * 5 + 3, none⟩ = some (.int .i64 bb) /\ w'.cell? ⟨cb, co + M.pc * 5 + 4, none⟩ = some (.int .i64 imm)) (by kernel_rfl) (HKV.out _ (below_drE (Below.refl _ _))) (fun hHeld => ?_)
 refine tkGo [0, 1, 2, 3, 4, 5, 6, 7, 8, 9] ?_
 repeat (refine tkO (v := ?_) rfl ?_ ?_; rotate_left; (intro wy hSw; (try dsimp only at hSw); go_simp; (first | done | with_reducible rfl)); try simp only [Act.put, p1q, p2q, p3q, p4q, p5q, p6q])
 refine tkEnd ?_
 refine runO 10 (by kernel_rfl) rfl (by rfl) (fun KK hK => ?_)
 go_simp
 obtain ⟨Y, HY, hBY, HoY, HiY, hzY⟩ : ∃ Y, Hid (V.alloc (.cells #[.int .i64 0, .int .i64 0, .int .i64 0, .int .i64 0, .int .i64 0] 60) = Y) /\ Below V.heap.size V Y /\ Hid (Hp Y w.heap.size 71 (actC 0 0 0 0 0 0 0)) /\ Hid (Hp Y (w.heap.size + 1) 60 [.int .i64 0, .int .i64 0, .int .i64 0, .int .i64 0, .int .i64 0]) /\ Y.heap.size = w.heap.size + 2 :=
  ⟨_, rfl, (Below.refl _ _).alloc (Nat.le_refl _) _, HoV.out.alloc _, by have := Hp.new V [.int .i64 0, .int .i64 0, .int .i64 0, .int .i64 0, .int .i64 0] 60; rw [hzV] at this; exact this, by simp [hzV]⟩
 try rw [hzV]
 rw [HY.out]
 refine hK.out _ _ (HKV.out _ (below_drE hBY)) (fun hHeld => ?_)
 clear hK KK
 try simp only [Act.put, p1q, p2q, p3q, p4q, p5q, p6q]
 have a0 := HiY.out.cell (j := 0) rfl
 have q0 := HiY.out.frozen 0
 have a1 := HiY.out.cell (j := 1) rfl
 have q1 := HiY.out.frozen 1
 have a2 := HiY.out.cell (j := 2) rfl
 have q2 := HiY.out.frozen 2
 have a3 := HiY.out.cell (j := 3) rfl
 have q3 := HiY.out.frozen 3
 have a4 := HiY.out.cell (j := 4) rfl
 have q4 := HiY.out.frozen 4
 refine runO 11 (by kernel_rfl) rfl (by rfl) (fun KK hK => ?_)
 go_simp
 obtain ⟨U, HU, hBU, HmU, HoU, HiU, hzU⟩ : ∃ U, Hid (((((Y.setCell ⟨w.heap.size + 1, 0, none⟩ (.int .i64 op)).setCell ⟨w.heap.size + 1, 1, none⟩ (.int .i64 d)).setCell ⟨w.heap.size + 1, 2, none⟩ (.int .i64 a)).setCell ⟨w.heap.size + 1, 3, none⟩ (.int .i64 bb)).setCell ⟨w.heap.size + 1, 4, none⟩ (.int .i64 imm) = U) /\ Below V.heap.size V U /\ Hid (Ma U b sb vm (.slice (some ⟨cb, co, none⟩) xs.length ccap) ev { M with steps := M.steps + 1 }) /\ Hid (Hp U w.heap.size 71 (actC 0 0 0 0 0 0 0)) /\ Hid (Hp U (w.heap.size + 1) 60 [.int .i64 op, .int .i64 d, .int .i64 a, .int .i64 bb, .int .i64 imm]) /\ w.heap.size + 2 <= U.heap.size := by
  have hg := grown_sets (w.heap.size + 1) [.int .i64 op, .int .i64 d, .int .i64 a, .int .i64 bb, .int .i64 imm] Y 0
  have hB : Below V.heap.size V (Y.setCells (w.heap.size + 1) 0 [.int .i64 op, .int .i64 d, .int .i64 a, .int .i64 bb, .int .i64 imm]) := hBY.trans (grown_to_below hg (by omega) hBY.size)
  exact ⟨_, rfl, hB, HmV.out.below hB HmV.out.hp.lt, HoY.out.grown hg (fun e => by have := Option.some.inj e; omega), HiY.out.sets [.int .i64 op, .int .i64 d, .int .i64 a, .int .i64 bb, .int .i64 imm] 0, by have := hg.size; show w.heap.size + 2 <= (Y.setCells (w.heap.size + 1) 0 [.int .i64 op, .int .i64 d, .int .i64 a, .int .i64 bb, .int .i64 imm]).heap.size; omega⟩
 rw [HU.out]
 refine hK.out _ _ (HKV.out _ (below_drE hBU)) (fun hHeld => ?_)
 clear hK KK
 try simp only [Act.put, p1q, p2q, p3q, p4q, p5q, p6q]
 refine wpAnyH_done (by kernel_rfl) ?_ _
 clear a0 a1 a2 a3 a4 q0 q1 q2 q3 q4 hHeld
 have HcU := keepJ (HcV.out.trans (Chg.of_below (S := fun _ => False) hBU) (fun _ _ e => e.elim))
 have i0 := HiU.out.cell (j := 0) rfl
 have i1 := HiU.out.cell (j := 1) rfl
 have i2 := HiU.out.cell (j := 2) rfl
 have i3 := HiU.out.cell (j := 3) rfl
 have i4 := HiU.out.cell (j := 4) rfl
 obtain ⟨T, HT, HmT, HcT, hgT⟩ : ∃ T, Hid (U.setCell ⟨b, 79, none⟩ (.int .i64 2) = T) /\ Hid (Ma T b sb vm (.slice (some ⟨cb, co, none⟩) xs.length ccap) ev { M with steps := M.steps + 1, mode := 2 }) /\ Hid (Chg w T (fun k => k = b)) /\ U.grownBy T (some b) :=
  ⟨_, rfl, HmU.out.setM 2, HcU.out.trans (Chg.of_grown (S := fun k => k = b) (grown_set U b 79 _) rfl) (fun _ _ e => e), grown_set U b 79 _⟩
 have HoT := keepJ (HoU.out.grown hgT (fun e => by have := Option.some.inj e; omega))
 have HXT := keepJ (HX.out.chg HcT.out hcb')
 have HA := keepJ ha
 have t9 := HmU.out.last.2.2
 have u9 := HmU.out.hp.frozen 79
 have hzT := hgT.size
 go_wp2_with (first
  | rw [HT.out]
  | (go_at_call 39; go_must (refine (mresult_any T.drew HmT.out.drew HXT.out.drewI hp (show 0 <= (nth xs M.pc).a /\ (nth xs M.pc).a <= 7 by rw [HI.out]; exact HA.out) (show Hid (regV M.regs (nth xs M.pc).a = n) by show _ = _; rw [HI.out]; exact hn.out)).mono ?_); rintro e w5 ⟨rfl, hb5'⟩; go_must (have hb5 : Below T.heap.size T w5 := below_undrew hb5'; have HM5 := keepJ (HmT.out.below hb5 HmT.out.hp.lt); have hz5 := hb5.size))
  | (go_at_call 38; go_must (refine (mtold_any 4 n w5 HM5.out).mono ?_); rintro e w6 ⟨rfl, hb6⟩; go_must (have HO6 := keepJ ((HoT.out.below hb5 HoT.out.lt).below hb6 (by omega)); have HM6 := keepJ (HM5.out.below hb6 HM5.out.hp.lt); (have o0 := HO6.out.cell (j := 0) rfl); (have o1 := HO6.out.cell (j := 1) rfl); (have o2 := HO6.out.cell (j := 2) rfl); (have o3 := HO6.out.cell (j := 3) rfl); (have o4 := HO6.out.cell (j := 4) rfl); (have o5 := HO6.out.cell (j := 5) rfl); (have o6 := HO6.out.cell (j := 6) rfl); (have q0 := HO6.out.frozen 0); (have q1 := HO6.out.frozen 1); (have q2 := HO6.out.frozen 2); (have q3 := HO6.out.frozen 3); (have q4 := HO6.out.frozen 4); (have q5 := HO6.out.frozen 5); (have q6 := HO6.out.frozen 6);  skip)))
 have hO := HO6.out.sets (actC 4 M.pc 0 0 0 0 n) 0
 rw [splice_all (actC 4 M.pc 0 0 0 0 n) (actC 0 0 0 0 0 0 0) rfl] at hO
 have hG := grown_sets w.heap.size (actC 4 M.pc 0 0 0 0 n) w6 0
 have hC6 : Chg w w6 (fun k => k = b) := (HcT.out.trans (Chg.of_below (S := fun _ => False) hb5) (fun _ _ e => e.elim)).trans (Chg.of_below (S := fun _ => False) hb6) (fun _ _ e => e.elim)
 exact act_ret rfl rfl hO ⟨rfl, hC6.trans (Chg.of_grown hG (S := fun k => k = w.heap.size) rfl) (fun k hk e => by omega), HM6.out.grown hG (fun e => by have := Option.some.inj e; omega)⟩
end
section
variable {b sb : Nat} {vm : Value} {ev : Int × Int} {M : Mc}
theorem lays_id {ev : Int × Int} {i : In} {M : Mc} (h : 15 <= i.op) : laysE ev i M = (M.regs, M.ws) := by
 unfold laysE
 rw [if_neg (by omega), if_neg (by omega), if_neg (by omega), if_neg (by omega), if_neg (by omega), if_neg (by omega)]
theorem next_lays {ev : Int × Int} {i : In} (hr : i.right = true) (ho : i.op <= 20) (M : Mc) : nextE i { M with regs := (laysE ev i M).1, ws := (laysE ev i M).2 } = nextE i M /\ turnE i { M with regs := (laysE ev i M).1, ws := (laysE ev i M).2 } = turnE i M := by
 by_cases h : 15 <= i.op
 ·rw [lays_id h]
  exact ⟨rfl, rfl⟩
 ·have hl : i.leads = false := by
   rcases goes_parts i with g | g | g | g
   ·rw [hr] at g; cases g.1
   ·omega
   ·omega
   ·exact g.2.2.2.1
  refine ⟨?_, ?_⟩
  ·unfold nextE
   rw [hl]
   rfl
  ·unfold turnE
   rw [if_neg (by omega), if_neg (by omega)]
set_option maxHeartbeats 3200000 in
theorem mstep_ran {cb co ccap : Nat} {xs : List In} (w : World) (h : Ma w b sb vm (.slice (some ⟨cb, co, none⟩) xs.length ccap) ev M) (hx : SeesI w (.slice (some ⟨cb, co, none⟩) xs.length ccap) xs) (hp : M.pc < xs.length) (hm : M.mode = 0) (hst : M.steps <= 1000) (hcb' : cb ≠ b) {op d a bb imm : Int} (HI : Hid (nth xs M.pc = ⟨op, d, a, bb, imm⟩)) (hr : (⟨op, d, a, bb, imm⟩ : In).right = true) (ho : op <= 20) (hs : Sc w sb M.ws M.cs) (hne : b ≠ sb) (hws : W16 M.ws) (hev : (0 <= ev.1 /\ ev.1 <= 18446744073709551615) /\ 0 <= ev.2 /\ ev.2 <= 18446744073709551615) (hw : op = 11 ∨ op = 12 -> 0 <= srcV ⟨op, d, a, bb, imm⟩ M.regs /\ srcV ⟨op, d, a, bb, imm⟩ M.regs <= 15) (ht : op = 20 -> 0 <= M.turn M.pc /\ M.turn M.pc <= 255) {p : Nat} (HP : Hid (nextE ⟨op, d, a, bb, imm⟩ M = (p : Int))) (hp6 : p < 64) {R ws : List Int} (HL : Hid (laysE ev ⟨op, d, a, bb, imm⟩ M = (R, ws))) {tn : Int -> Int} (HTn : Hid (turnE ⟨op, d, a, bb, imm⟩ M = tn)) :
  Calls Tryz.prog 23 #[.pointer (some ⟨b, 0, none⟩)] w fun e w' => e = .returned (actV 1 M.pc 0 0 0 0 0) /\ Chg w w' (fun k => k = b ∨ k = sb) /\ Ma w' b sb vm (.slice (some ⟨cb, co, none⟩) xs.length ccap) ev { M with regs := R, ws := ws, turn := tn, steps := M.steps + 1, pc := p } /\ Sc w' sb ws M.cs := by
 have h0 := right_op hr
 simp only at h0
 have o21 : (op == 21) = false := by simp; omega
 have o22 : (op == 22) = false := by simp; omega
 have hsb := hs.lt
 obtain ⟨N, HN⟩ : ∃ N : Mc, Hid ({ M with steps := M.steps + 1 } = N) := ⟨_, rfl⟩
 have HN1 : Hid (nextE ⟨op, d, a, bb, imm⟩ { N with regs := R, ws := ws } = (p : Int)) := by
  show _ = _
  have := (next_lays (ev := ev) hr ho N).1
  rw [<- HN.out] at this ⊢
  rw [<- HP.out]
  have e : laysE ev ⟨op, d, a, bb, imm⟩ { M with steps := M.steps + 1 } = (R, ws) := HL.out
  rw [e] at this
  exact this
 have HN2 : Hid (turnE ⟨op, d, a, bb, imm⟩ { N with regs := R, ws := ws } = tn) := by
  show _ = _
  have := (next_lays (ev := ev) hr ho N).2
  rw [<- HN.out] at this ⊢
  rw [<- HTn.out]
  have e : laysE ev ⟨op, d, a, bb, imm⟩ { M with steps := M.steps + 1 } = (R, ws) := HL.out
  rw [e] at this
  exact this
 have HN3 : Hid (laysE ev ⟨op, d, a, bb, imm⟩ N = (R, ws)) := by show _ = _; rw [<- HN.out]; exact HL.out
 have HN4 : Hid (N.ws = M.ws /\ N.cs = M.cs /\ N.regs = M.regs /\ N.turn = M.turn /\ N.pc = M.pc /\ N.mode = M.mode /\ N.steps = M.steps + 1) := by rw [<- HN.out]; exact ⟨rfl, rfl, rfl, rfl, rfl, rfl, rfl⟩
 clear HL HTn HP
 have hlt := h.hp.lt
 have hpI : (M.pc : Int) < xs.length := by omega
 have hp64 : (M.pc : Int) <= 100 := by have := h.pc; omega
 have hstI : (M.steps : Int) <= 1000 := by omega
 obtain ⟨hat, hcb, hcc, hcm⟩ := codeL hx hp
 rw [HI.out] at hat
 obtain ⟨k0, k1, k2, k3, k4⟩ := hat
 simp only at k0 k1 k2 k3 k4
 have HX := keepJ hx
 clear hx
 have c9 := h.last.2.2
 have c8 := h.last.2.1
 have f8 := h.hp.frozen 78
 rw [hm] at c9
 have hn0 : w.heap.size ≠ b := by omega
 obtain ⟨V, HV, HmV, HoV, HcV, hzV⟩ : ∃ V, Hid ((w.setCell ⟨b, 78, none⟩ (.int .i64 ((M.steps : Int) + 1))).alloc (.cells #[.int .i64 0, .int .i64 0, .int .i64 0, .int .i64 0, .int .u64 0, .int .u64 0, .int .u64 0] 71) = V) /\ Hid (Ma V b sb vm (.slice (some ⟨cb, co, none⟩) xs.length ccap) ev { M with steps := M.steps + 1 }) /\ Hid (Hp V w.heap.size 71 (actC 0 0 0 0 0 0 0)) /\ Hid (Chg w V (fun k => k = b)) /\ V.heap.size = w.heap.size + 1 := by
  have hsz : (w.setCell ⟨b, 78, none⟩ (.int .i64 ((M.steps : Int) + 1))).heap.size = w.heap.size := by simp [World.setCell]
  have hB := (Below.refl (w.setCell ⟨b, 78, none⟩ (.int .i64 ((M.steps : Int) + 1))).heap.size (w.setCell ⟨b, 78, none⟩ (.int .i64 ((M.steps : Int) + 1)))).alloc (Nat.le_refl _) (.cells #[.int .i64 0, .int .i64 0, .int .i64 0, .int .i64 0, .int .u64 0, .int .u64 0, .int .u64 0] 71)
  have hN := Hp.new (w.setCell ⟨b, 78, none⟩ (.int .i64 ((M.steps : Int) + 1))) (actC 0 0 0 0 0 0 0) 71
  rw [hsz] at hN
  have hM := h.setN (M.steps + 1)
  rw [show ((M.steps + 1 : Nat) : Int) = (M.steps : Int) + 1 by omega] at hM
  exact ⟨_, rfl, hM.below hB (by rw [hsz]; exact hlt), hN, (Chg.of_grown (S := fun k => k = b) (grown_set w b 78 _) rfl).trans (Chg.of_below (S := fun _ => False) hB) (fun _ _ e => e.elim), by simp [hsz]⟩
 have HKV : Hid (∀ wx : World, Below V.heap.size V wx -> wx.cell? ⟨b, 3, none⟩ = some (.slice (some ⟨cb, co, none⟩) xs.length ccap) /\ wx.cell? ⟨b, 77, none⟩ = some (.int .i64 M.pc) /\ wx.cell? ⟨cb, co + M.pc * 5, none⟩ = some (.int .i64 op) /\ wx.cell? ⟨cb, co + M.pc * 5 + 1, none⟩ = some (.int .i64 d) /\ wx.cell? ⟨cb, co + M.pc * 5 + 2, none⟩ = some (.int .i64 a) /\ wx.cell? ⟨cb, co + M.pc * 5 + 3, none⟩ = some (.int .i64 bb) /\ wx.cell? ⟨cb, co + M.pc * 5 + 4, none⟩ = some (.int .i64 imm)) := fun wx hb => by
  have cc : ∀ {j : Nat} {u : Value}, w.cell? ⟨cb, j, none⟩ = some u -> wx.cell? ⟨cb, j, none⟩ = some u := fun {j u} e => (hb.cell (p := ⟨cb, j, none⟩) (show cb < V.heap.size by omega)).trans ((HcV.out.cellL hcb hcb').trans e)
  exact ⟨(HmV.out.below hb HmV.out.hp.lt).low.2.2.2.1, (HmV.out.below hb HmV.out.hp.lt).last.1, cc k0, cc k1, cc k2, cc k3, cc k4⟩
 clear k0 k1 k2 k3 k4
 go_enter Tryz.func23, Tryz.ntmps23
 go_wp2
 rw [HV.out]
 refine wp_region_held_drew (S := fun w' => w'.cell? ⟨b, 3, none⟩ = some (.slice (some ⟨cb, co, none⟩) xs.length ccap) /\ w'.cell? ⟨b, 77, none⟩ = some (.int .i64 M.pc) /\ w'.cell? ⟨cb, co + M.pc * 5, none⟩ = some (.int .i64 op) /\ w'.cell? ⟨cb, co + M.pc * 5 + 1, none⟩ = some (.int .i64 d) /\ w'.cell? ⟨cb, co + M.pc * 5 + 2, none⟩ = some (.int .i64 a) /\ w'.cell? ⟨cb, co + M.pc * 5 + 3, none⟩ = some (.int .i64 bb) /\ w'.cell? ⟨cb, co + M.pc * 5 + 4, none⟩ = some (.int .i64 imm)) (by kernel_rfl) (HKV.out _ (below_drE (Below.refl _ _))) (fun hHeld => ?_)
 refine tkGo [0, 1, 2, 3, 4, 5, 6, 7, 8, 9] ?_
 repeat (refine tkO (v := ?_) rfl ?_ ?_; rotate_left; (intro wy hSw; (try dsimp only at hSw); go_simp; (first | done | with_reducible rfl)); try simp only [Act.put, p1q, p2q, p3q, p4q, p5q, p6q])
 refine tkEnd ?_
 refine runO 10 (by kernel_rfl) rfl (by rfl) (fun KK hK => ?_)
 go_simp
 obtain ⟨Y, HY, hBY, HoY, HiY, hzY⟩ : ∃ Y, Hid (V.alloc (.cells #[.int .i64 0, .int .i64 0, .int .i64 0, .int .i64 0, .int .i64 0] 60) = Y) /\ Below V.heap.size V Y /\ Hid (Hp Y w.heap.size 71 (actC 0 0 0 0 0 0 0)) /\ Hid (Hp Y (w.heap.size + 1) 60 [.int .i64 0, .int .i64 0, .int .i64 0, .int .i64 0, .int .i64 0]) /\ Y.heap.size = w.heap.size + 2 :=
  ⟨_, rfl, (Below.refl _ _).alloc (Nat.le_refl _) _, HoV.out.alloc _, by have := Hp.new V [.int .i64 0, .int .i64 0, .int .i64 0, .int .i64 0, .int .i64 0] 60; rw [hzV] at this; exact this, by simp [hzV]⟩
 try rw [hzV]
 rw [HY.out]
 refine hK.out _ _ (HKV.out _ (below_drE hBY)) (fun hHeld => ?_)
 clear hK KK
 try simp only [Act.put, p1q, p2q, p3q, p4q, p5q, p6q]
 have a0 := HiY.out.cell (j := 0) rfl
 have q0 := HiY.out.frozen 0
 have a1 := HiY.out.cell (j := 1) rfl
 have q1 := HiY.out.frozen 1
 have a2 := HiY.out.cell (j := 2) rfl
 have q2 := HiY.out.frozen 2
 have a3 := HiY.out.cell (j := 3) rfl
 have q3 := HiY.out.frozen 3
 have a4 := HiY.out.cell (j := 4) rfl
 have q4 := HiY.out.frozen 4
 refine runO 11 (by kernel_rfl) rfl (by rfl) (fun KK hK => ?_)
 go_simp
 obtain ⟨U, HU, hBU, HmU, HoU, HiU, hzU⟩ : ∃ U, Hid (((((Y.setCell ⟨w.heap.size + 1, 0, none⟩ (.int .i64 op)).setCell ⟨w.heap.size + 1, 1, none⟩ (.int .i64 d)).setCell ⟨w.heap.size + 1, 2, none⟩ (.int .i64 a)).setCell ⟨w.heap.size + 1, 3, none⟩ (.int .i64 bb)).setCell ⟨w.heap.size + 1, 4, none⟩ (.int .i64 imm) = U) /\ Below V.heap.size V U /\ Hid (Ma U b sb vm (.slice (some ⟨cb, co, none⟩) xs.length ccap) ev { M with steps := M.steps + 1 }) /\ Hid (Hp U w.heap.size 71 (actC 0 0 0 0 0 0 0)) /\ Hid (Hp U (w.heap.size + 1) 60 [.int .i64 op, .int .i64 d, .int .i64 a, .int .i64 bb, .int .i64 imm]) /\ w.heap.size + 2 <= U.heap.size := by
  have hg := grown_sets (w.heap.size + 1) [.int .i64 op, .int .i64 d, .int .i64 a, .int .i64 bb, .int .i64 imm] Y 0
  have hB : Below V.heap.size V (Y.setCells (w.heap.size + 1) 0 [.int .i64 op, .int .i64 d, .int .i64 a, .int .i64 bb, .int .i64 imm]) := hBY.trans (grown_to_below hg (by omega) hBY.size)
  exact ⟨_, rfl, hB, HmV.out.below hB HmV.out.hp.lt, HoY.out.grown hg (fun e => by have := Option.some.inj e; omega), HiY.out.sets [.int .i64 op, .int .i64 d, .int .i64 a, .int .i64 bb, .int .i64 imm] 0, by have := hg.size; show w.heap.size + 2 <= (Y.setCells (w.heap.size + 1) 0 [.int .i64 op, .int .i64 d, .int .i64 a, .int .i64 bb, .int .i64 imm]).heap.size; omega⟩
 rw [HU.out]
 refine hK.out _ _ (HKV.out _ (below_drE hBU)) (fun hHeld => ?_)
 clear hK KK
 try simp only [Act.put, p1q, p2q, p3q, p4q, p5q, p6q]
 refine wpAnyH_done (by kernel_rfl) ?_ _
 clear a0 a1 a2 a3 a4 q0 q1 q2 q3 q4 hHeld
 have HcU := keepJ (HcV.out.trans (Chg.of_below (S := fun _ => False) hBU) (fun _ _ e => e.elim))
 have i0 := HiU.out.cell (j := 0) rfl
 have i1 := HiU.out.cell (j := 1) rfl
 have i2 := HiU.out.cell (j := 2) rfl
 have i3 := HiU.out.cell (j := 3) rfl
 have i4 := HiU.out.cell (j := 4) rfl
 have HsU := keepJ (hs.chg HcU.out (fun e => hne e.symm))
 rw [HN.out] at HmU
 have hltU := HmU.out.hp.lt
 have hno : w.heap.size ≠ sb := by omega
 have hn1 : w.heap.size + 1 ≠ b := by omega
 have hn2 : w.heap.size + 1 ≠ sb := by omega
 go_wp2_with (first
  | (go_at_call 38; go_must (refine (mtold_any 1 0 U.drew HmU.out.drew).mono ?_); rintro e w4 ⟨rfl, hb4'⟩; go_must (have hb4 : Below U.heap.size U w4 := below_undrew hb4'; have hz4 := hb4.size; obtain ⟨T, HT, HmT, HaT, HoT, hbT, hzT⟩ := boxA (HmU.out.below hb4 hltU) (HoU.out.below hb4 HoU.out.lt) 1 N.pc 0 0 0 0 0; have HsT := keepJ ((HsU.out.below hb4 HsU.out.lt).below hbT (by have := HsU.out.lt; omega)); have HiT := keepJ ((HiU.out.below hb4 HiU.out.lt).below hbT (by have := HiU.out.lt; omega)); have HcT := keepJ ((HcU.out.trans (Chg.of_below (S := fun _ => False) hb4) (fun _ _ e => e.elim)).trans (Chg.of_below (S := fun _ => False) hbT) (fun _ _ e => e.elim)); (have j0 := HiT.out.cell (j := 0) rfl); (have j1 := HiT.out.cell (j := 1) rfl); (have j2 := HiT.out.cell (j := 2) rfl); (have j3 := HiT.out.cell (j := 3) rfl); (have j4 := HiT.out.cell (j := 4) rfl);  clear hb4'))
  | rw [HT.out]
  | (go_at_call 41; go_must (refine (mdo_all ⟨op, d, a, bb, imm⟩ hr ho T HmT.out (by rw [HN4.out.1, HN4.out.2.1]; exact HsT.out) hne (by rw [HN4.out.1]; exact hws) hev (by rw [HN4.out.2.2.1]; exact hw)).mono ?_); rintro e w5 ⟨rfl, hc5, hm5, hs5⟩; go_must (rw [HN3.out] at hm5 hs5; have hz5 := hc5.size; have HM5 := keepJ hm5; have HS5 := keepJ hs5; have HA5 := keepJ (HaT.out.chg hc5 (fun e => by omega)); have HO5 := keepJ (HoT.out.chg hc5 (fun e => by omega)); have HI5 := keepJ (HiT.out.chg hc5 (fun e => by omega)); (have l0 := HI5.out.cell (j := 0) rfl); (have l1 := HI5.out.cell (j := 1) rfl); (have l2 := HI5.out.cell (j := 2) rfl); (have l3 := HI5.out.cell (j := 3) rfl); (have l4 := HI5.out.cell (j := 4) rfl);  clear hm5 hs5))
  | (go_at_call 42; go_must (refine (mnext_all ⟨op, d, a, bb, imm⟩ hr ho w5 HM5.out (fun e => by show 0 <= N.turn N.pc /\ N.turn N.pc <= 255; rw [HN4.out.2.2.2.1, HN4.out.2.2.2.2.1]; exact ht e) HN1).mono ?_); rintro e w6 ⟨rfl, hg6, hm6⟩; go_must (rw [HN2.out] at hm6; have hz6 := hg6.size; obtain ⟨X, HXX, HMX, hgX⟩ : ∃ X, Hid (w6.setCell ⟨b, 77, none⟩ (.int .i64 (p : Int)) = X) /\ Hid (Ma X b sb vm (.slice (some ⟨cb, co, none⟩) xs.length ccap) ev { N with regs := R, ws := ws, turn := tn, pc := p }) /\ w6.grownBy X (some b) := ⟨_, rfl, hm6.setP hp6, grown_set w6 b 77 _⟩; have v7 := hm6.last.1; have g7 := hm6.hp.frozen 77; have HA6 := keepJ ((HA5.out.grown hg6 (fun e => by have := Option.some.inj e; omega)).grown hgX (fun e => by have := Option.some.inj e; omega)); have HO6 := keepJ ((HO5.out.grown hg6 (fun e => by have := Option.some.inj e; omega)).grown hgX (fun e => by have := Option.some.inj e; omega)); (have a0 := HA6.out.cell (j := 0) rfl); (have a1 := HA6.out.cell (j := 1) rfl); (have a2 := HA6.out.cell (j := 2) rfl); (have a3 := HA6.out.cell (j := 3) rfl); (have a4 := HA6.out.cell (j := 4) rfl); (have a5 := HA6.out.cell (j := 5) rfl); (have a6 := HA6.out.cell (j := 6) rfl);  (have o0 := HO6.out.cell (j := 0) rfl); (have o1 := HO6.out.cell (j := 1) rfl); (have o2 := HO6.out.cell (j := 2) rfl); (have o3 := HO6.out.cell (j := 3) rfl); (have o4 := HO6.out.cell (j := 4) rfl); (have o5 := HO6.out.cell (j := 5) rfl); (have o6 := HO6.out.cell (j := 6) rfl); (have q0 := HO6.out.frozen 0); (have q1 := HO6.out.frozen 1); (have q2 := HO6.out.frozen 2); (have q3 := HO6.out.frozen 3); (have q4 := HO6.out.frozen 4); (have q5 := HO6.out.frozen 5); (have q6 := HO6.out.frozen 6);  skip))
  | rw [HXX.out])
 have hO := HO6.out.sets (actC 1 N.pc 0 0 0 0 0) 0
 rw [splice_all (actC 1 N.pc 0 0 0 0 0) (actC 0 0 0 0 0 0 0) rfl] at hO
 have hG := grown_sets w.heap.size (actC 1 N.pc 0 0 0 0 0) X 0
 have hC5 : Chg w w5 (fun k => k = b ∨ k = sb) := (HcT.out.mono (fun _ e => .inl e)).trans (T := fun k => k = b ∨ k = sb) hc5 (fun _ _ e => e)
 have hC6 : Chg w w6 (fun k => k = b ∨ k = sb) := hC5.trans (Chg.of_grown (S := fun k => k = b) hg6 rfl) (fun _ _ e => .inl e)
 have hCX : Chg w X (fun k => k = b ∨ k = sb) := hC6.trans (Chg.of_grown (S := fun k => k = b) hgX rfl) (fun _ _ e => .inl e)
 have hS6 := HS5.out.grown hg6 (show some sb ≠ some b from fun e => hne (Option.some.inj e).symm)
 have hSX := hS6.grown hgX (show some sb ≠ some b from fun e => hne (Option.some.inj e).symm)
 have hSF := hSX.grown hG (show some sb ≠ some w.heap.size from fun e => hno (Option.some.inj e).symm)
 have hMF := HMX.out.grown hG (show some b ≠ some w.heap.size from fun e => hn0 (Option.some.inj e).symm)
 refine act_ret rfl rfl hO ⟨by rw [HN4.out.2.2.2.2.1], hCX.trans (Chg.of_grown hG (S := fun k => k = w.heap.size) rfl) (fun k hk e => by omega), hMF.same rfl rfl rfl HN4.out.2.2.2.2.2.2.symm HN4.out.2.2.2.2.2.1.symm, ?_⟩
 rw [<- HN4.out.2.1]
 exact hSF
end
end Go.Proofs.YtkondcjmhlppiaaGreat
