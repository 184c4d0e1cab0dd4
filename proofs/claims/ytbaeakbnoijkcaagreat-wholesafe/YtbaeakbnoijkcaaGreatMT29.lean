
/-
 The machine of the theorems of the whole: its source and marks. Condition: it lies at a block that is known whole.
-/
import Derived.Test.YtbaeakbnoijkcaaGreatMT0
import Derived.Test.YtbaeakbnoijkcaaGreatMT28
namespace Go.Proofs.YtbaeakbnoijkcaaGreat
open Go.RowKit
set_option linter.unusedVariables false
set_option linter.unusedSimpArgs false
set_option maxRecDepth 100000
section
variable {b : Nat} {vm vc : Value} {ev : Int × Int} {M : Mc}
set_option maxHeartbeats 800000 in
theorem qAr (i : In) (w : World) (h : Xa w b vm vc ev M) (hb : i.b = 8 ∨ (0 <= i.b /\ i.b <= 7)) {n : Int} (hn : Hid (srcV i M.regs = n)) :
  Calls Tryz.prog 25 #[.pointer (some ⟨b, 0, none⟩), instV i.op i.d i.a i.b i.imm] w fun e w' => e = .returned (.int .u64 n) /\ Below w.heap.size w w' := by
 obtain ⟨op, d, a, bb, imm⟩ := i
 simp only at hb ⊢
 have hlt := h.hp.lt
 by_cases h8 : bb = 8
 ·subst h8
  have HE : Hid (IntKind.u64.wrap imm = n) := by
   show _ = _
   rw [<- hn.out, IntKind.wrap_u64]
   rfl
  go_enter Tryz.func25, Tryz.ntmps25
  go_wp2
  go_ret
  exact ⟨by rw [<- HE.out]; first | rfl | (simp; done), by go_grown⟩
 ·have hb8 : (bb == 8) = false := by simpa using h8
  obtain ⟨k, rfl⟩ := Int.eq_ofNat_of_zero_le (show 0 <= bb by omega)
  have hk : k < 8 := by omega
  have hkI : (k : Int) < 8 := by omega
  have hkI2 : ¬ (7 : Int) < k := by omega
  have HE : Hid (M.regs.getD k 0 = n) := by
   show _ = _
   rw [<- hn.out]
   unfold srcV
   rw [if_neg h8]
   rfl
  have c1 := h.reg hk
  rw [HE.out] at c1
  obtain ⟨Z, HZ, hBZ, x0, x1, x2, x3, x4, z1⟩ : ∃ Z, Hid (Z = w.alloc (instO op d a k imm)) /\ Below w.heap.size w Z /\ Z.cell? ⟨w.heap.size, 0, none⟩ = some (.int .i64 op) /\ Z.cell? ⟨w.heap.size, 1, none⟩ = some (.int .i64 d) /\ Z.cell? ⟨w.heap.size, 2, none⟩ = some (.int .i64 a) /\ Z.cell? ⟨w.heap.size, 3, none⟩ = some (.int .i64 k) /\ Z.cell? ⟨w.heap.size, 4, none⟩ = some (.int .i64 imm) /\ Z.cell? ⟨b, 4 + k, none⟩ = some (.int .u64 n) := by
   refine ⟨_, rfl, by go_grown, by go_cell, by go_cell, by go_cell, by go_cell, by go_cell, ?_⟩
   rw [((Below.refl w.heap.size w).alloc (Nat.le_refl _) _).cell (p := ⟨b, 4 + k, none⟩) hlt]; exact c1
  clear c1
  go_enter Tryz.func25, Tryz.ntmps25
  go_wp2
  rw [<- HZ.out]
  go_region
  go_wp2
  go_ret
  exact ⟨rfl, qAf hBZ⟩
theorem Xa.code {w : World} {cb co ccap : Nat} {xs : List In} (h : Xa w b vm (.slice (some ⟨cb, co, none⟩) xs.length ccap) ev M) (hx : SeesI w (.slice (some ⟨cb, co, none⟩) xs.length ccap) xs) (hp : M.pc < xs.length) {op d a bb imm : Int} (HI : Hid (nth xs M.pc = ⟨op, d, a, bb, imm⟩)) :
  ∀ wx : World, Below w.heap.size w wx -> wx.cell? ⟨b, 1, none⟩ = some (.slice (some ⟨cb, co, none⟩) xs.length ccap) /\ wx.cell? ⟨b, 92, none⟩ = some (.int .i64 M.pc) /\ wx.cell? ⟨cb, co + M.pc * 5, none⟩ = some (.int .i64 op) /\ wx.cell? ⟨cb, co + M.pc * 5 + 1, none⟩ = some (.int .i64 d) /\ wx.cell? ⟨cb, co + M.pc * 5 + 2, none⟩ = some (.int .i64 a) /\ wx.cell? ⟨cb, co + M.pc * 5 + 3, none⟩ = some (.int .i64 bb) /\ wx.cell? ⟨cb, co + M.pc * 5 + 4, none⟩ = some (.int .i64 imm) := fun wx hb => by
 obtain ⟨hat, hcb, _⟩ := codeL hx hp
 rw [HI.out] at hat
 obtain ⟨k0, k1, k2, k3, k4⟩ := hat
 have hxa := h.below hb h.hp.lt
 have cc : ∀ {j : Nat} {u : Value}, w.cell? ⟨cb, j, none⟩ = some u -> wx.cell? ⟨cb, j, none⟩ = some u := fun {j u} e => (hb.cell (p := ⟨cb, j, none⟩) hcb).trans e
 exact ⟨hxa.low.2.1, hxa.at.1, cc k0, cc k1, cc k2, cc k3, cc k4⟩
theorem inst_box {V Y : World} {n : Nat} {op d a bb imm : Int} (hV : Y = V.alloc (.cells #[.int .i64 0, .int .i64 0, .int .i64 0, .int .i64 0, .int .i64 0] 70)) (hn : n = V.heap.size) :
  ∃ U, Hid (((((Y.setCell ⟨n, 0, none⟩ (.int .i64 op)).setCell ⟨n, 1, none⟩ (.int .i64 d)).setCell ⟨n, 2, none⟩ (.int .i64 a)).setCell ⟨n, 3, none⟩ (.int .i64 bb)).setCell ⟨n, 4, none⟩ (.int .i64 imm) = U) /\ Below V.heap.size V U /\ Hid (Hp U n 70 [.int .i64 op, .int .i64 d, .int .i64 a, .int .i64 bb, .int .i64 imm]) /\ U.heap.size = V.heap.size + 1 := by
 subst hn
 have hY : Hp Y V.heap.size 70 [.int .i64 0, .int .i64 0, .int .i64 0, .int .i64 0, .int .i64 0] := by rw [hV]; exact Hp.new V _ _
 have hBY : Below V.heap.size V Y := by rw [hV]; exact (Below.refl _ _).alloc (Nat.le_refl _) _
 have hg := qAa V.heap.size [.int .i64 op, .int .i64 d, .int .i64 a, .int .i64 bb, .int .i64 imm] Y 0
 exact ⟨_, rfl, hBY.trans (qAc hg (Nat.le_refl _) hBY.size), hY.sets [.int .i64 op, .int .i64 d, .int .i64 a, .int .i64 bb, .int .i64 imm] 0, by rw [hV]; simp [World.setCell]⟩
set_option maxHeartbeats 3200000 in
theorem xmarks_any {cb co ccap : Nat} {xs : List In} (w : World) (h : Xa w b vm (.slice (some ⟨cb, co, none⟩) xs.length ccap) ev M) (hx : SeesI w (.slice (some ⟨cb, co, none⟩) xs.length ccap) xs) (hp : M.pc < xs.length) {c : Bool} (HC : Hid (c = decide ((nth xs M.pc).op = 21 /\ (nth xs M.pc).imm = 5))) :
  Calls Tryz.prog 11 #[.pointer (some ⟨b, 0, none⟩)] w fun e w' => e = .returned (.bool c) /\ Below w.heap.size w w' := by
 have hlt := h.hp.lt
 have hpI : (M.pc : Int) < xs.length := by omega
 have hp64 : (M.pc : Int) <= 100 := by have := h.pc; omega
 obtain ⟨_, hcb, hcc1, hcc2⟩ := codeL hx hp
 obtain ⟨⟨op, d, a, bb, imm⟩, HI⟩ : ∃ i, Hid (nth xs M.pc = i) := ⟨_, rfl⟩
 rw [HI.out] at HC
 simp only at HC
 have HK := keepT (h.code hx hp HI)
 have hpL : ¬ (xs.length : Int) <= M.pc := by omega
 have hp0 : ¬ (M.pc : Int) < 0 := by omega
 clear hx
 go_enter Tryz.func11, Tryz.ntmps11
 go_wp2
 refine wp_region_held_drew (S := fun w' => w'.cell? ⟨b, 1, none⟩ = some (.slice (some ⟨cb, co, none⟩) xs.length ccap) /\ w'.cell? ⟨b, 92, none⟩ = some (.int .i64 M.pc)) (by kernel_rfl) (by have := HK.out w (Below.refl _ _); exact ⟨this.1, this.2.1⟩) (fun hHeld => ?_)
 refine tks [0, 1, 2, 3, 4, 5, 6, 7, 8, 9, 10, 11, 12, 13, 14, 15, 16, 17] ?_
 repeat (refine tk (v := ?_) rfl (by kernel_rfl) (by kernel_rfl) (by kernel_rfl) (fun _ _ _ h => h) (by assumption) (by rfl) ?_ ?_; rotate_left; (intro wy hSw; (try dsimp only at hSw); go_simp; (first | done | with_reducible rfl)); try simp only [Act.put, List.getElem_toArray, List.getElem_cons_zero, List.getElem_cons_succ, List.setIfInBounds_toArray, List.set_cons_zero, List.set_cons_succ])
 refine tkE ?_
 refine wpAnyH_done (by kernel_rfl) ?_ _
 obtain ⟨V, HV, hBV, hzV⟩ : ∃ V, Hid (w.drew = V) /\ Below w.heap.size w V /\ V.heap.size = w.heap.size := ⟨_, rfl, qAf (Below.refl _ _), rfl⟩
 rw [HV.out]
 have HKV : Hid (∀ wx : World, Below V.heap.size V wx -> _) := fun wx hb => HK.out wx (hBV.trans (by rw [hzV] at hb; exact hb))
 go_wp2
 refine wp_region_held_drew (S := fun w' => w'.cell? ⟨b, 1, none⟩ = some (.slice (some ⟨cb, co, none⟩) xs.length ccap) /\ w'.cell? ⟨b, 92, none⟩ = some (.int .i64 M.pc) /\ w'.cell? ⟨cb, co + M.pc * 5, none⟩ = some (.int .i64 op) /\ w'.cell? ⟨cb, co + M.pc * 5 + 1, none⟩ = some (.int .i64 d) /\ w'.cell? ⟨cb, co + M.pc * 5 + 2, none⟩ = some (.int .i64 a) /\ w'.cell? ⟨cb, co + M.pc * 5 + 3, none⟩ = some (.int .i64 bb) /\ w'.cell? ⟨cb, co + M.pc * 5 + 4, none⟩ = some (.int .i64 imm)) (by kernel_rfl) (HKV.out V (Below.refl _ _)) (fun hHeld => ?_)
 refine tks [0, 1, 2, 3, 4, 5, 6, 7, 8, 9, 10] ?_
 repeat (refine tk (v := ?_) rfl (by kernel_rfl) (by kernel_rfl) (by kernel_rfl) (fun _ _ _ h => h) (by assumption) (by rfl) ?_ ?_; rotate_left; (intro wy hSw; (try dsimp only at hSw); go_simp; (first | done | with_reducible rfl)); try simp only [Act.put, List.getElem_toArray, List.getElem_cons_zero, List.getElem_cons_succ, List.setIfInBounds_toArray, List.set_cons_zero, List.set_cons_succ])
 refine tkE ?_
 refine wpAnyH_ready (rs := [11]) (by kernel_rfl) (by simp) ?_
 refine AllReadyH.cons rfl (fun KK hK => ?_) AllReadyH.nil
 rw [if_pos (by rfl)]
 go_simp
 obtain ⟨Y, HY, hBY⟩ : ∃ Y, Hid (Y = V.alloc (.cells #[.int .i64 0, .int .i64 0, .int .i64 0, .int .i64 0, .int .i64 0] 70)) /\ Below V.heap.size V Y := ⟨_, rfl, (Below.refl _ _).alloc (Nat.le_refl _) _⟩
 rw [<- HY.out]
 refine hK.out _ _ (HKV.out _ (qAf hBY)) (fun hHeld => ?_)
 clear hK KK
 try simp only [Act.put, List.getElem_toArray, List.getElem_cons_zero, List.getElem_cons_succ, List.setIfInBounds_toArray, List.set_cons_zero, List.set_cons_succ]
 obtain ⟨U, HU, hBU, HiU, hzU⟩ := inst_box (n := w.heap.size) (op := op) (d := d) (a := a) (bb := bb) (imm := imm) HY.out hzV.symm
 have hY : Hp Y w.heap.size 70 [.int .i64 0, .int .i64 0, .int .i64 0, .int .i64 0, .int .i64 0] := by rw [HY.out, <- hzV]; exact Hp.new V _ _
 have a0 := hY.cell (j := 0) rfl
 have q0 := hY.frozen 0
 have a1 := hY.cell (j := 1) rfl
 have q1 := hY.frozen 1
 have a2 := hY.cell (j := 2) rfl
 have q2 := hY.frozen 2
 have a3 := hY.cell (j := 3) rfl
 have q3 := hY.frozen 3
 have a4 := hY.cell (j := 4) rfl
 have q4 := hY.frozen 4
 refine wpAnyH_ready (rs := [12]) (by kernel_rfl) (by simp) ?_
 refine AllReadyH.cons rfl (fun KK hK => ?_) AllReadyH.nil
 rw [if_pos (by rfl)]
 go_simp
 rw [HU.out]
 refine hK.out _ _ (HKV.out _ (qAf hBU)) (fun hHeld => ?_)
 clear hK KK
 try simp only [Act.put, List.getElem_toArray, List.getElem_cons_zero, List.getElem_cons_succ, List.setIfInBounds_toArray, List.set_cons_zero, List.set_cons_succ]
 refine wpAnyH_done (by kernel_rfl) ?_ _
 clear a0 a1 a2 a3 a4 q0 q1 q2 q3 q4 hHeld hY HY
 have i0 := HiU.out.cell (j := 0) rfl
 have i4 := HiU.out.cell (j := 4) rfl
 have hB : Below w.heap.size w U := hBV.trans (by rw [hzV] at hBU; exact hBU)
 by_cases c1 : op = 21
 ·have c1b : (op == 21) = true := by simpa using c1
  by_cases c2 : imm = 5
  ·have c2b : (imm == 5) = true := by simpa using c2
   have HR : Hid (c = true) := by show _ = _; rw [HC.out]; simp [c1, c2]
   go_wp2
   go_ret
   exact ⟨by rw [HR.out]; rfl, qAf hB⟩
  ·have c2b : (imm == 5) = false := by simpa using c2
   have HR : Hid (c = false) := by show _ = _; rw [HC.out]; simp [c2]
   go_wp2
   go_ret
   exact ⟨by rw [HR.out]; rfl, qAf hB⟩
 ·have c1b : (op == 21) = false := by simpa using c1
  have HR : Hid (c = false) := by show _ = _; rw [HC.out]; simp [c1]
  go_wp2
  go_ret
  exact ⟨by rw [HR.out]; rfl, qAf hB⟩
set_option maxHeartbeats 3200000 in
theorem xback_any {cb co ccap : Nat} {xs : List In} (E : Int) (f : Bool) (v : Int) (o : Bool) (k u : Int) (hv : 0 <= v /\ v <= 18446744073709551615) (w : World) (h : Xa w b vm (.slice (some ⟨cb, co, none⟩) xs.length ccap) ev M) (hx : SeesI w (.slice (some ⟨cb, co, none⟩) xs.length ccap) xs) (hp : M.pc < xs.length) (hp1 : M.pc + 1 < 64) (hcb' : cb ≠ b) {n : Int} (HN : Hid (n = valE (nth xs M.pc).imm E f v)) :
  Calls Tryz.prog 16 #[.pointer (some ⟨b, 0, none⟩), .agg #[.int .i64 E, .bool f, .int .u64 v, .bool o, .int .u64 k, .int .u64 u]] w fun e w' => e = .returned (.tuple #[]) /\ Chg w w' (fun j => j = b) /\ Xa w' b vm (.slice (some ⟨cb, co, none⟩) xs.length ccap) ev { M with regs := M.regs.set 0 n, pc := M.pc + 1 } := by
 have hlt := h.hp.lt
 have hpI : (M.pc : Int) < xs.length := by omega
 have hp64 : (M.pc : Int) <= 100 := by have := h.pc; omega
 obtain ⟨_, hcb, hcc1, hcc2⟩ := codeL hx hp
 obtain ⟨⟨op, d, a, bb, imm⟩, HI⟩ : ∃ i, Hid (nth xs M.pc = i) := ⟨_, rfl⟩
 have HK0 := keepT (h.code hx hp HI)
 rw [HI.out] at HN
 simp only at HN
 have hpL : ¬ (xs.length : Int) <= M.pc := by omega
 have hp0 : ¬ (M.pc : Int) < 0 := by omega
 have hn : 0 <= n /\ n <= 18446744073709551615 := by
  rw [HN.out]
  unfold valE
  split
  ·exact hv
  ·split <;> omega
 obtain ⟨V, HV, HrV, hBV, hzV⟩ : ∃ V, Hid (w.alloc (.cells #[.int .i64 E, .bool f, .int .u64 v, .bool o, .int .u64 k, .int .u64 u] 64) = V) /\ Hid (Hp V w.heap.size 64 [.int .i64 E, .bool f, .int .u64 v, .bool o, .int .u64 k, .int .u64 u]) /\ Below w.heap.size w V /\ V.heap.size = w.heap.size + 1 := ⟨_, rfl, Hp.new w _ _, (Below.refl _ _).alloc (Nat.le_refl _) _, by simp⟩
 have HXV := keepT (h.below hBV hlt)
 have r0 := HrV.out.cell (j := 0) rfl
 have r1 := HrV.out.cell (j := 1) rfl
 have r2 := HrV.out.cell (j := 2) rfl
 have hbV : b < V.heap.size := by omega
 have hS := HK0.out V hBV
 have e0 := HXV.out.reg (k := 0) (by omega)
 have f0 := HXV.out.hp.frozen 4
 have f92 := HXV.out.hp.frozen 92
 have HEnd : Hid (∀ y : World, y = ((V.drewN 2).setCell ⟨b, 4, none⟩ (.int .u64 n)).setCell ⟨b, 92, none⟩ (.int .i64 ((M.pc : Int) + 1)) -> Chg w y (fun j => j = b) /\ Xa y b vm (.slice (some ⟨cb, co, none⟩) xs.length ccap) ev { M with regs := M.regs.set 0 n, pc := M.pc + 1 }) := fun y hy => by
  have hx1 : Xa (V.drewN 2) b vm (.slice (some ⟨cb, co, none⟩) xs.length ccap) ev M := ⟨HXV.out.hp, HXV.out.wr, HXV.out.ww, HXV.out.pc⟩
  have hx2 := (hx1.setR (k := 0) (by omega) hn).setP (p := M.pc + 1) hp1
  rw [show ((M.pc + 1 : Nat) : Int) = (M.pc : Int) + 1 by omega] at hx2
  have hc0 : Chg w (V.drewN 2) (fun j => j = b) := Chg.drewN (Chg.of_below hBV) 2
  rw [hy]
  exact ⟨(hc0.trans (Chg.of_grown (S := fun j => j = b) (qAd (V.drewN 2) b 4 _) rfl) (fun _ _ e => e)).trans (Chg.of_grown (S := fun j => j = b) (qAd _ b 92 _) rfl) (fun _ _ e => e), hx2⟩
 clear hx h
 go_enter Tryz.func16, Tryz.ntmps16
 go_wp2
 rw [HV.out]
 refine wp_region_held_drew (S := fun w' => w'.cell? ⟨b, 1, none⟩ = some (.slice (some ⟨cb, co, none⟩) xs.length ccap) /\ w'.cell? ⟨b, 92, none⟩ = some (.int .i64 M.pc)) (by kernel_rfl) ⟨hS.1, hS.2.1⟩ (fun hHeld => ?_)
 refine tks [0, 1, 2, 3, 4, 5, 6, 7, 8, 9, 10, 11, 12, 13, 14, 15, 16, 17] ?_
 repeat (refine tk (v := ?_) rfl (by kernel_rfl) (by kernel_rfl) (by kernel_rfl) (fun _ _ _ h => h) (by assumption) (by rfl) ?_ ?_; rotate_left; (intro wy hSw; (try dsimp only at hSw); go_simp; (first | done | with_reducible rfl)); try simp only [Act.put, List.getElem_toArray, List.getElem_cons_zero, List.getElem_cons_succ, List.setIfInBounds_toArray, List.set_cons_zero, List.set_cons_succ])
 refine tkE ?_
 refine wpAnyH_done (by kernel_rfl) ?_ _
 clear hHeld
 go_wp2
 refine wp_region_held_drew (S := fun w' => w'.cell? ⟨b, 1, none⟩ = some (.slice (some ⟨cb, co, none⟩) xs.length ccap) /\ w'.cell? ⟨b, 92, none⟩ = some (.int .i64 M.pc) /\ w'.cell? ⟨cb, co + M.pc * 5 + 4, none⟩ = some (.int .i64 imm)) (by kernel_rfl) ⟨hS.1, hS.2.1, hS.2.2.2.2.2.2⟩ (fun hHeld => ?_)
 refine tks [0, 1, 2, 3, 4, 5, 6, 7, 8, 9, 10, 11] ?_
 repeat (refine tk (v := ?_) rfl (by kernel_rfl) (by kernel_rfl) (by kernel_rfl) (fun _ _ _ h => h) (by assumption) (by rfl) ?_ ?_; rotate_left; (intro wy hSw; (try dsimp only at hSw); go_simp; (first | done | with_reducible rfl)); try simp only [Act.put, List.getElem_toArray, List.getElem_cons_zero, List.getElem_cons_succ, List.setIfInBounds_toArray, List.set_cons_zero, List.set_cons_succ])
 refine tkE ?_
 refine wpAnyH_done (by kernel_rfl) ?_ _
 clear hHeld
 have c92 := hS.2.1
 have way : (imm = 0 ∨ imm = 4) ∨ (imm = 1 ∨ imm = 3) ∨ imm = 2 ∨ (imm ≠ 0 /\ imm ≠ 1 /\ imm ≠ 2 /\ imm ≠ 3 /\ imm ≠ 4) := by omega
 rcases way with (rfl | rfl) | (rfl | rfl) | rfl | ⟨i0, i1, i2, i3, i4⟩
 ·obtain rfl : n = v := by rw [HN.out]; rfl
  go_wp2
  exact bodyPost_end (results_none rfl _ _ _) rfl ⟨rfl, HEnd.out _ (by rfl)⟩
 ·obtain rfl : n = v := by rw [HN.out]; rfl
  go_wp2
  exact bodyPost_end (results_none rfl _ _ _) rfl ⟨rfl, HEnd.out _ (by rfl)⟩
 ·cases f
  ·obtain rfl : n = 0 := by rw [HN.out]; rfl
   go_wp2
   exact bodyPost_end (results_none rfl _ _ _) rfl ⟨rfl, HEnd.out _ (by rfl)⟩
  ·obtain rfl : n = 1 := by rw [HN.out]; rfl
   go_wp2
   exact bodyPost_end (results_none rfl _ _ _) rfl ⟨rfl, HEnd.out _ (by rfl)⟩
 ·cases f
  ·obtain rfl : n = 0 := by rw [HN.out]; rfl
   go_wp2
   exact bodyPost_end (results_none rfl _ _ _) rfl ⟨rfl, HEnd.out _ (by rfl)⟩
  ·obtain rfl : n = 1 := by rw [HN.out]; rfl
   go_wp2
   exact bodyPost_end (results_none rfl _ _ _) rfl ⟨rfl, HEnd.out _ (by rfl)⟩
 ·by_cases hE : E = 0
  ·obtain rfl : n = 1 := by rw [HN.out, hE]; rfl
   have hEb : (E == 0) = true := by simpa using hE
   go_wp2
   exact bodyPost_end (results_none rfl _ _ _) rfl ⟨rfl, HEnd.out _ (by rfl)⟩
  ·obtain rfl : n = 0 := by rw [HN.out]; unfold valE; rw [if_neg (by omega), if_neg (by simp [hE])]
   have hEb : (E == 0) = false := by simpa using hE
   go_wp2
   exact bodyPost_end (results_none rfl _ _ _) rfl ⟨rfl, HEnd.out _ (by rfl)⟩
 ·obtain rfl : n = 0 := by rw [HN.out]; unfold valE; rw [if_neg (by omega), if_neg (by simp [i1, i2, i3])]
  have b0 : (imm == 0) = false := by simpa using i0
  have b1 : (imm == 1) = false := by simpa using i1
  have b2 : (imm == 2) = false := by simpa using i2
  have b3 : (imm == 3) = false := by simpa using i3
  have b4 : (imm == 4) = false := by simpa using i4
  go_wp2
  exact bodyPost_end (results_none rfl _ _ _) rfl ⟨rfl, HEnd.out _ (by rfl)⟩
end
end Go.Proofs.YtbaeakbnoijkcaaGreat
