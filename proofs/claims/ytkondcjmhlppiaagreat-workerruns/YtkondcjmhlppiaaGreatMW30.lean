/-
  E11Act
  E11LSmall
  E11LDo
  E11LNext
-/
import Derived.Test.YtkondcjmhlppiaaGreatMW28
import Derived.Test.YtkondcjmhlppiaaGreatMW9
import Derived.Test.YtkondcjmhlppiaaGreatMW5
import Derived.Test.YtkondcjmhlppiaaGreatMW8
import Derived.Test.YtkondcjmhlppiaaGreatMW11
import Derived.Test.YtkondcjmhlppiaaGreatMW20
import Derived.Deep.RegionHeldLaw
namespace Go.Proofs.YtkondcjmhlppiaaGreat
open Go.RowKit
set_option linter.unusedVariables false
set_option linter.unusedSimpArgs false
set_option maxRecDepth 100000
abbrev actC (k pc im io ik iv v : Int) : List Value := [.int .i64 k, .int .i64 pc, .int .i64 im, .int .i64 io, .int .u64 ik, .int .u64 iv, .int .u64 v]
abbrev actV (k pc im io ik iv v : Int) : Value := .agg #[.int .i64 k, .int .i64 pc, .int .i64 im, .int .i64 io, .int .u64 ik, .int .u64 iv, .int .u64 v]
theorem run_boxA {w : World} {n : Nat} {k pc im io ik iv v : Int} (h : Hp w n 71 (actC k pc im io ik iv v)) : (loadVar 71 ⟨n, 0, none⟩).run Tryz.prog w = .ok (actV k pc im io ik iv v) w := by
 refine run_loadVar_mid w n 0 71 (actC k pc im io ik iv v) _ ?_ Tryz.underlying71 rfl (by kernel_rfl)
 intro j x hx
 rw [Nat.zero_add]
 exact h.cell hx
theorem act_ret {fn : Func} {p : Tmp} {w2 : World} {n : Nat} {tmps : Array Value} {k pc im io ik iv v : Int} {Q : Ending -> World -> Prop} (hr : fn.results = #[.cell p 71]) (hp : tmps.getD p undef = .pointer (some ⟨n, 0, none⟩)) (hx : Hp w2 n 71 (actC k pc im io ik iv v)) (hQ : Q (.returned (actV k pc im io ik iv v)) w2) : bodyPost Tryz.prog fn Q .ret ⟨tmps, []⟩ w2 := by
 refine bodyPost_ret (v := actV k pc im io ik iv v) ?_ rfl hQ
 rw [results_cell hr, hp]
 simp only [asAddr, Sem.run_pure, Result.andThen]
 rw [run_boxA hx]
theorem grown_farL {w w' : World} {tb x j : Nat} (h : w.grownBy w' (some tb)) (hx : x < w.heap.size) (hne : x ≠ tb) : w'.cell? ⟨x, j, none⟩ = w.cell? ⟨x, j, none⟩ := World.cell?_of_block (h.block x hx (fun e => hne (by injection e)))
theorem Chg.cellL {w w' : World} {S : Nat -> Prop} (h : Chg w w' S) {x j : Nat} (hx : x < w.heap.size) (hS : ¬ S x) : w'.cell? ⟨x, j, none⟩ = w.cell? ⟨x, j, none⟩ := World.cell?_of_block (h.block x hx hS)
section
variable {b sb : Nat} {vm vc : Value} {ev : Int × Int} {M : Mc}
theorem boxL {w : World} (h : Ma w b sb vm vc ev M) (op d a bb imm : Int) : ∃ Z, Hid (Z = w.alloc (instO op d a bb imm)) /\ Below w.heap.size w Z /\ Z.heap.size = w.heap.size + 1 /\ Hid (Ma Z b sb vm vc ev M) /\ (Z.cell? ⟨w.heap.size, 0, none⟩ = some (.int .i64 op) /\ Z.cell? ⟨w.heap.size, 1, none⟩ = some (.int .i64 d) /\ Z.cell? ⟨w.heap.size, 2, none⟩ = some (.int .i64 a) /\ Z.cell? ⟨w.heap.size, 3, none⟩ = some (.int .i64 bb) /\ Z.cell? ⟨w.heap.size, 4, none⟩ = some (.int .i64 imm)) :=
 ⟨_, rfl, by go_grown, by simp, h.below ((Below.refl _ _).alloc (Nat.le_refl _) _) h.hp.lt, by go_cell, by go_cell, by go_cell, by go_cell, by go_cell⟩
theorem putL {w w4 : World} (h : Ma w b sb vm vc ev M) (hb : Below w.heap.size w w4) {k : Nat} (hk : k < 8) {v : Int} (hv : 0 <= v /\ v <= 18446744073709551615) : w.grownBy (w4.setCell ⟨b, 5 + k, none⟩ (.int .u64 v)) (some b) /\ Ma (w4.setCell ⟨b, 5 + k, none⟩ (.int .u64 v)) b sb vm vc ev { M with regs := M.regs.set k v } :=
 ⟨grownJ_trans (grown_of_below hb _) (grown_set w4 b (5 + k) _), (h.below hb h.hp.lt).setR hk hv⟩
set_option maxHeartbeats 800000 in
theorem msteps_any (w : World) (h : Ma w b sb vm vc ev M) : Calls Tryz.prog 26 #[.pointer (some ⟨b, 0, none⟩)] w fun e w' => e = .returned (.int .i64 M.steps) /\ w' = w := by
 have c := h.last.2.1
 have hlt := h.hp.lt
 go_enter Tryz.func26, Tryz.ntmps26
 go_wp2
 go_ret
 exact ⟨rfl, rfl⟩
set_option maxHeartbeats 800000 in
theorem mtold_any (k v : Int) (w : World) (h : Ma w b sb vm vc ev M) : Calls Tryz.prog 38 #[.pointer (some ⟨b, 0, none⟩), .int .i64 k, .int .u64 v] w fun e w' => e = .returned (actV k M.pc 0 0 0 0 v) /\ Below w.heap.size w w' := by
 have c := h.last.1
 have hlt := h.hp.lt
 go_enter Tryz.func38, Tryz.ntmps38
 go_wp2
 have hO := Hp.new w (actC k M.pc 0 0 0 0 v) 71
 refine act_ret rfl rfl hO ⟨rfl, by go_grown⟩
set_option maxHeartbeats 800000 in
theorem mfield_any (k : Int) (w : World) (h : Ma w b sb vm vc ev M) {v : Int} (hv : Hid ((if k = 0 then ev.1 else ev.2) = v)) : Calls Tryz.prog 70 #[.pointer (some ⟨b, 0, none⟩), .int .i64 k] w fun e w' => e = .returned (.int .u64 v) /\ w' = w := by
 have c0 := h.low.1
 have c1 := h.low.2.1
 by_cases hk : k = 0
 ·rw [if_pos hk] at hv
  rw [hv.out] at c0
  subst hk
  go_enter Tryz.func70, Tryz.ntmps70
  go_wp2
  go_ret
  exact ⟨rfl, rfl⟩
 ·rw [if_neg hk] at hv
  rw [hv.out] at c1
  have hk0 : (k == 0) = false := by simpa using hk
  go_enter Tryz.func70, Tryz.ntmps70
  go_wp2
  go_ret
  exact ⟨rfl, rfl⟩
set_option maxHeartbeats 1600000 in
theorem msource_any (i : In) (w : World) (h : Ma w b sb vm vc ev M) (hb : i.b = 8 ∨ (0 <= i.b /\ i.b <= 7)) {n : Int} (hn : Hid (srcV i M.regs = n)) :
  Calls Tryz.prog 67 #[.pointer (some ⟨b, 0, none⟩), instV i.op i.d i.a i.b i.imm] w fun e w' => e = .returned (.int .u64 n) /\ Below w.heap.size w w' := by
 obtain ⟨op, d, a, bb, imm⟩ := i
 simp only at hb ⊢
 have hlt := h.hp.lt
 by_cases h8 : bb = 8
 ·subst h8
  have HE : Hid (IntKind.u64.wrap imm = n) := by
   show _ = _
   rw [<- hn.out, IntKind.wrap_u64]
   rfl
  go_enter Tryz.func67, Tryz.ntmps67
  go_wp2
  go_ret
  exact ⟨by rw [<- HE.out]; first | rfl | (simp; done), by go_grown⟩
 ·have hb8 : (bb == 8) = false := by simpa using h8
  obtain ⟨k, rfl⟩ := Int.eq_ofNat_of_zero_le (show 0 <= bb by omega)
  have hk : k < 8 := by omega
  have hkI : (k : Int) < 8 := by omega
  have HE : Hid (M.regs.getD k 0 = n) := by
   show _ = _
   rw [<- hn.out]
   unfold srcV
   rw [if_neg h8]
   rfl
  have c1 := h.reg hk
  rw [HE.out] at c1
  obtain ⟨Z, HZ, hBZ, x0, x1, x2, x3, x4, z1⟩ : ∃ Z, Hid (Z = w.alloc (instO op d a k imm)) /\ Below w.heap.size w Z /\ Z.cell? ⟨w.heap.size, 0, none⟩ = some (.int .i64 op) /\ Z.cell? ⟨w.heap.size, 1, none⟩ = some (.int .i64 d) /\ Z.cell? ⟨w.heap.size, 2, none⟩ = some (.int .i64 a) /\ Z.cell? ⟨w.heap.size, 3, none⟩ = some (.int .i64 k) /\ Z.cell? ⟨w.heap.size, 4, none⟩ = some (.int .i64 imm) /\ Z.cell? ⟨b, 5 + k, none⟩ = some (.int .u64 n) := by
   refine ⟨_, rfl, by go_grown, by go_cell, by go_cell, by go_cell, by go_cell, by go_cell, ?_⟩
   rw [((Below.refl w.heap.size w).alloc (Nat.le_refl _) _).cell (p := ⟨b, 5 + k, none⟩) hlt]; exact c1
  clear c1
  go_enter Tryz.func67, Tryz.ntmps67
  go_wp2
  rw [<- HZ.out]
  go_region
  go_wp2
  go_ret
  exact ⟨rfl, below_drE hBZ⟩
end
section
variable {b sb : Nat} {vm vc : Value} {ev : Int × Int} {M : Mc}
set_option maxHeartbeats 6400000 in
theorem mdo_set (d a bb imm : Int) (w : World) (h : Ma w b sb vm vc ev M) (hd : 0 <= d /\ d <= 7) (hb : bb = 8 ∨ (0 <= bb /\ bb <= 7)) {y : Int} (HY : Hid (srcV ⟨0, d, a, bb, imm⟩ M.regs = y)) :
  Calls Tryz.prog 41 #[.pointer (some ⟨b, 0, none⟩), instV 0 d a bb imm] w fun e w' => e = .returned (.tuple #[]) /\ w.grownBy w' (some b) /\ Ma w' b sb vm vc ev { M with regs := M.regs.set d.toNat y } := by
 have hy : 0 <= y /\ y <= 18446744073709551615 := by rw [<- HY.out]; exact srcV_in h.wr hb
 obtain ⟨Z, HZ, hBZ, hzZ, HR, x0, x1, x2, x3, x4⟩ := boxL h 0 d a bb imm
 obtain ⟨k, rfl⟩ := Int.eq_ofNat_of_zero_le hd.1
 have hk : k < 8 := by omega
 have hkI : (k : Int) < 8 := by omega
 have hlt := h.hp.lt
 have hwb : w.heap.size ≠ b := by omega
 have HKP : Hid (∀ wx : World, Below Z.heap.size Z wx -> wx.cell? ⟨w.heap.size, 0, none⟩ = some (.int .i64 0) /\ wx.cell? ⟨w.heap.size, 1, none⟩ = some (.int .i64 k) /\ wx.cell? ⟨w.heap.size, 2, none⟩ = some (.int .i64 a) /\ wx.cell? ⟨w.heap.size, 3, none⟩ = some (.int .i64 bb) /\ wx.cell? ⟨w.heap.size, 4, none⟩ = some (.int .i64 imm)) := fun wx hb => ⟨(hb.cell (p := ⟨w.heap.size, 0, none⟩) (show w.heap.size < Z.heap.size by omega)).trans x0, (hb.cell (p := ⟨w.heap.size, 1, none⟩) (show w.heap.size < Z.heap.size by omega)).trans x1, (hb.cell (p := ⟨w.heap.size, 2, none⟩) (show w.heap.size < Z.heap.size by omega)).trans x2, (hb.cell (p := ⟨w.heap.size, 3, none⟩) (show w.heap.size < Z.heap.size by omega)).trans x3, (hb.cell (p := ⟨w.heap.size, 4, none⟩) (show w.heap.size < Z.heap.size by omega)).trans x4⟩
 have HKS : Hid (∀ (wx : World) (v : Int), (wx.cell? ⟨w.heap.size, 0, none⟩ = some (.int .i64 0) /\ wx.cell? ⟨w.heap.size, 1, none⟩ = some (.int .i64 k) /\ wx.cell? ⟨w.heap.size, 2, none⟩ = some (.int .i64 a) /\ wx.cell? ⟨w.heap.size, 3, none⟩ = some (.int .i64 bb) /\ wx.cell? ⟨w.heap.size, 4, none⟩ = some (.int .i64 imm)) -> w.heap.size < wx.heap.size -> (wx.setCell ⟨b, 5 + k, none⟩ (.int .u64 v)).cell? ⟨w.heap.size, 0, none⟩ = some (.int .i64 0) /\ (wx.setCell ⟨b, 5 + k, none⟩ (.int .u64 v)).cell? ⟨w.heap.size, 1, none⟩ = some (.int .i64 k) /\ (wx.setCell ⟨b, 5 + k, none⟩ (.int .u64 v)).cell? ⟨w.heap.size, 2, none⟩ = some (.int .i64 a) /\ (wx.setCell ⟨b, 5 + k, none⟩ (.int .u64 v)).cell? ⟨w.heap.size, 3, none⟩ = some (.int .i64 bb) /\ (wx.setCell ⟨b, 5 + k, none⟩ (.int .u64 v)).cell? ⟨w.heap.size, 4, none⟩ = some (.int .i64 imm)) := fun wx v hk hw => ⟨(grown_farL (grown_set wx b (5 + k) _) hw hwb).trans hk.1, (grown_farL (grown_set wx b (5 + k) _) hw hwb).trans hk.2.1, (grown_farL (grown_set wx b (5 + k) _) hw hwb).trans hk.2.2.1, (grown_farL (grown_set wx b (5 + k) _) hw hwb).trans hk.2.2.2.1, (grown_farL (grown_set wx b (5 + k) _) hw hwb).trans hk.2.2.2.2⟩
 go_enter Tryz.func41, Tryz.ntmps41
 go_wp2
 rw [<- HZ.out]
 clear x0 x1 x2 x3 x4
 go_region_held3 (fun w' => w'.cell? ⟨w.heap.size, 0, none⟩ = some (.int .i64 0) /\ w'.cell? ⟨w.heap.size, 1, none⟩ = some (.int .i64 k) /\ w'.cell? ⟨w.heap.size, 2, none⟩ = some (.int .i64 a) /\ w'.cell? ⟨w.heap.size, 3, none⟩ = some (.int .i64 bb) /\ w'.cell? ⟨w.heap.size, 4, none⟩ = some (.int .i64 imm))
  (first | with_reducible exact hS4 | with_reducible exact hS5 | exact HKP.out Z (Below.refl _ _))
  (first
   | (go_at_call 67; go_must (refine (msource_any ⟨0, k, a, bb, imm⟩ Z.drew HR.out.drew hb HY).mono ?_); rintro e w4 ⟨rfl, hb4'⟩; go_must (have hb4 : Below Z.heap.size Z w4 := below_undrew hb4'; have hS4 := HKP.out w4 hb4; have hB4 : Below w.heap.size w w4 := hBZ.trans (hb4.mono hBZ.size); have hz4 := hb4.size; have hS5 := HKS.out w4 y hS4 (by omega); have y0 := ((h.below hB4 hlt).reg hk); have f0 := (h.below hB4 hlt).hp.frozen (5 + k); clear hb4')))
 go_wp2
 exact bodyPost_end (results_none rfl _ _ _) rfl ⟨rfl, (putL h hB4 hk hy).1, (putL h hB4 hk hy).2⟩
set_option maxHeartbeats 6400000 in
theorem mdo_three (op d a bb imm : Int) (w : World) (h : Ma w b sb vm vc ev M) (ho : 1 <= op /\ op <= 10) (hd : 0 <= d /\ d <= 7) (ha : 0 <= a /\ a <= 7) (hb : bb = 8 ∨ (0 <= bb /\ bb <= 7)) {x y n : Int} (HX : Hid (M.regs.getD a.toNat 0 = x)) (HY : Hid (srcV ⟨op, d, a, bb, imm⟩ M.regs = y)) (HN : Hid (n = doL op x y)) (hn : 0 <= n /\ n <= 18446744073709551615) :
  Calls Tryz.prog 41 #[.pointer (some ⟨b, 0, none⟩), instV op d a bb imm] w fun e w' => e = .returned (.tuple #[]) /\ w.grownBy w' (some b) /\ Ma w' b sb vm vc ev { M with regs := M.regs.set d.toNat n } := by
 have hy : 0 <= y /\ y <= 18446744073709551615 := by rw [<- HY.out]; exact srcV_in h.wr hb
 have hx : 0 <= x /\ x <= 18446744073709551615 := by rw [<- HX.out]; exact h.wr.2 _ (by omega)
 obtain ⟨Z, HZ, hBZ, hzZ, HR, x0, x1, x2, x3, x4⟩ := boxL h op d a bb imm
 obtain ⟨k, rfl⟩ := Int.eq_ofNat_of_zero_le hd.1
 have hk : k < 8 := by omega
 have hkI : (k : Int) < 8 := by omega
 obtain ⟨q, rfl⟩ := Int.eq_ofNat_of_zero_le ha.1
 have hq : q < 8 := by omega
 have hqI : (q : Int) < 8 := by omega
 have HX2 : Hid (M.regs.getD q 0 = x) := HX.out
 have h0 : (op == 0) = false := by simp; omega
 have h11 : (op == 11) = false := by simp; omega
 have h12 : (op == 12) = false := by simp; omega
 have h13 : (op == 13) = false := by simp; omega
 have h14 : (op == 14) = false := by simp; omega
 have HC : Hid (true = isOp op) := by show _ = _; unfold isOp; simp; omega
 have hltZ : b < Z.heap.size := HR.out.hp.lt
 have hlt := h.hp.lt
 have hwb : w.heap.size ≠ b := by omega
 have HKP : Hid (∀ wx : World, Below Z.heap.size Z wx -> wx.cell? ⟨b, 5 + q, none⟩ = some (.int .u64 x) /\ wx.cell? ⟨w.heap.size, 0, none⟩ = some (.int .i64 op) /\ wx.cell? ⟨w.heap.size, 1, none⟩ = some (.int .i64 k) /\ wx.cell? ⟨w.heap.size, 2, none⟩ = some (.int .i64 q) /\ wx.cell? ⟨w.heap.size, 3, none⟩ = some (.int .i64 bb) /\ wx.cell? ⟨w.heap.size, 4, none⟩ = some (.int .i64 imm)) := fun wx hb => ⟨by have := (HR.out.below hb (by omega)).reg hq; rw [HX2.out] at this; exact this, (hb.cell (p := ⟨w.heap.size, 0, none⟩) (show w.heap.size < Z.heap.size by omega)).trans x0, (hb.cell (p := ⟨w.heap.size, 1, none⟩) (show w.heap.size < Z.heap.size by omega)).trans x1, (hb.cell (p := ⟨w.heap.size, 2, none⟩) (show w.heap.size < Z.heap.size by omega)).trans x2, (hb.cell (p := ⟨w.heap.size, 3, none⟩) (show w.heap.size < Z.heap.size by omega)).trans x3, (hb.cell (p := ⟨w.heap.size, 4, none⟩) (show w.heap.size < Z.heap.size by omega)).trans x4⟩
 have HKQ : Hid (∀ wx : World, Below Z.heap.size Z wx -> wx.cell? ⟨w.heap.size, 0, none⟩ = some (.int .i64 op) /\ wx.cell? ⟨w.heap.size, 1, none⟩ = some (.int .i64 k) /\ wx.cell? ⟨w.heap.size, 2, none⟩ = some (.int .i64 q) /\ wx.cell? ⟨w.heap.size, 3, none⟩ = some (.int .i64 bb) /\ wx.cell? ⟨w.heap.size, 4, none⟩ = some (.int .i64 imm)) := fun wx hb => (HKP.out wx hb).2
 have HKS : Hid (∀ (wx : World) (v : Int), (wx.cell? ⟨w.heap.size, 0, none⟩ = some (.int .i64 op) /\ wx.cell? ⟨w.heap.size, 1, none⟩ = some (.int .i64 k) /\ wx.cell? ⟨w.heap.size, 2, none⟩ = some (.int .i64 q) /\ wx.cell? ⟨w.heap.size, 3, none⟩ = some (.int .i64 bb) /\ wx.cell? ⟨w.heap.size, 4, none⟩ = some (.int .i64 imm)) -> w.heap.size < wx.heap.size -> (wx.setCell ⟨b, 5 + k, none⟩ (.int .u64 v)).cell? ⟨w.heap.size, 0, none⟩ = some (.int .i64 op) /\ (wx.setCell ⟨b, 5 + k, none⟩ (.int .u64 v)).cell? ⟨w.heap.size, 1, none⟩ = some (.int .i64 k) /\ (wx.setCell ⟨b, 5 + k, none⟩ (.int .u64 v)).cell? ⟨w.heap.size, 2, none⟩ = some (.int .i64 q) /\ (wx.setCell ⟨b, 5 + k, none⟩ (.int .u64 v)).cell? ⟨w.heap.size, 3, none⟩ = some (.int .i64 bb) /\ (wx.setCell ⟨b, 5 + k, none⟩ (.int .u64 v)).cell? ⟨w.heap.size, 4, none⟩ = some (.int .i64 imm)) := fun wx v hk hw => ⟨(grown_farL (grown_set wx b (5 + k) _) hw hwb).trans hk.1, (grown_farL (grown_set wx b (5 + k) _) hw hwb).trans hk.2.1, (grown_farL (grown_set wx b (5 + k) _) hw hwb).trans hk.2.2.1, (grown_farL (grown_set wx b (5 + k) _) hw hwb).trans hk.2.2.2.1, (grown_farL (grown_set wx b (5 + k) _) hw hwb).trans hk.2.2.2.2⟩
 go_enter Tryz.func41, Tryz.ntmps41
 go_wp2
 rw [<- HZ.out]
 clear x0 x1 x2 x3 x4
 go_region_held3 (fun w' => w'.cell? ⟨b, 5 + q, none⟩ = some (.int .u64 x) /\ w'.cell? ⟨w.heap.size, 0, none⟩ = some (.int .i64 op) /\ w'.cell? ⟨w.heap.size, 1, none⟩ = some (.int .i64 k) /\ w'.cell? ⟨w.heap.size, 2, none⟩ = some (.int .i64 q) /\ w'.cell? ⟨w.heap.size, 3, none⟩ = some (.int .i64 bb) /\ w'.cell? ⟨w.heap.size, 4, none⟩ = some (.int .i64 imm))
  (first | with_reducible exact hS4 | exact HKP.out Z (Below.refl _ _))
  (first
   | (go_at_call 67; go_must (refine (msource_any ⟨op, k, q, bb, imm⟩ Z.drew HR.out.drew hb HY).mono ?_); rintro e w4 ⟨rfl, hb4'⟩; go_must (have hb4 : Below Z.heap.size Z w4 := below_undrew hb4'; have hS4 := HKP.out w4 hb4; have hB4 : Below w.heap.size w w4 := hBZ.trans (hb4.mono hBZ.size); have hz4 := hb4.size; clear hb4'))
   | (go_at_call 71; go_must (refine (do_as HN HC _ hx hy).mono ?_); rintro e w5 ⟨rfl, rfl⟩))
 have hQ4 := HKQ.out w4 hb4
 have hS5 := HKS.out w4 n hQ4 (by omega)
 have y0 := ((h.below hB4 hlt).reg hk)
 have f0 := (h.below hB4 hlt).hp.frozen (5 + k)
 clear hS4
 go_wp2
 go_region_held3 (fun w' => w'.cell? ⟨w.heap.size, 0, none⟩ = some (.int .i64 op) /\ w'.cell? ⟨w.heap.size, 1, none⟩ = some (.int .i64 k) /\ w'.cell? ⟨w.heap.size, 2, none⟩ = some (.int .i64 q) /\ w'.cell? ⟨w.heap.size, 3, none⟩ = some (.int .i64 bb) /\ w'.cell? ⟨w.heap.size, 4, none⟩ = some (.int .i64 imm))
  (first | with_reducible exact hQ4 | exact hS5 | exact hQ4)
  (fail)
 go_wp2
 exact bodyPost_end (results_none rfl _ _ _) rfl ⟨rfl, grown_drew (putL h hB4 hk hn).1, (putL h hB4 hk hn).2.drew⟩
set_option maxHeartbeats 6400000 in
theorem mdo_none (op d a bb imm : Int) (w : World) (h : Ma w b sb vm vc ev M) (ho : 15 <= op /\ op <= 20) (ha : 0 <= a /\ a <= 7) (hb : bb = 8 ∨ (0 <= bb /\ bb <= 7)) :
  Calls Tryz.prog 41 #[.pointer (some ⟨b, 0, none⟩), instV op d a bb imm] w fun e w' => e = .returned (.tuple #[]) /\ Below w.heap.size w w' := by
 obtain ⟨x, HX⟩ : ∃ x, Hid (M.regs.getD a.toNat 0 = x) := ⟨_, rfl⟩
 obtain ⟨y, HY⟩ : ∃ y, Hid (srcV ⟨op, d, a, bb, imm⟩ M.regs = y) := ⟨_, rfl⟩
 obtain ⟨n, HN⟩ : ∃ n, Hid (n = doL op x y) := ⟨_, rfl⟩
 have hy : 0 <= y /\ y <= 18446744073709551615 := by rw [<- HY.out]; exact srcV_in h.wr hb
 have hx : 0 <= x /\ x <= 18446744073709551615 := by rw [<- HX.out]; exact h.wr.2 _ (by omega)
 obtain ⟨Z, HZ, hBZ, hzZ, HR, x0, x1, x2, x3, x4⟩ := boxL h op d a bb imm
 obtain ⟨q, rfl⟩ := Int.eq_ofNat_of_zero_le ha.1
 have hq : q < 8 := by omega
 have hqI : (q : Int) < 8 := by omega
 have HX2 : Hid (M.regs.getD q 0 = x) := HX.out
 have h0 : (op == 0) = false := by simp; omega
 have h11 : (op == 11) = false := by simp; omega
 have h12 : (op == 12) = false := by simp; omega
 have h13 : (op == 13) = false := by simp; omega
 have h14 : (op == 14) = false := by simp; omega
 have HC : Hid (false = isOp op) := by show _ = _; unfold isOp; simp; omega
 have hltZ : b < Z.heap.size := HR.out.hp.lt
 have hlt := h.hp.lt
 have hwb : w.heap.size ≠ b := by omega
 have HKP : Hid (∀ wx : World, Below Z.heap.size Z wx -> wx.cell? ⟨b, 5 + q, none⟩ = some (.int .u64 x) /\ wx.cell? ⟨w.heap.size, 0, none⟩ = some (.int .i64 op) /\ wx.cell? ⟨w.heap.size, 1, none⟩ = some (.int .i64 d) /\ wx.cell? ⟨w.heap.size, 2, none⟩ = some (.int .i64 q) /\ wx.cell? ⟨w.heap.size, 3, none⟩ = some (.int .i64 bb) /\ wx.cell? ⟨w.heap.size, 4, none⟩ = some (.int .i64 imm)) := fun wx hb => ⟨by have := (HR.out.below hb (by omega)).reg hq; rw [HX2.out] at this; exact this, (hb.cell (p := ⟨w.heap.size, 0, none⟩) (show w.heap.size < Z.heap.size by omega)).trans x0, (hb.cell (p := ⟨w.heap.size, 1, none⟩) (show w.heap.size < Z.heap.size by omega)).trans x1, (hb.cell (p := ⟨w.heap.size, 2, none⟩) (show w.heap.size < Z.heap.size by omega)).trans x2, (hb.cell (p := ⟨w.heap.size, 3, none⟩) (show w.heap.size < Z.heap.size by omega)).trans x3, (hb.cell (p := ⟨w.heap.size, 4, none⟩) (show w.heap.size < Z.heap.size by omega)).trans x4⟩
 go_enter Tryz.func41, Tryz.ntmps41
 go_wp2
 rw [<- HZ.out]
 clear x0 x1 x2 x3 x4
 go_region_held3 (fun w' => w'.cell? ⟨b, 5 + q, none⟩ = some (.int .u64 x) /\ w'.cell? ⟨w.heap.size, 0, none⟩ = some (.int .i64 op) /\ w'.cell? ⟨w.heap.size, 1, none⟩ = some (.int .i64 d) /\ w'.cell? ⟨w.heap.size, 2, none⟩ = some (.int .i64 q) /\ w'.cell? ⟨w.heap.size, 3, none⟩ = some (.int .i64 bb) /\ w'.cell? ⟨w.heap.size, 4, none⟩ = some (.int .i64 imm))
  (first | with_reducible exact hS4 | exact HKP.out Z (Below.refl _ _))
  (first
   | (go_at_call 67; go_must (refine (msource_any ⟨op, d, q, bb, imm⟩ Z.drew HR.out.drew hb HY).mono ?_); rintro e w4 ⟨rfl, hb4'⟩; go_must (have hb4 : Below Z.heap.size Z w4 := below_undrew hb4'; have hS4 := HKP.out w4 hb4; have hB4 : Below w.heap.size w w4 := hBZ.trans (hb4.mono hBZ.size); have hz4 := hb4.size; clear hb4'))
   | (go_at_call 71; go_must (refine (do_as HN HC _ hx hy).mono ?_); rintro e w5 ⟨rfl, rfl⟩))
 go_wp2
 exact bodyPost_end (results_none rfl _ _ _) rfl ⟨rfl, hB4⟩
set_option maxHeartbeats 6400000 in
theorem mdo_load (d a bb imm : Int) (w : World) (h : Ma w b sb vm vc ev M) (hd : 0 <= d /\ d <= 7) (hb : bb = 8 ∨ (0 <= bb /\ bb <= 7)) {y n : Int} (HY : Hid (srcV ⟨11, d, a, bb, imm⟩ M.regs = y)) (hy : 0 <= y /\ y <= 15) {ws cs : List Int} (hs : Sc w sb ws cs) (HN : Hid (ws.getD y.toNat 0 = n)) (hn : 0 <= n /\ n <= 18446744073709551615) :
  Calls Tryz.prog 41 #[.pointer (some ⟨b, 0, none⟩), instV 11 d a bb imm] w fun e w' => e = .returned (.tuple #[]) /\ w.grownBy w' (some b) /\ Ma w' b sb vm vc ev { M with regs := M.regs.set d.toNat n } := by
 have hwy : IntKind.i64.wrap y = y := by rw [IntKind.wrap_i64]; omega
 have HIn : Hid (inB y = true) := decide_eq_true (by omega)
 have HN2 : Hid ((if inB y then ws.getD y.toNat 0 else 0) = n) := by show _ = _; rw [HIn.out]; exact HN.out
 have HN3 : Hid ((if inB y then 0 else 35 : Int) = 0) := by show _ = _; rw [HIn.out]; rfl
 obtain ⟨Z, HZ, hBZ, hzZ, HR, x0, x1, x2, x3, x4⟩ := boxL h 11 d a bb imm
 obtain ⟨k, rfl⟩ := Int.eq_ofNat_of_zero_le hd.1
 have hk : k < 8 := by omega
 have hkI : (k : Int) < 8 := by omega
 have hltZ : b < Z.heap.size := HR.out.hp.lt
 have hlt := h.hp.lt
 have hwb : w.heap.size ≠ b := by omega
 have HKP : Hid (∀ wx : World, Below Z.heap.size Z wx -> wx.cell? ⟨b, 4, none⟩ = some (.pointer (some ⟨sb, 0, none⟩)) /\ wx.cell? ⟨w.heap.size, 0, none⟩ = some (.int .i64 11) /\ wx.cell? ⟨w.heap.size, 1, none⟩ = some (.int .i64 k) /\ wx.cell? ⟨w.heap.size, 2, none⟩ = some (.int .i64 a) /\ wx.cell? ⟨w.heap.size, 3, none⟩ = some (.int .i64 bb) /\ wx.cell? ⟨w.heap.size, 4, none⟩ = some (.int .i64 imm)) := fun wx hb => ⟨(HR.out.below hb (by omega)).low.2.2.2.2, (hb.cell (p := ⟨w.heap.size, 0, none⟩) (show w.heap.size < Z.heap.size by omega)).trans x0, (hb.cell (p := ⟨w.heap.size, 1, none⟩) (show w.heap.size < Z.heap.size by omega)).trans x1, (hb.cell (p := ⟨w.heap.size, 2, none⟩) (show w.heap.size < Z.heap.size by omega)).trans x2, (hb.cell (p := ⟨w.heap.size, 3, none⟩) (show w.heap.size < Z.heap.size by omega)).trans x3, (hb.cell (p := ⟨w.heap.size, 4, none⟩) (show w.heap.size < Z.heap.size by omega)).trans x4⟩
 have HKQ : Hid (∀ wx : World, Below Z.heap.size Z wx -> wx.cell? ⟨w.heap.size, 0, none⟩ = some (.int .i64 11) /\ wx.cell? ⟨w.heap.size, 1, none⟩ = some (.int .i64 k) /\ wx.cell? ⟨w.heap.size, 2, none⟩ = some (.int .i64 a) /\ wx.cell? ⟨w.heap.size, 3, none⟩ = some (.int .i64 bb) /\ wx.cell? ⟨w.heap.size, 4, none⟩ = some (.int .i64 imm)) := fun wx hb => (HKP.out wx hb).2
 have HKS : Hid (∀ (wx : World) (v : Int), (wx.cell? ⟨w.heap.size, 0, none⟩ = some (.int .i64 11) /\ wx.cell? ⟨w.heap.size, 1, none⟩ = some (.int .i64 k) /\ wx.cell? ⟨w.heap.size, 2, none⟩ = some (.int .i64 a) /\ wx.cell? ⟨w.heap.size, 3, none⟩ = some (.int .i64 bb) /\ wx.cell? ⟨w.heap.size, 4, none⟩ = some (.int .i64 imm)) -> w.heap.size < wx.heap.size -> (wx.setCell ⟨b, 5 + k, none⟩ (.int .u64 v)).cell? ⟨w.heap.size, 0, none⟩ = some (.int .i64 11) /\ (wx.setCell ⟨b, 5 + k, none⟩ (.int .u64 v)).cell? ⟨w.heap.size, 1, none⟩ = some (.int .i64 k) /\ (wx.setCell ⟨b, 5 + k, none⟩ (.int .u64 v)).cell? ⟨w.heap.size, 2, none⟩ = some (.int .i64 a) /\ (wx.setCell ⟨b, 5 + k, none⟩ (.int .u64 v)).cell? ⟨w.heap.size, 3, none⟩ = some (.int .i64 bb) /\ (wx.setCell ⟨b, 5 + k, none⟩ (.int .u64 v)).cell? ⟨w.heap.size, 4, none⟩ = some (.int .i64 imm)) := fun wx v hk hw => ⟨(grown_farL (grown_set wx b (5 + k) _) hw hwb).trans hk.1, (grown_farL (grown_set wx b (5 + k) _) hw hwb).trans hk.2.1, (grown_farL (grown_set wx b (5 + k) _) hw hwb).trans hk.2.2.1, (grown_farL (grown_set wx b (5 + k) _) hw hwb).trans hk.2.2.2.1, (grown_farL (grown_set wx b (5 + k) _) hw hwb).trans hk.2.2.2.2⟩
 go_enter Tryz.func41, Tryz.ntmps41
 go_wp2
 rw [<- HZ.out]
 clear x0 x1 x2 x3 x4
 go_region_held3 (fun w' => w'.cell? ⟨b, 4, none⟩ = some (.pointer (some ⟨sb, 0, none⟩)) /\ w'.cell? ⟨w.heap.size, 0, none⟩ = some (.int .i64 11) /\ w'.cell? ⟨w.heap.size, 1, none⟩ = some (.int .i64 k) /\ w'.cell? ⟨w.heap.size, 2, none⟩ = some (.int .i64 a) /\ w'.cell? ⟨w.heap.size, 3, none⟩ = some (.int .i64 bb) /\ w'.cell? ⟨w.heap.size, 4, none⟩ = some (.int .i64 imm))
  (first | with_reducible exact hS4 | with_reducible exact hS5 | exact HKP.out Z (Below.refl _ _))
  (first
   | (go_at_call 67; go_must (refine (msource_any ⟨11, k, a, bb, imm⟩ Z.drew HR.out.drew hb HY).mono ?_); rintro e w4 ⟨rfl, hb4'⟩; go_must (have hb4 : Below Z.heap.size Z w4 := below_undrew hb4'; have hS4 := HKP.out w4 hb4; have hB4 : Below w.heap.size w w4 := hBZ.trans (hb4.mono hBZ.size); have hz4 := hb4.size; have hs4 := hs.below hB4 hs.lt; have hM5 := (putL h hB4 hk hn).2.low.2.2.2.2; have hS5 := And.intro hM5 (HKS.out w4 n (HKQ.out w4 hb4) (by omega)); have y0 := ((h.below hB4 hlt).reg hk); have f0 := (h.below hB4 hlt).hp.frozen (5 + k); clear hb4'))
   | (go_at_call 68; go_must (refine (load_as HN2 HN3 _ hs4).mono ?_); rintro e w5 ⟨rfl, rfl⟩))
 go_wp2
 exact bodyPost_end (results_none rfl _ _ _) rfl ⟨rfl, (putL h hB4 hk hn).1, (putL h hB4 hk hn).2⟩
set_option maxHeartbeats 6400000 in
theorem mdo_store (d a bb imm : Int) (w : World) (h : Ma w b sb vm vc ev M) (ha : 0 <= a /\ a <= 7) (hb : bb = 8 ∨ (0 <= bb /\ bb <= 7)) {x y : Int} (HX : Hid (M.regs.getD a.toNat 0 = x)) (HY : Hid (srcV ⟨12, d, a, bb, imm⟩ M.regs = y)) (hy : 0 <= y /\ y <= 15) {ws cs us : List Int} (hs : Sc w sb ws cs) (hne : b ≠ sb) (HU : Hid (ws.set y.toNat x = us)) :
  Calls Tryz.prog 41 #[.pointer (some ⟨b, 0, none⟩), instV 12 d a bb imm] w fun e w' => e = .returned (.tuple #[]) /\ w.grownBy w' (some sb) /\ Sc w' sb us cs := by
 have hwy : IntKind.i64.wrap y = y := by rw [IntKind.wrap_i64]; omega
 have HIn : Hid (inB y = true) := decide_eq_true (by omega)
 have HU2 : Hid ((if inB y then ws.set y.toNat x else ws) = us) := by show _ = _; rw [HIn.out]; exact HU.out
 have HN3 : Hid ((if inB y then 0 else 35 : Int) = 0) := by show _ = _; rw [HIn.out]; rfl
 obtain ⟨Z, HZ, hBZ, hzZ, HR, x0, x1, x2, x3, x4⟩ := boxL h 12 d a bb imm
 obtain ⟨q, rfl⟩ := Int.eq_ofNat_of_zero_le ha.1
 have hq : q < 8 := by omega
 have hqI : (q : Int) < 8 := by omega
 have HX2 : Hid (M.regs.getD q 0 = x) := HX.out
 have hltZ : b < Z.heap.size := HR.out.hp.lt
 have hsl := hs.lt
 have hws : w.heap.size ≠ sb := by omega
 have hlt := h.hp.lt
 have hwb : w.heap.size ≠ b := by omega
 have HKP : Hid (∀ wx : World, Below Z.heap.size Z wx -> wx.cell? ⟨b, 4, none⟩ = some (.pointer (some ⟨sb, 0, none⟩)) /\ wx.cell? ⟨b, 5 + q, none⟩ = some (.int .u64 x) /\ wx.cell? ⟨w.heap.size, 0, none⟩ = some (.int .i64 12) /\ wx.cell? ⟨w.heap.size, 1, none⟩ = some (.int .i64 d) /\ wx.cell? ⟨w.heap.size, 2, none⟩ = some (.int .i64 q) /\ wx.cell? ⟨w.heap.size, 3, none⟩ = some (.int .i64 bb) /\ wx.cell? ⟨w.heap.size, 4, none⟩ = some (.int .i64 imm)) := fun wx hb => ⟨(HR.out.below hb (by omega)).low.2.2.2.2, by have := (HR.out.below hb (by omega)).reg hq; rw [HX2.out] at this; exact this, (hb.cell (p := ⟨w.heap.size, 0, none⟩) (show w.heap.size < Z.heap.size by omega)).trans x0, (hb.cell (p := ⟨w.heap.size, 1, none⟩) (show w.heap.size < Z.heap.size by omega)).trans x1, (hb.cell (p := ⟨w.heap.size, 2, none⟩) (show w.heap.size < Z.heap.size by omega)).trans x2, (hb.cell (p := ⟨w.heap.size, 3, none⟩) (show w.heap.size < Z.heap.size by omega)).trans x3, (hb.cell (p := ⟨w.heap.size, 4, none⟩) (show w.heap.size < Z.heap.size by omega)).trans x4⟩
 go_enter Tryz.func41, Tryz.ntmps41
 go_wp2
 rw [<- HZ.out]
 clear x0 x1 x2 x3 x4
 go_region_held3 (fun w' => w'.cell? ⟨b, 4, none⟩ = some (.pointer (some ⟨sb, 0, none⟩)) /\ w'.cell? ⟨b, 5 + q, none⟩ = some (.int .u64 x) /\ w'.cell? ⟨w.heap.size, 0, none⟩ = some (.int .i64 12) /\ w'.cell? ⟨w.heap.size, 1, none⟩ = some (.int .i64 d) /\ w'.cell? ⟨w.heap.size, 2, none⟩ = some (.int .i64 q) /\ w'.cell? ⟨w.heap.size, 3, none⟩ = some (.int .i64 bb) /\ w'.cell? ⟨w.heap.size, 4, none⟩ = some (.int .i64 imm))
  (first | with_reducible exact hS6 | with_reducible exact hS4 | exact HKP.out Z (Below.refl _ _))
  (first
   | (go_at_call 67; go_must (refine (msource_any ⟨12, d, q, bb, imm⟩ Z.drew HR.out.drew hb HY).mono ?_); rintro e w4 ⟨rfl, hb4'⟩; go_must (have hb4 : Below Z.heap.size Z w4 := below_undrew hb4'; have hS4 := HKP.out w4 hb4; have hB4 : Below w.heap.size w w4 := hBZ.trans (hb4.mono hBZ.size); have hz4 := hb4.size; have hs4 := hs.below hB4 hs.lt; clear hb4'))
   | (go_at_call 69; go_must (refine (store_as HU2 HN3 w4 hs4).mono ?_); rintro e w5 ⟨rfl, hs5, hg5, hz5⟩; go_must (have hS6 : w5.cell? ⟨b, 4, none⟩ = some (.pointer (some ⟨sb, 0, none⟩)) /\ w5.cell? ⟨b, 5 + q, none⟩ = some (.int .u64 x) /\ w5.cell? ⟨w.heap.size, 0, none⟩ = some (.int .i64 12) /\ w5.cell? ⟨w.heap.size, 1, none⟩ = some (.int .i64 d) /\ w5.cell? ⟨w.heap.size, 2, none⟩ = some (.int .i64 q) /\ w5.cell? ⟨w.heap.size, 3, none⟩ = some (.int .i64 bb) /\ w5.cell? ⟨w.heap.size, 4, none⟩ = some (.int .i64 imm) := ⟨(grown_farL hg5 (by omega) hne).trans hS4.1, (grown_farL hg5 (by omega) hne).trans hS4.2.1, (grown_farL hg5 (by omega) hws).trans hS4.2.2.1, (grown_farL hg5 (by omega) hws).trans hS4.2.2.2.1, (grown_farL hg5 (by omega) hws).trans hS4.2.2.2.2.1, (grown_farL hg5 (by omega) hws).trans hS4.2.2.2.2.2.1, (grown_farL hg5 (by omega) hws).trans hS4.2.2.2.2.2.2⟩)))
 go_wp2
 exact bodyPost_end (results_none rfl _ _ _) rfl ⟨rfl, grownJ_trans (grown_of_below hB4 _) hg5, hs5⟩
set_option maxHeartbeats 6400000 in
theorem mdo_field (d a bb imm : Int) (w : World) (h : Ma w b sb vm vc ev M) (hd : 0 <= d /\ d <= 7) {n : Int} (HN : Hid ((if imm = 0 then ev.1 else ev.2) = n)) (hn : 0 <= n /\ n <= 18446744073709551615) :
  Calls Tryz.prog 41 #[.pointer (some ⟨b, 0, none⟩), instV 13 d a bb imm] w fun e w' => e = .returned (.tuple #[]) /\ w.grownBy w' (some b) /\ Ma w' b sb vm vc ev { M with regs := M.regs.set d.toNat n } := by
 obtain ⟨Z, HZ, hBZ, hzZ, HR, x0, x1, x2, x3, x4⟩ := boxL h 13 d a bb imm
 obtain ⟨k, rfl⟩ := Int.eq_ofNat_of_zero_le hd.1
 have hk : k < 8 := by omega
 have hkI : (k : Int) < 8 := by omega
 have hlt := h.hp.lt
 have hwb : w.heap.size ≠ b := by omega
 have HKP : Hid (∀ wx : World, Below Z.heap.size Z wx -> wx.cell? ⟨w.heap.size, 0, none⟩ = some (.int .i64 13) /\ wx.cell? ⟨w.heap.size, 1, none⟩ = some (.int .i64 k) /\ wx.cell? ⟨w.heap.size, 2, none⟩ = some (.int .i64 a) /\ wx.cell? ⟨w.heap.size, 3, none⟩ = some (.int .i64 bb) /\ wx.cell? ⟨w.heap.size, 4, none⟩ = some (.int .i64 imm)) := fun wx hb => ⟨(hb.cell (p := ⟨w.heap.size, 0, none⟩) (show w.heap.size < Z.heap.size by omega)).trans x0, (hb.cell (p := ⟨w.heap.size, 1, none⟩) (show w.heap.size < Z.heap.size by omega)).trans x1, (hb.cell (p := ⟨w.heap.size, 2, none⟩) (show w.heap.size < Z.heap.size by omega)).trans x2, (hb.cell (p := ⟨w.heap.size, 3, none⟩) (show w.heap.size < Z.heap.size by omega)).trans x3, (hb.cell (p := ⟨w.heap.size, 4, none⟩) (show w.heap.size < Z.heap.size by omega)).trans x4⟩
 have HKS : Hid (∀ (wx : World) (v : Int), (wx.cell? ⟨w.heap.size, 0, none⟩ = some (.int .i64 13) /\ wx.cell? ⟨w.heap.size, 1, none⟩ = some (.int .i64 k) /\ wx.cell? ⟨w.heap.size, 2, none⟩ = some (.int .i64 a) /\ wx.cell? ⟨w.heap.size, 3, none⟩ = some (.int .i64 bb) /\ wx.cell? ⟨w.heap.size, 4, none⟩ = some (.int .i64 imm)) -> w.heap.size < wx.heap.size -> (wx.setCell ⟨b, 5 + k, none⟩ (.int .u64 v)).cell? ⟨w.heap.size, 0, none⟩ = some (.int .i64 13) /\ (wx.setCell ⟨b, 5 + k, none⟩ (.int .u64 v)).cell? ⟨w.heap.size, 1, none⟩ = some (.int .i64 k) /\ (wx.setCell ⟨b, 5 + k, none⟩ (.int .u64 v)).cell? ⟨w.heap.size, 2, none⟩ = some (.int .i64 a) /\ (wx.setCell ⟨b, 5 + k, none⟩ (.int .u64 v)).cell? ⟨w.heap.size, 3, none⟩ = some (.int .i64 bb) /\ (wx.setCell ⟨b, 5 + k, none⟩ (.int .u64 v)).cell? ⟨w.heap.size, 4, none⟩ = some (.int .i64 imm)) := fun wx v hk hw => ⟨(grown_farL (grown_set wx b (5 + k) _) hw hwb).trans hk.1, (grown_farL (grown_set wx b (5 + k) _) hw hwb).trans hk.2.1, (grown_farL (grown_set wx b (5 + k) _) hw hwb).trans hk.2.2.1, (grown_farL (grown_set wx b (5 + k) _) hw hwb).trans hk.2.2.2.1, (grown_farL (grown_set wx b (5 + k) _) hw hwb).trans hk.2.2.2.2⟩
 have hS4 := HKP.out Z (Below.refl _ _)
 have hS5 := HKS.out Z n hS4 (by omega)
 have y0 := HR.out.reg hk
 have f0 := HR.out.hp.frozen (5 + k)
 go_enter Tryz.func41, Tryz.ntmps41
 go_wp2
 rw [<- HZ.out]
 clear x0 x1 x2 x3 x4
 go_region_held3 (fun w' => w'.cell? ⟨w.heap.size, 0, none⟩ = some (.int .i64 13) /\ w'.cell? ⟨w.heap.size, 1, none⟩ = some (.int .i64 k) /\ w'.cell? ⟨w.heap.size, 2, none⟩ = some (.int .i64 a) /\ w'.cell? ⟨w.heap.size, 3, none⟩ = some (.int .i64 bb) /\ w'.cell? ⟨w.heap.size, 4, none⟩ = some (.int .i64 imm))
  (first | with_reducible exact hS4 | with_reducible exact hS5 | exact hS4 | exact hS5)
  (first | (go_at_call 70; go_must (refine (mfield_any imm _ HR.out.drew HN).mono ?_); rintro e w4 ⟨rfl, rfl⟩))
 go_wp2
 exact bodyPost_end (results_none rfl _ _ _) rfl ⟨rfl, grown_drew (putL h hBZ hk hn).1, (putL h hBZ hk hn).2.drew⟩
set_option maxHeartbeats 6400000 in
theorem mdo_map (d a bb imm : Int) (w : World) (h : Ma w b sb vm vc ev M) (hd : 0 <= d /\ d <= 7) (hi : 0 <= imm /\ imm <= 3) :
  Calls Tryz.prog 41 #[.pointer (some ⟨b, 0, none⟩), instV 14 d a bb imm] w fun e w' => e = .returned (.tuple #[]) /\ w.grownBy w' (some b) /\ Ma w' b sb vm vc ev { M with regs := M.regs.set d.toNat imm } := by
 have hn : 0 <= imm /\ imm <= 18446744073709551615 := by omega
 have hwi : IntKind.u64.wrap imm = imm := by rw [IntKind.wrap_u64]; omega
 obtain ⟨Z, HZ, hBZ, hzZ, HR, x0, x1, x2, x3, x4⟩ := boxL h 14 d a bb imm
 obtain ⟨k, rfl⟩ := Int.eq_ofNat_of_zero_le hd.1
 have hk : k < 8 := by omega
 have hkI : (k : Int) < 8 := by omega
 have hlt := h.hp.lt
 have hwb : w.heap.size ≠ b := by omega
 have HKP : Hid (∀ wx : World, Below Z.heap.size Z wx -> wx.cell? ⟨w.heap.size, 0, none⟩ = some (.int .i64 14) /\ wx.cell? ⟨w.heap.size, 1, none⟩ = some (.int .i64 k) /\ wx.cell? ⟨w.heap.size, 2, none⟩ = some (.int .i64 a) /\ wx.cell? ⟨w.heap.size, 3, none⟩ = some (.int .i64 bb) /\ wx.cell? ⟨w.heap.size, 4, none⟩ = some (.int .i64 imm)) := fun wx hb => ⟨(hb.cell (p := ⟨w.heap.size, 0, none⟩) (show w.heap.size < Z.heap.size by omega)).trans x0, (hb.cell (p := ⟨w.heap.size, 1, none⟩) (show w.heap.size < Z.heap.size by omega)).trans x1, (hb.cell (p := ⟨w.heap.size, 2, none⟩) (show w.heap.size < Z.heap.size by omega)).trans x2, (hb.cell (p := ⟨w.heap.size, 3, none⟩) (show w.heap.size < Z.heap.size by omega)).trans x3, (hb.cell (p := ⟨w.heap.size, 4, none⟩) (show w.heap.size < Z.heap.size by omega)).trans x4⟩
 have HKS : Hid (∀ (wx : World) (v : Int), (wx.cell? ⟨w.heap.size, 0, none⟩ = some (.int .i64 14) /\ wx.cell? ⟨w.heap.size, 1, none⟩ = some (.int .i64 k) /\ wx.cell? ⟨w.heap.size, 2, none⟩ = some (.int .i64 a) /\ wx.cell? ⟨w.heap.size, 3, none⟩ = some (.int .i64 bb) /\ wx.cell? ⟨w.heap.size, 4, none⟩ = some (.int .i64 imm)) -> w.heap.size < wx.heap.size -> (wx.setCell ⟨b, 5 + k, none⟩ (.int .u64 v)).cell? ⟨w.heap.size, 0, none⟩ = some (.int .i64 14) /\ (wx.setCell ⟨b, 5 + k, none⟩ (.int .u64 v)).cell? ⟨w.heap.size, 1, none⟩ = some (.int .i64 k) /\ (wx.setCell ⟨b, 5 + k, none⟩ (.int .u64 v)).cell? ⟨w.heap.size, 2, none⟩ = some (.int .i64 a) /\ (wx.setCell ⟨b, 5 + k, none⟩ (.int .u64 v)).cell? ⟨w.heap.size, 3, none⟩ = some (.int .i64 bb) /\ (wx.setCell ⟨b, 5 + k, none⟩ (.int .u64 v)).cell? ⟨w.heap.size, 4, none⟩ = some (.int .i64 imm)) := fun wx v hk hw => ⟨(grown_farL (grown_set wx b (5 + k) _) hw hwb).trans hk.1, (grown_farL (grown_set wx b (5 + k) _) hw hwb).trans hk.2.1, (grown_farL (grown_set wx b (5 + k) _) hw hwb).trans hk.2.2.1, (grown_farL (grown_set wx b (5 + k) _) hw hwb).trans hk.2.2.2.1, (grown_farL (grown_set wx b (5 + k) _) hw hwb).trans hk.2.2.2.2⟩
 have hS4 := HKP.out Z (Below.refl _ _)
 have hS5 := HKS.out Z imm hS4 (by omega)
 have y0 := HR.out.reg hk
 have f0 := HR.out.hp.frozen (5 + k)
 go_enter Tryz.func41, Tryz.ntmps41
 go_wp2
 rw [<- HZ.out]
 clear x0 x1 x2 x3 x4
 go_region_held3 (fun w' => w'.cell? ⟨w.heap.size, 0, none⟩ = some (.int .i64 14) /\ w'.cell? ⟨w.heap.size, 1, none⟩ = some (.int .i64 k) /\ w'.cell? ⟨w.heap.size, 2, none⟩ = some (.int .i64 a) /\ w'.cell? ⟨w.heap.size, 3, none⟩ = some (.int .i64 bb) /\ w'.cell? ⟨w.heap.size, 4, none⟩ = some (.int .i64 imm))
  (first | with_reducible exact hS4 | exact hS5 | exact hS4)
  (fail)
 go_wp2
 exact bodyPost_end (results_none rfl _ _ _) rfl ⟨rfl, grown_drew (putL h hBZ hk hn).1, (putL h hBZ hk hn).2.drew⟩
end
theorem codeL {w : World} {cb co ccap p : Nat} {xs : List In} (h : SeesI w (.slice (some ⟨cb, co, none⟩) xs.length ccap) xs) (hp : p < xs.length) : At w cb (co + p * 5) (nth xs p) /\ cb < w.heap.size /\ xs.length <= ccap /\ ccap <= 9223372036854775807 := by
 obtain ⟨a, cap, hv, h1, hm, _, hcell⟩ := h
 injection hv with e1 e2 e3
 subst e1
 subst e3
 obtain ⟨b, off, e, hb, hat⟩ := hcell (fun e => by rw [e] at hp; simp at hp)
 injection e with e
 injection e with e e'
 subst e
 subst e'
 exact ⟨hat p hp, hb, h1, by unfold maxLen at hm; omega⟩
section
variable {b sb : Nat} {vm vc : Value} {ev : Int × Int} {M : Mc}
set_option maxHeartbeats 1600000 in
theorem mresult_any {cb co ccap : Nat} {xs : List In} (w : World) (h : Ma w b sb vm (.slice (some ⟨cb, co, none⟩) xs.length ccap) ev M) (hx : SeesI w (.slice (some ⟨cb, co, none⟩) xs.length ccap) xs) (hp : M.pc < xs.length) (ha : 0 <= (nth xs M.pc).a /\ (nth xs M.pc).a <= 7) {n : Int} (hn : Hid (regV M.regs (nth xs M.pc).a = n)) :
  Calls Tryz.prog 39 #[.pointer (some ⟨b, 0, none⟩)] w fun e w' => e = .returned (.int .u64 n) /\ Below w.heap.size w w' := by
 have hpI : (M.pc : Int) < xs.length := by omega
 have hp64 : (M.pc : Int) <= 100 := by have := h.pc; omega
 obtain ⟨hat, hcb, hcc, hcm⟩ := codeL hx hp
 obtain ⟨⟨op, d, a, bb, imm⟩, HI⟩ : ∃ i, Hid (nth xs M.pc = i) := ⟨_, rfl⟩
 rw [HI.out] at hat hn ha
 simp only at ha
 obtain ⟨q, rfl⟩ := Int.eq_ofNat_of_zero_le ha.1
 have hq : q < 8 := by omega
 have hqI : (q : Int) < 8 := by omega
 have HX : Hid (M.regs.getD q 0 = n) := hn.out
 obtain ⟨_, _, k2, _, _⟩ := hat
 simp only at k2
 have c7 := h.last.1
 have c3 := h.low.2.2.2.1
 have cr := h.reg hq
 rw [HX.out] at cr
 clear hx ha
 go_enter Tryz.func39, Tryz.ntmps39
 go_wp2
 go_region
 go_wp2
 go_ret
 exact ⟨rfl, below_drE (Below.refl _ _)⟩
set_option maxHeartbeats 1600000 in
theorem mtakes_any (n : Int) (w : World) (h : Ma w b sb vm vc ev M) (hn : 0 <= n /\ n <= 18446744073709551615) (hp : M.pc + 1 < 64) :
  Calls Tryz.prog 43 #[.pointer (some ⟨b, 0, none⟩), .int .u64 n] w fun e w' => e = .returned (.tuple #[]) /\ w.grownBy w' (some b) /\ Ma w' b sb vm vc ev { M with regs := M.regs.set 0 n, pc := M.pc + 1 } := by
 have hlt := h.hp.lt
 have hp64 : (M.pc : Int) <= 100 := by omega
 have c0 := h.reg (show 0 < 8 by omega)
 have f0 := h.hp.frozen 5
 have HM1 : Hid (Ma (w.setCell ⟨b, 5, none⟩ (.int .u64 n)) b sb vm vc ev { M with regs := M.regs.set 0 n }) := h.setR (k := 0) (by omega) hn
 have c7 := HM1.out.last.1
 have f7 := HM1.out.hp.frozen 77
 have HM2 : Hid (Ma ((w.setCell ⟨b, 5, none⟩ (.int .u64 n)).setCell ⟨b, 77, none⟩ (.int .i64 ((M.pc + 1 : Nat) : Int))) b sb vm vc ev { M with regs := M.regs.set 0 n, pc := M.pc + 1 }) := HM1.out.setP hp
 have HG : Hid (w.grownBy ((w.setCell ⟨b, 5, none⟩ (.int .u64 n)).setCell ⟨b, 77, none⟩ (.int .i64 ((M.pc + 1 : Nat) : Int))) (some b)) := grownJ_trans (grown_set w b 5 _) (grown_set _ b 77 _)
 have hc : ((M.pc + 1 : Nat) : Int) = (M.pc : Int) + 1 := by omega
 rw [hc] at HM2 HG
 go_enter Tryz.func43, Tryz.ntmps43
 go_wp2
 exact bodyPost_end (results_none rfl _ _ _) rfl ⟨rfl, HG.out, HM2.out⟩
end
end Go.Proofs.YtkondcjmhlppiaaGreat
