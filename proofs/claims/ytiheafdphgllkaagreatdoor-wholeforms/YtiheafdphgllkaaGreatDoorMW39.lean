/-
  E11Cells
  E11Act
  E11LSmall
  E11LDo
  E11LNext
-/
import Derived.Test.YtiheafdphgllkaaGreatDoorMW35
import Derived.Test.YtiheafdphgllkaaGreatDoorMW28
import Derived.Test.YtiheafdphgllkaaGreatDoorMW29
import Derived.Test.YtiheafdphgllkaaGreatDoorMW6
import Derived.Test.YtiheafdphgllkaaGreatDoorMW4
import Derived.Test.YtiheafdphgllkaaGreatDoorMW30
import Derived.Deep.RegionHeld3
import Derived.Deep.RegionHeldLaw
namespace Go.Proofs.YtiheafdphgllkaaGreatDoor
open Go.RowKit
set_option linter.unusedVariables false
set_option linter.unusedSimpArgs false
set_option maxRecDepth 100000
theorem below_drE {B : Nat} {w Z : World} (h : Below B w Z) : Below B w Z.drew := ⟨h.os, h.tape, h.output, h.size, h.block⟩
def tnC (c : Int -> Int) : List Value := (List.range 64).map fun j : Nat => Value.int .i64 (c j)
theorem tnC_at (c : Int -> Int) {j : Nat} (h : j < 64) : (tnC c)[j]? = some (.int .i64 (c j)) := by
 unfold tnC
 rw [List.getElem?_map, List.getElem?_range h]
 rfl
theorem tnC_len (c : Int -> Int) : (tnC c).length = 64 := by simp [tnC]
theorem tnC_set (c : Int -> Int) {p : Nat} (h : p < 64) (v : Int) : (tnC c).set p (.int .i64 v) = tnC (fun t => if t = p then v else c t) := by
 apply List.ext_getElem?
 intro j
 rw [List.getElem?_set]
 by_cases hj : j < 64
 ·by_cases e : p = j
  ·subst e
   rw [if_pos rfl, if_pos (by rw [tnC_len]; exact hj), tnC_at _ hj]
   simp
  ·rw [if_neg e, tnC_at _ hj, tnC_at _ hj, if_neg (by omega)]
 ·rw [List.getElem?_eq_none (by rw [tnC_len]; omega), if_neg (by omega), List.getElem?_eq_none (by rw [tnC_len]; omega)]
theorem nums_get {R : List Int} {r : Nat} (h : r < R.length) : (nums R)[r]? = some (.int .u64 (R.getD r 0)) := by
 unfold nums
 rw [List.getElem?_map, List.getElem?_eq_getElem h, List.getD_eq_getElem?_getD, List.getElem?_eq_getElem h]
 rfl
theorem nums_setI (R : List Int) (r : Nat) (v : Int) : (nums R).set r (.int .u64 v) = nums (R.set r v) := by
 unfold nums
 rw [List.map_set]
def mcC (vm vc : Value) (ev : Int × Int) (sb : Nat) (M : Mc) : List Value := [.int .u64 ev.1, .int .u64 ev.2, vm, vc, .pointer (some ⟨sb, 0, none⟩)] ++ (nums M.regs ++ (tnC M.turn ++ [.int .i64 M.pc, .int .i64 M.steps, .int .i64 M.mode]))
theorem app_at {α : Type} {a b : List α} {n k : Nat} {v : α} (ha : a.length = n) (h : b[k]? = some v) : (a ++ b)[n + k]? = some v := by
 rw [List.getElem?_append_right (by omega), ha, show n + k - n = k by omega]; exact h
theorem app_ahead {α : Type} {a b : List α} {k : Nat} {v : α} (h : a[k]? = some v) : (a ++ b)[k]? = some v := by
 have hk : k < a.length := (List.getElem?_eq_some_iff.1 h).1
 rw [List.getElem?_append_left hk]; exact h
theorem app_set {α : Type} {a b : List α} {n k : Nat} {v : α} (ha : a.length = n) : (a ++ b).set (n + k) v = a ++ b.set k v := by
 rw [List.set_append_right _ _ (by omega), ha, show n + k - n = k by omega]
theorem app_seta {α : Type} {a b : List α} {k : Nat} {v : α} (h : k < a.length) : (a ++ b).set k v = a.set k v ++ b := by
 rw [List.set_append_left _ _ h]
section
variable {vm vc : Value} {ev : Int × Int} {sb : Nat} {M : Mc}
theorem mcC_low (k : Nat) (hk : k < 5) : (mcC vm vc ev sb M)[k]? = [Value.int .u64 ev.1, .int .u64 ev.2, vm, vc, .pointer (some ⟨sb, 0, none⟩)][k]? := by
 unfold mcC
 rw [List.getElem?_append_left (by simpa using hk)]
theorem mcC_reg (hR : M.regs.length = 8) {k : Nat} (hk : k < 8) : (mcC vm vc ev sb M)[5 + k]? = some (.int .u64 (M.regs.getD k 0)) := by
 unfold mcC
 exact app_at rfl (app_ahead (nums_get (by omega)))
theorem mcC_turn (hR : M.regs.length = 8) {k : Nat} (hk : k < 64) : (mcC vm vc ev sb M)[13 + k]? = some (.int .i64 (M.turn k)) := by
 unfold mcC
 rw [show 13 + k = 5 + (8 + k) by omega]
 exact app_at rfl (app_at (by rw [nums_len, hR]) (app_ahead (tnC_at _ hk)))
theorem mcC_last (hR : M.regs.length = 8) (k : Nat) : (mcC vm vc ev sb M)[77 + k]? = [Value.int .i64 M.pc, .int .i64 M.steps, .int .i64 M.mode][k]? := by
 unfold mcC
 rw [List.getElem?_append_right (by simp; omega), List.getElem?_append_right (by rw [nums_len, hR]; simp; omega), List.getElem?_append_right (by rw [nums_len, hR, tnC_len]; simp; omega), nums_len, hR, tnC_len]
 simp only [List.length_cons, List.length_nil]
 congr 1
 omega
theorem mcC_setR {k : Nat} (hk : k < 8) (hR : M.regs.length = 8) (v : Int) : (mcC vm vc ev sb M).set (5 + k) (.int .u64 v) = mcC vm vc ev sb { M with regs := M.regs.set k v } := by
 unfold mcC
 rw [app_set (by rfl), app_seta (by rw [nums_len, hR]; exact hk), nums_setI]
theorem mcC_setT {k : Nat} (hk : k < 64) (hR : M.regs.length = 8) (v : Int) : (mcC vm vc ev sb M).set (13 + k) (.int .i64 v) = mcC vm vc ev sb { M with turn := fun t => if t = k then v else M.turn t } := by
 unfold mcC
 rw [show 13 + k = 5 + (8 + k) by omega, app_set (by rfl), app_set (by rw [nums_len, hR]), app_seta (by rw [tnC_len]; exact hk), tnC_set _ hk]
theorem mcC_setL (hR : M.regs.length = 8) (k : Nat) (v : Value) : (mcC vm vc ev sb M).set (77 + k) v = [.int .u64 ev.1, .int .u64 ev.2, vm, vc, .pointer (some ⟨sb, 0, none⟩)] ++ (nums M.regs ++ (tnC M.turn ++ [.int .i64 M.pc, .int .i64 M.steps, .int .i64 M.mode].set k v)) := by
 unfold mcC
 rw [show 77 + k = 5 + (8 + (64 + k)) by omega, app_set (by rfl), app_set (by rw [nums_len, hR]), app_set (by rw [tnC_len])]
theorem mcC_setP (hR : M.regs.length = 8) (p : Nat) : (mcC vm vc ev sb M).set 77 (.int .i64 p) = mcC vm vc ev sb { M with pc := p } := mcC_setL hR 0 _
theorem mcC_setN (hR : M.regs.length = 8) (p : Nat) : (mcC vm vc ev sb M).set 78 (.int .i64 p) = mcC vm vc ev sb { M with steps := p } := mcC_setL hR 1 _
theorem mcC_setM (hR : M.regs.length = 8) (p : Nat) : (mcC vm vc ev sb M).set 79 (.int .i64 p) = mcC vm vc ev sb { M with mode := p } := mcC_setL hR 2 _
end
structure Ma (w : World) (b sb : Nat) (vm vc : Value) (ev : Int × Int) (M : Mc) : Prop where
 hp : Hp w b 154 (mcC vm vc ev sb M)
 wr : WR M.regs
 pc : M.pc < 64
section
variable {w w' : World} {b sb : Nat} {vm vc : Value} {ev : Int × Int} {M : Mc}
theorem Ma.below {B : Nat} (h : Ma w b sb vm vc ev M) (hb : Below B w w') (hB : b < B) : Ma w' b sb vm vc ev M := ⟨h.hp.below hb hB, h.wr, h.pc⟩
theorem Ma.grown {row : Option Nat} (h : Ma w b sb vm vc ev M) (hg : w.grownBy w' row) (hne : some b ≠ row) : Ma w' b sb vm vc ev M := ⟨h.hp.grown hg hne, h.wr, h.pc⟩
theorem Ma.drew (h : Ma w b sb vm vc ev M) : Ma w.drew b sb vm vc ev M := ⟨h.hp.drew, h.wr, h.pc⟩
theorem Ma.low (h : Ma w b sb vm vc ev M) : w.cell? ⟨b, 0, none⟩ = some (.int .u64 ev.1) /\ w.cell? ⟨b, 1, none⟩ = some (.int .u64 ev.2) /\ w.cell? ⟨b, 2, none⟩ = some vm /\ w.cell? ⟨b, 3, none⟩ = some vc /\ w.cell? ⟨b, 4, none⟩ = some (.pointer (some ⟨sb, 0, none⟩)) :=
 ⟨h.hp.cell (mcC_low 0 (by decide)), h.hp.cell (mcC_low 1 (by decide)), h.hp.cell (mcC_low 2 (by decide)), h.hp.cell (mcC_low 3 (by decide)), h.hp.cell (mcC_low 4 (by decide))⟩
theorem Ma.reg (h : Ma w b sb vm vc ev M) {k : Nat} (hk : k < 8) : w.cell? ⟨b, 5 + k, none⟩ = some (.int .u64 (M.regs.getD k 0)) := h.hp.cell (mcC_reg h.wr.1 hk)
theorem Ma.turn (h : Ma w b sb vm vc ev M) : w.cell? ⟨b, 13 + M.pc, none⟩ = some (.int .i64 (M.turn M.pc)) := h.hp.cell (mcC_turn h.wr.1 h.pc)
theorem Ma.last (h : Ma w b sb vm vc ev M) : w.cell? ⟨b, 77, none⟩ = some (.int .i64 M.pc) /\ w.cell? ⟨b, 78, none⟩ = some (.int .i64 M.steps) /\ w.cell? ⟨b, 79, none⟩ = some (.int .i64 M.mode) :=
 ⟨h.hp.cell (mcC_last h.wr.1 0), h.hp.cell (mcC_last h.wr.1 1), h.hp.cell (mcC_last h.wr.1 2)⟩
theorem Ma.setR (h : Ma w b sb vm vc ev M) {k : Nat} (hk : k < 8) {v : Int} (hv : 0 <= v /\ v <= 18446744073709551615) : Ma (w.setCell ⟨b, 5 + k, none⟩ (.int .u64 v)) b sb vm vc ev { M with regs := M.regs.set k v } := by
 refine ⟨?_, h.wr.set k hv, h.pc⟩
 have := h.hp.set (5 + k) (.int .u64 v)
 rw [mcC_setR hk h.wr.1] at this
 exact this
theorem Ma.setT (h : Ma w b sb vm vc ev M) (v : Int) : Ma (w.setCell ⟨b, 13 + M.pc, none⟩ (.int .i64 v)) b sb vm vc ev { M with turn := fun t => if t = M.pc then v else M.turn t } := by
 refine ⟨?_, h.wr, h.pc⟩
 have := h.hp.set (13 + M.pc) (.int .i64 v)
 rw [mcC_setT h.pc h.wr.1] at this
 exact this
theorem Ma.setP (h : Ma w b sb vm vc ev M) {p : Nat} (hp : p < 64) : Ma (w.setCell ⟨b, 77, none⟩ (.int .i64 p)) b sb vm vc ev { M with pc := p } := by
 refine ⟨?_, h.wr, hp⟩
 have := h.hp.set 77 (.int .i64 p)
 rw [mcC_setP h.wr.1] at this
 exact this
theorem Ma.setN (h : Ma w b sb vm vc ev M) (p : Nat) : Ma (w.setCell ⟨b, 78, none⟩ (.int .i64 p)) b sb vm vc ev { M with steps := p } := by
 refine ⟨?_, h.wr, h.pc⟩
 have := h.hp.set 78 (.int .i64 p)
 rw [mcC_setN h.wr.1] at this
 exact this
theorem Ma.setM (h : Ma w b sb vm vc ev M) (p : Nat) : Ma (w.setCell ⟨b, 79, none⟩ (.int .i64 p)) b sb vm vc ev { M with mode := p } := by
 refine ⟨?_, h.wr, h.pc⟩
 have := h.hp.set 79 (.int .i64 p)
 rw [mcC_setM h.wr.1] at this
 exact this
end
abbrev actC (k pc im io ik iv v : Int) : List Value := [.int .i64 k, .int .i64 pc, .int .i64 im, .int .i64 io, .int .u64 ik, .int .u64 iv, .int .u64 v]
abbrev actV (k pc im io ik iv v : Int) : Value := .agg #[.int .i64 k, .int .i64 pc, .int .i64 im, .int .i64 io, .int .u64 ik, .int .u64 iv, .int .u64 v]
theorem run_boxA {w : World} {n : Nat} {k pc im io ik iv v : Int} (h : Hp w n 55 (actC k pc im io ik iv v)) : (loadVar 55 ⟨n, 0, none⟩).run Tryz.prog w = .ok (actV k pc im io ik iv v) w := by
 refine run_loadVar_mid w n 0 55 (actC k pc im io ik iv v) _ ?_ Tryz.underlying55 rfl (by kernel_rfl)
 intro j x hx
 rw [Nat.zero_add]
 exact h.cell hx
theorem act_ret {fn : Func} {p : Tmp} {w2 : World} {n : Nat} {tmps : Array Value} {k pc im io ik iv v : Int} {Q : Ending -> World -> Prop} (hr : fn.results = #[.cell p 55]) (hp : tmps.getD p undef = .pointer (some ⟨n, 0, none⟩)) (hx : Hp w2 n 55 (actC k pc im io ik iv v)) (hQ : Q (.returned (actV k pc im io ik iv v)) w2) : bodyPost Tryz.prog fn Q .ret ⟨tmps, []⟩ w2 := by
 refine bodyPost_ret (v := actV k pc im io ik iv v) ?_ rfl hQ
 rw [results_cell hr, hp]
 simp only [asAddr, Sem.run_pure, Result.andThen]
 rw [run_boxA hx]
theorem grown_farL {w w' : World} {tb x j : Nat} (h : w.grownBy w' (some tb)) (hx : x < w.heap.size) (hne : x ≠ tb) : w'.cell? ⟨x, j, none⟩ = w.cell? ⟨x, j, none⟩ := World.cell?_of_block (h.block x hx (fun e => hne (by injection e)))
theorem Chg.cellL {w w' : World} {S : Nat -> Prop} (h : Chg w w' S) {x j : Nat} (hx : x < w.heap.size) (hS : ¬ S x) : w'.cell? ⟨x, j, none⟩ = w.cell? ⟨x, j, none⟩ := World.cell?_of_block (h.block x hx hS)
section
variable {b sb : Nat} {vm vc : Value} {ev : Int × Int} {M : Mc}
theorem boxL {w : World} (h : Ma w b sb vm vc ev M) (op d a bb imm : Int) : ∃ Z, Hid (Z = w.alloc (instO op d a bb imm)) /\ Below w.heap.size w Z /\ Z.heap.size = w.heap.size + 1 /\ Hid (Ma Z b sb vm vc ev M) /\ (Z.cell? ⟨w.heap.size, 0, none⟩ = some (.int .i64 op) /\ Z.cell? ⟨w.heap.size, 1, none⟩ = some (.int .i64 d) /\ Z.cell? ⟨w.heap.size, 2, none⟩ = some (.int .i64 a) /\ Z.cell? ⟨w.heap.size, 3, none⟩ = some (.int .i64 bb) /\ Z.cell? ⟨w.heap.size, 4, none⟩ = some (.int .i64 imm)) :=
 ⟨_, rfl, by go_grown, by simp, h.below ((Below.refl _ _).alloc (Nat.le_refl _) _) h.hp.lt, by go_cell, by go_cell, by go_cell, by go_cell, by go_cell⟩
theorem putL {w w4 : World} (h : Ma w b sb vm vc ev M) (hb : Below w.heap.size w w4) {k : Nat} (hk : k < 8) {v : Int} (hv : 0 <= v /\ v <= 18446744073709551615) : w.grownBy (w4.setCell ⟨b, 5 + k, none⟩ (.int .u64 v)) (some b) /\ Ma (w4.setCell ⟨b, 5 + k, none⟩ (.int .u64 v)) b sb vm vc ev { M with regs := M.regs.set k v } :=
 ⟨grownJ_trans (grown_of_below hb _) (grown_set w4 b (5 + k) _), (h.below hb h.hp.lt).setR hk hv⟩
set_option maxHeartbeats 800000 in
theorem mtold_any (k v : Int) (w : World) (h : Ma w b sb vm vc ev M) : Calls Tryz.prog 62 #[.pointer (some ⟨b, 0, none⟩), .int .i64 k, .int .u64 v] w fun e w' => e = .returned (actV k M.pc 0 0 0 0 v) /\ Below w.heap.size w w' := by
 have c := h.last.1
 have hlt := h.hp.lt
 go_enter Tryz.func62, Tryz.ntmps62
 go_wp2
 have hO := Hp.new w (actC k M.pc 0 0 0 0 v) 55
 refine act_ret rfl rfl hO ⟨rfl, by go_grown⟩
set_option maxHeartbeats 800000 in
theorem mfield_any (k : Int) (w : World) (h : Ma w b sb vm vc ev M) {v : Int} (hv : Hid ((if k = 0 then ev.1 else ev.2) = v)) : Calls Tryz.prog 104 #[.pointer (some ⟨b, 0, none⟩), .int .i64 k] w fun e w' => e = .returned (.int .u64 v) /\ w' = w := by
 have c0 := h.low.1
 have c1 := h.low.2.1
 by_cases hk : k = 0
 ·rw [if_pos hk] at hv
  rw [hv.out] at c0
  subst hk
  go_enter Tryz.func104, Tryz.ntmps104
  go_wp2
  go_ret
  exact ⟨rfl, rfl⟩
 ·rw [if_neg hk] at hv
  rw [hv.out] at c1
  have hk0 : (k == 0) = false := by simpa using hk
  go_enter Tryz.func104, Tryz.ntmps104
  go_wp2
  go_ret
  exact ⟨rfl, rfl⟩
set_option maxHeartbeats 1600000 in
theorem msource_any (i : In) (w : World) (h : Ma w b sb vm vc ev M) (hb : i.b = 8 ∨ (0 <= i.b /\ i.b <= 7)) {n : Int} (hn : Hid (srcV i M.regs = n)) :
  Calls Tryz.prog 101 #[.pointer (some ⟨b, 0, none⟩), instV i.op i.d i.a i.b i.imm] w fun e w' => e = .returned (.int .u64 n) /\ Below w.heap.size w w' := by
 obtain ⟨op, d, a, bb, imm⟩ := i
 simp only at hb ⊢
 have hlt := h.hp.lt
 by_cases h8 : bb = 8
 ·subst h8
  have HE : Hid (IntKind.u64.wrap imm = n) := by
   show _ = _
   rw [<- hn.out, IntKind.wrap_u64]
   rfl
  go_enter Tryz.func101, Tryz.ntmps101
  go_wp2
  go_ret
  exact ⟨by rw [<- HE.out]; first | rfl | (simp; done), by go_grown⟩
 ·have hb8 : (bb == 8) = false := by simpa using h8
  obtain ⟨k, rfl⟩ := Int.eq_ofNat_of_zero_le (show 0 <= bb by omega)
  have hk : k < 8 := by omega
  have hkI : (k : Int) < 8 := by omega
  have HE : Hid (M.regs.getD k 0 = n) := by
   show _ = _
   rw [<- hn.out]
   unfold srcV
   rw [if_neg h8]
   rfl
  have c1 := h.reg hk
  rw [HE.out] at c1
  obtain ⟨Z, HZ, hBZ, x0, x1, x2, x3, x4, z1⟩ : ∃ Z, Hid (Z = w.alloc (instO op d a k imm)) /\ Below w.heap.size w Z /\ Z.cell? ⟨w.heap.size, 0, none⟩ = some (.int .i64 op) /\ Z.cell? ⟨w.heap.size, 1, none⟩ = some (.int .i64 d) /\ Z.cell? ⟨w.heap.size, 2, none⟩ = some (.int .i64 a) /\ Z.cell? ⟨w.heap.size, 3, none⟩ = some (.int .i64 k) /\ Z.cell? ⟨w.heap.size, 4, none⟩ = some (.int .i64 imm) /\ Z.cell? ⟨b, 5 + k, none⟩ = some (.int .u64 n) := by
   refine ⟨_, rfl, by go_grown, by go_cell, by go_cell, by go_cell, by go_cell, by go_cell, ?_⟩
   rw [((Below.refl w.heap.size w).alloc (Nat.le_refl _) _).cell (p := ⟨b, 5 + k, none⟩) hlt]; exact c1
  clear c1
  go_enter Tryz.func101, Tryz.ntmps101
  go_wp2
  rw [<- HZ.out]
  go_region
  go_wp2
  go_ret
  exact ⟨rfl, below_drE hBZ⟩
end
section
variable {b sb : Nat} {vm vc : Value} {ev : Int × Int} {M : Mc}
set_option maxHeartbeats 6400000 in
theorem mdo_set (d a bb imm : Int) (w : World) (h : Ma w b sb vm vc ev M) (hd : 0 <= d /\ d <= 7) (hb : bb = 8 ∨ (0 <= bb /\ bb <= 7)) {y : Int} (HY : Hid (srcV ⟨0, d, a, bb, imm⟩ M.regs = y)) :
  Calls Tryz.prog 65 #[.pointer (some ⟨b, 0, none⟩), instV 0 d a bb imm] w fun e w' => e = .returned (.tuple #[]) /\ w.grownBy w' (some b) /\ Ma w' b sb vm vc ev { M with regs := M.regs.set d.toNat y } := by
 have hy : 0 <= y /\ y <= 18446744073709551615 := by rw [<- HY.out]; exact srcV_in h.wr hb
 obtain ⟨Z, HZ, hBZ, hzZ, HR, x0, x1, x2, x3, x4⟩ := boxL h 0 d a bb imm
 obtain ⟨k, rfl⟩ := Int.eq_ofNat_of_zero_le hd.1
 have hk : k < 8 := by omega
 have hkI : (k : Int) < 8 := by omega
 have hlt := h.hp.lt
 have hwb : w.heap.size ≠ b := by omega
 have HKP : Hid (∀ wx : World, Below Z.heap.size Z wx -> wx.cell? ⟨w.heap.size, 0, none⟩ = some (.int .i64 0) /\ wx.cell? ⟨w.heap.size, 1, none⟩ = some (.int .i64 k) /\ wx.cell? ⟨w.heap.size, 2, none⟩ = some (.int .i64 a) /\ wx.cell? ⟨w.heap.size, 3, none⟩ = some (.int .i64 bb) /\ wx.cell? ⟨w.heap.size, 4, none⟩ = some (.int .i64 imm)) := fun wx hb => ⟨(hb.cell (p := ⟨w.heap.size, 0, none⟩) (show w.heap.size < Z.heap.size by omega)).trans x0, (hb.cell (p := ⟨w.heap.size, 1, none⟩) (show w.heap.size < Z.heap.size by omega)).trans x1, (hb.cell (p := ⟨w.heap.size, 2, none⟩) (show w.heap.size < Z.heap.size by omega)).trans x2, (hb.cell (p := ⟨w.heap.size, 3, none⟩) (show w.heap.size < Z.heap.size by omega)).trans x3, (hb.cell (p := ⟨w.heap.size, 4, none⟩) (show w.heap.size < Z.heap.size by omega)).trans x4⟩
 have HKS : Hid (∀ (wx : World) (v : Int), (wx.cell? ⟨w.heap.size, 0, none⟩ = some (.int .i64 0) /\ wx.cell? ⟨w.heap.size, 1, none⟩ = some (.int .i64 k) /\ wx.cell? ⟨w.heap.size, 2, none⟩ = some (.int .i64 a) /\ wx.cell? ⟨w.heap.size, 3, none⟩ = some (.int .i64 bb) /\ wx.cell? ⟨w.heap.size, 4, none⟩ = some (.int .i64 imm)) -> w.heap.size < wx.heap.size -> (wx.setCell ⟨b, 5 + k, none⟩ (.int .u64 v)).cell? ⟨w.heap.size, 0, none⟩ = some (.int .i64 0) /\ (wx.setCell ⟨b, 5 + k, none⟩ (.int .u64 v)).cell? ⟨w.heap.size, 1, none⟩ = some (.int .i64 k) /\ (wx.setCell ⟨b, 5 + k, none⟩ (.int .u64 v)).cell? ⟨w.heap.size, 2, none⟩ = some (.int .i64 a) /\ (wx.setCell ⟨b, 5 + k, none⟩ (.int .u64 v)).cell? ⟨w.heap.size, 3, none⟩ = some (.int .i64 bb) /\ (wx.setCell ⟨b, 5 + k, none⟩ (.int .u64 v)).cell? ⟨w.heap.size, 4, none⟩ = some (.int .i64 imm)) := fun wx v hk hw => ⟨(grown_farL (grown_set wx b (5 + k) _) hw hwb).trans hk.1, (grown_farL (grown_set wx b (5 + k) _) hw hwb).trans hk.2.1, (grown_farL (grown_set wx b (5 + k) _) hw hwb).trans hk.2.2.1, (grown_farL (grown_set wx b (5 + k) _) hw hwb).trans hk.2.2.2.1, (grown_farL (grown_set wx b (5 + k) _) hw hwb).trans hk.2.2.2.2⟩
 go_enter Tryz.func65, Tryz.ntmps65
 go_wp2
 rw [<- HZ.out]
 clear x0 x1 x2 x3 x4
 go_region_held3 (fun w' => w'.cell? ⟨w.heap.size, 0, none⟩ = some (.int .i64 0) /\ w'.cell? ⟨w.heap.size, 1, none⟩ = some (.int .i64 k) /\ w'.cell? ⟨w.heap.size, 2, none⟩ = some (.int .i64 a) /\ w'.cell? ⟨w.heap.size, 3, none⟩ = some (.int .i64 bb) /\ w'.cell? ⟨w.heap.size, 4, none⟩ = some (.int .i64 imm))
  (first | with_reducible exact hS4 | with_reducible exact hS5 | exact HKP.out Z (Below.refl _ _))
  (first
   | (go_at_call 101; go_must (refine (msource_any ⟨0, k, a, bb, imm⟩ Z.drew HR.out.drew hb HY).mono ?_); rintro e w4 ⟨rfl, hb4'⟩; go_must (have hb4 : Below Z.heap.size Z w4 := below_undrew hb4'; have hS4 := HKP.out w4 hb4; have hB4 : Below w.heap.size w w4 := hBZ.trans (hb4.mono hBZ.size); have hz4 := hb4.size; have hS5 := HKS.out w4 y hS4 (by omega); have y0 := ((h.below hB4 hlt).reg hk); have f0 := (h.below hB4 hlt).hp.frozen (5 + k); clear hb4')))
 go_wp2
 exact bodyPost_end (results_none rfl _ _ _) rfl ⟨rfl, (putL h hB4 hk hy).1, (putL h hB4 hk hy).2⟩
set_option maxHeartbeats 6400000 in
theorem mdo_three (op d a bb imm : Int) (w : World) (h : Ma w b sb vm vc ev M) (ho : 1 <= op /\ op <= 10) (hd : 0 <= d /\ d <= 7) (ha : 0 <= a /\ a <= 7) (hb : bb = 8 ∨ (0 <= bb /\ bb <= 7)) {x y n : Int} (HX : Hid (M.regs.getD a.toNat 0 = x)) (HY : Hid (srcV ⟨op, d, a, bb, imm⟩ M.regs = y)) (HN : Hid (n = doL op x y)) (hn : 0 <= n /\ n <= 18446744073709551615) :
  Calls Tryz.prog 65 #[.pointer (some ⟨b, 0, none⟩), instV op d a bb imm] w fun e w' => e = .returned (.tuple #[]) /\ w.grownBy w' (some b) /\ Ma w' b sb vm vc ev { M with regs := M.regs.set d.toNat n } := by
 have hy : 0 <= y /\ y <= 18446744073709551615 := by rw [<- HY.out]; exact srcV_in h.wr hb
 have hx : 0 <= x /\ x <= 18446744073709551615 := by rw [<- HX.out]; exact h.wr.2 _ (by omega)
 obtain ⟨Z, HZ, hBZ, hzZ, HR, x0, x1, x2, x3, x4⟩ := boxL h op d a bb imm
 obtain ⟨k, rfl⟩ := Int.eq_ofNat_of_zero_le hd.1
 have hk : k < 8 := by omega
 have hkI : (k : Int) < 8 := by omega
 obtain ⟨q, rfl⟩ := Int.eq_ofNat_of_zero_le ha.1
 have hq : q < 8 := by omega
 have hqI : (q : Int) < 8 := by omega
 have HX2 : Hid (M.regs.getD q 0 = x) := HX.out
 have h0 : (op == 0) = false := by simp; omega
 have h11 : (op == 11) = false := by simp; omega
 have h12 : (op == 12) = false := by simp; omega
 have h13 : (op == 13) = false := by simp; omega
 have h14 : (op == 14) = false := by simp; omega
 have HC : Hid (true = isOp op) := by show _ = _; unfold isOp; simp; omega
 have hltZ : b < Z.heap.size := HR.out.hp.lt
 have hlt := h.hp.lt
 have hwb : w.heap.size ≠ b := by omega
 have HKP : Hid (∀ wx : World, Below Z.heap.size Z wx -> wx.cell? ⟨b, 5 + q, none⟩ = some (.int .u64 x) /\ wx.cell? ⟨w.heap.size, 0, none⟩ = some (.int .i64 op) /\ wx.cell? ⟨w.heap.size, 1, none⟩ = some (.int .i64 k) /\ wx.cell? ⟨w.heap.size, 2, none⟩ = some (.int .i64 q) /\ wx.cell? ⟨w.heap.size, 3, none⟩ = some (.int .i64 bb) /\ wx.cell? ⟨w.heap.size, 4, none⟩ = some (.int .i64 imm)) := fun wx hb => ⟨by have := (HR.out.below hb (by omega)).reg hq; rw [HX2.out] at this; exact this, (hb.cell (p := ⟨w.heap.size, 0, none⟩) (show w.heap.size < Z.heap.size by omega)).trans x0, (hb.cell (p := ⟨w.heap.size, 1, none⟩) (show w.heap.size < Z.heap.size by omega)).trans x1, (hb.cell (p := ⟨w.heap.size, 2, none⟩) (show w.heap.size < Z.heap.size by omega)).trans x2, (hb.cell (p := ⟨w.heap.size, 3, none⟩) (show w.heap.size < Z.heap.size by omega)).trans x3, (hb.cell (p := ⟨w.heap.size, 4, none⟩) (show w.heap.size < Z.heap.size by omega)).trans x4⟩
 have HKQ : Hid (∀ wx : World, Below Z.heap.size Z wx -> wx.cell? ⟨w.heap.size, 0, none⟩ = some (.int .i64 op) /\ wx.cell? ⟨w.heap.size, 1, none⟩ = some (.int .i64 k) /\ wx.cell? ⟨w.heap.size, 2, none⟩ = some (.int .i64 q) /\ wx.cell? ⟨w.heap.size, 3, none⟩ = some (.int .i64 bb) /\ wx.cell? ⟨w.heap.size, 4, none⟩ = some (.int .i64 imm)) := fun wx hb => (HKP.out wx hb).2
 have HKS : Hid (∀ (wx : World) (v : Int), (wx.cell? ⟨w.heap.size, 0, none⟩ = some (.int .i64 op) /\ wx.cell? ⟨w.heap.size, 1, none⟩ = some (.int .i64 k) /\ wx.cell? ⟨w.heap.size, 2, none⟩ = some (.int .i64 q) /\ wx.cell? ⟨w.heap.size, 3, none⟩ = some (.int .i64 bb) /\ wx.cell? ⟨w.heap.size, 4, none⟩ = some (.int .i64 imm)) -> w.heap.size < wx.heap.size -> (wx.setCell ⟨b, 5 + k, none⟩ (.int .u64 v)).cell? ⟨w.heap.size, 0, none⟩ = some (.int .i64 op) /\ (wx.setCell ⟨b, 5 + k, none⟩ (.int .u64 v)).cell? ⟨w.heap.size, 1, none⟩ = some (.int .i64 k) /\ (wx.setCell ⟨b, 5 + k, none⟩ (.int .u64 v)).cell? ⟨w.heap.size, 2, none⟩ = some (.int .i64 q) /\ (wx.setCell ⟨b, 5 + k, none⟩ (.int .u64 v)).cell? ⟨w.heap.size, 3, none⟩ = some (.int .i64 bb) /\ (wx.setCell ⟨b, 5 + k, none⟩ (.int .u64 v)).cell? ⟨w.heap.size, 4, none⟩ = some (.int .i64 imm)) := fun wx v hk hw => ⟨(grown_farL (grown_set wx b (5 + k) _) hw hwb).trans hk.1, (grown_farL (grown_set wx b (5 + k) _) hw hwb).trans hk.2.1, (grown_farL (grown_set wx b (5 + k) _) hw hwb).trans hk.2.2.1, (grown_farL (grown_set wx b (5 + k) _) hw hwb).trans hk.2.2.2.1, (grown_farL (grown_set wx b (5 + k) _) hw hwb).trans hk.2.2.2.2⟩
 go_enter Tryz.func65, Tryz.ntmps65
 go_wp2
 rw [<- HZ.out]
 clear x0 x1 x2 x3 x4
 go_region_held3 (fun w' => w'.cell? ⟨b, 5 + q, none⟩ = some (.int .u64 x) /\ w'.cell? ⟨w.heap.size, 0, none⟩ = some (.int .i64 op) /\ w'.cell? ⟨w.heap.size, 1, none⟩ = some (.int .i64 k) /\ w'.cell? ⟨w.heap.size, 2, none⟩ = some (.int .i64 q) /\ w'.cell? ⟨w.heap.size, 3, none⟩ = some (.int .i64 bb) /\ w'.cell? ⟨w.heap.size, 4, none⟩ = some (.int .i64 imm))
  (first | with_reducible exact hS4 | exact HKP.out Z (Below.refl _ _))
  (first
   | (go_at_call 101; go_must (refine (msource_any ⟨op, k, q, bb, imm⟩ Z.drew HR.out.drew hb HY).mono ?_); rintro e w4 ⟨rfl, hb4'⟩; go_must (have hb4 : Below Z.heap.size Z w4 := below_undrew hb4'; have hS4 := HKP.out w4 hb4; have hB4 : Below w.heap.size w w4 := hBZ.trans (hb4.mono hBZ.size); have hz4 := hb4.size; clear hb4'))
   | (go_at_call 105; go_must (refine (do_as HN HC _ hx hy).mono ?_); rintro e w5 ⟨rfl, rfl⟩))
 have hQ4 := HKQ.out w4 hb4
 have hS5 := HKS.out w4 n hQ4 (by omega)
 have y0 := ((h.below hB4 hlt).reg hk)
 have f0 := (h.below hB4 hlt).hp.frozen (5 + k)
 clear hS4
 go_wp2
 go_region_held3 (fun w' => w'.cell? ⟨w.heap.size, 0, none⟩ = some (.int .i64 op) /\ w'.cell? ⟨w.heap.size, 1, none⟩ = some (.int .i64 k) /\ w'.cell? ⟨w.heap.size, 2, none⟩ = some (.int .i64 q) /\ w'.cell? ⟨w.heap.size, 3, none⟩ = some (.int .i64 bb) /\ w'.cell? ⟨w.heap.size, 4, none⟩ = some (.int .i64 imm))
  (first | with_reducible exact hQ4 | exact hS5 | exact hQ4)
  (fail)
 go_wp2
 exact bodyPost_end (results_none rfl _ _ _) rfl ⟨rfl, grown_drew (putL h hB4 hk hn).1, (putL h hB4 hk hn).2.drew⟩
set_option maxHeartbeats 6400000 in
theorem mdo_none (op d a bb imm : Int) (w : World) (h : Ma w b sb vm vc ev M) (ho : 15 <= op /\ op <= 20) (ha : 0 <= a /\ a <= 7) (hb : bb = 8 ∨ (0 <= bb /\ bb <= 7)) :
  Calls Tryz.prog 65 #[.pointer (some ⟨b, 0, none⟩), instV op d a bb imm] w fun e w' => e = .returned (.tuple #[]) /\ Below w.heap.size w w' := by
 obtain ⟨x, HX⟩ : ∃ x, Hid (M.regs.getD a.toNat 0 = x) := ⟨_, rfl⟩
 obtain ⟨y, HY⟩ : ∃ y, Hid (srcV ⟨op, d, a, bb, imm⟩ M.regs = y) := ⟨_, rfl⟩
 obtain ⟨n, HN⟩ : ∃ n, Hid (n = doL op x y) := ⟨_, rfl⟩
 have hy : 0 <= y /\ y <= 18446744073709551615 := by rw [<- HY.out]; exact srcV_in h.wr hb
 have hx : 0 <= x /\ x <= 18446744073709551615 := by rw [<- HX.out]; exact h.wr.2 _ (by omega)
 obtain ⟨Z, HZ, hBZ, hzZ, HR, x0, x1, x2, x3, x4⟩ := boxL h op d a bb imm
 obtain ⟨q, rfl⟩ := Int.eq_ofNat_of_zero_le ha.1
 have hq : q < 8 := by omega
 have hqI : (q : Int) < 8 := by omega
 have HX2 : Hid (M.regs.getD q 0 = x) := HX.out
 have h0 : (op == 0) = false := by simp; omega
 have h11 : (op == 11) = false := by simp; omega
 have h12 : (op == 12) = false := by simp; omega
 have h13 : (op == 13) = false := by simp; omega
 have h14 : (op == 14) = false := by simp; omega
 have HC : Hid (false = isOp op) := by show _ = _; unfold isOp; simp; omega
 have hltZ : b < Z.heap.size := HR.out.hp.lt
 have hlt := h.hp.lt
 have hwb : w.heap.size ≠ b := by omega
 have HKP : Hid (∀ wx : World, Below Z.heap.size Z wx -> wx.cell? ⟨b, 5 + q, none⟩ = some (.int .u64 x) /\ wx.cell? ⟨w.heap.size, 0, none⟩ = some (.int .i64 op) /\ wx.cell? ⟨w.heap.size, 1, none⟩ = some (.int .i64 d) /\ wx.cell? ⟨w.heap.size, 2, none⟩ = some (.int .i64 q) /\ wx.cell? ⟨w.heap.size, 3, none⟩ = some (.int .i64 bb) /\ wx.cell? ⟨w.heap.size, 4, none⟩ = some (.int .i64 imm)) := fun wx hb => ⟨by have := (HR.out.below hb (by omega)).reg hq; rw [HX2.out] at this; exact this, (hb.cell (p := ⟨w.heap.size, 0, none⟩) (show w.heap.size < Z.heap.size by omega)).trans x0, (hb.cell (p := ⟨w.heap.size, 1, none⟩) (show w.heap.size < Z.heap.size by omega)).trans x1, (hb.cell (p := ⟨w.heap.size, 2, none⟩) (show w.heap.size < Z.heap.size by omega)).trans x2, (hb.cell (p := ⟨w.heap.size, 3, none⟩) (show w.heap.size < Z.heap.size by omega)).trans x3, (hb.cell (p := ⟨w.heap.size, 4, none⟩) (show w.heap.size < Z.heap.size by omega)).trans x4⟩
 go_enter Tryz.func65, Tryz.ntmps65
 go_wp2
 rw [<- HZ.out]
 clear x0 x1 x2 x3 x4
 go_region_held3 (fun w' => w'.cell? ⟨b, 5 + q, none⟩ = some (.int .u64 x) /\ w'.cell? ⟨w.heap.size, 0, none⟩ = some (.int .i64 op) /\ w'.cell? ⟨w.heap.size, 1, none⟩ = some (.int .i64 d) /\ w'.cell? ⟨w.heap.size, 2, none⟩ = some (.int .i64 q) /\ w'.cell? ⟨w.heap.size, 3, none⟩ = some (.int .i64 bb) /\ w'.cell? ⟨w.heap.size, 4, none⟩ = some (.int .i64 imm))
  (first | with_reducible exact hS4 | exact HKP.out Z (Below.refl _ _))
  (first
   | (go_at_call 101; go_must (refine (msource_any ⟨op, d, q, bb, imm⟩ Z.drew HR.out.drew hb HY).mono ?_); rintro e w4 ⟨rfl, hb4'⟩; go_must (have hb4 : Below Z.heap.size Z w4 := below_undrew hb4'; have hS4 := HKP.out w4 hb4; have hB4 : Below w.heap.size w w4 := hBZ.trans (hb4.mono hBZ.size); have hz4 := hb4.size; clear hb4'))
   | (go_at_call 105; go_must (refine (do_as HN HC _ hx hy).mono ?_); rintro e w5 ⟨rfl, rfl⟩))
 go_wp2
 exact bodyPost_end (results_none rfl _ _ _) rfl ⟨rfl, hB4⟩
set_option maxHeartbeats 6400000 in
theorem mdo_load (d a bb imm : Int) (w : World) (h : Ma w b sb vm vc ev M) (hd : 0 <= d /\ d <= 7) (hb : bb = 8 ∨ (0 <= bb /\ bb <= 7)) {y n : Int} (HY : Hid (srcV ⟨11, d, a, bb, imm⟩ M.regs = y)) (hy : 0 <= y /\ y <= 15) {ws cs : List Int} (hs : Sc w sb ws cs) (HN : Hid (ws.getD y.toNat 0 = n)) (hn : 0 <= n /\ n <= 18446744073709551615) :
  Calls Tryz.prog 65 #[.pointer (some ⟨b, 0, none⟩), instV 11 d a bb imm] w fun e w' => e = .returned (.tuple #[]) /\ w.grownBy w' (some b) /\ Ma w' b sb vm vc ev { M with regs := M.regs.set d.toNat n } := by
 have hwy : IntKind.i64.wrap y = y := by rw [IntKind.wrap_i64]; omega
 have HIn : Hid (inB y = true) := decide_eq_true (by omega)
 have HN2 : Hid ((if inB y then ws.getD y.toNat 0 else 0) = n) := by show _ = _; rw [HIn.out]; exact HN.out
 have HN3 : Hid ((if inB y then 0 else 35 : Int) = 0) := by show _ = _; rw [HIn.out]; rfl
 obtain ⟨Z, HZ, hBZ, hzZ, HR, x0, x1, x2, x3, x4⟩ := boxL h 11 d a bb imm
 obtain ⟨k, rfl⟩ := Int.eq_ofNat_of_zero_le hd.1
 have hk : k < 8 := by omega
 have hkI : (k : Int) < 8 := by omega
 have hltZ : b < Z.heap.size := HR.out.hp.lt
 have hlt := h.hp.lt
 have hwb : w.heap.size ≠ b := by omega
 have HKP : Hid (∀ wx : World, Below Z.heap.size Z wx -> wx.cell? ⟨b, 4, none⟩ = some (.pointer (some ⟨sb, 0, none⟩)) /\ wx.cell? ⟨w.heap.size, 0, none⟩ = some (.int .i64 11) /\ wx.cell? ⟨w.heap.size, 1, none⟩ = some (.int .i64 k) /\ wx.cell? ⟨w.heap.size, 2, none⟩ = some (.int .i64 a) /\ wx.cell? ⟨w.heap.size, 3, none⟩ = some (.int .i64 bb) /\ wx.cell? ⟨w.heap.size, 4, none⟩ = some (.int .i64 imm)) := fun wx hb => ⟨(HR.out.below hb (by omega)).low.2.2.2.2, (hb.cell (p := ⟨w.heap.size, 0, none⟩) (show w.heap.size < Z.heap.size by omega)).trans x0, (hb.cell (p := ⟨w.heap.size, 1, none⟩) (show w.heap.size < Z.heap.size by omega)).trans x1, (hb.cell (p := ⟨w.heap.size, 2, none⟩) (show w.heap.size < Z.heap.size by omega)).trans x2, (hb.cell (p := ⟨w.heap.size, 3, none⟩) (show w.heap.size < Z.heap.size by omega)).trans x3, (hb.cell (p := ⟨w.heap.size, 4, none⟩) (show w.heap.size < Z.heap.size by omega)).trans x4⟩
 have HKQ : Hid (∀ wx : World, Below Z.heap.size Z wx -> wx.cell? ⟨w.heap.size, 0, none⟩ = some (.int .i64 11) /\ wx.cell? ⟨w.heap.size, 1, none⟩ = some (.int .i64 k) /\ wx.cell? ⟨w.heap.size, 2, none⟩ = some (.int .i64 a) /\ wx.cell? ⟨w.heap.size, 3, none⟩ = some (.int .i64 bb) /\ wx.cell? ⟨w.heap.size, 4, none⟩ = some (.int .i64 imm)) := fun wx hb => (HKP.out wx hb).2
 have HKS : Hid (∀ (wx : World) (v : Int), (wx.cell? ⟨w.heap.size, 0, none⟩ = some (.int .i64 11) /\ wx.cell? ⟨w.heap.size, 1, none⟩ = some (.int .i64 k) /\ wx.cell? ⟨w.heap.size, 2, none⟩ = some (.int .i64 a) /\ wx.cell? ⟨w.heap.size, 3, none⟩ = some (.int .i64 bb) /\ wx.cell? ⟨w.heap.size, 4, none⟩ = some (.int .i64 imm)) -> w.heap.size < wx.heap.size -> (wx.setCell ⟨b, 5 + k, none⟩ (.int .u64 v)).cell? ⟨w.heap.size, 0, none⟩ = some (.int .i64 11) /\ (wx.setCell ⟨b, 5 + k, none⟩ (.int .u64 v)).cell? ⟨w.heap.size, 1, none⟩ = some (.int .i64 k) /\ (wx.setCell ⟨b, 5 + k, none⟩ (.int .u64 v)).cell? ⟨w.heap.size, 2, none⟩ = some (.int .i64 a) /\ (wx.setCell ⟨b, 5 + k, none⟩ (.int .u64 v)).cell? ⟨w.heap.size, 3, none⟩ = some (.int .i64 bb) /\ (wx.setCell ⟨b, 5 + k, none⟩ (.int .u64 v)).cell? ⟨w.heap.size, 4, none⟩ = some (.int .i64 imm)) := fun wx v hk hw => ⟨(grown_farL (grown_set wx b (5 + k) _) hw hwb).trans hk.1, (grown_farL (grown_set wx b (5 + k) _) hw hwb).trans hk.2.1, (grown_farL (grown_set wx b (5 + k) _) hw hwb).trans hk.2.2.1, (grown_farL (grown_set wx b (5 + k) _) hw hwb).trans hk.2.2.2.1, (grown_farL (grown_set wx b (5 + k) _) hw hwb).trans hk.2.2.2.2⟩
 go_enter Tryz.func65, Tryz.ntmps65
 go_wp2
 rw [<- HZ.out]
 clear x0 x1 x2 x3 x4
 go_region_held3 (fun w' => w'.cell? ⟨b, 4, none⟩ = some (.pointer (some ⟨sb, 0, none⟩)) /\ w'.cell? ⟨w.heap.size, 0, none⟩ = some (.int .i64 11) /\ w'.cell? ⟨w.heap.size, 1, none⟩ = some (.int .i64 k) /\ w'.cell? ⟨w.heap.size, 2, none⟩ = some (.int .i64 a) /\ w'.cell? ⟨w.heap.size, 3, none⟩ = some (.int .i64 bb) /\ w'.cell? ⟨w.heap.size, 4, none⟩ = some (.int .i64 imm))
  (first | with_reducible exact hS4 | with_reducible exact hS5 | exact HKP.out Z (Below.refl _ _))
  (first
   | (go_at_call 101; go_must (refine (msource_any ⟨11, k, a, bb, imm⟩ Z.drew HR.out.drew hb HY).mono ?_); rintro e w4 ⟨rfl, hb4'⟩; go_must (have hb4 : Below Z.heap.size Z w4 := below_undrew hb4'; have hS4 := HKP.out w4 hb4; have hB4 : Below w.heap.size w w4 := hBZ.trans (hb4.mono hBZ.size); have hz4 := hb4.size; have hs4 := hs.below hB4 hs.lt; have hM5 := (putL h hB4 hk hn).2.low.2.2.2.2; have hS5 := And.intro hM5 (HKS.out w4 n (HKQ.out w4 hb4) (by omega)); have y0 := ((h.below hB4 hlt).reg hk); have f0 := (h.below hB4 hlt).hp.frozen (5 + k); clear hb4'))
   | (go_at_call 102; go_must (refine (load_as HN2 HN3 _ hs4).mono ?_); rintro e w5 ⟨rfl, rfl⟩))
 go_wp2
 exact bodyPost_end (results_none rfl _ _ _) rfl ⟨rfl, (putL h hB4 hk hn).1, (putL h hB4 hk hn).2⟩
set_option maxHeartbeats 6400000 in
theorem mdo_store (d a bb imm : Int) (w : World) (h : Ma w b sb vm vc ev M) (ha : 0 <= a /\ a <= 7) (hb : bb = 8 ∨ (0 <= bb /\ bb <= 7)) {x y : Int} (HX : Hid (M.regs.getD a.toNat 0 = x)) (HY : Hid (srcV ⟨12, d, a, bb, imm⟩ M.regs = y)) (hy : 0 <= y /\ y <= 15) {ws cs us : List Int} (hs : Sc w sb ws cs) (hne : b ≠ sb) (HU : Hid (ws.set y.toNat x = us)) :
  Calls Tryz.prog 65 #[.pointer (some ⟨b, 0, none⟩), instV 12 d a bb imm] w fun e w' => e = .returned (.tuple #[]) /\ w.grownBy w' (some sb) /\ Sc w' sb us cs := by
 have hwy : IntKind.i64.wrap y = y := by rw [IntKind.wrap_i64]; omega
 have HIn : Hid (inB y = true) := decide_eq_true (by omega)
 have HU2 : Hid ((if inB y then ws.set y.toNat x else ws) = us) := by show _ = _; rw [HIn.out]; exact HU.out
 have HN3 : Hid ((if inB y then 0 else 35 : Int) = 0) := by show _ = _; rw [HIn.out]; rfl
 obtain ⟨Z, HZ, hBZ, hzZ, HR, x0, x1, x2, x3, x4⟩ := boxL h 12 d a bb imm
 obtain ⟨q, rfl⟩ := Int.eq_ofNat_of_zero_le ha.1
 have hq : q < 8 := by omega
 have hqI : (q : Int) < 8 := by omega
 have HX2 : Hid (M.regs.getD q 0 = x) := HX.out
 have hltZ : b < Z.heap.size := HR.out.hp.lt
 have hsl := hs.lt
 have hws : w.heap.size ≠ sb := by omega
 have hlt := h.hp.lt
 have hwb : w.heap.size ≠ b := by omega
 have HKP : Hid (∀ wx : World, Below Z.heap.size Z wx -> wx.cell? ⟨b, 4, none⟩ = some (.pointer (some ⟨sb, 0, none⟩)) /\ wx.cell? ⟨b, 5 + q, none⟩ = some (.int .u64 x) /\ wx.cell? ⟨w.heap.size, 0, none⟩ = some (.int .i64 12) /\ wx.cell? ⟨w.heap.size, 1, none⟩ = some (.int .i64 d) /\ wx.cell? ⟨w.heap.size, 2, none⟩ = some (.int .i64 q) /\ wx.cell? ⟨w.heap.size, 3, none⟩ = some (.int .i64 bb) /\ wx.cell? ⟨w.heap.size, 4, none⟩ = some (.int .i64 imm)) := fun wx hb => ⟨(HR.out.below hb (by omega)).low.2.2.2.2, by have := (HR.out.below hb (by omega)).reg hq; rw [HX2.out] at this; exact this, (hb.cell (p := ⟨w.heap.size, 0, none⟩) (show w.heap.size < Z.heap.size by omega)).trans x0, (hb.cell (p := ⟨w.heap.size, 1, none⟩) (show w.heap.size < Z.heap.size by omega)).trans x1, (hb.cell (p := ⟨w.heap.size, 2, none⟩) (show w.heap.size < Z.heap.size by omega)).trans x2, (hb.cell (p := ⟨w.heap.size, 3, none⟩) (show w.heap.size < Z.heap.size by omega)).trans x3, (hb.cell (p := ⟨w.heap.size, 4, none⟩) (show w.heap.size < Z.heap.size by omega)).trans x4⟩
 go_enter Tryz.func65, Tryz.ntmps65
 go_wp2
 rw [<- HZ.out]
 clear x0 x1 x2 x3 x4
 go_region_held3 (fun w' => w'.cell? ⟨b, 4, none⟩ = some (.pointer (some ⟨sb, 0, none⟩)) /\ w'.cell? ⟨b, 5 + q, none⟩ = some (.int .u64 x) /\ w'.cell? ⟨w.heap.size, 0, none⟩ = some (.int .i64 12) /\ w'.cell? ⟨w.heap.size, 1, none⟩ = some (.int .i64 d) /\ w'.cell? ⟨w.heap.size, 2, none⟩ = some (.int .i64 q) /\ w'.cell? ⟨w.heap.size, 3, none⟩ = some (.int .i64 bb) /\ w'.cell? ⟨w.heap.size, 4, none⟩ = some (.int .i64 imm))
  (first | with_reducible exact hS6 | with_reducible exact hS4 | exact HKP.out Z (Below.refl _ _))
  (first
   | (go_at_call 101; go_must (refine (msource_any ⟨12, d, q, bb, imm⟩ Z.drew HR.out.drew hb HY).mono ?_); rintro e w4 ⟨rfl, hb4'⟩; go_must (have hb4 : Below Z.heap.size Z w4 := below_undrew hb4'; have hS4 := HKP.out w4 hb4; have hB4 : Below w.heap.size w w4 := hBZ.trans (hb4.mono hBZ.size); have hz4 := hb4.size; have hs4 := hs.below hB4 hs.lt; clear hb4'))
   | (go_at_call 103; go_must (refine (store_as HU2 HN3 w4 hs4).mono ?_); rintro e w5 ⟨rfl, hs5, hg5, hz5⟩; go_must (have hS6 : w5.cell? ⟨b, 4, none⟩ = some (.pointer (some ⟨sb, 0, none⟩)) /\ w5.cell? ⟨b, 5 + q, none⟩ = some (.int .u64 x) /\ w5.cell? ⟨w.heap.size, 0, none⟩ = some (.int .i64 12) /\ w5.cell? ⟨w.heap.size, 1, none⟩ = some (.int .i64 d) /\ w5.cell? ⟨w.heap.size, 2, none⟩ = some (.int .i64 q) /\ w5.cell? ⟨w.heap.size, 3, none⟩ = some (.int .i64 bb) /\ w5.cell? ⟨w.heap.size, 4, none⟩ = some (.int .i64 imm) := ⟨(grown_farL hg5 (by omega) hne).trans hS4.1, (grown_farL hg5 (by omega) hne).trans hS4.2.1, (grown_farL hg5 (by omega) hws).trans hS4.2.2.1, (grown_farL hg5 (by omega) hws).trans hS4.2.2.2.1, (grown_farL hg5 (by omega) hws).trans hS4.2.2.2.2.1, (grown_farL hg5 (by omega) hws).trans hS4.2.2.2.2.2.1, (grown_farL hg5 (by omega) hws).trans hS4.2.2.2.2.2.2⟩)))
 go_wp2
 exact bodyPost_end (results_none rfl _ _ _) rfl ⟨rfl, grownJ_trans (grown_of_below hB4 _) hg5, hs5⟩
set_option maxHeartbeats 6400000 in
theorem mdo_field (d a bb imm : Int) (w : World) (h : Ma w b sb vm vc ev M) (hd : 0 <= d /\ d <= 7) {n : Int} (HN : Hid ((if imm = 0 then ev.1 else ev.2) = n)) (hn : 0 <= n /\ n <= 18446744073709551615) :
  Calls Tryz.prog 65 #[.pointer (some ⟨b, 0, none⟩), instV 13 d a bb imm] w fun e w' => e = .returned (.tuple #[]) /\ w.grownBy w' (some b) /\ Ma w' b sb vm vc ev { M with regs := M.regs.set d.toNat n } := by
 obtain ⟨Z, HZ, hBZ, hzZ, HR, x0, x1, x2, x3, x4⟩ := boxL h 13 d a bb imm
 obtain ⟨k, rfl⟩ := Int.eq_ofNat_of_zero_le hd.1
 have hk : k < 8 := by omega
 have hkI : (k : Int) < 8 := by omega
 have hlt := h.hp.lt
 have hwb : w.heap.size ≠ b := by omega
 have HKP : Hid (∀ wx : World, Below Z.heap.size Z wx -> wx.cell? ⟨w.heap.size, 0, none⟩ = some (.int .i64 13) /\ wx.cell? ⟨w.heap.size, 1, none⟩ = some (.int .i64 k) /\ wx.cell? ⟨w.heap.size, 2, none⟩ = some (.int .i64 a) /\ wx.cell? ⟨w.heap.size, 3, none⟩ = some (.int .i64 bb) /\ wx.cell? ⟨w.heap.size, 4, none⟩ = some (.int .i64 imm)) := fun wx hb => ⟨(hb.cell (p := ⟨w.heap.size, 0, none⟩) (show w.heap.size < Z.heap.size by omega)).trans x0, (hb.cell (p := ⟨w.heap.size, 1, none⟩) (show w.heap.size < Z.heap.size by omega)).trans x1, (hb.cell (p := ⟨w.heap.size, 2, none⟩) (show w.heap.size < Z.heap.size by omega)).trans x2, (hb.cell (p := ⟨w.heap.size, 3, none⟩) (show w.heap.size < Z.heap.size by omega)).trans x3, (hb.cell (p := ⟨w.heap.size, 4, none⟩) (show w.heap.size < Z.heap.size by omega)).trans x4⟩
 have HKS : Hid (∀ (wx : World) (v : Int), (wx.cell? ⟨w.heap.size, 0, none⟩ = some (.int .i64 13) /\ wx.cell? ⟨w.heap.size, 1, none⟩ = some (.int .i64 k) /\ wx.cell? ⟨w.heap.size, 2, none⟩ = some (.int .i64 a) /\ wx.cell? ⟨w.heap.size, 3, none⟩ = some (.int .i64 bb) /\ wx.cell? ⟨w.heap.size, 4, none⟩ = some (.int .i64 imm)) -> w.heap.size < wx.heap.size -> (wx.setCell ⟨b, 5 + k, none⟩ (.int .u64 v)).cell? ⟨w.heap.size, 0, none⟩ = some (.int .i64 13) /\ (wx.setCell ⟨b, 5 + k, none⟩ (.int .u64 v)).cell? ⟨w.heap.size, 1, none⟩ = some (.int .i64 k) /\ (wx.setCell ⟨b, 5 + k, none⟩ (.int .u64 v)).cell? ⟨w.heap.size, 2, none⟩ = some (.int .i64 a) /\ (wx.setCell ⟨b, 5 + k, none⟩ (.int .u64 v)).cell? ⟨w.heap.size, 3, none⟩ = some (.int .i64 bb) /\ (wx.setCell ⟨b, 5 + k, none⟩ (.int .u64 v)).cell? ⟨w.heap.size, 4, none⟩ = some (.int .i64 imm)) := fun wx v hk hw => ⟨(grown_farL (grown_set wx b (5 + k) _) hw hwb).trans hk.1, (grown_farL (grown_set wx b (5 + k) _) hw hwb).trans hk.2.1, (grown_farL (grown_set wx b (5 + k) _) hw hwb).trans hk.2.2.1, (grown_farL (grown_set wx b (5 + k) _) hw hwb).trans hk.2.2.2.1, (grown_farL (grown_set wx b (5 + k) _) hw hwb).trans hk.2.2.2.2⟩
 have hS4 := HKP.out Z (Below.refl _ _)
 have hS5 := HKS.out Z n hS4 (by omega)
 have y0 := HR.out.reg hk
 have f0 := HR.out.hp.frozen (5 + k)
 go_enter Tryz.func65, Tryz.ntmps65
 go_wp2
 rw [<- HZ.out]
 clear x0 x1 x2 x3 x4
 go_region_held3 (fun w' => w'.cell? ⟨w.heap.size, 0, none⟩ = some (.int .i64 13) /\ w'.cell? ⟨w.heap.size, 1, none⟩ = some (.int .i64 k) /\ w'.cell? ⟨w.heap.size, 2, none⟩ = some (.int .i64 a) /\ w'.cell? ⟨w.heap.size, 3, none⟩ = some (.int .i64 bb) /\ w'.cell? ⟨w.heap.size, 4, none⟩ = some (.int .i64 imm))
  (first | with_reducible exact hS4 | with_reducible exact hS5 | exact hS4 | exact hS5)
  (first | (go_at_call 104; go_must (refine (mfield_any imm _ HR.out.drew HN).mono ?_); rintro e w4 ⟨rfl, rfl⟩))
 go_wp2
 exact bodyPost_end (results_none rfl _ _ _) rfl ⟨rfl, grown_drew (putL h hBZ hk hn).1, (putL h hBZ hk hn).2.drew⟩
set_option maxHeartbeats 6400000 in
theorem mdo_map (d a bb imm : Int) (w : World) (h : Ma w b sb vm vc ev M) (hd : 0 <= d /\ d <= 7) (hi : 0 <= imm /\ imm <= 3) :
  Calls Tryz.prog 65 #[.pointer (some ⟨b, 0, none⟩), instV 14 d a bb imm] w fun e w' => e = .returned (.tuple #[]) /\ w.grownBy w' (some b) /\ Ma w' b sb vm vc ev { M with regs := M.regs.set d.toNat imm } := by
 have hn : 0 <= imm /\ imm <= 18446744073709551615 := by omega
 have hwi : IntKind.u64.wrap imm = imm := by rw [IntKind.wrap_u64]; omega
 obtain ⟨Z, HZ, hBZ, hzZ, HR, x0, x1, x2, x3, x4⟩ := boxL h 14 d a bb imm
 obtain ⟨k, rfl⟩ := Int.eq_ofNat_of_zero_le hd.1
 have hk : k < 8 := by omega
 have hkI : (k : Int) < 8 := by omega
 have hlt := h.hp.lt
 have hwb : w.heap.size ≠ b := by omega
 have HKP : Hid (∀ wx : World, Below Z.heap.size Z wx -> wx.cell? ⟨w.heap.size, 0, none⟩ = some (.int .i64 14) /\ wx.cell? ⟨w.heap.size, 1, none⟩ = some (.int .i64 k) /\ wx.cell? ⟨w.heap.size, 2, none⟩ = some (.int .i64 a) /\ wx.cell? ⟨w.heap.size, 3, none⟩ = some (.int .i64 bb) /\ wx.cell? ⟨w.heap.size, 4, none⟩ = some (.int .i64 imm)) := fun wx hb => ⟨(hb.cell (p := ⟨w.heap.size, 0, none⟩) (show w.heap.size < Z.heap.size by omega)).trans x0, (hb.cell (p := ⟨w.heap.size, 1, none⟩) (show w.heap.size < Z.heap.size by omega)).trans x1, (hb.cell (p := ⟨w.heap.size, 2, none⟩) (show w.heap.size < Z.heap.size by omega)).trans x2, (hb.cell (p := ⟨w.heap.size, 3, none⟩) (show w.heap.size < Z.heap.size by omega)).trans x3, (hb.cell (p := ⟨w.heap.size, 4, none⟩) (show w.heap.size < Z.heap.size by omega)).trans x4⟩
 have HKS : Hid (∀ (wx : World) (v : Int), (wx.cell? ⟨w.heap.size, 0, none⟩ = some (.int .i64 14) /\ wx.cell? ⟨w.heap.size, 1, none⟩ = some (.int .i64 k) /\ wx.cell? ⟨w.heap.size, 2, none⟩ = some (.int .i64 a) /\ wx.cell? ⟨w.heap.size, 3, none⟩ = some (.int .i64 bb) /\ wx.cell? ⟨w.heap.size, 4, none⟩ = some (.int .i64 imm)) -> w.heap.size < wx.heap.size -> (wx.setCell ⟨b, 5 + k, none⟩ (.int .u64 v)).cell? ⟨w.heap.size, 0, none⟩ = some (.int .i64 14) /\ (wx.setCell ⟨b, 5 + k, none⟩ (.int .u64 v)).cell? ⟨w.heap.size, 1, none⟩ = some (.int .i64 k) /\ (wx.setCell ⟨b, 5 + k, none⟩ (.int .u64 v)).cell? ⟨w.heap.size, 2, none⟩ = some (.int .i64 a) /\ (wx.setCell ⟨b, 5 + k, none⟩ (.int .u64 v)).cell? ⟨w.heap.size, 3, none⟩ = some (.int .i64 bb) /\ (wx.setCell ⟨b, 5 + k, none⟩ (.int .u64 v)).cell? ⟨w.heap.size, 4, none⟩ = some (.int .i64 imm)) := fun wx v hk hw => ⟨(grown_farL (grown_set wx b (5 + k) _) hw hwb).trans hk.1, (grown_farL (grown_set wx b (5 + k) _) hw hwb).trans hk.2.1, (grown_farL (grown_set wx b (5 + k) _) hw hwb).trans hk.2.2.1, (grown_farL (grown_set wx b (5 + k) _) hw hwb).trans hk.2.2.2.1, (grown_farL (grown_set wx b (5 + k) _) hw hwb).trans hk.2.2.2.2⟩
 have hS4 := HKP.out Z (Below.refl _ _)
 have hS5 := HKS.out Z imm hS4 (by omega)
 have y0 := HR.out.reg hk
 have f0 := HR.out.hp.frozen (5 + k)
 go_enter Tryz.func65, Tryz.ntmps65
 go_wp2
 rw [<- HZ.out]
 clear x0 x1 x2 x3 x4
 go_region_held3 (fun w' => w'.cell? ⟨w.heap.size, 0, none⟩ = some (.int .i64 14) /\ w'.cell? ⟨w.heap.size, 1, none⟩ = some (.int .i64 k) /\ w'.cell? ⟨w.heap.size, 2, none⟩ = some (.int .i64 a) /\ w'.cell? ⟨w.heap.size, 3, none⟩ = some (.int .i64 bb) /\ w'.cell? ⟨w.heap.size, 4, none⟩ = some (.int .i64 imm))
  (first | with_reducible exact hS4 | exact hS5 | exact hS4)
  (fail)
 go_wp2
 exact bodyPost_end (results_none rfl _ _ _) rfl ⟨rfl, grown_drew (putL h hBZ hk hn).1, (putL h hBZ hk hn).2.drew⟩
end
theorem codeL {w : World} {cb co ccap p : Nat} {xs : List In} (h : SeesI w (.slice (some ⟨cb, co, none⟩) xs.length ccap) xs) (hp : p < xs.length) : At w cb (co + p * 5) (nth xs p) /\ cb < w.heap.size /\ xs.length <= ccap /\ ccap <= 9223372036854775807 := by
 obtain ⟨a, cap, hv, h1, hm, _, hcell⟩ := h
 injection hv with e1 e2 e3
 subst e1
 subst e3
 obtain ⟨b, off, e, hb, hat⟩ := hcell (fun e => by rw [e] at hp; simp at hp)
 injection e with e
 injection e with e e'
 subst e
 subst e'
 exact ⟨hat p hp, hb, h1, by unfold maxLen at hm; omega⟩
section
variable {b sb : Nat} {vm vc : Value} {ev : Int × Int} {M : Mc}
set_option maxHeartbeats 1600000 in
theorem mresult_any {cb co ccap : Nat} {xs : List In} (w : World) (h : Ma w b sb vm (.slice (some ⟨cb, co, none⟩) xs.length ccap) ev M) (hx : SeesI w (.slice (some ⟨cb, co, none⟩) xs.length ccap) xs) (hp : M.pc < xs.length) (ha : 0 <= (nth xs M.pc).a /\ (nth xs M.pc).a <= 7) {n : Int} (hn : Hid (regV M.regs (nth xs M.pc).a = n)) :
  Calls Tryz.prog 63 #[.pointer (some ⟨b, 0, none⟩)] w fun e w' => e = .returned (.int .u64 n) /\ Below w.heap.size w w' := by
 have hpI : (M.pc : Int) < xs.length := by omega
 have hp64 : (M.pc : Int) <= 100 := by have := h.pc; omega
 obtain ⟨hat, hcb, hcc, hcm⟩ := codeL hx hp
 obtain ⟨⟨op, d, a, bb, imm⟩, HI⟩ : ∃ i, Hid (nth xs M.pc = i) := ⟨_, rfl⟩
 rw [HI.out] at hat hn ha
 simp only at ha
 obtain ⟨q, rfl⟩ := Int.eq_ofNat_of_zero_le ha.1
 have hq : q < 8 := by omega
 have hqI : (q : Int) < 8 := by omega
 have HX : Hid (M.regs.getD q 0 = n) := hn.out
 obtain ⟨_, _, k2, _, _⟩ := hat
 simp only at k2
 have c7 := h.last.1
 have c3 := h.low.2.2.2.1
 have cr := h.reg hq
 rw [HX.out] at cr
 clear hx ha
 go_enter Tryz.func63, Tryz.ntmps63
 go_wp2
 go_region
 go_wp2
 go_ret
 exact ⟨rfl, below_drE (Below.refl _ _)⟩
set_option maxHeartbeats 1600000 in
theorem mtakes_any (n : Int) (w : World) (h : Ma w b sb vm vc ev M) (hn : 0 <= n /\ n <= 18446744073709551615) (hp : M.pc + 1 < 64) :
  Calls Tryz.prog 67 #[.pointer (some ⟨b, 0, none⟩), .int .u64 n] w fun e w' => e = .returned (.tuple #[]) /\ w.grownBy w' (some b) /\ Ma w' b sb vm vc ev { M with regs := M.regs.set 0 n, pc := M.pc + 1 } := by
 have hlt := h.hp.lt
 have hp64 : (M.pc : Int) <= 100 := by omega
 have c0 := h.reg (show 0 < 8 by omega)
 have f0 := h.hp.frozen 5
 have HM1 : Hid (Ma (w.setCell ⟨b, 5, none⟩ (.int .u64 n)) b sb vm vc ev { M with regs := M.regs.set 0 n }) := h.setR (k := 0) (by omega) hn
 have c7 := HM1.out.last.1
 have f7 := HM1.out.hp.frozen 77
 have HM2 : Hid (Ma ((w.setCell ⟨b, 5, none⟩ (.int .u64 n)).setCell ⟨b, 77, none⟩ (.int .i64 ((M.pc + 1 : Nat) : Int))) b sb vm vc ev { M with regs := M.regs.set 0 n, pc := M.pc + 1 }) := HM1.out.setP hp
 have HG : Hid (w.grownBy ((w.setCell ⟨b, 5, none⟩ (.int .u64 n)).setCell ⟨b, 77, none⟩ (.int .i64 ((M.pc + 1 : Nat) : Int))) (some b)) := grownJ_trans (grown_set w b 5 _) (grown_set _ b 77 _)
 have hc : ((M.pc + 1 : Nat) : Int) = (M.pc : Int) + 1 := by omega
 rw [hc] at HM2 HG
 go_enter Tryz.func67, Tryz.ntmps67
 go_wp2
 exact bodyPost_end (results_none rfl _ _ _) rfl ⟨rfl, HG.out, HM2.out⟩
end
end Go.Proofs.YtiheafdphgllkaaGreatDoor
