
/-
 A machine's cells: registers, turns. No condition.
-/
import Derived.Test.YtkondcjmhlppiaaGreatMW27
import Derived.Test.YtkondcjmhlppiaaGreatMW8
import Derived.Deep.RegionHeld3
namespace Go.Proofs.YtkondcjmhlppiaaGreat
open Go.RowKit
set_option linter.unusedVariables false
set_option linter.unusedSimpArgs false
set_option maxRecDepth 100000

theorem below_drE {B : Nat} {w Z : World} (h : Below B w Z) : Below B w Z.drew := ⟨h.os, h.tape, h.output, h.size, h.block⟩
def tnC (c : Int -> Int) : List Value := (List.range 64).map fun j : Nat => Value.int .i64 (c j)
theorem tnC_at (c : Int -> Int) {j : Nat} (h : j < 64) : (tnC c)[j]? = some (.int .i64 (c j)) := by
 unfold tnC
 rw [List.getElem?_map, List.getElem?_range h]
 rfl
theorem tnC_len (c : Int -> Int) : (tnC c).length = 64 := by simp [tnC]
theorem tnC_set (c : Int -> Int) {p : Nat} (h : p < 64) (v : Int) : (tnC c).set p (.int .i64 v) = tnC (fun t => if t = p then v else c t) := by
 apply List.ext_getElem?
 intro j
 rw [List.getElem?_set]
 by_cases hj : j < 64
 ·by_cases e : p = j
  ·subst e
   rw [if_pos rfl, if_pos (by rw [tnC_len]; exact hj), tnC_at _ hj]
   simp
  ·rw [if_neg e, tnC_at _ hj, tnC_at _ hj, if_neg (by omega)]
 ·rw [List.getElem?_eq_none (by rw [tnC_len]; omega), if_neg (by omega), List.getElem?_eq_none (by rw [tnC_len]; omega)]
theorem nums_get {R : List Int} {r : Nat} (h : r < R.length) : (nums R)[r]? = some (.int .u64 (R.getD r 0)) := by
 unfold nums
 rw [List.getElem?_map, List.getElem?_eq_getElem h, List.getD_eq_getElem?_getD, List.getElem?_eq_getElem h]
 rfl
theorem nums_setI (R : List Int) (r : Nat) (v : Int) : (nums R).set r (.int .u64 v) = nums (R.set r v) := by
 unfold nums
 rw [List.map_set]
def mcC (vm vc : Value) (ev : Int × Int) (sb : Nat) (M : Mc) : List Value := [.int .u64 ev.1, .int .u64 ev.2, vm, vc, .pointer (some ⟨sb, 0, none⟩)] ++ (nums M.regs ++ (tnC M.turn ++ [.int .i64 M.pc, .int .i64 M.steps, .int .i64 M.mode]))
theorem app_at {α : Type} {a b : List α} {n k : Nat} {v : α} (ha : a.length = n) (h : b[k]? = some v) : (a ++ b)[n + k]? = some v := by
 rw [List.getElem?_append_right (by omega), ha, show n + k - n = k by omega]; exact h
theorem app_ahead {α : Type} {a b : List α} {k : Nat} {v : α} (h : a[k]? = some v) : (a ++ b)[k]? = some v := by
 have hk : k < a.length := (List.getElem?_eq_some_iff.1 h).1
 rw [List.getElem?_append_left hk]; exact h
theorem app_set {α : Type} {a b : List α} {n k : Nat} {v : α} (ha : a.length = n) : (a ++ b).set (n + k) v = a ++ b.set k v := by
 rw [List.set_append_right _ _ (by omega), ha, show n + k - n = k by omega]
theorem app_seta {α : Type} {a b : List α} {k : Nat} {v : α} (h : k < a.length) : (a ++ b).set k v = a.set k v ++ b := by
 rw [List.set_append_left _ _ h]
section
variable {vm vc : Value} {ev : Int × Int} {sb : Nat} {M : Mc}
theorem mcC_low (k : Nat) (hk : k < 5) : (mcC vm vc ev sb M)[k]? = [Value.int .u64 ev.1, .int .u64 ev.2, vm, vc, .pointer (some ⟨sb, 0, none⟩)][k]? := by
 unfold mcC
 rw [List.getElem?_append_left (by simpa using hk)]
theorem mcC_reg (hR : M.regs.length = 8) {k : Nat} (hk : k < 8) : (mcC vm vc ev sb M)[5 + k]? = some (.int .u64 (M.regs.getD k 0)) := by
 unfold mcC
 exact app_at rfl (app_ahead (nums_get (by omega)))
theorem mcC_turn (hR : M.regs.length = 8) {k : Nat} (hk : k < 64) : (mcC vm vc ev sb M)[13 + k]? = some (.int .i64 (M.turn k)) := by
 unfold mcC
 rw [show 13 + k = 5 + (8 + k) by omega]
 exact app_at rfl (app_at (by rw [nums_len, hR]) (app_ahead (tnC_at _ hk)))
theorem mcC_last (hR : M.regs.length = 8) (k : Nat) : (mcC vm vc ev sb M)[77 + k]? = [Value.int .i64 M.pc, .int .i64 M.steps, .int .i64 M.mode][k]? := by
 unfold mcC
 rw [List.getElem?_append_right (by simp; omega), List.getElem?_append_right (by rw [nums_len, hR]; simp; omega), List.getElem?_append_right (by rw [nums_len, hR, tnC_len]; simp; omega), nums_len, hR, tnC_len]
 simp only [List.length_cons, List.length_nil]
 congr 1
 omega
theorem mcC_setR {k : Nat} (hk : k < 8) (hR : M.regs.length = 8) (v : Int) : (mcC vm vc ev sb M).set (5 + k) (.int .u64 v) = mcC vm vc ev sb { M with regs := M.regs.set k v } := by
 unfold mcC
 rw [app_set (by rfl), app_seta (by rw [nums_len, hR]; exact hk), nums_setI]
theorem mcC_setT {k : Nat} (hk : k < 64) (hR : M.regs.length = 8) (v : Int) : (mcC vm vc ev sb M).set (13 + k) (.int .i64 v) = mcC vm vc ev sb { M with turn := fun t => if t = k then v else M.turn t } := by
 unfold mcC
 rw [show 13 + k = 5 + (8 + k) by omega, app_set (by rfl), app_set (by rw [nums_len, hR]), app_seta (by rw [tnC_len]; exact hk), tnC_set _ hk]
theorem mcC_setL (hR : M.regs.length = 8) (k : Nat) (v : Value) : (mcC vm vc ev sb M).set (77 + k) v = [.int .u64 ev.1, .int .u64 ev.2, vm, vc, .pointer (some ⟨sb, 0, none⟩)] ++ (nums M.regs ++ (tnC M.turn ++ [.int .i64 M.pc, .int .i64 M.steps, .int .i64 M.mode].set k v)) := by
 unfold mcC
 rw [show 77 + k = 5 + (8 + (64 + k)) by omega, app_set (by rfl), app_set (by rw [nums_len, hR]), app_set (by rw [tnC_len])]
theorem mcC_setP (hR : M.regs.length = 8) (p : Nat) : (mcC vm vc ev sb M).set 77 (.int .i64 p) = mcC vm vc ev sb { M with pc := p } := mcC_setL hR 0 _
theorem mcC_setN (hR : M.regs.length = 8) (p : Nat) : (mcC vm vc ev sb M).set 78 (.int .i64 p) = mcC vm vc ev sb { M with steps := p } := mcC_setL hR 1 _
theorem mcC_setM (hR : M.regs.length = 8) (p : Nat) : (mcC vm vc ev sb M).set 79 (.int .i64 p) = mcC vm vc ev sb { M with mode := p } := mcC_setL hR 2 _
end
structure Ma (w : World) (b sb : Nat) (vm vc : Value) (ev : Int × Int) (M : Mc) : Prop where
 hp : Hp w b 124 (mcC vm vc ev sb M)
 wr : WR M.regs
 pc : M.pc < 64
section
variable {w w' : World} {b sb : Nat} {vm vc : Value} {ev : Int × Int} {M : Mc}
theorem Ma.below {B : Nat} (h : Ma w b sb vm vc ev M) (hb : Below B w w') (hB : b < B) : Ma w' b sb vm vc ev M := ⟨h.hp.below hb hB, h.wr, h.pc⟩
theorem Ma.grown {row : Option Nat} (h : Ma w b sb vm vc ev M) (hg : w.grownBy w' row) (hne : some b ≠ row) : Ma w' b sb vm vc ev M := ⟨h.hp.grown hg hne, h.wr, h.pc⟩
theorem Ma.drew (h : Ma w b sb vm vc ev M) : Ma w.drew b sb vm vc ev M := ⟨h.hp.drew, h.wr, h.pc⟩
theorem Ma.low (h : Ma w b sb vm vc ev M) : w.cell? ⟨b, 0, none⟩ = some (.int .u64 ev.1) /\ w.cell? ⟨b, 1, none⟩ = some (.int .u64 ev.2) /\ w.cell? ⟨b, 2, none⟩ = some vm /\ w.cell? ⟨b, 3, none⟩ = some vc /\ w.cell? ⟨b, 4, none⟩ = some (.pointer (some ⟨sb, 0, none⟩)) :=
 ⟨h.hp.cell (mcC_low 0 (by decide)), h.hp.cell (mcC_low 1 (by decide)), h.hp.cell (mcC_low 2 (by decide)), h.hp.cell (mcC_low 3 (by decide)), h.hp.cell (mcC_low 4 (by decide))⟩
theorem Ma.reg (h : Ma w b sb vm vc ev M) {k : Nat} (hk : k < 8) : w.cell? ⟨b, 5 + k, none⟩ = some (.int .u64 (M.regs.getD k 0)) := h.hp.cell (mcC_reg h.wr.1 hk)
theorem Ma.turn (h : Ma w b sb vm vc ev M) : w.cell? ⟨b, 13 + M.pc, none⟩ = some (.int .i64 (M.turn M.pc)) := h.hp.cell (mcC_turn h.wr.1 h.pc)
theorem Ma.last (h : Ma w b sb vm vc ev M) : w.cell? ⟨b, 77, none⟩ = some (.int .i64 M.pc) /\ w.cell? ⟨b, 78, none⟩ = some (.int .i64 M.steps) /\ w.cell? ⟨b, 79, none⟩ = some (.int .i64 M.mode) :=
 ⟨h.hp.cell (mcC_last h.wr.1 0), h.hp.cell (mcC_last h.wr.1 1), h.hp.cell (mcC_last h.wr.1 2)⟩
theorem Ma.setR (h : Ma w b sb vm vc ev M) {k : Nat} (hk : k < 8) {v : Int} (hv : 0 <= v /\ v <= 18446744073709551615) : Ma (w.setCell ⟨b, 5 + k, none⟩ (.int .u64 v)) b sb vm vc ev { M with regs := M.regs.set k v } := by
 refine ⟨?_, h.wr.set k hv, h.pc⟩
 have := h.hp.set (5 + k) (.int .u64 v)
 rw [mcC_setR hk h.wr.1] at this
 exact this
theorem Ma.setT (h : Ma w b sb vm vc ev M) (v : Int) : Ma (w.setCell ⟨b, 13 + M.pc, none⟩ (.int .i64 v)) b sb vm vc ev { M with turn := fun t => if t = M.pc then v else M.turn t } := by
 refine ⟨?_, h.wr, h.pc⟩
 have := h.hp.set (13 + M.pc) (.int .i64 v)
 rw [mcC_setT h.pc h.wr.1] at this
 exact this
theorem Ma.setP (h : Ma w b sb vm vc ev M) {p : Nat} (hp : p < 64) : Ma (w.setCell ⟨b, 77, none⟩ (.int .i64 p)) b sb vm vc ev { M with pc := p } := by
 refine ⟨?_, h.wr, hp⟩
 have := h.hp.set 77 (.int .i64 p)
 rw [mcC_setP h.wr.1] at this
 exact this
theorem Ma.setN (h : Ma w b sb vm vc ev M) (p : Nat) : Ma (w.setCell ⟨b, 78, none⟩ (.int .i64 p)) b sb vm vc ev { M with steps := p } := by
 refine ⟨?_, h.wr, h.pc⟩
 have := h.hp.set 78 (.int .i64 p)
 rw [mcC_setN h.wr.1] at this
 exact this
theorem Ma.setM (h : Ma w b sb vm vc ev M) (p : Nat) : Ma (w.setCell ⟨b, 79, none⟩ (.int .i64 p)) b sb vm vc ev { M with mode := p } := by
 refine ⟨?_, h.wr, h.pc⟩
 have := h.hp.set 79 (.int .i64 p)
 rw [mcC_setM h.wr.1] at this
 exact this
end
end Go.Proofs.YtkondcjmhlppiaaGreat
