
/-
  Layer 26: what == says of an entry and of one that bears nothing but its mark. No condition.
-/
import Derived.Test.YtbfbfbbpajaclaaDoorMB23
import Derived.Test.YtbfbfbbpajaclaaDoorMB19
import Derived.Laws.StructEq
namespace Go.Proofs.YtbfbfbbpajaclaaDoor
open Go.RowKit
set_option linter.unusedVariables false
set_option linter.unusedSimpArgs false
set_option maxRecDepth 100000
theorem eqItem26 (d : Nat) (a b c x : Int) (w : World) : (Op.equalIn (d + 1 + 1) 31 (.agg #[.int .i64 a, .int .i64 b, .int .u64 c, .int .u64 x]) (.agg #[.int .i64 0, .int .i64 0, .int .u64 0, .int .u64 0])).run Tryd.prog w = .ok (a == 0 && (b == 0 && (c == 0 && x == 0))) w := by
  have u3 := Tryd.underlying3
  have a3 := Tryd.isAgg3
  have z3 := Tryd.sizeOf3
  have u4 := Tryd.underlying28
  have a4 := Tryd.isAgg28
  have z4 := Tryd.sizeOf28
  have u5 := Tryd.underlying29
  have a5 := Tryd.isAgg29
  have z5 := Tryd.sizeOf29
  have hS : Tryd.prog.underlying 31 = some (.struct (Tryd.prog.fieldsOf 31)) := by kernel_rfl
  rw [run_equalIn_agg w (d + 1) 31 _ _ hS (by kernel_rfl)]
  simp only [Program.fieldsOf, Tryd.underlying31]
  go_simp
  by_cases h1 : a = 0 <;> by_cases h2 : b = 0 <;> by_cases h3 : c = 0 <;> by_cases h4 : x = 0 <;> simp [h1, h2, h3, h4]
theorem eqRes26 (d : Nat) (a : Int) (b : Bool) (c : Int) (x : Bool) (y z : Int) (w : World) : (Op.equalIn (d + 1 + 1) 34 (.agg #[.int .i64 a, .bool b, .int .u64 c, .bool x, .int .u64 y, .int .u64 z]) (.agg #[.int .i64 0, .bool false, .int .u64 0, .bool false, .int .u64 0, .int .u64 0])).run Tryd.prog w = .ok (a == 0 && (!b && (c == 0 && (!x && (y == 0 && z == 0))))) w := by
  have u3 := Tryd.underlying32
  have a3 := Tryd.isAgg32
  have z3 := Tryd.sizeOf32
  have u4 := Tryd.underlying4
  have a4 := Tryd.isAgg4
  have z4 := Tryd.sizeOf4
  have u5 := Tryd.underlying29
  have a5 := Tryd.isAgg29
  have z5 := Tryd.sizeOf29
  have hS : Tryd.prog.underlying 34 = some (.struct (Tryd.prog.fieldsOf 34)) := by kernel_rfl
  rw [run_equalIn_agg w (d + 1) 34 _ _ hS (by kernel_rfl)]
  simp only [Program.fieldsOf, Tryd.underlying34]
  go_simp
  cases b <;> cases x <;> by_cases h1 : a = 0 <;> by_cases h2 : c = 0 <;> by_cases h3 : y = 0 <;> by_cases h4 : z = 0 <;> simp [h1, h2, h3, h4]
/-- Does an entry bear nothing but its mark? -/
def eqZ (e : En) : Bool := e.ta == 0 && (e.fr == 0 && (e.cm == 0 && (e.tg == 0 && (e.ev == 0 && (e.hk == 0 && (e.pg == 0 && (e.ve == 0 && (e.pc == 0 && ((e.mp == 0 && (e.op == 0 && (e.ky == 0 && e.vl == 0))) && ((e.er == 0 && (!e.fo && (e.rv == 0 && (!e.ou && (e.ok == 0 && e.ov == 0))))) && (e.va == 0 && e.xe == 0)))))))))))
theorem eqEn26 (e : En) (w : World) : (binOp .eql 36 (enV e) (enV (startM e.wh false))).run Tryd.prog w = .ok (.bool (eqZ e)) w := by
  have u0 := Tryd.underlying25
  have a0 := Tryd.isAgg25
  have z0 := Tryd.sizeOf25
  have u1 := Tryd.underlying3
  have a1 := Tryd.isAgg3
  have z1 := Tryd.sizeOf3
  have u2 := Tryd.isAgg31
  have z2 := Tryd.sizeOf31
  have a3 := Tryd.isAgg34
  have z3 := Tryd.sizeOf34
  have u5 := Tryd.underlying29
  have a5 := Tryd.isAgg29
  have z5 := Tryd.sizeOf29
  have u6 := Tryd.underlying32
  have a6 := Tryd.isAgg32
  have z6 := Tryd.sizeOf32
  have hS : Tryd.prog.underlying 36 = some (.struct (Tryd.prog.fieldsOf 36)) := by kernel_rfl
  have e1 := fun (a b c x : Int) (w : World) => eqItem26 9997 a b c x w
  have e2 := fun (a : Int) (b : Bool) (c : Int) (x : Bool) (y z : Int) (w : World) => eqRes26 9997 a b c x y z w
  unfold enV startM En.nil
  simp only
  rw [run_eql_struct, show (10000 : Nat) = 9999 + 1 from rfl, run_equalIn_agg w 9999 36 _ _ hS (by kernel_rfl)]
  simp only [Program.fieldsOf, Tryd.underlying36]
  go_simp
  clear e1 e2 hS u0 a0 z0 u1 a1 z1 u2 z2 a3 z3 u5 a5 z5 u6 a6 z6
  unfold eqZ
  by_cases h1 : e.ta = 0
  case neg => simp [h1]
  by_cases h2 : e.fr = 0
  case neg => simp [h2]
  by_cases h3 : e.cm = 0
  case neg => simp [h3]
  by_cases h4 : e.tg = 0
  case neg => simp [h4]
  by_cases h5 : e.ev = 0
  case neg => simp [h5]
  by_cases h6 : e.hk = 0
  case neg => simp [h6]
  by_cases h7 : e.pg = 0
  case neg => simp [h7]
  by_cases h8 : e.ve = 0
  case neg => simp [h8]
  by_cases h9 : e.pc = 0
  case neg => simp [h9]
  simp only [h1, h2, h3, h4, h5, h6, h7, h8, h9, if_true, beq_self_eq_true, Bool.true_and]
  by_cases i1 : e.mp = 0
  case neg => simp [i1]
  by_cases i2 : e.op = 0
  case neg => simp [i2]
  by_cases i3 : e.ky = 0
  case neg => simp [i3]
  by_cases i4 : e.vl = 0
  case neg => simp [i4]
  by_cases j1 : e.er = 0
  case neg => simp [j1]
  cases j2 : e.fo
  case true => simp
  by_cases j3 : e.rv = 0
  case neg => simp [j3]
  cases j4 : e.ou
  case true => simp
  by_cases j5 : e.ok = 0
  case neg => simp [j5]
  by_cases j6 : e.ov = 0
  case neg => simp [j6]
  by_cases k1 : e.va = 0
  case neg => simp [k1]
  by_cases k2 : e.xe = 0 <;> simp [i1, i2, i3, i4, j1, j3, j5, j6, k1, k2]
theorem eqZ_iff (e : En) : eqZ e = true ↔ e = startM e.wh false := by
  obtain ⟨wh, ta, fr, cm, tg, ev, hk, pg, ve, pc, mp, op, ky, vl, er, fo, rv, ou, ok, ov, va, xe⟩ := e
  unfold eqZ startM En.nil
  simp only [Bool.and_eq_true, beq_iff_eq, Bool.not_eq_true', En.mk.injEq]
  constructor
  · rintro ⟨h1, h2, h3, h4, h5, h6, h7, h8, h9, ⟨i1, i2, i3, i4⟩, ⟨j1, j2, j3, j4, j5, j6⟩, k1, k2⟩
    exact ⟨trivial, h1, h2, h3, h4, h5, h6, h7, h8, h9, i1, i2, i3, i4, j1, j2, j3, j4, j5, j6, k1, k2⟩
  · rintro ⟨_, h1, h2, h3, h4, h5, h6, h7, h8, h9, i1, i2, i3, i4, j1, j2, j3, j4, j5, j6, k1, k2⟩
    exact ⟨h1, h2, h3, h4, h5, h6, h7, h8, h9, ⟨i1, i2, i3, i4⟩, ⟨j1, j2, j3, j4, j5, j6⟩, k1, k2⟩
end Go.Proofs.YtbfbfbbpajaclaaDoor
