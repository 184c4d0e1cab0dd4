
/-
 An argument that is an instruction, or a slice of them, opened. No condition.
-/
import Derived.Test.YtkondcjmhlppiaaGreatMW18
import Derived.Deep.MidRow
import Derived.ProofKit
namespace Go.Proofs.YtkondcjmhlppiaaGreat
open Go.ChangeShapes Go.WideShapes Go.ChangeAt Go.RowKit
set_option linter.unusedVariables false
set_option maxRecDepth 100000

abbrev In.cells (i : In) : List Value := [.int .i64 i.op, .int .i64 i.d, .int .i64 i.a, .int .i64 i.b, .int .i64 i.imm]
abbrev In.data {H : Type} (i : In) : DataW H := .agg [.lit (.int .i64 i.op), .lit (.int .i64 i.d), .lit (.int .i64 i.a), .lit (.int .i64 i.b), .lit (.int .i64 i.imm)]
theorem inst_cells {H : Type} {enc : TypeId × Value -> H} {W : World} {base fuel : Nat} {sp : Nat -> Bool} {held : Bool} {cs : List Value} {x : DataW H × List MemPlace}
  (h : DataW.trod enc Tryz.prog W base sp held fuel 60 cs = some x) : ∃ i : In, cs = i.cells /\ i.wf /\ x = (i.data, []) := by
 obtain ⟨xs, n, rfl, hx, hl, hlen, hf⟩ := DataW.trod_struct Tryz.underlying60 h
 have l5 : cs.length = 5 := by rw [hl]; kernel_rfl
 have u1 : Tryz.prog.cellsOf 58 = 1 := by kernel_rfl
 have u2 : Tryz.prog.cellsOf 3 = 1 := by kernel_rfl
 have u3 : Tryz.prog.cellsOf 2 = 1 := by kernel_rfl
 match cs, l5, xs, hlen, hf with
 | [c0, c1, c2, c3, c4], _, [x0, x1, x2, x3, x4], _, hf =>
  have h0 : DataW.trod enc Tryz.prog W base sp held n 58 (([c0, c1, c2, c3, c4].drop 0).take (Tryz.prog.cellsOf 58)) = some x0 := hf 0 _ rfl
  rw [u1] at h0
  have h1 : DataW.trod enc Tryz.prog W base sp held n 3 (([c0, c1, c2, c3, c4].drop 1).take (Tryz.prog.cellsOf 3)) = some x1 := hf 1 _ rfl
  rw [u2] at h1
  have h2 : DataW.trod enc Tryz.prog W base sp held n 3 (([c0, c1, c2, c3, c4].drop 2).take (Tryz.prog.cellsOf 3)) = some x2 := hf 2 _ rfl
  rw [u2] at h2
  have h3 : DataW.trod enc Tryz.prog W base sp held n 3 (([c0, c1, c2, c3, c4].drop 3).take (Tryz.prog.cellsOf 3)) = some x3 := hf 3 _ rfl
  rw [u2] at h3
  have h4 : DataW.trod enc Tryz.prog W base sp held n 2 (([c0, c1, c2, c3, c4].drop 4).take (Tryz.prog.cellsOf 2)) = some x4 := hf 4 _ rfl
  rw [u3] at h4
  obtain ⟨op, e0, y0, g0⟩ := DataW.trod_int Tryz.underlying58 h0
  obtain ⟨d, e1, y1, g1⟩ := DataW.trod_int Tryz.underlying3 h1
  obtain ⟨a, e2, y2, g2⟩ := DataW.trod_int Tryz.underlying3 h2
  obtain ⟨b, e3, y3, g3⟩ := DataW.trod_int Tryz.underlying3 h3
  obtain ⟨imm, e4, y4, g4⟩ := DataW.trod_int Tryz.underlying2 h4
  simp at e0 e1 e2 e3 e4
  subst e0 e1 e2 e3 e4 y0 y1 y2 y3 y4
  exact ⟨⟨op, d, a, b, imm⟩, rfl, ⟨g0, g1, g2, g3, g4⟩, hx⟩
end Go.Proofs.YtkondcjmhlppiaaGreat
