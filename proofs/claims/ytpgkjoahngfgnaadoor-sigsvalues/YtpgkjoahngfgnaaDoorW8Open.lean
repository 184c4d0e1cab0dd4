/-
  An argument that is a map's answer, opened. No condition.
-/
import Derived.Test.YtpgkjoahngfgnaaDoorT8Types
import Derived.ProofKit
namespace Go.Proofs.YtpgkjoahngfgnaaDoor
open Go.ChangeShapes Go.WideShapes Go.ChangeAt Go.RowKit
set_option linter.unusedVariables false
set_option maxRecDepth 100000

theorem res_cells {H : Type} {enc : TypeId × Value → H} {W : World} {base fuel : Nat} {sp : Nat → Bool} {held : Bool} {cs : List Value} {x : DataW H × List MemPlace}
    (h : DataW.trod enc Tryd.prog W base sp held fuel 49 cs = some x) : ∃ (E : Int) (f : Bool) (v : Int) (o : Bool) (k u : Int), cs = [.int .i64 E, .bool f, .int .u64 v, .bool o, .int .u64 k, .int .u64 u] ∧ 0 ≤ v ∧ v ≤ 18446744073709551615 := by
  obtain ⟨xs, n, rfl, hx, hl, hlen, hf⟩ := DataW.trod_struct Tryd.underlying49 h
  have l6 : cs.length = 6 := by rw [hl]; kernel_rfl
  have u0 : Tryd.prog.cellsOf 43 = 1 := by kernel_rfl
  have u1 : Tryd.prog.cellsOf 4 = 1 := by kernel_rfl
  have u2 : Tryd.prog.cellsOf 26 = 1 := by kernel_rfl
  match cs, l6, xs, hlen, hf with
  | [c0, c1, c2, c3, c4, c5], _, [x0, x1, x2, x3, x4, x5], _, hf =>
    have h0 : DataW.trod enc Tryd.prog W base sp held n 43 (([c0, c1, c2, c3, c4, c5].drop 0).take (Tryd.prog.cellsOf 43)) = some x0 := hf 0 _ rfl
    rw [u0] at h0
    have h1 : DataW.trod enc Tryd.prog W base sp held n 4 (([c0, c1, c2, c3, c4, c5].drop 1).take (Tryd.prog.cellsOf 4)) = some x1 := hf 1 _ rfl
    rw [u1] at h1
    have h2 : DataW.trod enc Tryd.prog W base sp held n 26 (([c0, c1, c2, c3, c4, c5].drop 2).take (Tryd.prog.cellsOf 26)) = some x2 := hf 2 _ rfl
    rw [u2] at h2
    have h3 : DataW.trod enc Tryd.prog W base sp held n 4 (([c0, c1, c2, c3, c4, c5].drop 3).take (Tryd.prog.cellsOf 4)) = some x3 := hf 3 _ rfl
    rw [u1] at h3
    have h4 : DataW.trod enc Tryd.prog W base sp held n 26 (([c0, c1, c2, c3, c4, c5].drop 4).take (Tryd.prog.cellsOf 26)) = some x4 := hf 4 _ rfl
    rw [u2] at h4
    have h5 : DataW.trod enc Tryd.prog W base sp held n 26 (([c0, c1, c2, c3, c4, c5].drop 5).take (Tryd.prog.cellsOf 26)) = some x5 := hf 5 _ rfl
    rw [u2] at h5
    obtain ⟨E, e0, y0, g0⟩ := DataW.trod_int Tryd.underlying43 h0
    obtain ⟨f, e1, y1⟩ := DataW.trod_bool Tryd.underlying4 h1
    obtain ⟨v, e2, y2, g2⟩ := DataW.trod_int Tryd.underlying26 h2
    obtain ⟨o, e3, y3⟩ := DataW.trod_bool Tryd.underlying4 h3
    obtain ⟨k, e4, y4, g4⟩ := DataW.trod_int Tryd.underlying26 h4
    obtain ⟨u, e5, y5, g5⟩ := DataW.trod_int Tryd.underlying26 h5
    simp at e0 e1 e2 e3 e4 e5
    subst e0 e1 e2 e3 e4 e5
    exact ⟨E, f, v, o, k, u, rfl, bounds_u64 g2⟩
theorem open_Res {H : Type} {enc : TypeId × Value → H} {W : World} {base : Nat} {v : Value} {d : DataW H} {p : List MemPlace}
    (hok : Value.okWide Tryd.prog W .any base 49 v) (h : DataW.Trod enc Tryd.prog W 0 (fun _ => true) true 49 v d p) :
    ∃ (E : Int) (f : Bool) (n : Int) (o : Bool) (k u : Int), v = .agg #[.int .i64 E, .bool f, .int .u64 n, .bool o, .int .u64 k, .int .u64 u] ∧ 0 ≤ n ∧ n ≤ 18446744073709551615 := by
  obtain ⟨cs, rfl, _⟩ := okWide_struct Tryd.underlying49 hok
  obtain ⟨fuel, hf⟩ := h
  obtain ⟨E, f, n, o, k, u, hi, hw⟩ := res_cells hf
  refine ⟨E, f, n, o, k, u, ?_, hw⟩
  have h2 : cs.toList = [.int .i64 E, .bool f, .int .u64 n, .bool o, .int .u64 k, .int .u64 u] := by simpa [Value.cells] using hi
  have : cs = [Value.int .i64 E, .bool f, .int .u64 n, .bool o, .int .u64 k, .int .u64 u].toArray := by rw [← h2]
  rw [this]
end Go.Proofs.YtpgkjoahngfgnaaDoor
