/-
  What the law's inside answers: a number of the span; an argument of two spans and two numbers, opened. Condition: a right span of numbers of 64 bits.
-/
import Derived.Test.YtammakfpmimljaaS6Box
namespace Go.Proofs.Ytammakfpmimljaa
open Go.ChangeShapes Go.WideShapes Go.ChangeAt Go.RowKit
set_option linter.unusedVariables false
set_option maxRecDepth 100000

def insideL (a A n : Int) : Int := if A - a = 18446744073709551615 then n else a + n % (A - a + 1)
theorem inside_in {a A n : Int} (ha : 0 ≤ a ∧ a ≤ A ∧ A ≤ 18446744073709551615) (hn : 0 ≤ n ∧ n ≤ 18446744073709551615) : a ≤ insideL a A n ∧ insideL a A n ≤ A := by
  unfold insideL
  split
  · omega
  · have h1 := Int.emod_nonneg n (show A - a + 1 ≠ 0 by omega)
    have h2 := Int.emod_lt_of_pos n (show 0 < A - a + 1 by omega)
    omega
theorem inside_any (a A n : Int) (w : World) (ha : 0 ≤ a ∧ a ≤ A ∧ A ≤ 18446744073709551615) (hn : 0 ≤ n ∧ n ≤ 18446744073709551615) :
    Calls Try.prog 26 #[.agg #[.int .u64 a, .int .u64 A], .int .u64 n] w fun e w' => e = .returned (.int .u64 (insideL a A n)) ∧ Below w.heap.size w w' := by
  have hI := inside_in ha hn
  by_cases h : A - a = 18446744073709551615
  · have HE : Hid (insideL a A n = n) := by show _ = _; unfold insideL; rw [if_pos h]
    have h' : (A - a == 18446744073709551615) = true := by simpa using h
    clear hI
    go_enter Try.func26, Try.ntmps26
    go_wp2
    go_ret
    exact ⟨ret1 HE.out.symm, by go_grown⟩
  · have HE : Hid (insideL a A n = a + n % (A - a + 1)) := by show _ = _; unfold insideL; rw [if_neg h]
    have h' : (A - a == 18446744073709551615) = false := by simpa using h
    have h1 := Int.emod_nonneg n (show A - a + 1 ≠ 0 by omega)
    have h2 := Int.emod_lt_of_pos n (show 0 < A - a + 1 by omega)
    have h3 : ¬ A - a + 1 = 0 := by omega
    rw [HE.out] at hI
    go_enter Try.func26, Try.ntmps26
    go_wp2
    go_region
    all_goals go_wp2
    all_goals go_ret
    all_goals exact ⟨ret1 HE.out.symm, by go_grown⟩
/-- Six cells that read as two spans and two numbers. -/
theorem ask_cells {H : Type} {enc : TypeId × Value → H} {W : World} {base fuel : Nat} {sp : Nat → Bool} {held : Bool} {cs : List Value} {x : DataW H × List MemPlace}
    (h : DataW.trod enc Try.prog W base sp held fuel 44 cs = some x) : ∃ (s t : Sp) (x y : Int), cs = [.int .u64 s.1, .int .u64 s.2, .int .u64 t.1, .int .u64 t.2, .int .u64 x, .int .u64 y] ∧ wfS s ∧ wfS t ∧ W64 x ∧ W64 y := by
  obtain ⟨xs, n, rfl, hx, hl, hlen, hf⟩ := DataW.trod_struct Try.underlying44 h
  have l6 : cs.length = 6 := by rw [hl]; kernel_rfl
  have u1 : Try.prog.cellsOf 22 = 1 := by kernel_rfl
  have u2 : Try.prog.cellsOf 24 = 2 := by kernel_rfl
  match cs, l6, xs, hlen, hf with
  | [c0, c1, c2, c3, c4, c5], _, [x0, x1, x2, x3], _, hf =>
    have h0 : DataW.trod enc Try.prog W base sp held n 24 (([c0, c1, c2, c3, c4, c5].drop 0).take (Try.prog.cellsOf 24)) = some x0 := hf 0 _ rfl
    rw [u2] at h0
    have h1 : DataW.trod enc Try.prog W base sp held n 24 (([c0, c1, c2, c3, c4, c5].drop 2).take (Try.prog.cellsOf 24)) = some x1 := hf 1 _ rfl
    rw [u2] at h1
    have h2 : DataW.trod enc Try.prog W base sp held n 22 (([c0, c1, c2, c3, c4, c5].drop 4).take (Try.prog.cellsOf 22)) = some x2 := hf 2 _ rfl
    rw [u1] at h2
    have h3 : DataW.trod enc Try.prog W base sp held n 22 (([c0, c1, c2, c3, c4, c5].drop 5).take (Try.prog.cellsOf 22)) = some x3 := hf 3 _ rfl
    rw [u1] at h3
    obtain ⟨s, e0, g0, _⟩ := span_cells h0
    obtain ⟨t, e1, g1, _⟩ := span_cells h1
    obtain ⟨a, e2, y2, g2⟩ := DataW.trod_int Try.underlying22 h2
    obtain ⟨b, e3, y3, g3⟩ := DataW.trod_int Try.underlying22 h3
    simp at e0 e1 e2 e3
    refine ⟨s, t, a, b, ?_, g0, g1, bounds_u64 g2, bounds_u64 g3⟩
    rw [e0.1, e0.2, e1.1, e1.2, e2, e3]
/-- Two spans and two numbers. -/
theorem open_Ask {H : Type} {enc : TypeId × Value → H} {W : World} {base : Nat} {v : Value} {d : DataW H} {p : List MemPlace}
    (hok : Value.okWide Try.prog W .any base 44 v) (h : DataW.Trod enc Try.prog W 0 (fun _ => true) true 44 v d p) :
    ∃ (s t : Sp) (x y : Int), v = .agg #[.int .u64 s.1, .int .u64 s.2, .int .u64 t.1, .int .u64 t.2, .int .u64 x, .int .u64 y] ∧ wfS s ∧ wfS t ∧ W64 x ∧ W64 y := by
  obtain ⟨cs, rfl, _⟩ := okWide_struct Try.underlying44 hok
  obtain ⟨fuel, hf⟩ := h
  obtain ⟨s, t, x, y, hc, g⟩ := ask_cells hf
  refine ⟨s, t, x, y, ?_, g⟩
  have : cs = [Value.int .u64 s.1, .int .u64 s.2, .int .u64 t.1, .int .u64 t.2, .int .u64 x, .int .u64 y].toArray := by
    have h2 : cs.toList = [Value.int .u64 s.1, .int .u64 s.2, .int .u64 t.1, .int .u64 t.2, .int .u64 x, .int .u64 y] := by simpa [Value.cells] using hc
    rw [← h2]
  rw [this]
end Go.Proofs.Ytammakfpmimljaa
