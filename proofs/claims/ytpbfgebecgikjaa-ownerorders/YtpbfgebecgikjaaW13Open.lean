
/-
  The arguments of layer 13's laws, opened: pairs, calls. No condition.
-/
import Derived.Test.YtpbfgebecgikjaaGOpen
import Derived.Test.YtpbfgebecgikjaaB13Ref
namespace Go.Proofs.Ytpbfgebecgikjaa
open Go.ChangeShapes Go.WideShapes Go.ChangeAt Go.RowKit
set_option linter.unusedVariables false
set_option maxRecDepth 100000

/-- One call. -/
structure Dc where
  op : Int
  k : Int
  v : Int
def Dc.nil : Dc := ⟨0, 0, 0⟩
abbrev dcC (d : Dc) : List Value := [.int .i64 d.op, .int .u64 d.k, .int .u64 d.v]
theorem dcC_len (d : Dc) : (dcC d).length = 3 := rfl
theorem pair_cells {H : Type} {enc : TypeId × Value → H} {W : World} {base fuel : Nat} {sp : Nat → Bool} {held : Bool} {cs : List Value} {x : DataW H × List MemPlace}
    (h : DataW.trod enc Try.prog W base sp held fuel 80 cs = some x) : ∃ p : Pp, cs = ppC p ∧ p.wf := by
  obtain ⟨xs, n, rfl, hx, hl, hlen, hf⟩ := DataW.trod_struct Try.underlying80 h
  have l5 : cs.length = 2 := by rw [hl]; kernel_rfl
  have u1 : Try.prog.cellsOf 41 = 1 := by kernel_rfl
  match cs, l5, xs, hlen, hf with
  | [c0, c1], _, [x0, x1], _, hf =>
    have h0 : DataW.trod enc Try.prog W base sp held n 41 (([c0, c1].drop 0).take (Try.prog.cellsOf 41)) = some x0 := hf 0 _ rfl
    have h1 : DataW.trod enc Try.prog W base sp held n 41 (([c0, c1].drop 1).take (Try.prog.cellsOf 41)) = some x1 := hf 1 _ rfl
    rw [u1] at h0 h1
    obtain ⟨a, e0, y0, g0⟩ := DataW.trod_int Try.underlying41 h0
    obtain ⟨b, e1, y1, g1⟩ := DataW.trod_int Try.underlying41 h1
    simp at e0 e1
    subst e0 e1
    refine ⟨⟨a, b⟩, rfl, ?_, ?_⟩
    · have := bounds_u64 g0; unfold W64p; omega
    · have := bounds_u64 g1; unfold W64p; omega
theorem opens_Pair {H : Type} {enc : TypeId × Value → H} {W : World} {base : Nat} {v : Value} {d : DataW H} {p : List MemPlace}
    (hok : Value.okWide Try.prog W .any base 48 v) (h : DataW.Trod enc Try.prog W 0 (fun _ => true) true 48 v d p) :
    ∃ xs, SeesG ppC 2 Pp.nil W v xs ∧ (∀ x ∈ xs, x.wf) ∧ ((d.weights Try.prog 48).all (· ≤ reachBytes) = true → xs.length * 16 ≤ 140737488351232) :=
  opensG Pp.nil (R := Pp.wf) Try.underlying48 (by kernel_rfl) (by decide) ppC_len (by kernel_rfl) pair_cells hok h
end Go.Proofs.Ytpbfgebecgikjaa
