
/-
  The arguments of layer 14's laws, opened: calls, numbers. No condition.
-/
import Derived.Test.YtoaceadfdelgfaaW13Open
import Derived.Test.YtoaceadfdelgfaaW14Kit
namespace Go.Proofs.Ytoaceadfdelgfaa
open Go.ChangeShapes Go.WideShapes Go.ChangeAt Go.RowKit
set_option linter.unusedVariables false
set_option maxRecDepth 100000

theorem call_cells14 {H : Type} {enc : TypeId × Value → H} {W : World} {base fuel : Nat} {sp : Nat → Bool} {held : Bool} {cs : List Value} {x : DataW H × List MemPlace}
    (h : DataW.trod enc Try.prog W base sp held fuel 38 cs = some x) : ∃ d : Dc, cs = dcC d ∧ True := by
  obtain ⟨xs, n, rfl, hx, hl, hlen, hf⟩ := DataW.trod_struct Try.underlying38 h
  have l5 : cs.length = 3 := by rw [hl]; kernel_rfl
  have u1 : Try.prog.cellsOf 36 = 1 := by kernel_rfl
  have u2 : Try.prog.cellsOf 3 = 1 := by kernel_rfl
  match cs, l5, xs, hlen, hf with
  | [c0, c1, c2], _, [x0, x1, x2], _, hf =>
    have h0 : DataW.trod enc Try.prog W base sp held n 3 (([c0, c1, c2].drop 0).take (Try.prog.cellsOf 3)) = some x0 := hf 0 _ rfl
    have h1 : DataW.trod enc Try.prog W base sp held n 36 (([c0, c1, c2].drop 1).take (Try.prog.cellsOf 36)) = some x1 := hf 1 _ rfl
    have h2 : DataW.trod enc Try.prog W base sp held n 36 (([c0, c1, c2].drop 2).take (Try.prog.cellsOf 36)) = some x2 := hf 2 _ rfl
    rw [u2] at h0
    rw [u1] at h1 h2
    obtain ⟨a, e0, y0, g0⟩ := DataW.trod_int Try.underlying3 h0
    obtain ⟨b, e1, y1, g1⟩ := DataW.trod_int Try.underlying36 h1
    obtain ⟨c, e2, y2, g2⟩ := DataW.trod_int Try.underlying36 h2
    simp at e0 e1 e2
    subst e0 e1 e2
    exact ⟨⟨a, b, c⟩, rfl, trivial⟩
theorem u64_cells {H : Type} {enc : TypeId × Value → H} {W : World} {base fuel : Nat} {sp : Nat → Bool} {held : Bool} {cs : List Value} {x : DataW H × List MemPlace}
    (h : DataW.trod enc Try.prog W base sp held fuel 36 cs = some x) : ∃ a : Int, cs = uC a ∧ True := by
  obtain ⟨a, e0, _, _⟩ := DataW.trod_int Try.underlying36 h
  exact ⟨a, e0, trivial⟩
theorem opens_Call14 {H : Type} {enc : TypeId × Value → H} {W : World} {base : Nat} {v : Value} {d : DataW H} {p : List MemPlace}
    (hok : Value.okWide Try.prog W .any base 22 v) (h : DataW.Trod enc Try.prog W 0 (fun _ => true) true 22 v d p) :
    ∃ xs, SeesG dcC 3 Dc.nil W v xs ∧ (∀ x ∈ xs, True) ∧ ((d.weights Try.prog 22).all (· ≤ reachBytes) = true → xs.length * 24 ≤ 140737488351232) :=
  opensG Dc.nil (R := fun _ => True) Try.underlying22 (by kernel_rfl) (by decide) dcC_len (by kernel_rfl) call_cells14 hok h
theorem opens_U64 {H : Type} {enc : TypeId × Value → H} {W : World} {base : Nat} {v : Value} {d : DataW H} {p : List MemPlace}
    (hok : Value.okWide Try.prog W .any base 33 v) (h : DataW.Trod enc Try.prog W 0 (fun _ => true) true 33 v d p) :
    ∃ xs, SeesG uC 1 0 W v xs ∧ (∀ x ∈ xs, True) ∧ ((d.weights Try.prog 33).all (· ≤ reachBytes) = true → xs.length * 8 ≤ 140737488351232) :=
  opensG (0 : Int) (R := fun _ => True) Try.underlying33 (by kernel_rfl) (by decide) uC_len (by kernel_rfl) u64_cells hok h
end Go.Proofs.Ytoaceadfdelgfaa
