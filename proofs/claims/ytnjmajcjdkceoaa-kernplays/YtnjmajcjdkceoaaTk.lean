
/-
  Several operations of a region that draws, taken first one behind the other: the list says which. No condition.
-/
import Derived.Deep.RegionHeld
namespace Go.Proofs.Ytnjmajcjdkceoaa
open Go
section
variable {P : Program} {md : Region.Mode} {ops : Array Oper} {Q : Exit → Act → World → Prop} {S : World → Prop} {fuel : Nat} {listed : Array Bool} {a : Act} {w : World}
/-- These are taken next. -/
structure Tk (ks : List Nat) (P : Program) (md : Region.Mode) (ops : Array Oper) (Q : Exit → Act → World → Prop) (S : World → Prop) (fuel : Nat) (listed : Array Bool) (a : Act) (w : World) : Prop where
  out : wpAnyH P md ops Q S fuel listed a w
theorem tkGo (ks : List Nat) (h : Tk ks P md ops Q S fuel listed a w) : wpAnyH P md ops Q S fuel listed a w := h.out
theorem tkEnd (h : wpAnyH P md ops Q S fuel listed a w) : Tk [] P md ops Q S fuel listed a w := ⟨h⟩
theorem tkOne {i : Nat} {ks : List Nat} {oi : Oper} {v : Value} (hi : ops[i]? = some oi) (hs : Region.noSelect ops = true) (hf : Region.free md ops listed i = true) (hr : (Region.ready md ops listed).contains i = true)
    (hQ : ∀ c a w, Q (.panic c) (a.put oi.dst v) w → Q (.panic c) a w) (hS : S w) (hw : Region.wanted oi (yielded ops a.tmps) = true) (hy : ∀ w, S w → (execOp a.eval oi).run P w = .ok (.value v) w)
    (h : Tk ks P md ops Q S fuel (listed.setIfInBounds i true) (a.put oi.dst v) w) : Tk (i :: ks) P md ops Q S (fuel + 1) listed a w :=
  ⟨wpAnyH_take hi hs hf hr hQ (Or.inl ⟨hw, hy⟩) hS h.out⟩
end
end Go.Proofs.Ytnjmajcjdkceoaa
