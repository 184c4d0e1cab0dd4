
/-
  Several operations of a region that draws, taken first one behind the other: the list says which. No condition.
-/
import Derived.Deep.RegionHeld
namespace Go.Proofs.YtbfbfbbpajaclaaDoor
open Go
section
variable {P : Program} {md : Region.Mode} {ops : Array Oper} {Q : Exit → Act → World → Prop} {S : World → Prop} {fuel : Nat} {listed : Array Bool} {a : Act} {w : World}
/-- These are taken next. -/
structure Tk (ks : List Nat) (P : Program) (md : Region.Mode) (ops : Array Oper) (Q : Exit → Act → World → Prop) (S : World → Prop) (fuel : Nat) (listed : Array Bool) (a : Act) (w : World) : Prop where
  out : wpAnyH P md ops Q S fuel listed a w
theorem tkGo (ks : List Nat) (h : Tk ks P md ops Q S fuel listed a w) : wpAnyH P md ops Q S fuel listed a w := h.out
theorem tkEnd (h : wpAnyH P md ops Q S fuel listed a w) : Tk [] P md ops Q S fuel listed a w := ⟨h⟩
theorem tkOne {i : Nat} {ks : List Nat} {oi : Oper} {v : Value} (hi : ops[i]? = some oi) (hs : Region.noSelect ops = true) (hf : Region.free md ops listed i = true) (hr : (Region.ready md ops listed).contains i = true)
    (hQ : ∀ c a w, Q (.panic c) (a.put oi.dst v) w → Q (.panic c) a w) (hS : S w) (hw : Region.wanted oi (yielded ops a.tmps) = true) (hy : ∀ w, S w → (execOp a.eval oi).run P w = .ok (.value v) w)
    (h : Tk ks P md ops Q S fuel (listed.setIfInBounds i true) (a.put oi.dst v) w) : Tk (i :: ks) P md ops Q S (fuel + 1) listed a w :=
  ⟨wpAnyH_take hi hs hf hr hQ (Or.inl ⟨hw, hy⟩) hS h.out⟩
/-- The one operation that is ready. -/
theorem runO (i : Nat) {o : Oper} (hr : Region.ready md ops listed = [i]) (ho : ops[i]? = some o) (hw : Region.wanted o (yielded ops a.tmps) = true)
    (h : ∀ K' : Act → World → Prop, Shut (∀ a w, S w → (S w → wpAnyH P md ops Q S fuel (listed.setIfInBounds i true) a w) → K' a w) → Oper.wp P o a w K' Q) : wpAnyH P md ops Q S (fuel + 1) listed a w :=
  wpAnyH_ready hr (by simp) (AllReadyH.cons ho (fun K hK => by rw [if_pos hw]; exact h K hK) AllReadyH.nil)
/-- The two that are ready. -/
theorem runT (i j : Nat) {o u : Oper} (hr : Region.ready md ops listed = [i, j]) (ho : ops[i]? = some o) (hu : ops[j]? = some u) (hw : Region.wanted o (yielded ops a.tmps) = true) (hv : Region.wanted u (yielded ops a.tmps) = true)
    (h : ∀ K' : Act → World → Prop, Shut (∀ a w, S w → (S w → wpAnyH P md ops Q S fuel (listed.setIfInBounds i true) a w) → K' a w) → Oper.wp P o a w K' Q)
    (g : ∀ K' : Act → World → Prop, Shut (∀ a w, S w → (S w → wpAnyH P md ops Q S fuel (listed.setIfInBounds j true) a w) → K' a w) → Oper.wp P u a w K' Q) : wpAnyH P md ops Q S (fuel + 1) listed a w :=
  wpAnyH_ready hr (by simp) (AllReadyH.cons ho (fun K hK => by rw [if_pos hw]; exact h K hK) (AllReadyH.cons hu (fun K hK => by rw [if_pos hv]; exact g K hK) AllReadyH.nil))
/-- One that is taken, what decides by itself left to the end. -/
theorem tkO {i : Nat} {ks : List Nat} {oi : Oper} {v : Value} (hi : ops[i]? = some oi) (hy : ∀ w, S w → (execOp a.eval oi).run P w = .ok (.value v) w) (h : Tk ks P md ops Q S fuel (listed.setIfInBounds i true) (a.put oi.dst v) w)
    (hs : Region.noSelect ops = true := by kernel_rfl) (hf : Region.free md ops listed i = true := by kernel_rfl) (hr : (Region.ready md ops listed).contains i = true := by kernel_rfl)
    (hQ : ∀ c a w, Q (.panic c) (a.put oi.dst v) w → Q (.panic c) a w := by exact fun _ _ _ h => h) (hS : S w := by assumption) (hw : Region.wanted oi (yielded ops a.tmps) = true := by rfl) : Tk (i :: ks) P md ops Q S (fuel + 1) listed a w :=
  tkOne hi hs hf hr hQ hS hw hy h
end
theorem p1q {α : Type _} {xs : List α} {i : Nat} (h : i < xs.toArray.size) : xs.toArray[i] = xs[i]'(by simpa using h) := rfl
theorem p2q {α : Type _} {a : α} {l : List α} (h : 0 < (a :: l).length) : (a :: l)[0] = a := rfl
theorem p3q {α : Type _} {a : α} {l : List α} {i : Nat} (h : i + 1 < (a :: l).length) : (a :: l)[i + 1] = l[i]'(Nat.lt_of_succ_lt_succ h) := rfl
theorem p4q {α : Type _} {l : List α} {i : Nat} {a : α} : l.toArray.setIfInBounds i a = (l.set i a).toArray := List.setIfInBounds_toArray ..
theorem p5q {α : Type _} {a b : α} {l : List α} : (b :: l).set 0 a = a :: l := rfl
theorem p6q {α : Type _} {a b : α} {n : Nat} {l : List α} : (b :: l).set (n + 1) a = b :: l.set n a := rfl
end Go.Proofs.YtbfbfbbpajaclaaDoor
