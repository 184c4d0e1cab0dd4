
/-
  A record of a row of the call's own, written over. No condition.
-/
import Derived.Test.YtpbfgebecgikjaaW22Two
namespace Go.Proofs.Ytpbfgebecgikjaa
open Go.RowKit
set_option linter.unusedVariables false
set_option linter.unusedSimpArgs false
theorem splice_flat {α : Type} {f : α → List Value} {z : Nat} (hf : ∀ x, (f x).length = z) (x : α) : ∀ (xs : List α) {k : Nat}, k < xs.length → splice (flatG f xs) (k * z) (f x) = flatG f (xs.set k x)
  | [], k, h => by simp at h
  | y :: r, 0, _ => by
    have e : flatG f (y :: r) = f y ++ flatG f r := by simp [flatG]
    have e2 : flatG f ((y :: r).set 0 x) = f x ++ flatG f r := by simp [flatG]
    rw [e, e2, Nat.zero_mul, splice_ahead _ _ _ _ (by rw [hf, hf]; omega), splice_all _ _ (by rw [hf, hf])]
  | y :: r, k + 1, h => by
    have e : flatG f (y :: r) = f y ++ flatG f r := by simp [flatG]
    have e2 : flatG f ((y :: r).set (k + 1) x) = f y ++ flatG f (r.set k x) := by simp [flatG]
    have e3 : (k + 1) * z = (f y).length + k * z := by rw [hf, Nat.add_mul, Nat.one_mul, Nat.add_comm]
    rw [e, e2, e3, splice_behind, splice_flat hf x r (by simpa using h)]
theorem own_sets {B : Nat} {e : TypeId} {z g n cap : Nat} : ∀ (vs : List Value) {w : World} {xs : List Value} (o : Nat), w.ownsRow B e z (.slice (some ⟨g, 0, none⟩) n cap) n xs → (w.setCells g o vs).ownsRow B e z (.slice (some ⟨g, 0, none⟩) n cap) n (splice xs o vs)
  | [], w, xs, o, h => h
  | v :: r, w, xs, o, h => own_sets r (o + 1) (h.stored o v).1
theorem own_putG {α : Type} {f : α → List Value} {z : Nat} (hf : ∀ x, (f x).length = z) {w : World} {B : Nat} {e : TypeId} {g n cap : Nat} {xs : List α} (hn : xs.length = n) (h : w.ownsRow B e z (.slice (some ⟨g, 0, none⟩) n cap) n (flatG f xs)) {k : Nat} (hk : k < xs.length) (x : α) : (w.setCells g (k * z) (f x)).ownsRow B e z (.slice (some ⟨g, 0, none⟩) n cap) n (flatG f (xs.set k x)) := by
  have := own_sets (f x) (k * z) h
  rw [splice_flat hf x xs hk] at this
  exact this
end Go.Proofs.Ytpbfgebecgikjaa
