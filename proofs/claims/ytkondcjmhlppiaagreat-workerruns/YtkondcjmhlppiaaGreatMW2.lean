
/-
 Slices of integers, whatever the program: what a slice reads as, what is owned, what later worlds leave of it. No Go text in sight.
-/
import Derived.Test.YtkondcjmhlppiaaGreatRows
import Derived.WalkSpells
import Derived.OpenShut
import Derived.Below
import Derived.Maps.AppendAt
import Derived.Deep.Draws
import Derived.Handy
namespace Go.Proofs.YtkondcjmhlppiaaGreat
open Go.RowKit
set_option linter.unusedVariables false

theorem take_at (xs : List Int) (k : Nat) (h : k < xs.length) : xs.take (k + 1) = xs.take k ++ [xs.getD k 0] := by
 rw [List.take_succ_eq_append_getElem h]; simp [List.getD, h]
def Sees (k : IntKind) (w : World) (v : Value) (xs : List Int) : Prop :=
 ∃ a cap, v = .slice a xs.length cap /\ xs.length <= cap /\ cap <= maxLen /\ (a = none -> cap = 0) /\ (∀ x ∈ xs, (Lit.int k x).wf = true) /\
  (xs ≠ [] -> ∃ b off, a = some ⟨b, off, none⟩ /\ b < w.heap.size /\ ∀ i, i < xs.length -> w.cell? ⟨b, off + i, none⟩ = some (.int k (xs.getD i 0)))
theorem Sees.below {k : IntKind} {w w' : World} {v : Value} {xs : List Int} {B : Nat} (h : Sees k w v xs) (hb : Below B w w') (hB : w.heap.size <= B) : Sees k w' v xs := by
 obtain ⟨a, cap, rfl, hl, hm, hn0, hw, hs⟩ := h
 refine ⟨a, cap, rfl, hl, hm, hn0, hw, fun hne => ?_⟩
 obtain ⟨b, off, rfl, hlt, hc⟩ := hs hne
 exact ⟨b, off, rfl, Nat.lt_of_lt_of_le hlt hb.size, fun i hi => (hb.cell (p := ⟨b, off + i, none⟩) (Nat.lt_of_lt_of_le hlt hB)).trans (hc i hi)⟩
theorem Sees.own {k : IntKind} {w : World} {base : Nat} {e : TypeId} {v : Value} {xs : List Int} (h : w.ownsRow base e 1 v xs.length (xs.map (Value.int k))) (hw : ∀ x ∈ xs, (Lit.int k x).wf = true) : Sees k w v xs := by
 rcases h with ⟨h1, ⟨rfl, h2⟩ | ⟨g, cap, cur, rfl, hb, hh, h3, h4, h5, h6⟩⟩
 ·have : xs = [] := List.eq_nil_of_length_eq_zero h2
  subst this
  exact ⟨none, 0, rfl, by simp, by simp [maxLen], fun _ => rfl, by simp, fun h => absurd rfl h⟩
 ·refine ⟨_, cap, rfl, h3, h4, fun h => by simp at h, hw, fun hne => ⟨g, 0, rfl, ?_, fun i hi => ?_⟩⟩
  ·exact (Array.getElem?_eq_some_iff.1 hh).1
  ·have h := World.ownsRow.cellAt (w := w) (base := base) (e := e) (size := 1) (g := g) (n := xs.length) (cap := cap) (xs := xs.map (Value.int k)) ⟨h1, .inr ⟨g, cap, cur, rfl, hb, hh, h3, h4, h5, h6⟩⟩ i (by omega)
   rw [Nat.zero_add, h]
   simp [List.getD, hi]
theorem Sees.lit (w : World) (k : IntKind) (t : TypeId) (xs : List Int) (cs : Array Value) (n : Nat) (hcs : cs = (xs.map (Value.int k)).toArray) (hn : n = xs.length) (hm : xs.length <= 4194304) (hw : ∀ x ∈ xs, (Lit.int k x).wf = true) :
  Sees k (w.alloc (.cells cs t)) (.slice (some ⟨w.heap.size, 0, none⟩) n n) xs := by
 subst hn
 refine ⟨_, _, rfl, Nat.le_refl _, by unfold maxLen; omega, fun h => by simp at h, hw, fun _ => ⟨w.heap.size, 0, rfl, by simp, fun i hi => ?_⟩⟩
 subst hcs
 have hs : i < ((xs.map (Value.int k)).toArray).size := by simpa using hi
 simp [World.cell?_alloc_at, hi, List.getD]
theorem Sees.shape {k : IntKind} {w : World} {v : Value} {xs : List Int} (h : Sees k w v xs) : ∃ a cap, v = .slice a xs.length cap := by
 obtain ⟨a, cap, rfl, _⟩ := h
 exact ⟨a, cap, rfl⟩
theorem Sees.wf {k : IntKind} {w : World} {v : Value} {xs : List Int} (h : Sees k w v xs) : ∀ x ∈ xs, (Lit.int k x).wf = true := by
 obtain ⟨a, cap, rfl, hl, hm, hn0, hw, hs⟩ := h
 exact hw
theorem own_below {w w' : World} {B base : Nat} {e : TypeId} {size : Nat} {v : Value} {n : Nat} {xs : List Value} (h : w.ownsRow base e size v n xs) (hb : Below B w w') (hB : w.heap.size <= B) : w'.ownsRow base e size v n xs := by
 rcases h with ⟨h1, h2 | ⟨g, cap, cur, hv, hg, hh, r⟩⟩
 ·exact ⟨h1, .inl h2⟩
 ·have hlt : g < w.heap.size := (Array.getElem?_eq_some_iff.1 hh).1
  exact ⟨h1, .inr ⟨g, cap, cur, hv, hg, by rw [hb.block g (by omega)]; exact hh, r⟩⟩
theorem grown_refl (a : World) (r : Option Nat) : a.grownBy a r := ⟨rfl, rfl, rfl, Nat.le_refl _, fun _ _ _ => rfl⟩
end Go.Proofs.YtkondcjmhlppiaaGreat
