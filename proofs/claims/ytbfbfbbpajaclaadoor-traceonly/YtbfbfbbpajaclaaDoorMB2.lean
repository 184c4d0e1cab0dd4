
/-
  Slices of integers, whatever the program: what a slice reads as, what is owned, what later worlds leave of it. No Go text in sight.
-/
import Derived.Test.YtbfbfbbpajaclaaDoorRows
import Derived.WalkSpells
import Derived.OpenShut
import Derived.Below
import Derived.Maps.AppendAt
import Derived.Deep.Draws
import Derived.Handy
namespace Go.Proofs.YtbfbfbbpajaclaaDoor
open Go.RowKit
set_option linter.unusedVariables false

def eqB (a b : List Int) : Bool := decide (a = b)
theorem eqB_true {a b : List Int} (h : a = b) : eqB a b = true := decide_eq_true h
theorem eqB_false {a b : List Int} (h : a ≠ b) : eqB a b = false := decide_eq_false h
theorem take_at (xs : List Int) (k : Nat) (h : k < xs.length) : xs.take (k + 1) = xs.take k ++ [xs.getD k 0] := by
  rw [List.take_succ_eq_append_getElem h]; simp [List.getD, h]
theorem retb {a b : Bool} (h : a = b) : Ending.returned (.bool a) = .returned (.bool b) := by rw [h]

/-- A slice that reads, in a world, as these numbers. -/
def Sees (k : IntKind) (w : World) (v : Value) (xs : List Int) : Prop :=
  ∃ a cap, v = .slice a xs.length cap ∧ xs.length ≤ cap ∧ cap ≤ maxLen ∧ (a = none → cap = 0) ∧ (∀ x ∈ xs, (Lit.int k x).wf = true) ∧
    (xs ≠ [] → ∃ b off, a = some ⟨b, off, none⟩ ∧ b < w.heap.size ∧ ∀ i, i < xs.length → w.cell? ⟨b, off + i, none⟩ = some (.int k (xs.getD i 0)))
theorem Sees.below {k : IntKind} {w w' : World} {v : Value} {xs : List Int} {B : Nat} (h : Sees k w v xs) (hb : Below B w w') (hB : w.heap.size ≤ B) : Sees k w' v xs := by
  obtain ⟨a, cap, rfl, hl, hm, hn0, hw, hs⟩ := h
  refine ⟨a, cap, rfl, hl, hm, hn0, hw, fun hne => ?_⟩
  obtain ⟨b, off, rfl, hlt, hc⟩ := hs hne
  exact ⟨b, off, rfl, Nat.lt_of_lt_of_le hlt hb.size, fun i hi => (hb.cell (p := ⟨b, off + i, none⟩) (Nat.lt_of_lt_of_le hlt hB)).trans (hc i hi)⟩
theorem Sees.own {k : IntKind} {w : World} {base : Nat} {e : TypeId} {v : Value} {xs : List Int} (h : w.ownsRow base e 1 v xs.length (xs.map (Value.int k))) (hw : ∀ x ∈ xs, (Lit.int k x).wf = true) : Sees k w v xs := by
  rcases h with ⟨h1, ⟨rfl, h2⟩ | ⟨g, cap, cur, rfl, hb, hh, h3, h4, h5, h6⟩⟩
  · have : xs = [] := List.eq_nil_of_length_eq_zero h2
    subst this
    exact ⟨none, 0, rfl, by simp, by simp [maxLen], fun _ => rfl, by simp, fun h => absurd rfl h⟩
  · refine ⟨_, cap, rfl, h3, h4, fun h => by simp at h, hw, fun hne => ⟨g, 0, rfl, ?_, fun i hi => ?_⟩⟩
    · exact (Array.getElem?_eq_some_iff.1 hh).1
    · have h := World.ownsRow.cellAt (w := w) (base := base) (e := e) (size := 1) (g := g) (n := xs.length) (cap := cap) (xs := xs.map (Value.int k)) ⟨h1, .inr ⟨g, cap, cur, rfl, hb, hh, h3, h4, h5, h6⟩⟩ i (by omega)
      rw [Nat.zero_add, h]
      simp [List.getD, hi]
theorem Sees.lit (w : World) (k : IntKind) (t : TypeId) (xs : List Int) (cs : Array Value) (n : Nat) (hcs : cs = (xs.map (Value.int k)).toArray) (hn : n = xs.length) (hm : xs.length ≤ 4194304) (hw : ∀ x ∈ xs, (Lit.int k x).wf = true) :
    Sees k (w.alloc (.cells cs t)) (.slice (some ⟨w.heap.size, 0, none⟩) n n) xs := by
  subst hn
  refine ⟨_, _, rfl, Nat.le_refl _, by unfold maxLen; omega, fun h => by simp at h, hw, fun _ => ⟨w.heap.size, 0, rfl, by simp, fun i hi => ?_⟩⟩
  subst hcs
  have hs : i < ((xs.map (Value.int k)).toArray).size := by simpa using hi
  simp [World.cell?_alloc_at, hi, List.getD]
theorem Sees.nil (k : IntKind) (w : World) : Sees k w (.slice none 0 0) [] := ⟨none, 0, rfl, by simp, by simp [maxLen], fun _ => rfl, by simp, fun h => absurd rfl h⟩
theorem Sees.shape {k : IntKind} {w : World} {v : Value} {xs : List Int} (h : Sees k w v xs) : ∃ a cap, v = .slice a xs.length cap := by
  obtain ⟨a, cap, rfl, _⟩ := h
  exact ⟨a, cap, rfl⟩
theorem Sees.wf {k : IntKind} {w : World} {v : Value} {xs : List Int} (h : Sees k w v xs) : ∀ x ∈ xs, (Lit.int k x).wf = true := by
  obtain ⟨a, cap, rfl, hl, hm, hn0, hw, hs⟩ := h
  exact hw
theorem Sees.drewN {k : IntKind} {w : World} {v : Value} {xs : List Int} (h : Sees k w v xs) (n : Nat) : Sees k (w.drewN n) v xs := h
theorem below_drewN {B : Nat} {a w : World} (h : Below B a w) (n : Nat) : Below B a (w.drewN n) := ⟨h.os, h.tape, h.output, h.size, h.block⟩
/-- What is owned, opened. -/
theorem own_open {w : World} {base : Nat} {e : TypeId} {v : Value} {n : Nat} {xs : List Value} (h : w.ownsRow base e 1 v n xs) (hn : 0 < n) :
    ∃ g cap, v = .slice (some ⟨g, 0, none⟩) n cap ∧ base ≤ g ∧ g < w.heap.size ∧ n ≤ cap ∧ cap ≤ maxLen ∧ ∀ j u, xs[j]? = some u → w.cell? ⟨g, j, none⟩ = some u := by
  have h0 := h
  rcases h with ⟨h1, ⟨rfl, h2⟩ | ⟨g, cap, cur, rfl, hb, hh, h3, h4, h5, h6⟩⟩
  · omega
  · exact ⟨g, cap, rfl, hb, (Array.getElem?_eq_some_iff.1 hh).1, h3, h4, fun j u hu => by
      have hj : j < xs.length := (List.getElem?_eq_some_iff.1 hu).1
      rw [h0.cellAt j (by omega)]; exact hu⟩
theorem own_below {w w' : World} {B base : Nat} {e : TypeId} {size : Nat} {v : Value} {n : Nat} {xs : List Value} (h : w.ownsRow base e size v n xs) (hb : Below B w w') (hB : w.heap.size ≤ B) : w'.ownsRow base e size v n xs := by
  rcases h with ⟨h1, h2 | ⟨g, cap, cur, hv, hg, hh, r⟩⟩
  · exact ⟨h1, .inl h2⟩
  · have hlt : g < w.heap.size := (Array.getElem?_eq_some_iff.1 hh).1
    exact ⟨h1, .inr ⟨g, cap, cur, hv, hg, by rw [hb.block g (by omega)]; exact hh, r⟩⟩
theorem own_apart {w w' : World} {base : Nat} {e : TypeId} {v v' : Value} {n : Nat} {xs : List Value} (h : w.ownsRow base e 1 v n xs) (hg : w.grownBy w' v'.ownBlock) (hlo : ∀ k j, v.ownBlock = some k → v'.ownBlock = some j → k ≠ j) : w'.ownsRow base e 1 v n xs := by
  refine h.kept hg ?_
  cases hv : v.ownBlock with
  | none => exact .inl rfl
  | some k =>
    refine .inr fun e => ?_
    exact hlo k k hv e.symm rfl
theorem own_block_lt {w : World} {base : Nat} {e : TypeId} {v : Value} {n : Nat} {xs : List Value} (h : w.ownsRow base e 1 v n xs) (k : Nat) (hk : v.ownBlock = some k) : base ≤ k ∧ k < w.heap.size := h.lt k hk
theorem grown_trans {a b c : World} {r : Option Nat} (h : a.grownBy b r) (k : b.grownBy c r) : a.grownBy c r :=
  ⟨k.os.trans h.os, k.tape.trans h.tape, k.output.trans h.output, Nat.le_trans h.size k.size, fun i hi hr => (k.block i (Nat.lt_of_lt_of_le hi h.size) hr).trans (h.block i hi hr)⟩
theorem grown_refl (a : World) (r : Option Nat) : a.grownBy a r := ⟨rfl, rfl, rfl, Nat.le_refl _, fun _ _ _ => rfl⟩
/-- A slice that was written out is the call's own. -/
theorem own_lit (w : World) (base : Nat) (e : TypeId) (l : List Value) (n : Nat) (hn : n = w.heap.size) (hb : base ≤ w.heap.size) (hm : l.length ≤ maxLen) : (w.alloc (.cells l.toArray e)).ownsRow base e 1 (.slice (some ⟨n, 0, none⟩) l.length l.length) l.length l := by
  subst hn
  refine ⟨by simp, .inr ⟨w.heap.size, l.length, l.toArray, rfl, hb, ?_, Nat.le_refl _, hm, by simp, by simp⟩⟩
  show (w.heap.push _)[w.heap.size]? = _
  simp
end Go.Proofs.YtbfbfbbpajaclaaDoor
