
/-
  Objects in memory, each with its blocks; a step of one leaves the others as they were. No Go text in sight.
-/
import Derived.Test.YtpbfgebecgikjaaGx
namespace Go.Proofs.Ytpbfgebecgikjaa
open Go.RowKit
set_option linter.unusedVariables false
set_option linter.unusedSimpArgs false

/-- The blocks of an object. -/
abbrev Ft := Nat → Prop
/-- A step of an object: what changed are its blocks; what it has behind it, it had, or is new. -/
structure Nx (w w' : World) (F F' : Ft) : Prop where
  chg : Chg w w' F
  new : ∀ k, F' k → F k ∨ w.heap.size ≤ k
/-- No block of both. -/
def Apt (F G : Ft) : Prop := ∀ k, F k → ¬ G k
/-- All blocks are there. -/
def Lies (w : World) (F : Ft) : Prop := ∀ k, F k → k < w.heap.size
/-- All blocks are new since a world. -/
def Since (w0 : World) (F : Ft) : Prop := ∀ k, F k → w0.heap.size ≤ k
section
variable {w0 w w' w'' : World} {F F' F'' G G' : Ft}
theorem Nx.trans (h : Nx w w' F F') (g : Nx w' w'' F' F'') : Nx w w'' F F'' :=
  ⟨h.chg.trans g.chg (fun k hk e => (h.new k e).elim id (fun q => by omega)), fun k hk => (g.new k hk).elim (fun q => h.new k q) (fun q => .inr (Nat.le_trans h.chg.size q))⟩
theorem Nx.below (hb : Below w.heap.size w w') : Nx w w' F F := ⟨Chg.of_below hb, fun k hk => .inl hk⟩
theorem Nx.refl (w : World) (F : Ft) : Nx w w F F := Nx.below (Below.refl _ _)
theorem Nx.drewN (h : Nx w w' F F') (n : Nat) : Nx w (w'.drewN n) F F' := ⟨h.chg.drewN n, h.new⟩
/-- What was made anew is a step of what there was. -/
theorem Nx.made (hb : Below w.heap.size w w') (hn : ∀ k, F' k → w.heap.size ≤ k) : Nx w w' F F' := ⟨Chg.of_below hb, fun k hk => .inr (hn k hk)⟩
theorem Apt.symm (h : Apt F G) : Apt G F := fun k hg hf => h k hf hg
theorem Apt.next (h : Apt F G) (hG : Lies w G) (hn : Nx w w' F F') : Apt F' G := fun k hf hg => (hn.new k hf).elim (fun q => h k q hg) (fun q => by have := hG k hg; omega)
theorem Lies.chg {S : Ft} (h : Lies w F) (hc : Chg w w' S) : Lies w' F := fun k hk => Nat.lt_of_lt_of_le (h k hk) hc.size
theorem Lies.below {B : Nat} (h : Lies w F) (hb : Below B w w') : Lies w' F := fun k hk => Nat.lt_of_lt_of_le (h k hk) hb.size
theorem Since.next (h : Since w0 F) (hw : w0.heap.size ≤ w.heap.size) (hn : Nx w w' F F') : Since w0 F' := fun k hk => (hn.new k hk).elim (fun q => h k q) (fun q => by omega)
/-- The world at the beginning is as it was. -/
theorem Since.be (h : Since w0 F) (hb : Below w0.heap.size w0 w) (hn : Nx w w' F F') : Below w0.heap.size w0 w' := hb.trans (hn.chg.below (fun k e => h k e) hb.size)
/-- The blocks of a slice. -/
def ftV (u : Value) : Ft := fun k => u.ownBlock = some k
theorem SeesG.keeps {α : Type} {f : α → List Value} {z : Nat} {d : α} {u : Value} {xs : List α} (h : SeesG f z d w u xs) (hn : Chg w w' F) (ha : Apt F (ftV u)) : SeesG f z d w' u xs := h.chg hn (fun k hk e => ha k e hk)
theorem own_keeps {B : Nat} {e : TypeId} {z : Nat} {u : Value} {n : Nat} {xs : List Value} (h : w.ownsRow B e z u n xs) (hn : Chg w w' F) (ha : Apt F (ftV u)) : w'.ownsRow B e z u n xs := own_chg h hn (fun k hk e => ha k e hk)
theorem own_lies {B : Nat} {e : TypeId} {z : Nat} {u : Value} {n : Nat} {xs : List Value} (h : w.ownsRow B e z u n xs) : Lies w (ftV u) := fun k hk => (h.lt k hk).2
theorem own_since {B : Nat} {e : TypeId} {z : Nat} {u : Value} {n : Nat} {xs : List Value} (h : w.ownsRow B e z u n xs) (hB : w0.heap.size ≤ B) : Since w0 (ftV u) := fun k hk => Nat.le_trans hB (h.lt k hk).1
/-- What was made behind an object's blocks is apart from them. -/
theorem Apt.made (hF : Lies w F) (hG : Since w G) : Apt F G := fun k hf hg => by have := hF k hf; have := hG k hg; omega
end
end Go.Proofs.Ytpbfgebecgikjaa
