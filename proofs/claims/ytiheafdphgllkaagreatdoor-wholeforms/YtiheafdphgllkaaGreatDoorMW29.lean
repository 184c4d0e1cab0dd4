
/-
 The document's book of what was asked: its methods. Condition: the book lies where the pointer says, its row is the call's own.
-/
import Derived.Test.YtiheafdphgllkaaGreatDoorMW28
import Derived.Maps.AppendAt
import Derived.Deep.RegionHeldLaw
namespace Go.Proofs.YtiheafdphgllkaaGreatDoor
open Go.RowKit
set_option linter.unusedVariables false
set_option linter.unusedSimpArgs false
set_option maxRecDepth 100000

structure Chg (w w' : World) (S : Nat -> Prop) : Prop where
 os : w'.os = w.os
 tape : w'.tape = w.tape
 output : w'.output = w.output
 size : w.heap.size <= w'.heap.size
 block : ∀ k, k < w.heap.size -> ¬ S k -> w'.heap[k]? = w.heap[k]?
theorem Chg.trans {w w1 w2 : World} {S T : Nat -> Prop} (h : Chg w w1 S) (g : Chg w1 w2 T) (hT : ∀ k, k < w.heap.size -> T k -> S k) : Chg w w2 S :=
 ⟨g.os.trans h.os, g.tape.trans h.tape, g.output.trans h.output, Nat.le_trans h.size g.size, fun k hk hs => (g.block k (Nat.lt_of_lt_of_le hk h.size) (fun e => hs (hT k hk e))).trans (h.block k hk hs)⟩
theorem Chg.of_grown {w w' : World} {b : Nat} {S : Nat -> Prop} (h : w.grownBy w' (some b)) (hS : S b) : Chg w w' S :=
 ⟨h.os, h.tape, h.output, h.size, fun k hk hs => h.block k hk (fun e => by injection e with e; exact hs (e ▸ hS))⟩
theorem Chg.of_grown' {w w' : World} {r : Option Nat} {S : Nat -> Prop} (h : w.grownBy w' r) (hS : ∀ b, r = some b -> S b) : Chg w w' S :=
 ⟨h.os, h.tape, h.output, h.size, fun k hk hs => h.block k hk (fun e => hs (hS k e.symm))⟩
theorem Chg.of_below {w w' : World} {S : Nat -> Prop} (h : Below w.heap.size w w') : Chg w w' S :=
 ⟨h.os, h.tape, h.output, h.size, fun k hk _ => h.block k hk⟩
theorem Chg.mono {w w' : World} {S T : Nat -> Prop} (h : Chg w w' S) (hT : ∀ k, S k -> T k) : Chg w w' T := ⟨h.os, h.tape, h.output, h.size, fun k hk hs => h.block k hk (fun e => hs (hT k e))⟩
theorem Chg.below {w w' : World} {S : Nat -> Prop} {B : Nat} (h : Chg w w' S) (hS : ∀ k, S k -> B <= k) (hB : B <= w.heap.size) : Below B w w' :=
 ⟨h.os, h.tape, h.output, h.size, fun k hk => h.block k (by omega) (fun e => by have := hS k e; omega)⟩
theorem Hp.chg {w w' : World} {b : Nat} {t : TypeId} {cs : List Value} {S : Nat -> Prop} (h : Hp w b t cs) (hc : Chg w w' S) (hS : ¬ S b) : Hp w' b t cs := by
 unfold Hp; rw [hc.block b h.lt hS]; exact h
theorem own_chg {w w' : World} {B : Nat} {e : TypeId} {z : Nat} {v : Value} {n : Nat} {xs : List Value} {S : Nat -> Prop} (h : w.ownsRow B e z v n xs) (hc : Chg w w' S) (hS : ∀ k, v.ownBlock = some k -> ¬ S k) : w'.ownsRow B e z v n xs := by
 rcases h with ⟨h1, h2 | ⟨g, cap, cur, rfl, hg, hh, r⟩⟩
 ·exact ⟨h1, .inl h2⟩
 ·refine ⟨h1, .inr ⟨g, cap, cur, rfl, hg, ?_, r⟩⟩
  rw [hc.block g (Array.getElem?_eq_some_iff.1 hh).1 (hS g rfl)]
  exact hh
theorem own_shape {w : World} {base : Nat} {e : TypeId} {z : Nat} {v : Value} {n : Nat} {xs : List Value} (h : w.ownsRow base e z v n xs) : ∃ a cap, v = .slice a n cap := by
 rcases h with ⟨h1, ⟨rfl, rfl⟩ | ⟨g, cap, cur, rfl, _⟩⟩
 ·exact ⟨_, _, rfl⟩
 ·exact ⟨_, _, rfl⟩
end Go.Proofs.YtiheafdphgllkaaGreatDoor
