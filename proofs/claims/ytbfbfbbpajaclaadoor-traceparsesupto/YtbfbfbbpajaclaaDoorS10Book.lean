
/-
  The document's book of what was asked: its methods. Condition: the book lies where the pointer says, its row is the call's own.
-/
import Derived.Test.YtbfbfbbpajaclaaDoorS10Ask
import Derived.Maps.AppendAt
import Derived.Deep.RegionHeldLaw
namespace Go.Proofs.YtbfbfbbpajaclaaDoor
open Go.RowKit
set_option linter.unusedVariables false
set_option linter.unusedSimpArgs false
set_option maxRecDepth 100000

def akC (a : Ak) : List Value := [.int .i64 a.k, .int .i64 a.a, .int .u64 a.n]
def flatA (ks : List Ak) : List Value := ks.flatMap akC
theorem flatA_app (ks : List Ak) (a : Ak) : flatA (ks ++ [a]) = flatA ks ++ akC a := by simp [flatA]
theorem flatA_at : ∀ (ks : List Ak) {k j : Nat}, k < ks.length → j < 3 → (flatA ks)[k * 3 + j]? = (akC (ks.getD k Ak.nil))[j]? := by
  intro ks
  induction ks with
  | nil => intro k j h; simp at h
  | cons x l ih =>
    intro k j hk hj
    have hx : (akC x).length = 3 := rfl
    unfold flatA at ih ⊢
    cases k with
    | zero =>
      simp only [List.flatMap_cons, Nat.zero_mul, Nat.zero_add]
      rw [List.getElem?_append_left (by omega)]
      rfl
    | succ k =>
      simp only [List.flatMap_cons]
      rw [show (k + 1) * 3 + j = (akC x).length + (k * 3 + j) by rw [hx, Nat.succ_mul]; omega, List.getElem?_append_right (by omega), show (akC x).length + (k * 3 + j) - (akC x).length = k * 3 + j by omega]
      rw [ih (by simpa using hk) hj]
      simp
theorem own_type10 {w : World} {B : Nat} {e e' : TypeId} {z : Nat} {v : Value} {n : Nat} {xs : List Value} (h : w.ownsRow B e z v n xs) {b : Nat} {cs : List Value} (hb : Hp w b e' cs) (hne : e ≠ e') : v.ownBlock ≠ some b := by
  rcases h with ⟨_, ⟨rfl, rfl⟩ | ⟨g, cap, cur, rfl, _, hh, _⟩⟩
  · simp [Value.ownBlock]
  · intro e3
    simp [Value.ownBlock] at e3
    subst e3
    unfold Hp at hb
    rw [hh] at hb
    injection hb with h1
    injection h1 with _ h2
    exact hne h2
theorem hp_type {w : World} {b b' : Nat} {e e' : TypeId} {cs cs' : List Value} (h : Hp w b e cs) (h' : Hp w b' e' cs') (hne : e ≠ e') : b ≠ b' := by
  intro e3
  subst e3
  unfold Hp at h h'
  rw [h] at h'
  injection h' with h1
  injection h1 with _ h2
  exact hne h2
/-- What may have changed. -/
structure Chg (w w' : World) (S : Nat → Prop) : Prop where
  os : w'.os = w.os
  tape : w'.tape = w.tape
  output : w'.output = w.output
  size : w.heap.size ≤ w'.heap.size
  block : ∀ k, k < w.heap.size → ¬ S k → w'.heap[k]? = w.heap[k]?
theorem Chg.trans {w w1 w2 : World} {S T : Nat → Prop} (h : Chg w w1 S) (g : Chg w1 w2 T) (hT : ∀ k, k < w.heap.size → T k → S k) : Chg w w2 S :=
  ⟨g.os.trans h.os, g.tape.trans h.tape, g.output.trans h.output, Nat.le_trans h.size g.size, fun k hk hs => (g.block k (Nat.lt_of_lt_of_le hk h.size) (fun e => hs (hT k hk e))).trans (h.block k hk hs)⟩
theorem Chg.of_grown {w w' : World} {b : Nat} {S : Nat → Prop} (h : w.grownBy w' (some b)) (hS : S b) : Chg w w' S :=
  ⟨h.os, h.tape, h.output, h.size, fun k hk hs => h.block k hk (fun e => by injection e with e; exact hs (e ▸ hS))⟩
theorem Chg.of_grown' {w w' : World} {r : Option Nat} {S : Nat → Prop} (h : w.grownBy w' r) (hS : ∀ b, r = some b → S b) : Chg w w' S :=
  ⟨h.os, h.tape, h.output, h.size, fun k hk hs => h.block k hk (fun e => hs (hS k e.symm))⟩
theorem Chg.of_below {w w' : World} {S : Nat → Prop} (h : Below w.heap.size w w') : Chg w w' S :=
  ⟨h.os, h.tape, h.output, h.size, fun k hk _ => h.block k hk⟩
theorem Chg.refl (w : World) (S : Nat → Prop) : Chg w w S := ⟨rfl, rfl, rfl, Nat.le_refl _, fun _ _ _ => rfl⟩
theorem Chg.drewN {w w' : World} {S : Nat → Prop} (h : Chg w w' S) (n : Nat) : Chg w (w'.drewN n) S := ⟨h.os, h.tape, h.output, h.size, h.block⟩
theorem Chg.mono {w w' : World} {S T : Nat → Prop} (h : Chg w w' S) (hT : ∀ k, S k → T k) : Chg w w' T := ⟨h.os, h.tape, h.output, h.size, fun k hk hs => h.block k hk (fun e => hs (hT k e))⟩
theorem Chg.below {w w' : World} {S : Nat → Prop} {B : Nat} (h : Chg w w' S) (hS : ∀ k, S k → B ≤ k) (hB : B ≤ w.heap.size) : Below B w w' :=
  ⟨h.os, h.tape, h.output, h.size, fun k hk => h.block k (by omega) (fun e => by have := hS k e; omega)⟩
theorem Hp.chg {w w' : World} {b : Nat} {t : TypeId} {cs : List Value} {S : Nat → Prop} (h : Hp w b t cs) (hc : Chg w w' S) (hS : ¬ S b) : Hp w' b t cs := by
  unfold Hp; rw [hc.block b h.lt hS]; exact h
theorem own_chg {w w' : World} {B : Nat} {e : TypeId} {z : Nat} {v : Value} {n : Nat} {xs : List Value} {S : Nat → Prop} (h : w.ownsRow B e z v n xs) (hc : Chg w w' S) (hS : ∀ k, v.ownBlock = some k → ¬ S k) : w'.ownsRow B e z v n xs := by
  rcases h with ⟨h1, h2 | ⟨g, cap, cur, rfl, hg, hh, r⟩⟩
  · exact ⟨h1, .inl h2⟩
  · refine ⟨h1, .inr ⟨g, cap, cur, rfl, hg, ?_, r⟩⟩
    rw [hc.block g (Array.getElem?_eq_some_iff.1 hh).1 (hS g rfl)]
    exact hh
def bkS (c : Nat) (v : Value) (k : Nat) : Prop := k = c ∨ v.ownBlock = some k
/-- Where the row lies behind an append: where it lay, or in new memory. -/
def RowNew (w : World) (v v' : Value) : Prop := v'.ownBlock = v.ownBlock ∨ ∃ k, v'.ownBlock = some k ∧ w.heap.size ≤ k
theorem RowNew.trans {w w1 : World} {v v1 v2 : Value} (h : RowNew w v v1) (g : RowNew w1 v1 v2) (hs : w.heap.size ≤ w1.heap.size) : RowNew w v v2 := by
  rcases g with g | ⟨k, g1, g2⟩
  · rcases h with h | ⟨k, h1, h2⟩
    · exact .inl (g.trans h)
    · exact .inr ⟨k, g.trans h1, h2⟩
  · exact .inr ⟨k, g1, by omega⟩
theorem RowNew.old {w : World} {v v' : Value} (h : RowNew w v v') {c k : Nat} (hk : k < w.heap.size) (hb : bkS c v' k) : bkS c v k := by
  rcases hb with hb | hb
  · exact .inl hb
  · rcases h with h | ⟨j, h1, h2⟩
    · exact .inr (by rw [← h]; exact hb)
    · rw [h1] at hb; injection hb with hb; omega
theorem three_lit (w : World) (a : Ak) (t : TypeId) : ∀ j u, (akC a)[j]? = some u → (w.alloc (.cells #[.int .i64 a.k, .int .i64 a.a, .int .u64 a.n] t)).cell? ((⟨w.heap.size, 0, none⟩ : Addr).add j) = some u := by
  intro j u hj
  rw [add_none, Nat.zero_add, World.cell?_alloc_at _ _ _ _ rfl]
  exact (List.getElem?_toArray (xs := akC a)).trans hj
theorem three_cell (a : Ak) : ∀ u ∈ akC a, u.oneCell' = true := by
  intro u hu
  simp [akC] at hu
  rcases hu with rfl | rfl | rfl <;> rfl
theorem own_shape {w : World} {base : Nat} {e : TypeId} {z : Nat} {v : Value} {n : Nat} {xs : List Value} (h : w.ownsRow base e z v n xs) : ∃ a cap, v = .slice a n cap := by
  rcases h with ⟨h1, ⟨rfl, rfl⟩ | ⟨g, cap, cur, rfl, _⟩⟩
  · exact ⟨_, _, rfl⟩
  · exact ⟨_, _, rfl⟩
end Go.Proofs.YtbfbfbbpajaclaaDoor
