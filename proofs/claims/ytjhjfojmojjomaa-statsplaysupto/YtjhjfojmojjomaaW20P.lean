
/-
  Two Stats, and what was told to each as the document keeps it, apart. No condition.
-/
import Derived.Test.YtjhjfojmojjomaaW20Kit
namespace Go.Proofs.Ytjhjfojmojjomaa
open Go.RowKit
set_option linter.unusedVariables false
set_option linter.unusedSimpArgs false
set_option maxRecDepth 100000
/-- A row of what was told, of the call's own. -/
def RoTo (w : World) (B : Nat) (v : Value) (l : List To) : Prop := w.ownsRow B 56 5 v l.length (flatG toC l)
theorem RoTo.sees {w : World} {B : Nat} {v : Value} {l : List To} (h : RoTo w B v l) : SeesG toC 5 To.nil w v l := own_seesG toC_len To.nil h
theorem RoTo.below {w w' : World} {B : Nat} {v : Value} {l : List To} (h : RoTo w B v l) (hb : Below w.heap.size w w') : RoTo w' B v l := own_below h hb (Nat.le_refl _)
def upN {α : Type} (f : Nat → α) (k : Nat) (x : α) : Nat → α := fun j => if j = k then x else f j
theorem upN_same {α : Type} (f : Nat → α) (k : Nat) (x : α) : upN f k x k = x := by unfold upN; rw [if_pos rfl]
theorem upN_other {α : Type} (f : Nat → α) {k j : Nat} (x : α) (h : j ≠ k) : upN f k x j = f j := by unfold upN; rw [if_neg h]
/-- Two Stats (p, with the blocks F, told L), two lists (V, that keep D), the slices of both (at sb and lb). -/
structure Ps (w0 w : World) (sb lb : Nat) (p : Nat → Nat) (F : Nat → Ft) (V : Nat → Value) (L D : Nat → List To) : Prop where
  obj : ∀ k, k < 2 → Lz w0 w (p k) (F k) (L k)
  row : ∀ k, k < 2 → RoTo w w0.heap.size (V k) (D k)
  ss : Hp w sb 24 [.pointer (some ⟨p 0, 0, none⟩), .pointer (some ⟨p 1, 0, none⟩)]
  ls : Hp w lb 32 [V 0, V 1]
  aF : ∀ j k, j < 2 → k < 2 → j ≠ k → Apt (F j) (F k)
  aV : ∀ j k, j < 2 → k < 2 → j ≠ k → Apt (ftV (V j)) (ftV (V k))
  aX : ∀ j k, j < 2 → k < 2 → Apt (F j) (ftV (V k))
  fF : ∀ k, k < 2 → ¬ F k sb ∧ ¬ F k lb
  fV : ∀ k, k < 2 → ¬ ftV (V k) sb ∧ ¬ ftV (V k) lb
  sl : sb ≠ lb
  sB : w0.heap.size ≤ sb ∧ w0.heap.size ≤ lb
section
variable {w0 w w' : World} {sb lb : Nat} {p : Nat → Nat} {F : Nat → Ft} {V : Nat → Value} {L D : Nat → List To} {F' : Ft} {L' D' : List To} {v' : Value} {k : Nat}
theorem Ps.be (h : Ps w0 w sb lb p F V L D) : Below w0.heap.size w0 w := (h.obj 0 (by decide)).be
theorem Ps.below (h : Ps w0 w sb lb p F V L D) (hb : Below w.heap.size w w') : Ps w0 w' sb lb p F V L D :=
  ⟨fun k hk => (h.obj k hk).below hb, fun k hk => (h.row k hk).below hb, h.ss.below hb h.ss.lt, h.ls.below hb h.ls.lt, h.aF, h.aV, h.aX, h.fF, h.fV, h.sl, h.sB⟩
/-- One of the Stats was told something. -/
theorem Ps.tell (h : Ps w0 w sb lb p F V L D) (hk : k < 2) (hl : Lz w0 w' (p k) F' L') (hn : Nx w w' (F k) F') : Ps w0 w' sb lb p (upN F k F') V (upN L k L') D := by
  have hF : ∀ j, j < 2 → j ≠ k → Apt F' (F j) := fun j hj e => (h.aF k j hk hj (fun q => e q.symm)).next (h.obj j hj).lies hn
  have hV : ∀ j, j < 2 → Apt F' (ftV (V j)) := fun j hj => (h.aX k j hk hj).next (own_lies (h.row j hj)) hn
  have hs : ¬ F' sb ∧ ¬ F' lb := by
    refine ⟨fun e => ?_, fun e => ?_⟩
    · rcases hn.new _ e with g | g
      · exact (h.fF k hk).1 g
      · have := h.ss.lt; omega
    · rcases hn.new _ e with g | g
      · exact (h.fF k hk).2 g
      · have := h.ls.lt; omega
  refine ⟨fun j hj => ?_, fun j hj => own_keeps (h.row j hj) hn.chg (h.aX k j hk hj), h.ss.chg hn.chg (h.fF k hk).1, h.ls.chg hn.chg (h.fF k hk).2, fun i j hi hj hne => ?_, h.aV, fun j i hj hi => ?_, fun j hj => ?_, h.fV, h.sl, h.sB⟩
  · by_cases e : j = k
    · subst e; rw [upN_same, upN_same]; exact hl
    · rw [upN_other F F' e, upN_other L L' e]; exact (h.obj j hj).keeps hn.chg (h.aF k j hk hj (fun q => e q.symm)) (h.obj k hk).since
  · by_cases e : i = k
    · subst e; rw [upN_same, upN_other F F' (fun q => hne q.symm)]; exact hF j hj (fun q => hne q.symm)
    · rw [upN_other F F' e]
      by_cases e2 : j = k
      · subst e2; rw [upN_same]; exact (hF i hi e).symm
      · rw [upN_other F F' e2]; exact h.aF i j hi hj hne
  · by_cases e : j = k
    · subst e; rw [upN_same]; exact hV i hi
    · rw [upN_other F F' e]; exact h.aX j i hj hi
  · by_cases e : j = k
    · subst e; rw [upN_same]; exact hs
    · rw [upN_other F F' e]; exact h.fF j hj
/-- Of one of the lists a greater one was made; nothing but its own blocks was touched. -/
structure Pm (w0 w : World) (sb lb : Nat) (p : Nat → Nat) (F : Nat → Ft) (V : Nat → Value) (L D : Nat → List To) (k : Nat) (v' : Value) (D' : List To) : Prop where
  obj : ∀ k, k < 2 → Lz w0 w (p k) (F k) (L k)
  own : ∀ j, j < 2 → j ≠ k → RoTo w w0.heap.size (V j) (D j)
  row : RoTo w w0.heap.size v' D'
  ss : Hp w sb 24 [.pointer (some ⟨p 0, 0, none⟩), .pointer (some ⟨p 1, 0, none⟩)]
  ls : Hp w lb 32 [V 0, V 1]
  aF : ∀ j k, j < 2 → k < 2 → j ≠ k → Apt (F j) (F k)
  aV : ∀ j, j < 2 → j ≠ k → Apt (ftV v') (ftV (V j))
  aX : ∀ j i, j < 2 → i < 2 → Apt (F j) (ftV (V i))
  aN : ∀ j, j < 2 → Apt (F j) (ftV v')
  fF : ∀ k, k < 2 → ¬ F k sb ∧ ¬ F k lb
  fV : ∀ k, k < 2 → ¬ ftV (V k) sb ∧ ¬ ftV (V k) lb
  fN : ¬ ftV v' sb ∧ ¬ ftV v' lb
  sl : sb ≠ lb
  sB : w0.heap.size ≤ sb ∧ w0.heap.size ≤ lb
theorem Ps.mid (h : Ps w0 w sb lb p F V L D) (hk : k < 2) (hr : RoTo w' w0.heap.size v' D') (hc : Chg w w' (fun x => (V k).ownBlock = some x)) (hn : RowNew w (V k) v') : Pm w0 w' sb lb p F V L D k v' D' := by
  have hnew : ∀ x, ftV v' x → ftV (V k) x ∨ w.heap.size ≤ x := by
    intro x hx
    have hx' : v'.ownBlock = some x := hx
    rcases hn with g | ⟨y, g1, g2⟩
    · exact .inl (by show (V k).ownBlock = some x; rw [← g]; exact hx')
    · rw [g1] at hx'
      have : y = x := Option.some.inj hx'
      exact .inr (by omega)
  have hsi : Since w0 (ftV (V k)) := own_since (h.row k hk) (Nat.le_refl _)
  refine ⟨fun j hj => (h.obj j hj).keeps hc (fun x e g => h.aX j k hj hk x g e) hsi, fun j hj e => own_keeps (h.row j hj) hc (fun x e1 e2 => h.aV k j hk hj (fun q => e q.symm) x e1 e2), hr, h.ss.chg hc (h.fV k hk).1, h.ls.chg hc (h.fV k hk).2, h.aF, fun j hj e x e1 e2 => ?_, h.aX, fun j hj x e1 e2 => ?_, h.fF, h.fV, ⟨fun e => ?_, fun e => ?_⟩, h.sl, h.sB⟩
  · rcases hnew x e1 with g | g
    · exact h.aV k j hk hj (fun q => e q.symm) x g e2
    · have := own_lies (h.row j hj) x e2; omega
  · rcases hnew x e2 with g | g
    · exact h.aX j k hj hk x e1 g
    · have := (h.obj j hj).lies x e1; omega
  · rcases hnew _ e with g | g
    · exact (h.fV k hk).1 g
    · have := h.ss.lt; omega
  · rcases hnew _ e with g | g
    · exact (h.fV k hk).2 g
    · have := h.ls.lt; omega
theorem Pm.below (h : Pm w0 w sb lb p F V L D k v' D') (hb : Below w.heap.size w w') : Pm w0 w' sb lb p F V L D k v' D' :=
  ⟨fun k hk => (h.obj k hk).below hb, fun j hj e => (h.own j hj e).below hb, h.row.below hb, h.ss.below hb h.ss.lt, h.ls.below hb h.ls.lt, h.aF, h.aV, h.aX, h.aN, h.fF, h.fV, h.fN, h.sl, h.sB⟩
theorem Pm.be (h : Pm w0 w sb lb p F V L D k v' D') : Below w0.heap.size w0 w := (h.obj 0 (by decide)).be
/-- And is put in its place. -/
theorem Pm.put (h : Pm w0 w sb lb p F V L D k v' D') (hk : k < 2) : Ps w0 (w.setCell ⟨lb, k, none⟩ v') sb lb p F (upN V k v') L (upN D k D') := by
  have hc := Chg.set w lb k v'
  have hset : [V 0, V 1].set k v' = [upN V k v' 0, upN V k v' 1] := by
    have h5 : k = 0 ∨ k = 1 := by omega
    rcases h5 with rfl | rfl <;> rfl
  have hls := h.ls.set k v'
  rw [hset] at hls
  refine ⟨fun j hj => (h.obj j hj).keeps hc (fun x e g => by subst e; exact (h.fF j hj).2 g) (fun x e => by subst e; exact h.sB.2), fun j hj => ?_, h.ss.far h.sl, hls, h.aF, fun i j hi hj hne => ?_, fun i j hi hj => ?_, h.fF, fun j hj => ?_, h.sl, h.sB⟩
  · by_cases e : j = k
    · subst e; rw [upN_same, upN_same]; exact own_keeps h.row hc (fun x e g => by subst e; exact h.fN.2 g)
    · rw [upN_other V v' e, upN_other D D' e]; exact own_keeps (h.own j hj e) hc (fun x e g => by subst e; exact (h.fV j hj).2 g)
  · by_cases e : i = k
    · subst e; rw [upN_same, upN_other V v' (fun q => hne q.symm)]; exact h.aV j hj (fun q => hne q.symm)
    · rw [upN_other V v' e]
      by_cases e2 : j = k
      · subst e2; rw [upN_same]; exact (h.aV i hi e).symm
      · exact absurd (show i = j by omega) hne
  · by_cases e : j = k
    · subst e; rw [upN_same]; exact h.aN i hi
    · rw [upN_other V v' e]; exact h.aX i j hi hj
  · by_cases e : j = k
    · subst e; rw [upN_same]; exact h.fN
    · rw [upN_other V v' e]; exact h.fV j hj
end
end Go.Proofs.Ytjhjfojmojjomaa
