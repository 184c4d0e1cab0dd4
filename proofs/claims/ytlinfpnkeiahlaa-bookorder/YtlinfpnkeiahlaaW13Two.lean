
/-
  Two books of the law's own, and a slice, each apart from the others. No condition.
-/
import Derived.Test.YtlinfpnkeiahlaaW13St
namespace Go.Proofs.Ytlinfpnkeiahlaa
open Go.RowKit
set_option linter.unusedVariables false
set_option linter.unusedSimpArgs false
set_option maxRecDepth 100000

/-- A pair of a row of one's own written anew. -/
theorem own_setPair {w : World} {B g cap i : Nat} {L : List Pp} (p : Pp) (h : w.ownsRow B 47 2 (.slice (some ⟨g, 0, none⟩) L.length cap) L.length (flatG ppC L)) (hi : i < L.length) :
    ((w.setCell ⟨g, i * 2, none⟩ (.int .u64 p.k)).setCell ⟨g, i * 2 + 1, none⟩ (.int .u64 p.v)).ownsRow B 47 2 (.slice (some ⟨g, 0, none⟩) L.length cap) (L.set i p).length (flatG ppC (L.set i p)) ∧ Chg w ((w.setCell ⟨g, i * 2, none⟩ (.int .u64 p.k)).setCell ⟨g, i * 2 + 1, none⟩ (.int .u64 p.v)) (fun k => k = g) := by
  have r1 := own_setG ppC_len Pp.nil h (k := i) (j := 0) (x := ⟨p.k, (L.getD i Pp.nil).v⟩) (u := .int .u64 p.k) hi (by omega) rfl
  have r2 := own_setG ppC_len Pp.nil r1 (k := i) (j := 1) (x := p) (u := .int .u64 p.v) (by simpa using hi) (by omega) (by
    have : (L.set i ⟨p.k, (L.getD i Pp.nil).v⟩).getD i Pp.nil = ⟨p.k, (L.getD i Pp.nil).v⟩ := by simp [hi]
    rw [this]
    rfl)
  rw [List.set_set] at r2
  refine ⟨?_, (Chg.set _ _ _ _).trans (Chg.set _ _ _ _) (fun _ _ e => e)⟩
  have e : (L.set i p).length = L.length := List.length_set
  rw [e] at r2 ⊢
  exact r2
structure Tw (w0 w : World) (a b cap : Nat) (A D : List Pp) (u : Value) (U : List Pp) : Prop where
  ex : ∃ va vb, Lb w w0.heap.size a cap va A ∧ Lb w w0.heap.size b cap vb D ∧ (∀ k, va.ownBlock = some k → vb.ownBlock ≠ some k) ∧ (∀ k, u.ownBlock = some k → k ≠ a ∧ k ≠ b ∧ va.ownBlock ≠ some k ∧ vb.ownBlock ≠ some k)
  be : Below w0.heap.size w0 w
  loa : w0.heap.size ≤ a
  lob : w0.heap.size ≤ b
  ne : a ≠ b
  ub : ∀ k, u.ownBlock = some k → k < w.heap.size
  see : SeesG ppC 2 Pp.nil w u U
  lenA : A.length ≤ cap
  lenB : D.length ≤ cap
  c16 : cap ≤ 16
section
variable {w0 w : World} {a b cap : Nat} {A D : List Pp} {u : Value} {U : List Pp}
theorem Tw.swap (h : Tw w0 w a b cap A D u U) : Tw w0 w b a cap D A u U := by
  obtain ⟨⟨va, vb, h1, h2, h3, h4⟩, g1, g2, g3, g4, g5, g6, g7, g8, g9⟩ := h
  exact ⟨⟨vb, va, h2, h1, fun k hk e => h3 k e hk, fun k hk => ⟨(h4 k hk).2.1, (h4 k hk).1, (h4 k hk).2.2.2, (h4 k hk).2.2.1⟩⟩, g1, g3, g2, g4.symm, g5, g6, g8, g7, g9⟩
theorem Tw.below {w' : World} (h : Tw w0 w a b cap A D u U) (hb : Below w.heap.size w w') : Tw w0 w' a b cap A D u U := by
  obtain ⟨⟨va, vb, h1, h2, h3, h4⟩, g1, g2, g3, g4, g5, g6, g7, g8, g9⟩ := h
  exact ⟨⟨va, vb, h1.below hb, h2.below hb, h3, h4⟩, g1.trans (hb.mono g1.size), g2, g3, g4, fun k hk => Nat.lt_of_lt_of_le (g5 k hk) hb.size, g6.below hb (Nat.le_refl _), g7, g8, g9⟩
theorem Tw.drewN (h : Tw w0 w a b cap A D u U) (n : Nat) : Tw w0 (w.drewN n) a b cap A D u U := h.below ⟨rfl, rfl, rfl, Nat.le_refl _, fun _ _ => rfl⟩
theorem Tw.new {w1 w2 : World} {n : Nat} (hb0 : Below w0.heap.size w0 w) (hb1 : Below w.heap.size w w1) (hz1 : w1.heap.size = w.heap.size + 1) (h1 : Hp w1 w.heap.size 53 [.int .i64 n, .slice none 0 0]) (hb2 : Below w1.heap.size w1 w2) (h2 : Hp w2 w1.heap.size 53 [.int .i64 n, .slice none 0 0]) (hn : n ≤ 16) : Tw w0 w2 w.heap.size w1.heap.size n [] [] (.slice none 0 0) [] :=
  ⟨⟨.slice none 0 0, .slice none 0 0, (Lb.new h1).below hb2, Lb.new h2, fun k hk => (by cases hk), fun k hk => (by cases hk)⟩, (hb0.trans (hb1.mono hb0.size)).trans (hb2.mono (by have := hb0.size; omega)), hb0.size, by have := hb0.size; omega, by omega, fun k hk => (by cases hk), SeesG.nil _ _, by simp, by simp, hn⟩
/-- Another slice beside the books. -/
theorem Tw.with {w' : World} {B : Nat} {u' : Value} {U' : List Pp} (h : Tw w0 w a b cap A D u U) (hb : Below w.heap.size w w') (hB : w.heap.size ≤ B) (ho : w'.ownsRow B 47 2 u' U'.length (flatG ppC U')) : Tw w0 w' a b cap A D u' U' := by
  obtain ⟨⟨va, vb, h1, h2, h3, h4⟩, g1, g2, g3, g4, g5, g6, g7, g8, g9⟩ := h
  refine ⟨⟨va, vb, h1.below hb, h2.below hb, h3, fun k hk => ?_⟩, g1.trans (hb.mono g1.size), g2, g3, g4, fun k hk => (ho.lt k hk).2, own_seesG ppC_len Pp.nil ho, g7, g8, g9⟩
  have q1 := (ho.lt k hk).1
  have q2 := h1.hp.lt
  have q3 := h2.hp.lt
  refine ⟨by omega, by omega, fun e => ?_, fun e => ?_⟩
  · have := (h1.row.lt k e).2
    omega
  · have := (h2.row.lt k e).2
    omega
/-- One of them goes on. -/
theorem Tw.next {va vb : Value} {A' : List Pp} {w' : World} (h : Tw w0 w a b cap A D u U) (h1 : Lb w w0.heap.size a cap va A) (h2 : Lb w w0.heap.size b cap vb D) (h3 : ∀ k, va.ownBlock = some k → vb.ownBlock ≠ some k) (h4 : ∀ k, u.ownBlock = some k → k ≠ a ∧ k ≠ b ∧ va.ownBlock ≠ some k ∧ vb.ownBlock ≠ some k)
    (hn : LbNext w w0.heap.size a cap va A' w') (hl : A'.length ≤ cap) : Tw w0 w' a b cap A' D u U := by
  obtain ⟨_, g1, g2, g3, g4, g5, g6, g7, g8, g9⟩ := h
  have hbe := hn.below g1 g2 h1.low
  obtain ⟨v', q1, q2, q3⟩ := hn
  have hkb : ¬ bkS a va b := fun e => by
    rcases e with e | e
    · exact g4 e.symm
    · exact own_type10 h1.row h2.hp (by decide) e
  have hkv : ∀ k, vb.ownBlock = some k → ¬ bkS a va k := fun k hk e => by
    rcases e with e | e
    · subst e
      exact own_type10 h2.row h1.hp (by decide) hk
    · exact h3 k e hk
  refine ⟨⟨v', vb, q1, h2.chg q2 hkb hkv, fun k hk e => ?_, fun k hk => ⟨(h4 k hk).1, (h4 k hk).2.1, fun e => ?_, (h4 k hk).2.2.2⟩⟩, hbe, g2, g3, g4, fun k hk => Nat.lt_of_lt_of_le (g5 k hk) q2.size, ?_, hl, g8, g9⟩
  · rcases q3 with q | ⟨j, q, qj⟩
    · rw [q] at hk
      exact h3 k hk e
    · rw [q] at hk
      have := Option.some.inj hk
      have := (h2.row.lt k e).2
      omega
  · rcases q3 with q | ⟨j, q, qj⟩
    · rw [q] at e
      exact (h4 k hk).2.2.1 e
    · rw [q] at e
      have := Option.some.inj e
      have := g5 k hk
      omega
  · exact g6.chg q2 (fun k hk e => by
      rcases e with e | e
      · exact (h4 k hk).1 e
      · exact (h4 k hk).2.2.1 e)
theorem Tw.doA (op key val : Int) (h : Tw w0 w a b cap A D u U) :
    Calls Try.prog 11 #[.pointer (some ⟨a, 0, none⟩), .int .i64 op, .int .u64 key, .int .u64 val] w fun e w' => e = .returned (resG (doS cap A op key val).1.E (doS cap A op key val).1.f (doS cap A op key val).1.v false 0 0) ∧ Tw w0 w' a b cap (doS cap A op key val).2 D u U := by
  obtain ⟨va, vb, h1, h2, h3, h4⟩ := h.ex
  refine (ldo_any op key val h1 h.lenA h.c16 h.be.size).mono ?_
  rintro e w' ⟨rfl, hn⟩
  exact ⟨rfl, h.next h1 h2 h3 h4 hn (doS_len h.lenA)⟩
theorem Tw.doB (op key val : Int) (h : Tw w0 w a b cap A D u U) :
    Calls Try.prog 11 #[.pointer (some ⟨b, 0, none⟩), .int .i64 op, .int .u64 key, .int .u64 val] w fun e w' => e = .returned (resG (doS cap D op key val).1.E (doS cap D op key val).1.f (doS cap D op key val).1.v false 0 0) ∧ Tw w0 w' a b cap A (doS cap D op key val).2 u U := by
  refine (h.swap.doA op key val).mono ?_
  rintro e w' ⟨rfl, hn⟩
  exact ⟨rfl, hn.swap⟩
theorem Tw.fillA (h : Tw w0 w a b cap A D u U) (hlen : U.length ≤ 4611686018427387904) {n : Nat} (HN : Hid ((fillS cap A U).1 = n)) :
    Calls Try.prog 17 #[.pointer (some ⟨a, 0, none⟩), u] w fun e w' => e = .returned (.int .i64 n) ∧ Tw w0 w' a b cap (fillS cap A U).2 D u U := by
  obtain ⟨va, vb, h1, h2, h3, h4⟩ := h.ex
  refine (lfill_any h1 h.lenA h.c16 h.be.size h.see hlen (fun k hk => ⟨(h4 k hk).1, (h4 k hk).2.2.1⟩) HN).mono ?_
  rintro e w' ⟨rfl, hn⟩
  exact ⟨rfl, h.next h1 h2 h3 h4 hn (fillS_len _ h.lenA)⟩
theorem Tw.fill0 (h : Tw w0 w a b cap A D u U) :
    Calls Try.prog 17 #[.pointer (some ⟨a, 0, none⟩), .slice none 0 0] w fun e w' => e = .returned (.int .i64 0) ∧ Tw w0 w' a b cap A D u U := by
  obtain ⟨va, vb, h1, h2, h3, h4⟩ := h.ex
  refine (lfill_any (n := 0) h1 h.lenA h.c16 h.be.size (SeesG.nil (f := ppC) (z := 2) Pp.nil w) (by simp) (fun k hk => by cases hk) rfl).mono ?_
  rintro e w' ⟨rfl, hn⟩
  exact ⟨rfl, h.next h1 h2 h3 h4 hn h.lenA⟩
theorem Tw.lenA_any (h : Tw w0 w a b cap A D u U) : Calls Try.prog 13 #[.pointer (some ⟨a, 0, none⟩)] w fun e w' => e = .returned (.int .i64 A.length) ∧ w = w' := by
  obtain ⟨va, vb, h1, h2, h3, h4⟩ := h.ex
  exact llen_any h1
theorem Tw.pairsA (h : Tw w0 w a b cap A D u U) : Calls Try.prog 15 #[.pointer (some ⟨a, 0, none⟩)] w fun e w' => ∃ u', e = .returned u' ∧ w'.ownsRow w.heap.size 47 2 u' A.length (flatG ppC A) ∧ Below w.heap.size w w' := by
  have h7 := h.lenA
  have h8 := h.c16
  obtain ⟨va, vb, h1, h2, h3, h4⟩ := h.ex
  exact lpairs_any h1 (by omega)
end
end Go.Proofs.Ytlinfpnkeiahlaa
