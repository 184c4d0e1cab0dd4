
/-
  Two LRUs of layer 14's laws. No condition.
-/
import Derived.Test.YtoaceadfdelgfaaW14Ps
namespace Go.Proofs.Ytoaceadfdelgfaa
open Go.RowKit
set_option linter.unusedVariables false
set_option linter.unusedSimpArgs false
set_option maxRecDepth 100000

structure P2 (w0 w : World) (a b cap : Nat) (s t : List Pp × List Int) (F G : Ft) : Prop where
  ex : ∃ B C, B ≤ w.heap.size ∧ C ≤ w.heap.size ∧ Lu w B a cap s.1 s.2 F ∧ Lu w C b cap t.1 t.2 G
  two : Two w0 w F G
  c16 : cap ≤ 16
  ia : InvA cap s.1 s.2
  ib : InvA cap t.1 t.2
section
variable {w0 w w' : World} {a b cap : Nat} {s t : List Pp × List Int} {F F' G : Ft}
theorem P2.swap (h : P2 w0 w a b cap s t F G) : P2 w0 w b a cap t s G F := by
  obtain ⟨B, C, h1, h2, h3, h4⟩ := h.ex
  exact ⟨⟨C, B, h2, h1, h4, h3⟩, h.two.swap, h.c16, h.ib, h.ia⟩
theorem P2.below (h : P2 w0 w a b cap s t F G) (hb : Below w.heap.size w w') : P2 w0 w' a b cap s t F G := by
  obtain ⟨B, C, h1, h2, h3, h4⟩ := h.ex
  exact ⟨⟨B, C, Nat.le_trans h1 hb.size, Nat.le_trans h2 hb.size, h3.below hb, h4.below hb⟩, h.two.below hb, h.c16, h.ia, h.ib⟩
theorem P2.drewN (h : P2 w0 w a b cap s t F G) (n : Nat) : P2 w0 (w.drewN n) a b cap s t F G := h.below ⟨rfl, rfl, rfl, Nat.le_refl _, fun _ _ => rfl⟩
theorem P2.be (h : P2 w0 w a b cap s t F G) : Below w0.heap.size w0 w := h.two.be
theorem P2.lies (h : P2 w0 w a b cap s t F G) : Lies w F := by
  obtain ⟨B, C, h1, h2, h3, h4⟩ := h.ex
  exact h3.lies
theorem P2.step {s' : List Pp × List Int} (h : P2 w0 w a b cap s t F G) (hL : ∀ B, Lu w B a cap s.1 s.2 F → B ≤ w.heap.size → Lu w' B a cap s'.1 s'.2 F') (hn : Nx w w' F F') (hi : InvA cap s'.1 s'.2) : P2 w0 w' a b cap s' t F' G := by
  obtain ⟨B, C, h1, h2, h3, h4⟩ := h.ex
  exact ⟨⟨B, C, Nat.le_trans h1 hn.chg.size, Nat.le_trans h2 hn.chg.size, hL B h3 h1, h4.keeps hn.chg h.two.apt⟩, h.two.one h4.lies hn, h.c16, hi, h.ib⟩
theorem P2.do {op key val : Int} {q : Rq} {s' : List Pp × List Int} (HQ : Hid (doA cap s.1 s.2 op key val = (q, s'))) (h : P2 w0 w a b cap s t F G) :
    Calls Try.prog 11 #[.pointer (some ⟨a, 0, none⟩), .int .i64 op, .int .u64 key, .int .u64 val] w fun e w' => e = .returned (resG q.E q.f q.v q.o q.k q.u) ∧ ∃ F', P2 w0 w' a b cap s' t F' G ∧ Nx w w' F F' := by
  obtain ⟨B, C, h1, h2, h3, h4⟩ := h.ex
  obtain ⟨S', R'⟩ := s'
  refine (h3.do_as HQ h.ia h.c16 h1).mono ?_
  rintro e w' ⟨rfl, F', g1, g2⟩
  have hi := h.ia.do op key val
  rw [HQ.out] at hi
  exact ⟨rfl, F', ⟨⟨B, C, Nat.le_trans h1 g2.chg.size, Nat.le_trans h2 g2.chg.size, g1, h4.keeps g2.chg h.two.apt⟩, h.two.one h4.lies g2, h.c16, hi, h.ib⟩, g2⟩
theorem P2.fill {pv : Value} {ps : List Pp} (h : P2 w0 w a b cap s t F G) (hs : SeesG ppC 2 Pp.nil w pv ps) (hlen : ps.length ≤ 4611686018427387904) (hap : Apt F (ftV pv)) :
    Calls Try.prog 21 #[.pointer (some ⟨a, 0, none⟩), pv] w fun e w' => e = .returned (.int .i64 ps.length) ∧ ∃ F', P2 w0 w' a b cap (fillA cap s ps) t F' G ∧ Nx w w' F F' := by
  obtain ⟨B, C, h1, h2, h3, h4⟩ := h.ex
  refine (h3.fill h.ia h.c16 h1 hs hlen hap).mono ?_
  rintro e w' ⟨rfl, F', g1, g2⟩
  exact ⟨rfl, F', ⟨⟨B, C, Nat.le_trans h1 g2.chg.size, Nat.le_trans h2 g2.chg.size, g1, h4.keeps g2.chg h.two.apt⟩, h.two.one h4.lies g2, h.c16, fillA_inv ps h.ia, h.ib⟩, g2⟩
theorem P2.touch {pv : Value} {ks : List Int} {n : Nat} {s' : List Pp × List Int} (h : P2 w0 w a b cap s t F G) (hs : SeesG uC 1 0 w pv ks) (hlen : ks.length ≤ 4611686018427387904) (hap : Apt F (ftV pv)) (HN : Hid (touchA cap s ks = (n, s'))) :
    Calls Try.prog 22 #[.pointer (some ⟨a, 0, none⟩), pv] w fun e w' => e = .returned (.int .i64 n) ∧ ∃ F', P2 w0 w' a b cap s' t F' G ∧ Nx w w' F F' := by
  obtain ⟨B, C, h1, h2, h3, h4⟩ := h.ex
  have hi := touchA_inv ks h.ia
  have := h3.touch h.ia h.c16 h1 hs hlen hap (n := n) (show Hid _ from by show (touchA cap s ks).1 = n; rw [HN.out])
  refine this.mono ?_
  rintro e w' ⟨rfl, F', g1, g2⟩
  have e2 : touchA cap (s.1, s.2) ks = (n, s') := HN.out
  rw [e2] at g1
  rw [HN.out] at hi
  exact ⟨rfl, F', ⟨⟨B, C, Nat.le_trans h1 g2.chg.size, Nat.le_trans h2 g2.chg.size, g1, h4.keeps g2.chg h.two.apt⟩, h.two.one h4.lies g2, h.c16, hi, h.ib⟩, g2⟩
theorem P2.order (h : P2 w0 w a b cap s t F G) :
    Calls Try.prog 15 #[.pointer (some ⟨a, 0, none⟩)] w fun e w' => ∃ u, e = .returned u ∧ w'.ownsRow w.heap.size 36 1 u s.2.length (flatG uC s.2) ∧ Below w.heap.size w w' := by
  obtain ⟨B, C, h1, h2, h3, h4⟩ := h.ex
  exact h3.order h.ia h.c16
theorem P2.inner (h : P2 w0 w a b cap s t F G) : ∃ d, w.cell? ⟨a, 0, none⟩ = some (.pointer (some ⟨d, 0, none⟩)) ∧ a < w.heap.size ∧ Hid (InnerL w d cap s.1) := by
  obtain ⟨B, C, h1, h2, h3, h4⟩ := h.ex
  exact h3.inner h.ia.len h.c16
theorem P2.new {w1 w2 w3 : World} {B C n : Nat} (h1 : 1 ≤ n) (hb1 : Below w0.heap.size w0 w1) (hL : Lu w2 B a n [] [] F) (hB : B ≤ w2.heap.size) (hs : Since w1 F) (hb2 : Below w1.heap.size w1 w2) (hM : Lu w3 C b n [] [] G) (hC : C ≤ w3.heap.size) (ht : Since w2 G) (hb3 : Below w2.heap.size w2 w3) (h16 : n ≤ 16) : P2 w0 w3 a b n ([], []) ([], []) F G := by
  have hz1 := hb1.size
  have hz2 := hb2.size
  have hz3 := hb3.size
  exact ⟨⟨B, C, by omega, hC, hL.below hb3, hM⟩, ⟨Apt.made hL.lies ht, fun k hk => by have := hs k hk; omega, fun k hk => by have := ht k hk; omega, (hb1.trans (hb2.mono hz1)).trans (hb3.mono (by omega))⟩, h16, InvA.new h1, InvA.new h1⟩
end
theorem own_emptyZ (w : World) (t : TypeId) (z : Nat) : (w.alloc (.cells #[] t)).ownsRow w.heap.size t z (.slice (some ⟨w.heap.size, 0, none⟩) 0 0) 0 [] := by
  refine ⟨by simp, .inr ⟨w.heap.size, 0, #[], rfl, Nat.le_refl _, heap_alloc_new w _, Nat.le_refl _, by simp [maxLen], by simp, by simp⟩⟩
theorem own_setU {w : World} {B g cap i : Nat} {L : List Int} (x : Int) (h : w.ownsRow B 36 1 (.slice (some ⟨g, 0, none⟩) L.length cap) L.length (flatG uC L)) (hi : i < L.length) :
    (w.setCell ⟨g, i, none⟩ (.int .u64 x)).ownsRow B 36 1 (.slice (some ⟨g, 0, none⟩) L.length cap) (L.set i x).length (flatG uC (L.set i x)) ∧ Chg w (w.setCell ⟨g, i, none⟩ (.int .u64 x)) (fun k => k = g) := by
  have r1 := own_setG uC_len 0 h (k := i) (j := 0) (x := x) (u := .int .u64 x) hi (by omega) rfl
  refine ⟨?_, Chg.set _ _ _ _⟩
  have e : (L.set i x).length = L.length := List.length_set
  rw [Nat.mul_one, Nat.add_zero] at r1
  rw [e] at r1 ⊢
  exact r1
end Go.Proofs.Ytoaceadfdelgfaa
