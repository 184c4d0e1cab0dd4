
/-
  Two objects of layer 14's laws beside one another. No condition.
-/
import Derived.Test.YtpbfgebecgikjaaGObj
import Derived.Test.YtpbfgebecgikjaaB13LTail
import Derived.Test.YtpbfgebecgikjaaL14LG
import Derived.Test.YtpbfgebecgikjaaW14Open
namespace Go.Proofs.Ytpbfgebecgikjaa
open Go.RowKit
set_option linter.unusedVariables false
set_option linter.unusedSimpArgs false
set_option maxRecDepth 100000

/-- The landed book. -/
def Bo (w : World) (B b cap : Nat) (S : List Pp) (F : Ft) : Prop := ∃ v, Lb w B b cap v S ∧ F = bkS b v
section
variable {w w' : World} {B b cap : Nat} {S : List Pp} {F G : Ft}
theorem Bo.lies (h : Bo w B b cap S F) : Lies w F := by
  obtain ⟨v, h1, rfl⟩ := h
  intro k hk
  rcases hk with e | e
  · rw [e]; exact h1.hp.lt
  · exact (h1.row.lt k e).2
theorem Bo.keeps (h : Bo w B b cap S F) (hc : Chg w w' G) (ha : Apt G F) : Bo w' B b cap S F := by
  obtain ⟨v, h1, rfl⟩ := h
  exact ⟨v, h1.chg hc (fun e => ha b e (.inl rfl)) (fun k hk e => ha k e (.inr hk)), rfl⟩
theorem Bo.below (h : Bo w B b cap S F) (hb : Below w.heap.size w w') : Bo w' B b cap S F := by
  obtain ⟨v, h1, rfl⟩ := h
  exact ⟨v, h1.below hb, rfl⟩
theorem Bo.do_any (op key val : Int) (h : Bo w B b cap S F) (hl : S.length ≤ cap) (hc16 : cap ≤ 16) (hB : B ≤ w.heap.size) :
    Calls Try.prog 59 #[.pointer (some ⟨b, 0, none⟩), .int .i64 op, .int .u64 key, .int .u64 val] w fun e w' => e = .returned (resG (doS cap S op key val).1.E (doS cap S op key val).1.f (doS cap S op key val).1.v false 0 0) ∧ ∃ F', Bo w' B b cap (doS cap S op key val).2 F' ∧ Nx w w' F F' := by
  obtain ⟨v, h1, rfl⟩ := h
  refine (ldo_any op key val h1 hl hc16 hB).mono ?_
  rintro e w' ⟨rfl, v', g1, g2, g3⟩
  refine ⟨rfl, _, ⟨v', g1, rfl⟩, g2, fun k hk => ?_⟩
  rcases hk with e | e
  · exact .inl (.inl e)
  · rcases g3 with q | ⟨j, q, qj⟩
    · exact .inl (.inr (by rw [← q]; exact e))
    · rw [q] at e
      have := Option.some.inj e
      exact .inr (by omega)
end
/-- Two objects that were made since a world, apart from one another. -/
structure Two (w0 w : World) (F G : Ft) : Prop where
  apt : Apt F G
  sf : Since w0 F
  sg : Since w0 G
  be : Below w0.heap.size w0 w
section
variable {w0 w w' : World} {F F' G G' : Ft}
theorem Two.one (h : Two w0 w F G) (hG : Lies w G) (hn : Nx w w' F F') : Two w0 w' F' G := ⟨h.apt.next hG hn, h.sf.next h.be.size hn, h.sg, h.sf.be h.be hn⟩
theorem Two.swap (h : Two w0 w F G) : Two w0 w G F := ⟨h.apt.symm, h.sg, h.sf, h.be⟩
theorem Two.two (h : Two w0 w F G) (hF : Lies w F) (hn : Nx w w' G G') : Two w0 w' F G' := (h.swap.one hF hn).swap
theorem Two.below (h : Two w0 w F G) (hb : Below w.heap.size w w') : Two w0 w' F G := ⟨h.apt, h.sf, h.sg, h.be.trans (hb.mono h.be.size)⟩
end
/-- A block of another type is none of an LRU's. -/
theorem Lu.other {w : World} {B l cap : Nat} {S : List Pp} {R : List Int} {F : Ft} (h : Lu w B l cap S R F) {n : Nat} {t : TypeId} {cs : List Value} (hp : Hp w n t cs) (h1 : t ≠ 116) (h2 : t ≠ 114) (h3 : t ≠ 80) (h4 : t ≠ 41) : ¬ F n := by
  obtain ⟨b, v, vr, g, rfl⟩ := h
  rintro (e | (e | e) | e)
  · exact hp_type hp g.hp h1 e
  · exact hp_type hp g.bk.hp h2 e
  · exact own_type10 g.bk.row hp (fun e => h3 e.symm) e
  · exact own_type10 g.rc hp (fun e => h4 e.symm) e
theorem Bo.other {w : World} {B b cap : Nat} {S : List Pp} {F : Ft} (h : Bo w B b cap S F) {n : Nat} {t : TypeId} {cs : List Value} (hp : Hp w n t cs) (h2 : t ≠ 114) (h3 : t ≠ 80) : ¬ F n := by
  obtain ⟨v, g, rfl⟩ := h
  rintro (e | e)
  · exact hp_type hp g.hp h2 e
  · exact own_type10 g.row hp (fun e => h3 e.symm) e
/-- An LRU and a book. -/
structure Pb (w0 w : World) (l b cap : Nat) (S : List Pp) (R : List Int) (T : List Pp) : Prop where
  ex : ∃ B C F G, B ≤ w.heap.size ∧ C ≤ w.heap.size ∧ Lu w B l cap S R F ∧ Bo w C b cap T G ∧ Two w0 w F G
  c16 : cap ≤ 16
section
variable {w0 w w' : World} {l b cap : Nat} {S T : List Pp} {R : List Int}
theorem Pb.below (h : Pb w0 w l b cap S R T) (hb : Below w.heap.size w w') : Pb w0 w' l b cap S R T := by
  obtain ⟨B, C, F, G, h1, h2, h3, h4, h5⟩ := h.ex
  exact ⟨⟨B, C, F, G, Nat.le_trans h1 hb.size, Nat.le_trans h2 hb.size, h3.below hb, h4.below hb, h5.below hb⟩, h.c16⟩
theorem Pb.drewN (h : Pb w0 w l b cap S R T) (n : Nat) : Pb w0 (w.drewN n) l b cap S R T := h.below ⟨rfl, rfl, rfl, Nat.le_refl _, fun _ _ => rfl⟩
theorem Pb.be (h : Pb w0 w l b cap S R T) : Below w0.heap.size w0 w := by
  obtain ⟨B, C, F, G, h1, h2, h3, h4, h5⟩ := h.ex
  exact h5.be
theorem Pb.order (h : Pb w0 w l b cap S R T) (hi : InvA cap S R) :
    Calls Try.prog 74 #[.pointer (some ⟨l, 0, none⟩)] w fun e w' => ∃ u, e = .returned u ∧ w'.ownsRow w.heap.size 41 1 u R.length (flatG uC R) ∧ Below w.heap.size w w' := by
  obtain ⟨B, C, F, G, h1, h2, h3, h4, h5⟩ := h.ex
  exact h3.order hi h.c16
theorem Pb.pairs (h : Pb w0 w l b cap S R T) (hl : T.length ≤ cap) : Calls Try.prog 61 #[.pointer (some ⟨b, 0, none⟩)] w fun e w' => ∃ u, e = .returned u ∧ w'.ownsRow w.heap.size 80 2 u T.length (flatG ppC T) ∧ Below w.heap.size w w' := by
  obtain ⟨B, C, F, G, h1, h2, h3, h4, h5⟩ := h.ex
  obtain ⟨v, g, rfl⟩ := h4
  have := h.c16
  exact lpairs_any g (by omega)
/-- Both anew. -/
theorem Pb.new {w1 w2 w3 : World} {B n : Nat} {F : Ft} (hb1 : Below w0.heap.size w0 w1) (hL : Lu w2 B l n [] [] F) (hB : B ≤ w2.heap.size) (hs : Since w1 F) (hb2 : Below w1.heap.size w1 w2) (hp : Hp w3 w2.heap.size 114 [.int .i64 n, .slice none 0 0]) (hb3 : Below w2.heap.size w2 w3) (h16 : n ≤ 16) : Pb w0 w3 l w2.heap.size n [] [] [] := by
  have hz1 := hb1.size
  have hz2 := hb2.size
  have hz3 := hb3.size
  have hG : Since w2 (bkS w2.heap.size (.slice none 0 0)) := fun k hk => by
    rcases hk with e | e
    · omega
    · cases e
  refine ⟨⟨B, 0, F, _, by omega, by omega, hL.below hb3, ⟨_, ⟨hp, World.ownsRow_nil _ _ _ _⟩, rfl⟩, Apt.made hL.lies hG, fun k hk => by have := hs k hk; omega, fun k hk => by have := hG k hk; omega, (hb1.trans (hb2.mono hz1)).trans (hb3.mono (by omega))⟩, h16⟩
end
end Go.Proofs.Ytpbfgebecgikjaa
