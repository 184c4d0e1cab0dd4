
/-
  The landed LRU and the document's beside one another. No condition.
-/
import Derived.Test.YtoaceadfdelgfaaW14Ps
import Derived.Test.YtoaceadfdelgfaaL14Obj
namespace Go.Proofs.Ytoaceadfdelgfaa
open Go.RowKit
set_option linter.unusedVariables false
set_option linter.unusedSimpArgs false
set_option maxRecDepth 100000

/-- In the midst of a region that draws its order one may hold more. -/
theorem wpAnyH_more {P : Program} {md : Region.Mode} {ops : Array Oper} {Q : Exit → Act → World → Prop} {S S' : World → Prop} (hS : ∀ w, S' w → S w) : ∀ (fuel : Nat) (listed : Array Bool) (a : Act) (w : World), wpAnyH P md ops Q S' fuel listed a w → wpAnyH P md ops Q S fuel listed a w
  | 0, _, _, _, h => h
  | fuel + 1, _, _, _, h => ⟨h.1, fun i hi => wpOp_mono (fun a' w' h' => ⟨hS _ h'.1, wpAnyH_more hS fuel _ a' w' h'.2⟩) (h.2 i hi)⟩
theorem Ro.other {w : World} {B l cap : Nat} {s : Lt} {F : Ft} (h : Ro w B l cap s F) {n : Nat} {t : TypeId} {cs : List Value} (hp : Hp w n t cs) (h1 : t ≠ 50) (h2 : t ≠ 46) (h3 : t ≠ 58) (h4 : t ≠ 36) (h5 : t ≠ 3) : ¬ F n := by
  obtain ⟨b, vd, vk, vw, g, rfl⟩ := h
  rintro (e | e | e | e | e)
  · exact hp_type hp g.hp h1 e
  · exact hp_type hp g.bk.hp h2 e
  · exact own_type10 g.bk.row hp (fun e => h3 e.symm) e
  · exact own_type10 g.ks hp (fun e => h4 e.symm) e
  · exact own_type10 g.ws hp (fun e => h5 e.symm) e
/-- The document's LRU's book: where it lies, its list, its Pairs, also in a later world. -/
def InnerR (w : World) (b : Nat) (T : List Pp) : Prop := ∀ w', Below w.heap.size w w' →
    Calls Try.prog 19 #[.pointer (some ⟨b, 0, none⟩)] w' (fun e w'' => ∃ u, e = .returned u ∧ w''.ownsRow w'.heap.size 58 2 u T.length (flatG ppC T) ∧ Below w'.heap.size w' w'')
theorem Ro.inner {w : World} {B l cap : Nat} {s : Lt} {F : Ft} {T : List Pp} (h : Ro w B l cap s F) (hi : InvR cap s T) (hc16 : cap ≤ 16) : ∃ b a c, w.cell? ⟨l, 0, none⟩ = some (.pointer (some ⟨b, 0, none⟩)) ∧ w.cell? ⟨b, 1, none⟩ = some (.slice a s.D.length c) ∧ l < w.heap.size ∧ b < w.heap.size ∧ Hid (InnerR w b T) := by
  obtain ⟨b, vd, vk, vw, h1, rfl⟩ := h
  obtain ⟨a, c, rfl⟩ := own_shape h1.bk.row
  have hpl := hi.p.length_eq
  have hl := hi.a.len
  exact ⟨b, a, c, h1.hp.cell (j := 0) rfl, h1.bk.hp.cell (j := 1) rfl, h1.hp.lt, h1.bk.hp.lt, fun w' hb => rpairs_any (h1.below hb).bk (by omega) hi.p hi.a.srt⟩
/-- The landed LRU and the document's. -/
structure Pr (w0 w : World) (l r cap : Nat) (S : List Pp) (R : List Int) (s : Lt) : Prop where
  ex : ∃ B C F G, B ≤ w.heap.size ∧ C ≤ w.heap.size ∧ Lu w B l cap S R F ∧ Ro w C r cap s G ∧ Two w0 w F G
  c16 : cap ≤ 16
section
variable {w0 w w' : World} {l r cap : Nat} {S T : List Pp} {R : List Int} {s : Lt}
theorem Pr.below (h : Pr w0 w l r cap S R s) (hb : Below w.heap.size w w') : Pr w0 w' l r cap S R s := by
  obtain ⟨B, C, F, G, h1, h2, h3, h4, h5⟩ := h.ex
  exact ⟨⟨B, C, F, G, Nat.le_trans h1 hb.size, Nat.le_trans h2 hb.size, h3.below hb, h4.below hb, h5.below hb⟩, h.c16⟩
theorem Pr.drewN (h : Pr w0 w l r cap S R s) (n : Nat) : Pr w0 (w.drewN n) l r cap S R s := h.below ⟨rfl, rfl, rfl, Nat.le_refl _, fun _ _ => rfl⟩
theorem Pr.be (h : Pr w0 w l r cap S R s) : Below w0.heap.size w0 w := by
  obtain ⟨B, C, F, G, h1, h2, h3, h4, h5⟩ := h.ex
  exact h5.be
theorem Pr.doL {op key val : Int} {q : Rq} {S' : List Pp} {R' : List Int} (HQ : Hid (doA cap S R op key val = (q, S', R'))) (h : Pr w0 w l r cap S R s) (hi : InvA cap S R) :
    Calls Try.prog 11 #[.pointer (some ⟨l, 0, none⟩), .int .i64 op, .int .u64 key, .int .u64 val] w fun e w' => e = .returned (resG q.E q.f q.v q.o q.k q.u) ∧ Pr w0 w' l r cap S' R' s ∧ ∀ n t cs, BoxT t → Hp w n t cs → Hp w' n t cs := by
  obtain ⟨B, C, F, G, h1, h2, h3, h4, h5⟩ := h.ex
  refine (h3.do_as HQ hi h.c16 h1).mono ?_
  rintro e w' ⟨rfl, F', g1, g2⟩
  refine ⟨rfl, ⟨⟨B, C, F', G, Nat.le_trans h1 g2.chg.size, Nat.le_trans h2 g2.chg.size, g1, h4.keeps g2.chg h5.apt, h5.one h4.lies g2⟩, h.c16⟩, fun n t cs ht hp => ?_⟩
  rcases ht with rfl | rfl
  · exact hp.chg g2.chg (h3.other hp (by decide) (by decide) (by decide) (by decide))
  · exact hp.chg g2.chg (h3.other hp (by decide) (by decide) (by decide) (by decide))
theorem Pr.doR {op key val : Int} {q : Rq} {s' : Lt} (HQ : Hid (doT cap s op key val = (q, s'))) (h : Pr w0 w l r cap S R s) (hi : InvR cap s T) (hc : s.c ≤ 4000) :
    Calls Try.prog 12 #[.pointer (some ⟨r, 0, none⟩), .int .i64 op, .int .u64 key, .int .u64 val] w fun e w' => e = .returned (resG q.E q.f q.v q.o q.k q.u) ∧ Pr w0 w' l r cap S R s' ∧ ∀ n t cs, BoxT t → Hp w n t cs → Hp w' n t cs := by
  obtain ⟨B, C, F, G, h1, h2, h3, h4, h5⟩ := h.ex
  have := h4.do_any op key val hi h.c16 hc h2
  rw [HQ.out] at this
  refine this.mono ?_
  rintro e w' ⟨rfl, G', g1, g2⟩
  refine ⟨rfl, ⟨⟨B, C, F, G', Nat.le_trans h1 g2.chg.size, Nat.le_trans h2 g2.chg.size, h3.keeps g2.chg h5.apt.symm, g1, h5.two h3.lies g2⟩, h.c16⟩, fun n t cs ht hp => ?_⟩
  rcases ht with rfl | rfl
  · exact hp.chg g2.chg (h4.other hp (by decide) (by decide) (by decide) (by decide) (by decide))
  · exact hp.chg g2.chg (h4.other hp (by decide) (by decide) (by decide) (by decide) (by decide))
theorem Pr.order (h : Pr w0 w l r cap S R s) (hi : InvA cap S R) :
    Calls Try.prog 15 #[.pointer (some ⟨l, 0, none⟩)] w fun e w' => ∃ u, e = .returned u ∧ w'.ownsRow w.heap.size 36 1 u R.length (flatG uC R) ∧ Below w.heap.size w w' := by
  obtain ⟨B, C, F, G, h1, h2, h3, h4, h5⟩ := h.ex
  exact h3.order hi h.c16
theorem Pr.orderR (h : Pr w0 w l r cap S R s) (hi : InvR cap s T) (hc : s.c ≤ 4000) :
    Calls Try.prog 16 #[.pointer (some ⟨r, 0, none⟩)] w fun e w' => ∃ u, e = .returned u ∧ w'.ownsRow w.heap.size 36 1 u (recT s.kt).length (flatG uC (recT s.kt)) ∧ Below w.heap.size w w' := by
  obtain ⟨B, C, F, G, h1, h2, h3, h4, h5⟩ := h.ex
  exact h4.order hi h.c16 hc
theorem Pr.inner (h : Pr w0 w l r cap S R s) (hl : S.length ≤ cap) : ∃ d, w.cell? ⟨l, 0, none⟩ = some (.pointer (some ⟨d, 0, none⟩)) ∧ l < w.heap.size ∧ Hid (InnerL w d cap S) := by
  obtain ⟨B, C, F, G, h1, h2, h3, h4, h5⟩ := h.ex
  exact h3.inner hl h.c16
theorem Pr.innerR (h : Pr w0 w l r cap S R s) (hi : InvR cap s T) : ∃ b a c, w.cell? ⟨r, 0, none⟩ = some (.pointer (some ⟨b, 0, none⟩)) ∧ w.cell? ⟨b, 1, none⟩ = some (.slice a s.D.length c) ∧ r < w.heap.size ∧ b < w.heap.size ∧ Hid (InnerR w b T) := by
  obtain ⟨B, C, F, G, h1, h2, h3, h4, h5⟩ := h.ex
  exact h4.inner hi h.c16
end
def Lt.new : Lt := ⟨[], [], 0⟩
theorem InvR.new {cap : Nat} (h : 1 ≤ cap) : InvR cap Lt.new [] := ⟨⟨List.Pairwise.nil, fun p hp => by cases hp⟩, InvA.new h, List.Perm.refl _⟩
theorem doT_c (cap : Nat) (s : Lt) (op key val : Int) : (doT cap s op key val).2.c ≤ s.c + 1 := by
  unfold doT
  simp only
  split <;> omega
theorem Pr.new {w0 w1 w2 w3 : World} {B n l r b : Nat} {F : Ft} (hb1 : Below w0.heap.size w0 w1) (hL : Lu w2 B l n [] [] F) (hB : B ≤ w2.heap.size) (hs : Since w1 F) (hb2 : Below w1.heap.size w1 w2) (hr : w2.heap.size ≤ r) (hbb : w2.heap.size ≤ b) (hp : Rl w3 w2.heap.size r b n (.slice none 0 0) (.slice none 0 0) (.slice none 0 0) [] [] 0) (hb3 : Below w2.heap.size w2 w3) (h16 : n ≤ 16) : Pr w0 w3 l r n [] (recT Lt.new.kt) Lt.new := by
  have hz1 := hb1.size
  have hz2 := hb2.size
  have hz3 := hb3.size
  have hG : Since w2 (footR r b (.slice none 0 0) (.slice none 0 0) (.slice none 0 0)) := fun k hk => by
    rcases hk with e | e | e | e | e
    · omega
    · omega
    · cases e
    · cases e
    · cases e
  exact ⟨⟨B, w2.heap.size, F, _, by omega, by omega, hL.below hb3, ⟨b, _, _, _, hp, rfl⟩, Apt.made hL.lies hG, fun k hk => by have := hs k hk; omega, fun k hk => by have := hG k hk; omega, (hb1.trans (hb2.mono hz1)).trans (hb3.mono (by omega))⟩, h16⟩
end Go.Proofs.Ytoaceadfdelgfaa
