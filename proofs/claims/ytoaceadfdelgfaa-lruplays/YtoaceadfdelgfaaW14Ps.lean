
/-
  One LRU of layer 14's laws. No condition.
-/
import Derived.Test.YtoaceadfdelgfaaW14Two
namespace Go.Proofs.Ytoaceadfdelgfaa
open Go.RowKit
set_option linter.unusedVariables false
set_option linter.unusedSimpArgs false
set_option maxRecDepth 100000

/-- One LRU that was made since a world. -/
structure Ps (w0 w : World) (l cap : Nat) (S : List Pp) (R : List Int) (F : Ft) : Prop where
  ex : ∃ B, B ≤ w.heap.size ∧ Lu w B l cap S R F
  sf : Since w0 F
  be : Below w0.heap.size w0 w
  c16 : cap ≤ 16
  inv : InvA cap S R
section
variable {w0 w w' : World} {l cap : Nat} {S : List Pp} {R : List Int} {F F' : Ft}
theorem Ps.below (h : Ps w0 w l cap S R F) (hb : Below w.heap.size w w') : Ps w0 w' l cap S R F := by
  obtain ⟨B, h1, h2⟩ := h.ex
  exact ⟨⟨B, Nat.le_trans h1 hb.size, h2.below hb⟩, h.sf, h.be.trans (hb.mono h.be.size), h.c16, h.inv⟩
theorem Ps.lies (h : Ps w0 w l cap S R F) : Lies w F := by
  obtain ⟨B, h1, h2⟩ := h.ex
  exact h2.lies
theorem Ps.do {op key val : Int} {q : Rq} {S' : List Pp} {R' : List Int} (HQ : Hid (doA cap S R op key val = (q, S', R'))) (h : Ps w0 w l cap S R F) :
    Calls Try.prog 11 #[.pointer (some ⟨l, 0, none⟩), .int .i64 op, .int .u64 key, .int .u64 val] w fun e w' => e = .returned (resG q.E q.f q.v q.o q.k q.u) ∧ ∃ F', Ps w0 w' l cap S' R' F' ∧ Nx w w' F F' ∧ ∀ n t cs, BoxT t → Hp w n t cs → Hp w' n t cs := by
  obtain ⟨B, h1, h3⟩ := h.ex
  refine (h3.do_as HQ h.inv h.c16 h1).mono ?_
  rintro e w' ⟨rfl, F', g1, g2⟩
  have hi := h.inv.do op key val
  rw [HQ.out] at hi
  refine ⟨rfl, F', ⟨⟨B, Nat.le_trans h1 g2.chg.size, g1⟩, h.sf.next h.be.size g2, h.sf.be h.be g2, h.c16, hi⟩, g2, fun n t cs ht hp => ?_⟩
  rcases ht with rfl | rfl
  · exact hp.chg g2.chg (h3.other hp (by decide) (by decide) (by decide) (by decide))
  · exact hp.chg g2.chg (h3.other hp (by decide) (by decide) (by decide) (by decide))
theorem Ps.order (h : Ps w0 w l cap S R F) :
    Calls Try.prog 15 #[.pointer (some ⟨l, 0, none⟩)] w fun e w' => ∃ u, e = .returned u ∧ w'.ownsRow w.heap.size 36 1 u R.length (flatG uC R) ∧ Below w.heap.size w w' := by
  obtain ⟨B, h1, h3⟩ := h.ex
  exact h3.order h.inv h.c16
theorem Ps.inner (h : Ps w0 w l cap S R F) : ∃ d, w.cell? ⟨l, 0, none⟩ = some (.pointer (some ⟨d, 0, none⟩)) ∧ l < w.heap.size ∧ Hid (InnerL w d cap S) := by
  obtain ⟨B, h1, h3⟩ := h.ex
  exact h3.inner h.inv.len h.c16
theorem Ps.new {w1 w2 : World} {B n : Nat} (h1 : 1 ≤ n) (hb1 : Below w0.heap.size w0 w1) (hL : Lu w2 B l n [] [] F) (hB : B ≤ w2.heap.size) (hs : Since w1 F) (hb2 : Below w1.heap.size w1 w2) (h16 : n ≤ 16) : Ps w0 w2 l n [] [] F := by
  have hz1 := hb1.size
  exact ⟨⟨B, hB, hL⟩, fun k hk => by have := hs k hk; omega, hb1.trans (hb2.mono hz1), h16, InvA.new h1⟩
end
theorem flat_oneU (T : List Int) : ∀ u ∈ flatG uC T, u.oneCell' = true := by
  intro u hu
  obtain ⟨x, _, hx⟩ := List.mem_flatMap.1 hu
  exact uC_one x u hx
theorem own_drewG {w : World} {B : Nat} {e : TypeId} {z : Nat} {v : Value} {n : Nat} {xs : List Value} (h : w.ownsRow B e z v n xs) : w.drew.ownsRow B e z v n xs := h
theorem cells_newD (w : World) (xs : List Value) (t : TypeId) (n : Nat) (hn : n = w.heap.size) : ∀ j u, xs[j]? = some u → (w.alloc (.cells xs.toArray t)).drew.cell? ((⟨n, 0, none⟩ : Addr).add j) = some u := cells_new w xs t n hn
theorem SeesG.dropLast {w : World} {a : Option Addr} {m c : Nat} {R : List Int} (h : SeesG uC 1 0 w (.slice a m c) R) : SeesG uC 1 0 w (.slice a R.dropLast.length c) R.dropLast := by
  obtain ⟨a', c', ev, h1, h2, h3, h4⟩ := h
  simp only [Value.slice.injEq] at ev
  obtain ⟨rfl, rfl, rfl⟩ := ev
  have hl : R.dropLast.length = R.length - 1 := List.length_dropLast
  refine ⟨a, c, rfl, by omega, h2, h3, fun hne => ?_⟩
  obtain ⟨b, off, e, hb, hat⟩ := h4 (fun e => by rw [e] at hne; exact hne rfl)
  refine ⟨b, off, e, hb, fun k hk j hj => ?_⟩
  rw [hat k (by omega) j hj]
  congr 2
  rw [List.getD_eq_getElem?_getD, List.getD_eq_getElem?_getD, List.getElem?_dropLast, if_pos (by omega)]
theorem out_ev {cap : Nat} {S : List Pp} {R : List Int} (hi : InvA cap S R) {op key : Int} (he : evA cap S op key = true) : 0 < R.length ∧ R.length = cap ∧ lastR R = R.getD (R.length - 1) 0 ∧ (outA cap S R op key).2 = R.dropLast := by
  have hc1 := hi.cap1
  have hl := hi.length
  have he' := he
  unfold evA at he'
  simp only [Bool.and_eq_true, decide_eq_true_eq] at he'
  have hRne : R ≠ [] := fun e => by rw [e] at hl; simp at hl; omega
  obtain ⟨g1, g2⟩ := fgt_last hi.nodup hRne
  refine ⟨by omega, by omega, g2, ?_⟩
  unfold outA
  rw [he]
  exact g1
theorem out_no {cap : Nat} {S : List Pp} {R : List Int} {op key : Int} (he : evA cap S op key = false) : (outA cap S R op key).2 = R := by
  unfold outA
  rw [he]
  rfl
theorem evA_iff {cap : Nat} {S : List Pp} {R : List Int} (hi : InvA cap S R) (op key : Int) : evA cap S op key = (decide (op = 2 ∨ op = 4) && !decide (key ∈ R) && decide (R.length = cap)) := by
  unfold evA
  rw [hi.length]
  have : hitS key S = decide (key ∈ R) := by
    have := hi.hit key
    cases hh : hitS key S with
    | true => rw [hh] at this; exact (decide_eq_true (this.1 rfl)).symm
    | false => rw [hh] at this; exact (decide_eq_false (fun e => by have := this.2 e; cases this)).symm
  rw [this]
theorem tchA_iff {cap : Nat} {S : List Pp} {R : List Int} (hi : InvA cap S R) (op key : Int) : tchA S op key = (decide (op = 2 ∨ op = 4) || (decide (op = 0) && decide (key ∈ R))) := by
  unfold tchA
  have : hitS key S = decide (key ∈ R) := by
    have := hi.hit key
    cases hh : hitS key S with
    | true => rw [hh] at this; exact (decide_eq_true (this.1 rfl)).symm
    | false => rw [hh] at this; exact (decide_eq_false (fun e => by have := this.2 e; cases this)).symm
  rw [this]
theorem doA_ev {cap : Nat} {S : List Pp} {R : List Int} {op key : Int} (he : evA cap S op key = true) (val : Int) : ∃ E f x u S' R', doA cap S R op key val = (⟨E, f, x, true, lastR R, u⟩, S', R') := by
  unfold doA
  rw [he]
  exact ⟨_, _, _, _, _, _, rfl⟩
theorem doA_no {cap : Nat} {S : List Pp} {R : List Int} {op key : Int} (he : evA cap S op key = false) (val : Int) : ∃ E f x S' R', doA cap S R op key val = (⟨E, f, x, false, 0, 0⟩, S', R') := by
  unfold doA
  rw [he]
  exact ⟨_, _, _, _, _, rfl⟩
end Go.Proofs.Ytoaceadfdelgfaa
