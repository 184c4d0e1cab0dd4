
/-
  The document's LRU of layer 14: its rows, one behind the other. No condition.
-/
import Derived.Test.YtpbfgebecgikjaaL14Forget
namespace Go.Proofs.Ytpbfgebecgikjaa
open Go.RowKit
set_option linter.unusedVariables false
set_option linter.unusedSimpArgs false
set_option maxRecDepth 100000

/-- As Rl, but keys and times may differ. -/
structure Rl2 (w : World) (B l b cap : Nat) (vd vk vw : Value) (D : List Pp) (k1 k2 : List Kp) (c : Int) : Prop where
  hp : Hp w l 96 [.pointer (some ⟨b, 0, none⟩), vk, vw, .int .i64 c]
  bk : Rb w B b cap vd D
  ks : w.ownsRow B 41 1 vk k1.length (flatG kC k1)
  ws : w.ownsRow B 3 1 vw k2.length (flatG tC k2)
/-- What a step leaves: what may have changed, where it lies, boxes of answers. -/
def StepR (w w' : World) (l b : Nat) (vd vk vw vd' vk' vw' : Value) : Prop := Chg w w' (footR l b vd vk vw) ∧ (∀ k, footR l b vd' vk' vw' k → footR l b vd vk vw k ∨ w.heap.size ≤ k) ∧ ∀ n cs, Hp w n 47 cs → Hp w' n 47 cs
section
variable {w : World} {B l b cap : Nat} {vd vk vw : Value} {D : List Pp} {kt k1 k2 : List Kp} {c : Int}
theorem Rl.two (h : Rl w B l b cap vd vk vw D kt c) : Rl2 w B l b cap vd vk vw D kt kt c := ⟨h.hp, h.bk, h.ks, h.ws⟩
theorem Rl2.one (h : Rl2 w B l b cap vd vk vw D kt kt c) : Rl w B l b cap vd vk vw D kt c := ⟨h.hp, h.bk, h.ks, h.ws⟩
theorem Rl2.drew (h : Rl2 w B l b cap vd vk vw D k1 k2 c) : Rl2 w.drew B l b cap vd vk vw D k1 k2 c := ⟨h.hp.drew, h.bk.drew, h.ks, h.ws⟩
theorem StepR.trans {w1 w2 : World} {vd1 vk1 vw1 vd2 vk2 vw2 : Value} (h : StepR w w1 l b vd vk vw vd1 vk1 vw1) (g : StepR w1 w2 l b vd1 vk1 vw1 vd2 vk2 vw2) : StepR w w2 l b vd vk vw vd2 vk2 vw2 := by
  obtain ⟨h1, h2, h3⟩ := h
  obtain ⟨g1, g2, g3⟩ := g
  refine ⟨h1.trans g1 (fun k hk e => ?_), fun k hk => ?_, fun n cs hp => g3 n cs (h3 n cs hp)⟩
  · rcases h2 k e with q | q
    · exact q
    · omega
  · rcases g2 k hk with q | q
    · exact h2 k q
    · exact .inr (Nat.le_trans h1.size q)
theorem StepR.undrew {w1 : World} {vd1 vk1 vw1 : Value} (h : StepR w.drew w1 l b vd vk vw vd1 vk1 vw1) : StepR w w1 l b vd vk vw vd1 vk1 vw1 := ⟨⟨h.1.os, h.1.tape, h.1.output, h.1.size, h.1.block⟩, h.2.1, h.2.2⟩
theorem StepR.below {w1 : World} (hb : Below w.heap.size w w1) : StepR w w1 l b vd vk vw vd vk vw := ⟨Chg.of_below hb, fun k hk => .inl hk, fun n cs hp => hp.below hb hp.lt⟩
theorem StepR.next {w1 : World} {vd1 vk1 vw1 : Value} {D1 : List Pp} {kt1 : List Kp} {c1 : Int} (h : StepR w w1 l b vd vk vw vd1 vk1 vw1) (hr : Rl w1 B l b cap vd1 vk1 vw1 D1 kt1 c1) : RlNext w B l b cap vd vk vw D1 kt1 c1 w1 := ⟨vd1, vk1, vw1, hr, h.1, h.2.1⟩
/-- The clock. -/
theorem Rl2.clock (h : Rl2 w B l b cap vd vk vw D k1 k2 c) (c' : Int) : Rl2 (w.setCell ⟨l, 3, none⟩ (.int .i64 c')) B l b cap vd vk vw D k1 k2 c' ∧ StepR w (w.setCell ⟨l, 3, none⟩ (.int .i64 c')) l b vd vk vw vd vk vw := by
  have hc := Chg.set w l 3 (.int .i64 c')
  exact ⟨⟨h.hp.set 3 _, h.bk.chg hc (fun e => hp_type h.bk.hp h.hp (by decide) e) (fun k hk e => by subst e; exact own_type10 h.bk.row h.hp (by decide) hk), own_chg h.ks hc (fun k hk e => by subst e; exact own_type10 h.ks h.hp (by decide) hk), own_chg h.ws hc (fun k hk e => by subst e; exact own_type10 h.ws h.hp (by decide) hk)⟩, hc.mono (fun k e => .inl e), fun k hk => .inl hk, fun n cs hp => hp.chg hc (fun e => hp_type hp h.hp (by decide) e)⟩
/-- A key more. -/
theorem Rl2.keys {w' : World} {o : Obj} {v1 : Value} {k1' : List Kp} {n0 : Nat} (h : Rl2 w B l b cap vd vk vw D k1 k2 c) (hgr : (w.alloc o).grownBy w' vk.ownBlock) (hown : w'.ownsRow B 41 1 v1 k1'.length (flatG kC k1')) (hnew : v1.ownBlock = vk.ownBlock ∨ v1.ownBlock = some n0) (hn0 : w.heap.size ≤ n0) : Rl2 (w'.setCell ⟨l, 1, none⟩ v1) B l b cap vd v1 vw D k1' k2 c ∧ StepR w (w'.setCell ⟨l, 1, none⟩ v1) l b vd vk vw vd v1 vw := by
  have hA := chg_append hgr
  have hll := h.hp.lt
  have hp1 := h.hp.chg hA (own_type10 h.ks h.hp (by decide))
  have bk1 := h.bk.chg hA (own_type10 h.ks h.bk.hp (by decide)) (fun k hk e => own_twoG h.bk.row h.ks (by decide) k hk e)
  have ws1 := own_chg h.ws hA (fun k hk e => own_twoG h.ws h.ks (by decide) k hk e)
  have hc := Chg.set w' l 1 v1
  have hv1 : v1.ownBlock ≠ some l := own_type10 hown hp1 (by decide)
  refine ⟨⟨hp1.set 1 v1, bk1.chg hc (fun e => hp_type bk1.hp hp1 (by decide) e) (fun k hk e => by subst e; exact own_type10 bk1.row hp1 (by decide) hk), own_chg hown hc (fun k hk e => by subst e; exact hv1 hk), own_chg ws1 hc (fun k hk e => by subst e; exact own_type10 ws1 hp1 (by decide) hk)⟩, (hA.mono (fun k e => .inr (.inr (.inr (.inl e))))).trans hc (fun k _ e => .inl e), fun k hk => ?_, fun n cs hp => (hp.chg hA (own_type10 h.ks hp (by decide))).chg hc (fun e => hp_type hp h.hp (by decide) e)⟩
  rcases hk with e | e | e | e | e
  · exact .inl (.inl e)
  · exact .inl (.inr (.inl e))
  · exact .inl (.inr (.inr (.inl e)))
  · rcases hnew with q | q
    · exact .inl (.inr (.inr (.inr (.inl (by rw [← q]; exact e)))))
    · rw [q] at e
      have := Option.some.inj e
      exact .inr (by omega)
  · exact .inl (.inr (.inr (.inr (.inr e))))
/-- A time more. -/
theorem Rl2.whens {w' : World} {o : Obj} {v1 : Value} {k2' : List Kp} {n0 : Nat} (h : Rl2 w B l b cap vd vk vw D k1 k2 c) (hgr : (w.alloc o).grownBy w' vw.ownBlock) (hown : w'.ownsRow B 3 1 v1 k2'.length (flatG tC k2')) (hnew : v1.ownBlock = vw.ownBlock ∨ v1.ownBlock = some n0) (hn0 : w.heap.size ≤ n0) : Rl2 (w'.setCell ⟨l, 2, none⟩ v1) B l b cap vd vk v1 D k1 k2' c ∧ StepR w (w'.setCell ⟨l, 2, none⟩ v1) l b vd vk vw vd vk v1 := by
  have hA := chg_append hgr
  have hll := h.hp.lt
  have hp1 := h.hp.chg hA (own_type10 h.ws h.hp (by decide))
  have bk1 := h.bk.chg hA (own_type10 h.ws h.bk.hp (by decide)) (fun k hk e => own_twoG h.bk.row h.ws (by decide) k hk e)
  have ks1 := own_chg h.ks hA (fun k hk e => own_twoG h.ks h.ws (by decide) k hk e)
  have hc := Chg.set w' l 2 v1
  have hv1 : v1.ownBlock ≠ some l := own_type10 hown hp1 (by decide)
  refine ⟨⟨hp1.set 2 v1, bk1.chg hc (fun e => hp_type bk1.hp hp1 (by decide) e) (fun k hk e => by subst e; exact own_type10 bk1.row hp1 (by decide) hk), own_chg ks1 hc (fun k hk e => by subst e; exact own_type10 ks1 hp1 (by decide) hk), own_chg hown hc (fun k hk e => by subst e; exact hv1 hk)⟩, (hA.mono (fun k e => .inr (.inr (.inr (.inr e))))).trans hc (fun k _ e => .inl e), fun k hk => ?_, fun n cs hp => (hp.chg hA (own_type10 h.ws hp (by decide))).chg hc (fun e => hp_type hp h.hp (by decide) e)⟩
  rcases hk with e | e | e | e | e
  · exact .inl (.inl e)
  · exact .inl (.inr (.inl e))
  · exact .inl (.inr (.inr (.inl e)))
  · exact .inl (.inr (.inr (.inr (.inl e))))
  · rcases hnew with q | q
    · exact .inl (.inr (.inr (.inr (.inr (by rw [← q]; exact e)))))
    · rw [q] at e
      have := Option.some.inj e
      exact .inr (by omega)
end
end Go.Proofs.Ytpbfgebecgikjaa
