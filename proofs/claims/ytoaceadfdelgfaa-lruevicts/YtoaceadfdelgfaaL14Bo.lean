
/-
  The landed book of layer 13 as an object. Condition: what is said of it.
-/
import Derived.Test.YtoaceadfdelgfaaGObj
import Derived.Test.YtoaceadfdelgfaaB13LTail
namespace Go.Proofs.Ytoaceadfdelgfaa
open Go.RowKit
set_option linter.unusedVariables false
set_option linter.unusedSimpArgs false
set_option maxRecDepth 100000

/-- The landed book. -/
def Bo (w : World) (B b cap : Nat) (S : List Pp) (F : Ft) : Prop := ∃ v, Lb w B b cap v S ∧ F = bkS b v
section
variable {w w' : World} {B b cap : Nat} {S : List Pp} {F G : Ft}
theorem Bo.lies (h : Bo w B b cap S F) : Lies w F := by
  obtain ⟨v, h1, rfl⟩ := h
  intro k hk
  rcases hk with e | e
  · rw [e]; exact h1.hp.lt
  · exact (h1.row.lt k e).2
theorem Bo.keeps (h : Bo w B b cap S F) (hc : Chg w w' G) (ha : Apt G F) : Bo w' B b cap S F := by
  obtain ⟨v, h1, rfl⟩ := h
  exact ⟨v, h1.chg hc (fun e => ha b e (.inl rfl)) (fun k hk e => ha k e (.inr hk)), rfl⟩
theorem Bo.below (h : Bo w B b cap S F) (hb : Below w.heap.size w w') : Bo w' B b cap S F := by
  obtain ⟨v, h1, rfl⟩ := h
  exact ⟨v, h1.below hb, rfl⟩
theorem Bo.do_any (op key val : Int) (h : Bo w B b cap S F) (hl : S.length ≤ cap) (hc16 : cap ≤ 16) (hB : B ≤ w.heap.size) :
    Calls Try.prog 24 #[.pointer (some ⟨b, 0, none⟩), .int .i64 op, .int .u64 key, .int .u64 val] w fun e w' => e = .returned (resG (doS cap S op key val).1.E (doS cap S op key val).1.f (doS cap S op key val).1.v false 0 0) ∧ ∃ F', Bo w' B b cap (doS cap S op key val).2 F' ∧ Nx w w' F F' := by
  obtain ⟨v, h1, rfl⟩ := h
  refine (ldo_any op key val h1 hl hc16 hB).mono ?_
  rintro e w' ⟨rfl, v', g1, g2, g3⟩
  refine ⟨rfl, _, ⟨v', g1, rfl⟩, g2, fun k hk => ?_⟩
  rcases hk with e | e
  · exact .inl (.inl e)
  · rcases g3 with q | ⟨j, q, qj⟩
    · exact .inl (.inr (by rw [← q]; exact e))
    · rw [q] at e
      have := Option.some.inj e
      exact .inr (by omega)
end
end Go.Proofs.Ytoaceadfdelgfaa
