/-
  SpanHolds: what its walk carries from world to world, and the plain facts that it asks for.
-/
import Derived.Test.YtammakfpmimljaaS6WHoldsN
import Derived.Test.YtammakfpmimljaaS6WJoins
namespace Go.Proofs.Ytammakfpmimljaa
open Go.RowKit
set_option linter.unusedVariables false
set_option maxRecDepth 20000

def three (a A x : Int) (k : Nat) : Int := if k = 0 then a else if k = 1 then A else x
theorem three_in {a A x : Int} (h : a ≤ x ∧ x ≤ A) (k : Nat) : a ≤ three a A x k ∧ three a A x k ≤ A := by
  unfold three
  split
  · omega
  · split <;> omega
theorem hold_do {op a A b B u v : Int} (hop : 1 ≤ op ∧ op ≤ 10) (ha : W64 a) (hA : W64 A) (hb : W64 b) (hB : W64 B) (hu : a ≤ u ∧ u ≤ A) (hv : b ≤ v ∧ v ≤ B) :
    ∃ s S n, Hid (doR op a A b B = some (s, S)) ∧ Hid (true = decide (s ≤ S)) ∧ Hid (true = hasB s S n) ∧ Hid (n = doL op u v) := by
  have h1 := span_sound hop ha.1 hA.2 hb.1 hB.2 hu hv
  refine ⟨(spanL op a A b B).1, (spanL op a A b B).2, doL op u v, ?_, ?_, ?_, rfl⟩
  · show _ = _; unfold doR; rw [if_pos ⟨hop, by omega, by omega⟩]
  · show _ = _; exact (decide_eq_true (by omega)).symm
  · show _ = _
    unfold hasB
    rw [decide_eq_true (show (spanL op a A b B).1 ≤ (spanL op a A b B).2 by omega), decide_eq_true h1.1, decide_eq_true h1.2]
    rfl
theorem hold_ref {op a A b B u v : Int} (hop : 16 ≤ op ∧ op ≤ 19) (hu : a ≤ u ∧ u ≤ A) (hv : b ≤ v ∧ v ≤ B) :
    ∃ s S h, Hid (refineR op a A b B h = some (s, S)) ∧ Hid (true = hasB s S u) ∧ Hid (true = withinB s S a A) ∧ Hid (h = holdL op u v) := by
  obtain ⟨l, m, h0, h1, h2, h3, h4⟩ := refine_sound hop hu hv rfl
  refine ⟨l, m, holdL op u v, ?_, ?_, ?_, rfl⟩
  · show _ = _; unfold refineR; rw [if_pos ⟨hop, by omega, by omega⟩]; exact h0
  · show _ = _
    unfold hasB
    rw [decide_eq_true (show l ≤ m by omega), decide_eq_true h1, decide_eq_true h2]
    rfl
  · show _ = _
    unfold withinB hasB
    rw [decide_eq_true (show l ≤ m by omega), decide_eq_true (show a ≤ A by omega), decide_eq_true h3, decide_eq_true (show l ≤ A by omega), decide_eq_true (show a ≤ m by omega), decide_eq_true h4]
    rfl
/-- What stands in memory behind the two slices: the spans and the numbers. -/
def HSt (wr : World) (pa pb px py : Nat) (a A b B x y : Int) : Prop := (wr.cell? ⟨pa, 0, none⟩ = some (.int .u64 a) ∧ wr.cell? ⟨pa, 1, none⟩ = some (.int .u64 A)) ∧ (wr.cell? ⟨pb, 0, none⟩ = some (.int .u64 b) ∧ wr.cell? ⟨pb, 1, none⟩ = some (.int .u64 B)) ∧ (∀ k : Nat, k < 3 → wr.cell? ⟨px, k, none⟩ = some (.int .u64 (three a A x k))) ∧ (∀ k : Nat, k < 3 → wr.cell? ⟨py, k, none⟩ = some (.int .u64 (three b B y k)))
theorem HSt.next {w w' : World} {pa pb px py : Nat} {a A b B x y : Int} (h : HSt w pa pb px py a A b B x y) (hb : Below w.heap.size w w') : HSt w' pa pb px py a A b B x y :=
  ⟨⟨cell_next h.1.1 hb, cell_next h.1.2 hb⟩, ⟨cell_next h.2.1.1 hb, cell_next h.2.1.2 hb⟩, fun k hk => cell_next (h.2.2.1 k hk) hb, fun k hk => cell_next (h.2.2.2 k hk) hb⟩
theorem HSt.al {w : World} {pa pb px py : Nat} {a A b B x y : Int} (h : HSt w pa pb px py a A b B x y) (o : Obj) : HSt (w.alloc o) pa pb px py a A b B x y := h.next ((Below.refl _ _).alloc (Nat.le_refl _) o)
theorem HSt.dr {w : World} {pa pb px py : Nat} {a A b B x y : Int} (h : HSt w pa pb px py a A b B x y) : HSt w.drew pa pb px py a A b B x y := h.next (below_dr (Below.refl _ _))
theorem join_two (x X y Y : Int) (hx : x ≤ X) (hy : y ≤ Y) : (if joinB [(x, X), (y, Y)] = true then some (joinL [(x, X), (y, Y)]) else none) = some (min x y, max X Y) := by
  have h : joinB [(x, X), (y, Y)] = true := by
    unfold joinB
    simp [okS, hx, hy]
  rw [if_pos h]
  unfold joinL
  rw [if_pos h]
  rfl
theorem hold_join {v : Value} {a A b B l L : Int} (HL : Hid (l = min a b ∧ L = max A B)) (w : World) (hs : SeesS w v [(a, A), (b, B)]) (hx : a ≤ A) (hy : b ≤ B) (ha : W64 a) (hA : W64 A) (hb : W64 b) (hB : W64 B) :
    Calls Try.prog 18 #[v] w fun e w' => e = .returned (.tuple #[.agg #[.int .u64 l, .int .u64 L], .bool true]) ∧ Below w.heap.size w w' := by
  have h1 := ljoin_any v [(a, A), (b, B)] w hs (by
    intro s hs
    simp at hs
    rcases hs with rfl | rfl
    · exact ⟨ha, hA⟩
    · exact ⟨hb, hB⟩)
  rw [join_two a A b B hx hy, ← HL.out.1, ← HL.out.2] at h1
  exact h1
/-- The meet has just the numbers that both have. -/
theorem hold_meet (a A b B : Int) (hx : a ≤ A) (hy : b ≤ B) : ∃ p q c, Hid (optV (meetO a A b B) = .tuple #[.agg #[.int .u64 p, .int .u64 q], .bool c]) ∧ Hid (∀ x, a ≤ x → x ≤ A → hasB b B x = (c && hasB p q x)) := by
  by_cases h : max a b ≤ min A B
  · refine ⟨max a b, min A B, true, ?_, fun x h1 h2 => ?_⟩
    · show _ = _; unfold meetO; rw [if_pos h]; rfl
    · rw [Bool.eq_iff_iff]
      simp [hasB]
      omega
  · refine ⟨0, 0, false, ?_, fun x h1 h2 => ?_⟩
    · show _ = _; unfold meetO; rw [if_neg h]; rfl
    · rw [Bool.eq_iff_iff]
      simp [hasB]
      omega
theorem hold_has {a A x : Int} (h : a ≤ x ∧ x ≤ A) : Hid (true = hasB a A x) := by
  show _ = _
  unfold hasB
  rw [decide_eq_true (show a ≤ A by omega), decide_eq_true h.1, decide_eq_true h.2]
  rfl
theorem hold_within {a A l L : Int} (h : a ≤ A) (h1 : l ≤ a) (h2 : A ≤ L) : Hid (true = withinB a A l L) := by
  show _ = _
  unfold withinB hasB
  rw [decide_eq_true h, decide_eq_true (show l ≤ L by omega), decide_eq_true h1, decide_eq_true (show a ≤ L by omega), decide_eq_true (show l ≤ A by omega), decide_eq_true h2]
  rfl
end Go.Proofs.Ytammakfpmimljaa
