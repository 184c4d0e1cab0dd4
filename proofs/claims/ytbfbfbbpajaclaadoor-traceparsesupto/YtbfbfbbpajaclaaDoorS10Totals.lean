
/-
  The landed scratch: Totals. Condition: the scratches lie where the pointers say.
-/
import Derived.Test.YtbfbfbbpajaclaaDoorS10Raise
namespace Go.Proofs.YtbfbfbbpajaclaaDoor
open Go.RowKit
set_option linter.unusedVariables false
set_option linter.unusedSimpArgs false
set_option maxRecDepth 100000

/-- Sums, the first k places. -/
def sumU (a cs : List Int) (k : Nat) : List Int := raiseU a cs k
def sumL (a cs : List Int) : List Int := raiseL a cs
def totStep (a : List Int) : Option (List Int) → List Int
  | none => a
  | some cs => sumL a cs
def totL (ss : List (Option (List Int))) : List Int := ss.foldl totStep nought
theorem tot_len (ss : List (Option (List Int))) : (totL ss).length = 16 := by
  unfold totL
  have : ∀ (ss : List (Option (List Int))) (a : List Int), a.length = 16 → (ss.foldl totStep a).length = 16 := by
    intro ss
    induction ss with
    | nil => intro a h; exact h
    | cons o ss ih =>
      intro a h
      refine ih _ ?_
      cases o with
      | none => exact h
      | some cs => exact raiseU_len _ _ _
  exact this ss _ rfl
theorem tot_take (ss : List (Option (List Int))) {k : Nat} (h : k < ss.length) : totL (ss.take (k + 1)) = totStep (totL (ss.take k)) (ss.getD k none) := by
  rw [show ss.take (k + 1) = ss.take k ++ [ss.getD k none] from by rw [List.take_succ_eq_append_getElem h]; simp [List.getD, h]]
  unfold totL
  rw [List.foldl_append]
  rfl
theorem nums_one (cs : List Int) : ∀ v ∈ nums cs, v.oneCell' = true := by
  intro v hv
  obtain ⟨x, _, rfl⟩ := List.mem_map.1 hv
  rfl
theorem own16 (w : World) : (w.alloc (.cells (nums nought).toArray 29)).ownsRow w.heap.size 29 1 (.slice (some ⟨w.heap.size, 0, none⟩) 16 16) 16 (nums nought) := own_lit w w.heap.size 29 (nums nought) w.heap.size rfl (Nat.le_refl _) (by decide)
theorem own_hp {w : World} {g B : Nat} {e : TypeId} {l : List Value} {n : Nat} (h : Hp w g e l) (hB : B ≤ g) (hn : l.length = n) (hm : n ≤ maxLen) : w.ownsRow B e 1 (.slice (some ⟨g, 0, none⟩) n n) n l := by
  subst hn
  exact ⟨by simp, .inr ⟨g, l.length, l.toArray, rfl, hB, h, Nat.le_refl _, hm, by simp, by simp⟩⟩
end Go.Proofs.YtbfbfbbpajaclaaDoor
