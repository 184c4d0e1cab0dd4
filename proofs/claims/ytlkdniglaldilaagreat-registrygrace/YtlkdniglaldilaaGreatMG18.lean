
/-
 Slices of instructions, whatever the program does with them: their cells one behind the other, an append of one to an own one. No Go text in sight.
-/
import Derived.Test.YtlkdniglaldilaaGreatMG17
import Derived.Test.YtlkdniglaldilaaGreatMG3
import Derived.Laws.AppendOwn
import Derived.Laws.OwnMore
namespace Go.Proofs.YtlkdniglaldilaaGreat
open Go.RowKit
set_option linter.unusedVariables false
set_option maxRecDepth 100000

def flat (xs : List In) : List Value := xs.flatMap In.cells
theorem flat_at : ∀ (xs : List In) (k j : Nat), k < xs.length -> j < 5 -> (flat xs)[k * 5 + j]? = (xs.getD k In.nil).cells[j]?
 | [], k, j, hk, _ => by simp at hk
 | x :: xs, 0, j, _, hj => by
  have e : flat (x :: xs) = x.cells ++ flat xs := rfl
  rw [e, List.getElem?_append_left (by simp [In.cells]; omega)]
  simp
 | x :: xs, k + 1, j, hk, hj => by
  have e : flat (x :: xs) = x.cells ++ flat xs := rfl
  have hl : x.cells.length = 5 := rfl
  rw [e, List.getElem?_append_right (by rw [hl]; omega), hl, show (k + 1) * 5 + j - 5 = k * 5 + j by omega, flat_at xs k j (by simpa using hk) hj]
  simp [List.getD]
theorem cells_at {w : World} {b off : Nat} {i : In} (h : ∀ j, j < 5 -> w.cell? ⟨b, off + j, none⟩ = i.cells[j]?) : At w b off i := ⟨h 0 (by omega), h 1 (by omega), h 2 (by omega), h 3 (by omega), h 4 (by omega)⟩
theorem flat_one (xs : List In) : ∀ u ∈ flat xs, u.oneCell' = true := by
 intro u hu
 simp only [flat, List.mem_flatMap] at hu
 obtain ⟨i, _, hi⟩ := hu
 simp only [In.cells, List.mem_cons, List.not_mem_nil, or_false] at hi
 rcases hi with rfl | rfl | rfl | rfl | rfl <;> rfl
theorem own_seesI {w : World} {base : Nat} {e : TypeId} {v : Value} {xs : List In} (h : w.ownsRow base e 5 v xs.length (flat xs)) : SeesI w v xs := by
 have h0 := h
 rcases h with ⟨h1, ⟨rfl, h2⟩ | ⟨g, cap, cur, rfl, hb, hh, h3, h4, h5, h6⟩⟩
 ·have : xs = [] := List.eq_nil_of_length_eq_zero h2
  subst this
  exact ⟨none, 0, rfl, by simp, by simp [maxLen], fun _ => rfl, fun h => absurd rfl h⟩
 ·refine ⟨_, cap, rfl, h3, h4, fun h => by simp at h, fun hne => ⟨g, 0, rfl, (Array.getElem?_eq_some_iff.1 hh).1, fun k hk => cells_at fun j hj => ?_⟩⟩
  rw [Nat.zero_add, h0.cellAt (k * 5 + j) (by omega)]
  exact flat_at xs k j hk hj
end Go.Proofs.YtlkdniglaldilaaGreat
