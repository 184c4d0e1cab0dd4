
/-
 Loops as values, and slices of them: what a slice reads as, an append to an own one, a cut. No condition.
-/
import Derived.Test.YtkondcjmhlppiaaGreatMW22
import Derived.Test.YtkondcjmhlppiaaGreatMW6
import Derived.Deep.MidRow
namespace Go.Proofs.YtkondcjmhlppiaaGreat
open Go.RowKit
set_option linter.unusedVariables false
set_option maxRecDepth 100000

abbrev lpV (l : Lp) : Value := .agg #[.int .i64 l.h, .int .i64 l.t, .int .i64 l.b]
abbrev lpC (l : Lp) : List Value := [.int .i64 l.h, .int .i64 l.t, .int .i64 l.b]
abbrev lpO (l : Lp) : Obj := .cells #[.int .i64 l.h, .int .i64 l.t, .int .i64 l.b] 143
def AtL (w : World) (b off : Nat) (l : Lp) : Prop := w.cell? ⟨b, off, none⟩ = some (.int .i64 l.h) /\ w.cell? ⟨b, off + 1, none⟩ = some (.int .i64 l.t) /\ w.cell? ⟨b, off + 2, none⟩ = some (.int .i64 l.b)
theorem AtL.below {w w' : World} {b off B : Nat} {l : Lp} (h : AtL w b off l) (hb : Below B w w') (hB : b < B) : AtL w' b off l := by
 unfold AtL
 rw [hb.cell (p := ⟨b, off, none⟩) hB, hb.cell (p := ⟨b, off + 1, none⟩) hB, hb.cell (p := ⟨b, off + 2, none⟩) hB]
 exact h
def SeesL (w : World) (v : Value) (xs : List Lp) : Prop :=
 ∃ a cap, v = .slice a xs.length cap /\ xs.length <= cap /\ cap <= maxLen /\ (a = none -> cap = 0) /\
  (xs ≠ [] -> ∃ b off, a = some ⟨b, off, none⟩ /\ b < w.heap.size /\ ∀ k, k < xs.length -> AtL w b (off + k * 3) (xs.getD k Lp.nil))
theorem SeesL.below {w w' : World} {v : Value} {xs : List Lp} (h : SeesL w v xs) (hb : Below w.heap.size w w') : SeesL w' v xs := by
 obtain ⟨a, cap, rfl, h1, h2, h3, h4⟩ := h
 refine ⟨a, cap, rfl, h1, h2, h3, fun hne => ?_⟩
 obtain ⟨b, off, rfl, hlt, hat⟩ := h4 hne
 exact ⟨b, off, rfl, Nat.lt_of_lt_of_le hlt hb.size, fun k hk => (hat k hk).below hb hlt⟩
def flatL (xs : List Lp) : List Value := xs.flatMap lpC
theorem flatL_app (l m : List Lp) : flatL l ++ flatL m = flatL (l ++ m) := by simp [flatL]
theorem flatL_at : ∀ (xs : List Lp) (k j : Nat), k < xs.length -> j < 3 -> (flatL xs)[k * 3 + j]? = (lpC (xs.getD k Lp.nil))[j]?
 | [], k, j, hk, _ => by simp at hk
 | x :: xs, 0, j, _, hj => by
  have e : flatL (x :: xs) = lpC x ++ flatL xs := rfl
  rw [e, List.getElem?_append_left (by simp [lpC]; omega)]
  simp
 | x :: xs, k + 1, j, hk, hj => by
  have e : flatL (x :: xs) = lpC x ++ flatL xs := rfl
  have hl : (lpC x).length = 3 := rfl
  rw [e, List.getElem?_append_right (by rw [hl]; omega), hl, show (k + 1) * 3 + j - 3 = k * 3 + j by omega, flatL_at xs k j (by simpa using hk) hj]
  simp [List.getD]
theorem cells_atL {w : World} {b off : Nat} {p : Lp} (h : ∀ j, j < 3 -> w.cell? ⟨b, off + j, none⟩ = (lpC p)[j]?) : AtL w b off p := ⟨h 0 (by omega), h 1 (by omega), h 2 (by omega)⟩
theorem own_seesL {w : World} {base : Nat} {e : TypeId} {v : Value} {xs : List Lp} (h : w.ownsRow base e 3 v xs.length (flatL xs)) : SeesL w v xs := by
 have h0 := h
 rcases h with ⟨h1, ⟨rfl, h2⟩ | ⟨g, cap, cur, rfl, hb, hh, h3, h4, h5, h6⟩⟩
 ·have : xs = [] := List.eq_nil_of_length_eq_zero h2
  subst this
  exact ⟨none, 0, rfl, by simp, by simp [maxLen], fun _ => rfl, fun h => absurd rfl h⟩
 ·refine ⟨_, cap, rfl, h3, h4, fun h => by simp at h, fun hne => ⟨g, 0, rfl, (Array.getElem?_eq_some_iff.1 hh).1, fun k hk => cells_atL fun j hj => ?_⟩⟩
  rw [Nat.zero_add, h0.cellAt (k * 3 + j) (by omega)]
  exact flatL_at xs k j hk hj
theorem three_new (w : World) (x y z : Value) (t : TypeId) (n : Nat) (hn : n = w.heap.size) : ∀ j u, [x, y, z][j]? = some u -> (w.alloc (.cells #[x, y, z] t)).cell? ((⟨n, 0, none⟩ : Addr).add j) = some u := by
 subst hn
 intro j u hj
 rw [add_none, Nat.zero_add, World.cell?_alloc_at _ _ _ _ rfl]
 exact (List.getElem?_toArray (xs := [x, y, z])).trans hj
theorem three_one (a b c : Int) : ∀ u ∈ [Value.int .i64 a, .int .i64 b, .int .i64 c], u.oneCell' = true := by
 intro u hu
 simp at hu
 rcases hu with rfl | rfl | rfl <;> rfl
def cutL (a : Option Addr) (l h m : Nat) : Value := .slice (if m = l then a else a.map (·.add (l * 3))) (h - l) (m - l)
theorem run_uptoL (a : Option Addr) (len cap i : Nat) (hi : i <= cap) (w : World) :
  (Instr.slice 102 (.slice a len cap) none (some (.int .i64 i)) none).run Tryz.prog w = .ok (cutL a 0 i cap) w := by
 have h0 : (i : Int) <= (cap : Int) := by omega
 simp [Instr.slice, run_underlying Tryz.underlying102, Instr.sliceBounds, run_sliceBound, h0, cutL]
theorem cutL_zero (b off i cap : Nat) : cutL (some ⟨b, off, none⟩) 0 i cap = .slice (some ⟨b, off, none⟩) i cap := by
 unfold cutL
 simp
 intro _
 rw [add_none, Nat.add_zero]
end Go.Proofs.YtkondcjmhlppiaaGreat
