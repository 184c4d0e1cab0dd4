/-
  What the landed equal and below answer. Condition: spans of numbers of 64 bits.
-/
import Derived.Test.YtammakfpmimljaaS6LRaise
import Derived.Deep.RegionWith
import Derived.Deep.RegionHeldLaw
namespace Go.Proofs.Ytammakfpmimljaa
open Go.RowKit
set_option linter.unusedVariables false
set_option maxRecDepth 20000

def meetO (x X y Y : Int) : Option (Int × Int) := if max x y ≤ min X Y then some (max x y, min X Y) else none
theorem meet_two (x X y Y : Int) : (if meetB [(x, X), (y, Y)] = true then some (meetL [(x, X), (y, Y)]) else none) = meetO x X y Y := by
  have h1 := meet_cross (ss := [(x, X), (y, Y)]) (by simp)
  have e1 : loM [(x, X), (y, Y)] = max x y := rfl
  have e2 : hiM [(x, X), (y, Y)] = min X Y := rfl
  rw [e1, e2] at h1
  unfold meetO
  by_cases h : max x y ≤ min X Y
  · rw [decide_eq_true h] at h1
    rw [if_pos h1, if_pos h]
    unfold meetL
    rw [if_pos h1, e1, e2]
  · rw [decide_eq_false h] at h1
    rw [if_neg (by rw [h1]; simp), if_neg h]
theorem optV_as (o : Option (Int × Int)) : ∃ x y c, Hid (optV o = .tuple #[.agg #[.int .u64 x, .int .u64 y], .bool c]) := by
  cases o with
  | none => exact ⟨0, 0, false, rfl⟩
  | some p => exact ⟨p.1, p.2, true, rfl⟩
theorem two_meet {x X y Y p q : Int} {c : Bool} (h : Hid (optV (meetO x X y Y) = .tuple #[.agg #[.int .u64 p, .int .u64 q], .bool c])) (v : Value) (w : World) (hs : SeesS w v [(x, X), (y, Y)]) (hx : W64 x) (hX : W64 X) (hy : W64 y) (hY : W64 Y) :
    Calls Try.prog 20 #[v] w fun e w' => e = .returned (.tuple #[.agg #[.int .u64 p, .int .u64 q], .bool c]) ∧ Below w.heap.size w w' := by
  have h1 := lmeet_any v [(x, X), (y, Y)] w hs (by
    intro s hs
    simp at hs
    rcases hs with rfl | rfl
    · exact ⟨hx, hX⟩
    · exact ⟨hy, hY⟩)
  rw [meet_two, h.out] at h1
  exact h1
/-- Two boxes, a list behind them, a call. -/
theorem second3 {w w1 : World} {o1 o3 : Obj} (hb1 : Below (((w.alloc o1).alloc (spO 0 0)).alloc o3).heap.size (((w.alloc o1).alloc (spO 0 0)).alloc o3) w1) : Bx w1 (w.heap.size + 1) 0 0 ∧ Below w.heap.size w w1 ∧ w.heap.size + 1 < w1.heap.size :=
  ⟨Bx.below ⟨⟨by go_cell, by go_cell⟩, by go_simp, by go_simp⟩ hb1 (by simp), boxS_below (boxS_below (boxS_below hb1)), Nat.lt_of_lt_of_le (by simp) hb1.size⟩
theorem lbelow_from (a A n : Int) (w : World) (ha : W64 a) (hA : W64 A) (hn : W64 n) :
    Calls Try.prog 44 #[.agg #[.int .u64 a, .int .u64 A], .int .u64 n, .bool false] w fun e w' => e = .returned (optV (meetO a A n 18446744073709551615)) ∧ Below w.heap.size w w' := by
  obtain ⟨p, q, c, HP⟩ := optV_as (meetO a A n 18446744073709551615)
  rw [HP.out]
  go_enter Try.func44, Try.ntmps44
  go_wp2_with (go_at_call 20; go_must (refine (two_meet HP _ _ (sees_two _ _ a A n 18446744073709551615 _ (by simp)) ha hA hn ⟨by decide, by decide⟩).mono ?_); rintro e w1 ⟨rfl, hb1⟩; go_must (obtain ⟨⟨⟨r0, r1⟩, f0, f1⟩, hbe, hz⟩ := second3 hb1; have HT : Hid _ := set_two (x := .int .u64 p) (y := .int .u64 q) r0 r1; clear hb1))
  refine bodyPost_ret (v := .tuple #[.agg #[.int .u64 p, .int .u64 q], .bool c]) ?_ rfl ⟨rfl, below_set (below_set hbe (by omega)) (by omega)⟩
  rw [results_cell_tmp rfl]
  simp [asAddr, Result.andThen]
  rw [run_boxS HT.out.1 HT.out.2]
theorem lbelow_zero (a A : Int) (w : World) :
    Calls Try.prog 44 #[.agg #[.int .u64 a, .int .u64 A], .int .u64 0, .bool true] w fun e w' => e = .returned (optV none) ∧ Below w.heap.size w w' := by
  go_enter Try.func44, Try.ntmps44
  go_wp2
  refine bodyPost_ret (v := optV none) ?_ rfl ⟨rfl, by go_grown⟩
  rw [results_cell_tmp rfl]
  simp [asAddr, Result.andThen]
  rw [run_boxS (a := 0) (A := 0)]
  · rfl
  all_goals go_cell
theorem lbelow_less (a A n : Int) (w : World) (ha : W64 a) (hA : W64 A) (hn : W64 n) (hn0 : (n == 0) = false) :
    Calls Try.prog 44 #[.agg #[.int .u64 a, .int .u64 A], .int .u64 n, .bool true] w fun e w' => e = .returned (optV (meetO a A 0 (n - 1))) ∧ Below w.heap.size w w' := by
  obtain ⟨p, q, c, HP⟩ := optV_as (meetO a A 0 (n - 1))
  rw [HP.out]
  have hn1 : n ≠ 0 := by simpa using hn0
  have hn' : 0 ≤ n ∧ n ≤ 18446744073709551615 := hn
  have hX : IntKind.u64.wrap (n - 1) = n - 1 := wrap_in (by omega) (by omega)
  have HW : Hid (W64 (n - 1)) := ⟨by omega, by omega⟩
  go_enter Try.func44, Try.ntmps44
  go_wp2_with (go_at_call 20; go_must (refine (two_meet HP _ _ (sees_two _ _ a A 0 (n - 1) _ (by simp)) ha hA ⟨by decide, by decide⟩ HW.out).mono ?_); rintro e w1 ⟨rfl, hb1⟩; go_must (obtain ⟨⟨⟨r0, r1⟩, f0, f1⟩, hbe, hz⟩ := second3 hb1; have HT : Hid _ := set_two (x := .int .u64 p) (y := .int .u64 q) r0 r1; clear hb1))
  refine bodyPost_ret (v := .tuple #[.agg #[.int .u64 p, .int .u64 q], .bool c]) ?_ rfl ⟨rfl, below_set (below_set hbe (by omega)) (by omega)⟩
  rw [results_cell_tmp rfl]
  simp [asAddr, Result.andThen]
  rw [run_boxS HT.out.1 HT.out.2]
end Go.Proofs.Ytammakfpmimljaa
