/-
  What the landed raised answers. Condition: right spans of numbers of 64 bits.
-/
import Derived.Test.YtammakfpmimljaaS6LWays
import Derived.Test.YtammakfpmimljaaS6Awake
namespace Go.Proofs.Ytammakfpmimljaa
open Go.RowKit
set_option linter.unusedVariables false
set_option maxRecDepth 20000

theorem sees_one (w : World) (t : TypeId) (x X : Int) (k : Nat) (hk : k = w.heap.size) : SeesS (w.alloc (.cells #[.int .u64 x, .int .u64 X] t)) (.slice (some ⟨k, 0, none⟩) 1 1) [(x, X)] := by
  subst hk
  exact SeesS.lit w t [(x, X)] _ 1 rfl rfl (by simp)
theorem lone_any {r : Bool} {x X : Int} (h : Hid (r = (x == X))) (v : Value) (w : World) (hs : SeesS w v [(x, X)]) : Calls Try.prog 30 #[v] w fun e w' => e = .returned (.bool r) ∧ Below w.heap.size w w' := by
  have h1 := lallSingle_any v [(x, X)] w hs (by simp)
  rw [show [(x, X)].all oneS = r by rw [h.out]; simp [oneS]] at h1
  exact h1
/-- Boxes of three, a list behind them, a call. -/
theorem shift_fit {A P : Int} (hA : 0 ≤ A) (hP : 0 < P) (h : A * P ≤ 18446744073709551615) : IntKind.u64.wrap (A * P) = A * P ∧ (IntKind.u64.wrap (A * P) / P != A) = false := by
  have h0 : 0 ≤ A * P := Int.mul_nonneg hA (by omega)
  have e := wrap_in h0 h
  refine ⟨e, ?_⟩
  rw [e, Int.mul_ediv_cancel _ (by omega)]
  simp
theorem shift_lost {A P : Int} (hA : 0 ≤ A) (hP : 0 < P) (h : ¬ A * P ≤ 18446744073709551615) : (IntKind.u64.wrap (A * P) / P != A) = true := by
  have h0 : IntKind.u64.wrap (A * P) < A * P := by rw [IntKind.wrap_u64]; omega
  have h1 : IntKind.u64.wrap (A * P) / P < A := Int.ediv_lt_of_lt_mul hP h0
  simp
  omega
theorem third4 {w w1 : World} {o1 o2 o4 : Obj} (hb1 : Below ((((w.alloc o1).alloc o2).alloc (spO 0 0)).alloc o4).heap.size ((((w.alloc o1).alloc o2).alloc (spO 0 0)).alloc o4) w1) : Bx w1 (w.heap.size + 1 + 1) 0 0 ∧ Below w.heap.size w w1 ∧ w.heap.size + 1 + 1 < w1.heap.size := by
  refine ⟨Bx.below ⟨⟨by go_cell, by go_cell⟩, by go_simp, by go_simp⟩ hb1 (by simp), boxS_below (boxS_below (boxS_below (boxS_below hb1))), Nat.lt_of_lt_of_le (by simp) hb1.size⟩
theorem first4 {w w1 : World} {o2 o3 o4 : Obj} {a A : Int} (hb1 : Below ((((w.alloc (spO a A)).alloc o2).alloc o3).alloc o4).heap.size ((((w.alloc (spO a A)).alloc o2).alloc o3).alloc o4) w1) : Bx w1 w.heap.size a A := by
  refine Bx.below ⟨⟨by go_cell, by go_cell⟩, by go_simp, by go_simp⟩ hb1 (by simp; omega)
theorem lraised_wide (a A b B : Int) (w : World) (hs : (b == B) = false) :
    Calls Try.prog 37 #[.agg #[.int .u64 a, .int .u64 A], .agg #[.int .u64 b, .int .u64 B]] w fun e w' => e = .returned (aggS (0, 18446744073709551615)) ∧ Below w.heap.size w w' := by
  have HS : Hid (false = (b == B)) := hs.symm
  go_enter Try.func37, Try.ntmps37
  go_wp2_with (first
    | (go_at_call 30; go_must (refine (lone_any HS _ _ (sees_one _ _ b B _ (by simp))).mono ?_); rintro e w1 ⟨rfl, hb1⟩; go_must (obtain ⟨hB, hbe, hz⟩ := third4 hb1; have HB : Hid (Bx w1 (w.heap.size + 1 + 1) 0 0) := hB; clear hb1 hB))
    | (go_at_call 13; go_must (refine (lfull_any _).mono ?_); rintro e w2 ⟨rfl, hb2⟩; go_must (obtain ⟨⟨c0, c1⟩, f0, f1⟩ := HB.out.below hb2 hz; have hbe2 : Below w.heap.size w w2 := hbe.trans (hb2.mono hbe.size); have hz2 := Nat.lt_of_lt_of_le hz hb2.size; have HT : Hid _ := set_two (x := .int .u64 0) (y := .int .u64 18446744073709551615) c0 c1; clear hb2 hbe hz)))
  refine bodyPost_ret (v := aggS (0, 18446744073709551615)) ?_ rfl ⟨rfl, below_set (below_set hbe2 (by omega)) (by omega)⟩
  rw [results_cell rfl]
  simp [asAddr, Result.andThen]
  rw [run_boxS HT.out.1 HT.out.2]
theorem lraised_one (a A b : Int) (w : World) (ha : 0 ≤ a ∧ a ≤ A ∧ A ≤ 18446744073709551615) (hb : 0 ≤ b ∧ b ≤ 18446744073709551615) :
    Calls Try.prog 37 #[.agg #[.int .u64 a, .int .u64 A], .agg #[.int .u64 b, .int .u64 b]] w fun e w' => e = .returned (aggS (if A * 2 ^ min b.toNat 64 ≤ 18446744073709551615 then (a * 2 ^ min b.toNat 64, A * 2 ^ min b.toNat 64) else (0, 18446744073709551615))) ∧ Below w.heap.size w w' := by
  have HS : Hid (true = (b == b)) := by show _ = _; simp
  have hp := pow_pos_int (min b.toNat 64)
  by_cases h : A * 2 ^ min b.toNat 64 ≤ 18446744073709551615
  · rw [if_pos h]
    obtain ⟨wA, hq⟩ := shift_fit (show 0 ≤ A by omega) hp h
    have h2 : a * 2 ^ min b.toNat 64 ≤ A * 2 ^ min b.toNat 64 := Int.mul_le_mul_of_nonneg_right ha.2.1 (by omega)
    obtain ⟨wa, _⟩ := shift_fit ha.1 hp (Int.le_trans h2 h)
    obtain ⟨x, HX⟩ : ∃ x, Hid (a * 2 ^ min b.toNat 64 = x) := ⟨_, rfl⟩
    obtain ⟨X, HXX⟩ : ∃ x, Hid (A * 2 ^ min b.toNat 64 = x) := ⟨_, rfl⟩
    have wa' : IntKind.u64.wrap (a * 2 ^ min b.toNat 64) = x := wa.trans HX.out
    have wA' : IntKind.u64.wrap (A * 2 ^ min b.toNat 64) = X := wA.trans HXX.out
    have hq' : (X / 2 ^ min b.toNat 64 != A) = false := by rw [← wA']; exact hq
    rw [HX.out, HXX.out]
    clear wA wa hq h2 h hp
    go_enter Try.func37, Try.ntmps37
    go_wp2_with (first
      | (go_at_call 30; go_must (refine (lone_any HS _ _ (sees_one _ _ b b _ (by simp))).mono ?_); rintro e w1 ⟨rfl, hb1⟩; go_must (obtain ⟨hB, hbe, hz⟩ := third4 hb1; obtain ⟨⟨d0, d1⟩, g0, g1⟩ := first4 hb1; obtain ⟨⟨c0, c1⟩, f0, f1⟩ := hB; have HT : Hid _ := set_two (x := .int .u64 x) (y := .int .u64 X) c0 c1; clear hb1)))
    refine bodyPost_ret (v := aggS (x, X)) ?_ rfl ⟨rfl, below_set (below_set hbe (by omega)) (by omega)⟩
    rw [results_cell rfl]
    simp [asAddr, Result.andThen]
    rw [run_boxS HT.out.1 HT.out.2]
  · rw [if_neg h]
    have hq := shift_lost (show 0 ≤ A by omega) hp h
    clear h hp
    go_enter Try.func37, Try.ntmps37
    go_wp2_with (first
      | (go_at_call 30; go_must (refine (lone_any HS _ _ (sees_one _ _ b b _ (by simp))).mono ?_); rintro e w1 ⟨rfl, hb1⟩; go_must (obtain ⟨hB, hbe, hz⟩ := third4 hb1; obtain ⟨⟨d0, d1⟩, g0, g1⟩ := first4 hb1; have HB : Hid (Bx w1 (w.heap.size + 1 + 1) 0 0) := hB; clear hb1 hB))
      | (go_at_call 13; go_must (refine (lfull_any _).mono ?_); rintro e w2 ⟨rfl, hb2⟩; go_must (obtain ⟨⟨c0, c1⟩, f0, f1⟩ := HB.out.below hb2 hz; have hbe2 : Below w.heap.size w w2 := hbe.trans (hb2.mono hbe.size); have hz2 := Nat.lt_of_lt_of_le hz hb2.size; have HT : Hid _ := set_two (x := .int .u64 0) (y := .int .u64 18446744073709551615) c0 c1; clear hb2 hbe hz d0 d1 g0 g1)))
    refine bodyPost_ret (v := aggS (0, 18446744073709551615)) ?_ rfl ⟨rfl, below_set (below_set hbe2 (by omega)) (by omega)⟩
    rw [results_cell rfl]
    simp [asAddr, Result.andThen]
    rw [run_boxS HT.out.1 HT.out.2]
theorem lraised_any (a A b B : Int) (w : World) (ha : 0 ≤ a ∧ a ≤ A ∧ A ≤ 18446744073709551615) (hb : 0 ≤ b ∧ b ≤ B ∧ B ≤ 18446744073709551615) :
    Calls Try.prog 37 #[.agg #[.int .u64 a, .int .u64 A], .agg #[.int .u64 b, .int .u64 B]] w fun e w' => e = .returned (aggS (if b = B ∧ A * 2 ^ min b.toNat 64 ≤ 18446744073709551615 then (a * 2 ^ min b.toNat 64, A * 2 ^ min b.toNat 64) else (0, 18446744073709551615))) ∧ Below w.heap.size w w' := by
  by_cases h : b = B
  · subst h
    have h1 := lraised_one a A b w ha (by omega)

    simp only [true_and]
    exact h1
  · rw [if_neg (fun h' => h h'.1)]
    exact lraised_wide a A b B w (by simpa using h)
end Go.Proofs.Ytammakfpmimljaa
