/-
  What the document's Right, Has, Within, great, form and half answer. Condition: numbers of 64 bits.
-/
import Derived.Test.YtammakfpmimljaaS6Box
import Derived.Test.YtammakfpmimljaaA5RDo
namespace Go.Proofs.Ytammakfpmimljaa
open Go.RowKit
set_option linter.unusedVariables false

theorem rb {a b : Bool} (h : a = b) : Ending.returned (.bool a) = .returned (.bool b) := by rw [h]
def hasB (a A n : Int) : Bool := decide (a ≤ A) && decide (a ≤ n) && decide (n ≤ A)
def withinB (a A b B : Int) : Bool := decide (a ≤ A) && decide (b ≤ B) && hasB b B a && hasB b B A
theorem grow2 (w : World) (a b : Obj) : Below w.heap.size w ((w.alloc a).alloc b) := ((Below.refl _ _).alloc (Nat.le_refl _) a).alloc (by simp) b

theorem rright_any (a A : Int) (w : World) : Calls Try.prog 11 #[.agg #[.int .u64 a, .int .u64 A]] w fun e w' => e = .returned (.bool (decide (a ≤ A))) ∧ w.alloc (spO a A) = w' := by
  by_cases h : A < a
  · have h' : decide (a ≤ A) = false := decide_eq_false (by omega)
    go_enter Try.func11, Try.ntmps11
    go_wp2
    go_ret
    exact ⟨rb (by simp [h]), rfl⟩
  · have h' : decide (a ≤ A) = true := decide_eq_true (by omega)
    go_enter Try.func11, Try.ntmps11
    go_wp2
    go_ret
    exact ⟨rb (by simp), rfl⟩
theorem rhas_any (a A n : Int) (w : World) : Calls Try.prog 15 #[.agg #[.int .u64 a, .int .u64 A], .int .u64 n] w fun e w' => e = .returned (.bool (hasB a A n)) ∧ (w.alloc (spO a A)).alloc (spO a A) = w' := by
  go_enter Try.func15, Try.ntmps15
  go_wp2_with (go_at_call 11; go_must (refine (rright_any a A _).mono ?_); rintro e w' ⟨rfl, rfl⟩)
  all_goals go_ret
  · exact ⟨rb (by simp [hasB, *]), rfl⟩
  · exact ⟨rb (by simp [hasB]; omega), rfl⟩
  · exact ⟨rb (by simp [hasB]; omega), rfl⟩
theorem rwithin_any (a A b B : Int) (w : World) : Calls Try.prog 17 #[.agg #[.int .u64 a, .int .u64 A], .agg #[.int .u64 b, .int .u64 B]] w fun e w' => e = .returned (.bool (withinB a A b B)) ∧ Below w.heap.size w w' := by
  obtain ⟨r1, H1⟩ : ∃ r, Hid (r = decide (a ≤ A)) := ⟨_, rfl⟩
  obtain ⟨r2, H2⟩ : ∃ r, Hid (r = decide (b ≤ B)) := ⟨_, rfl⟩
  obtain ⟨r3, H3⟩ : ∃ r, Hid (r = hasB b B a) := ⟨_, rfl⟩
  obtain ⟨r4, H4⟩ : ∃ r, Hid (r = hasB b B A) := ⟨_, rfl⟩
  have HE : Hid (withinB a A b B = (r1 && r2 && r3 && r4)) := by show _ = _; rw [H1.out, H2.out, H3.out, H4.out]; rfl
  have q1 := H1
  have q2 := H2
  have q3 := H3
  have q4 := H4
  cases r1 <;> cases r2 <;> cases r3 <;> cases r4
  all_goals go_enter Try.func17, Try.ntmps17
  all_goals go_wp2_with (first
    | (go_at_call 11; have hq := q1; clear hq; go_must (refine (rright_any a A _).mono ?_); rintro e w' ⟨rfl, rfl⟩; rw [← H1.out]; clear q1)
    | (go_at_call 11; have hq := q2; clear hq; go_must (refine (rright_any b B _).mono ?_); rintro e w' ⟨rfl, rfl⟩; rw [← H2.out]; clear q2)
    | (go_at_call 15; have hq := q3; clear hq; go_must (refine (rhas_any b B a _).mono ?_); rintro e w' ⟨rfl, rfl⟩; rw [← H3.out]; clear q3)
    | (go_at_call 15; have hq := q4; clear hq; go_must (refine (rhas_any b B A _).mono ?_); rintro e w' ⟨rfl, rfl⟩; rw [← H4.out]; clear q4))
  all_goals go_ret
  all_goals exact ⟨rb (by rw [HE.out]; rfl), by go_grown⟩
theorem great_iff {a b : Int} (ha : 0 < a) : decide (18446744073709551615 / a < b) = decide (18446744073709551615 < a * b) := by
  apply decide_eq_decide.2
  rw [Int.ediv_lt_iff_lt_mul ha, Int.mul_comm]
theorem great_any (a b : Int) (w : World) (ha : 0 ≤ a ∧ a ≤ 18446744073709551615) (hb : 0 ≤ b ∧ b ≤ 18446744073709551615) :
    Calls Try.prog 39 #[.int .u64 a, .int .u64 b] w fun e w' => e = .returned (.bool (decide (18446744073709551615 < a * b))) ∧ w = w' := by
  by_cases h : 0 < a
  · rw [← great_iff h]
    have hne : ¬ a = 0 := by omega
    go_enter Try.func39, Try.ntmps39
    go_wp2
    go_ret
    exact ⟨rfl, rfl⟩
  · obtain rfl : a = 0 := by omega
    go_enter Try.func39, Try.ntmps39
    go_wp2
    go_ret
    exact ⟨rb (by simp), rfl⟩
theorem form_any (n : Int) (w : World) (hn : 0 ≤ n ∧ n ≤ 18446744073709551615) :
    Calls Try.prog 40 #[.int .u64 n] w fun e w' => e = .returned (.int .u64 (formL n)) ∧ w = w' := by
  go_enter Try.func40, Try.ntmps40
  go_wp2
  go_loop [3] (fun m => ∃ (k : Nat) (M : Int), k ≤ 64 ∧ m = .int .u64 M ∧ M = 2 ^ k - 1 ∧ 0 ≤ M ∧ M ≤ 18446744073709551615 ∧ (0 < k → (2 : Int) ^ (k - 1) ≤ n)) (fun m => 18446744073709551615 - (intOf m).toNat)
  case atStart => exact ⟨0, 0, by omega, rfl, by simp, by omega, by omega, fun h => absurd h (by omega)⟩
  case round =>
    obtain ⟨k, M, hk, rfl, hM, hM0, hM1, hlo⟩ := hrel
    by_cases hlt : M < n
    · have hk64 : k < 64 := by
        rcases Nat.lt_or_ge k 64 with h | h
        · exact h
        · obtain rfl : k = 64 := by omega
          have e : (2 : Int) ^ 64 = 18446744073709551616 := by decide
          rw [e] at hM; omega
      have hs := pow_half hk64
      have HN : Hid (2 * M + 1 = 2 ^ (k + 1) - 1 ∧ (0 < k + 1 → (2 : Int) ^ (k + 1 - 1) ≤ n)) := by
        refine ⟨by rw [Int.pow_succ]; omega, fun _ => ?_⟩
        rw [Nat.add_sub_cancel]; omega
      have hb : 2 * M + 1 ≤ 18446744073709551615 := by omega
      clear hM hlo hs
      go_wp2
      go_round
      case rel => exact ⟨k + 1, 2 * M + 1, by omega, rfl, HN.out.1, by omega, hb, HN.out.2⟩
      case measure => simp [intOf]; omega
    · have HE : Hid (M = formL n) := by
        rw [form_eq (k := k) hn.1 hn.2 (by omega) hlo]
        exact hM
      clear hM hlo
      go_wp2
      go_ret
      exact ⟨ret1 HE.out, rfl⟩
theorem half_any (a b : Int) (w : World) (ha : 0 ≤ a ∧ a ≤ 18446744073709551615) (hb : 0 ≤ b ∧ b ≤ 18446744073709551615) :
    Calls Try.prog 42 #[.int .u64 a, .int .u64 b] w fun e w' => e = .returned (.int .u64 (a / 2 ^ min b.toNat 64)) ∧ w = w' := by
  obtain ⟨B, rfl⟩ := Int.eq_ofNat_of_zero_le hb.1
  rw [Int.toNat_natCast]
  go_enter Try.func42, Try.ntmps42
  go_wp2
  go_loop [0, 5] (fun u i => ∃ (k : Nat) (A : Int), k ≤ B ∧ i = .int .u64 k ∧ u = .int .u64 A ∧ 0 ≤ A ∧ A ≤ 18446744073709551615 ∧ A = a / 2 ^ k) (fun _ i => B - (intOf i).toNat)
  case atStart => exact ⟨0, a, by omega, rfl, rfl, by omega, by omega, by simp⟩
  case round =>
    obtain ⟨k, A, hk, rfl, rfl, hA0, hA1, hA⟩ := hrel
    have HA : Hid (A = a / 2 ^ k) := hA
    clear hA
    by_cases hlt : k < B ∧ 0 < A
    · obtain ⟨h1, h2⟩ := hlt
      have HN : Hid (A / 2 = a / 2 ^ (k + 1)) := by rw [HA.out, div_pow_add]; rfl
      clear HA
      go_wp2
      go_round
      case rel => exact ⟨k + 1, _, by omega, by go_num, rfl, by omega, by omega, HN.out⟩
      case measure => simp [intOf]; omega
    · have HE : Hid (A = a / 2 ^ min B 64) := by
        rw [HA.out]
        exact till_zero (f := fun i => a / 2 ^ i) (shr_zero a ha.1 ha.2) (shr_stays a) hk (by
          by_cases h : k = B
          · exact .inl h
          · exact .inr (by show _ = (0 : Int); rw [← HA.out]; omega))
      clear HA
      by_cases h1 : k < B
      · obtain rfl : A = 0 := by omega
        go_wp2
        go_ret
        exact ⟨ret1 HE.out, rfl⟩
      · go_wp2
        go_ret
        exact ⟨ret1 HE.out, rfl⟩
end Go.Proofs.Ytammakfpmimljaa
