/-
  What the landed Right, Single, Full, Has, Within answer, and the document's Right, Has, Within. No condition.
-/
import Derived.Test.YtpgkjoahngfgnaaDoorT8Types
namespace Go.Proofs.YtpgkjoahngfgnaaDoor
open Go.RowKit
set_option linter.unusedVariables false

theorem rb {a b : Bool} (h : a = b) : Ending.returned (.bool a) = .returned (.bool b) := by rw [h]
def hasB (a A n : Int) : Bool := decide (a ≤ A) && decide (a ≤ n) && decide (n ≤ A)
def withinB (a A b B : Int) : Bool := decide (a ≤ A) && decide (b ≤ B) && hasB b B a && hasB b B A

theorem rright_any (a A : Int) (w : World) : Calls Tryd.prog 34 #[.agg #[.int .u64 a, .int .u64 A]] w fun e w' => e = .returned (.bool (decide (a ≤ A))) ∧ w.alloc (spO a A) = w' := by
  by_cases h : A < a
  · have h' : decide (a ≤ A) = false := decide_eq_false (by omega)
    go_enter Tryd.func34, Tryd.ntmps34
    go_wp2
    go_ret
    exact ⟨rb (by simp [h]), rfl⟩
  · have h' : decide (a ≤ A) = true := decide_eq_true (by omega)
    go_enter Tryd.func34, Tryd.ntmps34
    go_wp2
    go_ret
    exact ⟨rb (by simp), rfl⟩
theorem rhas_any (a A n : Int) (w : World) : Calls Tryd.prog 35 #[.agg #[.int .u64 a, .int .u64 A], .int .u64 n] w fun e w' => e = .returned (.bool (hasB a A n)) ∧ (w.alloc (spO a A)).alloc (spO a A) = w' := by
  go_enter Tryd.func35, Tryd.ntmps35
  go_wp2_with (go_at_call 34; go_must (refine (rright_any a A _).mono ?_); rintro e w' ⟨rfl, rfl⟩)
  all_goals go_ret
  · exact ⟨rb (by simp [hasB, *]), rfl⟩
  · exact ⟨rb (by simp [hasB]; omega), rfl⟩
  · exact ⟨rb (by simp [hasB]; omega), rfl⟩
theorem rwithin_any (a A b B : Int) (w : World) : Calls Tryd.prog 31 #[.agg #[.int .u64 a, .int .u64 A], .agg #[.int .u64 b, .int .u64 B]] w fun e w' => e = .returned (.bool (withinB a A b B)) ∧ Below w.heap.size w w' := by
  obtain ⟨r1, H1⟩ : ∃ r, Hid (r = decide (a ≤ A)) := ⟨_, rfl⟩
  obtain ⟨r2, H2⟩ : ∃ r, Hid (r = decide (b ≤ B)) := ⟨_, rfl⟩
  obtain ⟨r3, H3⟩ : ∃ r, Hid (r = hasB b B a) := ⟨_, rfl⟩
  obtain ⟨r4, H4⟩ : ∃ r, Hid (r = hasB b B A) := ⟨_, rfl⟩
  have HE : Hid (withinB a A b B = (r1 && r2 && r3 && r4)) := by show _ = _; rw [H1.out, H2.out, H3.out, H4.out]; rfl
  have q1 := H1
  have q2 := H2
  have q3 := H3
  have q4 := H4
  cases r1 <;> cases r2 <;> cases r3 <;> cases r4
  all_goals go_enter Tryd.func31, Tryd.ntmps31
  all_goals go_wp2_with (first
    | (go_at_call 34; have hq := q1; clear hq; go_must (refine (rright_any a A _).mono ?_); rintro e w' ⟨rfl, rfl⟩; rw [← H1.out]; clear q1)
    | (go_at_call 34; have hq := q2; clear hq; go_must (refine (rright_any b B _).mono ?_); rintro e w' ⟨rfl, rfl⟩; rw [← H2.out]; clear q2)
    | (go_at_call 35; have hq := q3; clear hq; go_must (refine (rhas_any b B a _).mono ?_); rintro e w' ⟨rfl, rfl⟩; rw [← H3.out]; clear q3)
    | (go_at_call 35; have hq := q4; clear hq; go_must (refine (rhas_any b B A _).mono ?_); rintro e w' ⟨rfl, rfl⟩; rw [← H4.out]; clear q4))
  all_goals go_ret
  all_goals exact ⟨rb (by rw [HE.out]; rfl), by go_grown⟩
/-- A result that lies in one variable. -/
theorem results_cell {fn : Func} {p : Tmp} {ty : TypeId} (h : fn.results = #[.cell p ty]) (tmps : Array Value) (P : Program) (w : World) :
    (results fn tmps).run P w = ((asAddr (tmps.getD p undef)).run P w).andThen fun a w₁ => (loadVar ty a).run P w₁ := by
  simp only [results, h]
  simp [Sem.run_bind, Result.andThen]
theorem lright_any (a A : Int) (w : World) : Calls Tryd.prog 36 #[.agg #[.int .u64 a, .int .u64 A]] w fun e w' => e = .returned (.bool (decide (a ≤ A))) ∧ w.alloc (spO a A) = w' := by
  go_enter Tryd.func36, Tryd.ntmps36
  go_wp2
  go_ret
  exact ⟨rfl, rfl⟩
theorem lsingle_any (n : Int) (w : World) : Calls Tryd.prog 26 #[.int .u64 n] w fun e w' => e = .returned (.agg #[.int .u64 n, .int .u64 n]) ∧ Below w.heap.size w w' := by
  go_enter Tryd.func26, Tryd.ntmps26
  go_wp2
  refine bodyPost_ret (v := .agg #[.int .u64 n, .int .u64 n]) ?_ rfl ⟨rfl, by go_grown⟩
  rw [results_cell rfl]
  simp [asAddr, Result.andThen]
  rw [run_boxS (a := n) (A := n)]
  all_goals go_cell
theorem lfull_any (w : World) : Calls Tryd.prog 25 #[] w fun e w' => e = .returned (.agg #[.int .u64 0, .int .u64 18446744073709551615]) ∧ Below w.heap.size w w' := by
  go_enter Tryd.func25, Tryd.ntmps25
  go_wp2
  refine bodyPost_ret (v := .agg #[.int .u64 0, .int .u64 18446744073709551615]) ?_ rfl ⟨rfl, by go_grown⟩
  rw [results_cell rfl]
  simp [asAddr, Result.andThen]
  rw [run_boxS (a := 0) (A := 18446744073709551615)]
  all_goals go_cell
theorem lhas_any (a A n : Int) (w : World) : Calls Tryd.prog 37 #[.agg #[.int .u64 a, .int .u64 A], .int .u64 n] w fun e w' => e = .returned (.bool (hasB a A n)) ∧ w.alloc (spO a A) = w' := by
  by_cases h : a ≤ n
  · go_enter Tryd.func37, Tryd.ntmps37
    go_wp2
    go_ret
    exact ⟨rb (by rw [Bool.eq_iff_iff]; simp [hasB]; omega), rfl⟩
  · go_enter Tryd.func37, Tryd.ntmps37
    go_wp2
    go_ret
    exact ⟨rb (by rw [Bool.eq_iff_iff]; simp [hasB]; omega), rfl⟩
theorem lwithin_any (a A b B : Int) (w : World) : Calls Tryd.prog 33 #[.agg #[.int .u64 a, .int .u64 A], .agg #[.int .u64 b, .int .u64 B]] w fun e w' => e = .returned (.bool (withinB a A b B)) ∧ Below w.heap.size w w' := by
  obtain ⟨r1, H1⟩ : ∃ r, Hid (r = decide (a ≤ A)) := ⟨_, rfl⟩
  obtain ⟨r3, H3⟩ : ∃ r, Hid (r = hasB b B a) := ⟨_, rfl⟩
  obtain ⟨r4, H4⟩ : ∃ r, Hid (r = hasB b B A) := ⟨_, rfl⟩
  have HE : Hid (withinB a A b B = (r1 && r3 && r4)) := by
    show _ = _
    rw [H1.out, H3.out, H4.out, Bool.eq_iff_iff]
    simp [withinB, hasB]
    omega
  have q1 := H1
  have q3 := H3
  have q4 := H4
  cases r1 <;> cases r3 <;> cases r4
  all_goals go_enter Tryd.func33, Tryd.ntmps33
  all_goals go_wp2_with (first
    | (go_at_call 36; have hq := q1; clear hq; go_must (refine (lright_any a A _).mono ?_); rintro e w' ⟨rfl, rfl⟩; rw [← H1.out]; clear q1)
    | (go_at_call 37; have hq := q3; clear hq; go_must (refine (lhas_any b B a _).mono ?_); rintro e w' ⟨rfl, rfl⟩; rw [← H3.out]; clear q3)
    | (go_at_call 37; have hq := q4; clear hq; go_must (refine (lhas_any b B A _).mono ?_); rintro e w' ⟨rfl, rfl⟩; rw [← H4.out]; clear q4))
  all_goals go_ret
  all_goals exact ⟨rb (by rw [HE.out]; rfl), by go_grown⟩
end Go.Proofs.YtpgkjoahngfgnaaDoor
