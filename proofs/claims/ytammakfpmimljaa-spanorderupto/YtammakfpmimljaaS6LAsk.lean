/-
  What the landed Right, Single, Full, Has, Within answer, and the library's bits.Add64 with no carry. No condition but the carry's.
-/
import Derived.Test.YtammakfpmimljaaS6Ref
import Derived.Laws.Externs
namespace Go.Proofs.Ytammakfpmimljaa
open Go.RowKit
set_option linter.unusedVariables false

/-- A result that lies in one variable. -/
theorem results_cell {fn : Func} {p : Tmp} {ty : TypeId} (h : fn.results = #[.cell p ty]) (tmps : Array Value) (P : Program) (w : World) :
    (results fn tmps).run P w = ((asAddr (tmps.getD p undef)).run P w).andThen fun a w₁ => (loadVar ty a).run P w₁ := by
  simp only [results, h]
  simp [Sem.run_bind, Result.andThen]
theorem add64_any (x y : Int) (hx : 0 ≤ x) (hy : 0 ≤ y) (w : World) : (callFunc 47 #[.int .u64 x, .int .u64 y, .int .u64 0]).run Try.prog w =
    .ok (.value (.tuple #[.int .u64 ((x + y) % 18446744073709551616), .int .u64 ((x + y) / 18446744073709551616)])) w := by
  rw [run_callFunc_extern Try.func47 (by kernel_rfl) (by kernel_rfl) (by kernel_rfl) (e := add64Entry) (by kernel_rfl), run_add64 x y 0 hx hy (Int.le_refl 0) (by decide), Int.add_zero]
  rfl
theorem lright_any (a A : Int) (w : World) : Calls Try.prog 10 #[.agg #[.int .u64 a, .int .u64 A]] w fun e w' => e = .returned (.bool (decide (a ≤ A))) ∧ w.alloc (spO a A) = w' := by
  go_enter Try.func10, Try.ntmps10
  go_wp2
  go_ret
  exact ⟨rfl, rfl⟩
theorem lsingle_any (n : Int) (w : World) : Calls Try.prog 12 #[.int .u64 n] w fun e w' => e = .returned (.agg #[.int .u64 n, .int .u64 n]) ∧ Below w.heap.size w w' := by
  go_enter Try.func12, Try.ntmps12
  go_wp2
  refine bodyPost_ret (v := .agg #[.int .u64 n, .int .u64 n]) ?_ rfl ⟨rfl, by go_grown⟩
  rw [results_cell rfl]
  simp [asAddr, Result.andThen]
  rw [run_boxS (a := n) (A := n)]
  all_goals go_cell
theorem lfull_any (w : World) : Calls Try.prog 13 #[] w fun e w' => e = .returned (.agg #[.int .u64 0, .int .u64 18446744073709551615]) ∧ Below w.heap.size w w' := by
  go_enter Try.func13, Try.ntmps13
  go_wp2
  refine bodyPost_ret (v := .agg #[.int .u64 0, .int .u64 18446744073709551615]) ?_ rfl ⟨rfl, by go_grown⟩
  rw [results_cell rfl]
  simp [asAddr, Result.andThen]
  rw [run_boxS (a := 0) (A := 18446744073709551615)]
  all_goals go_cell
theorem lhas_any (a A n : Int) (w : World) : Calls Try.prog 14 #[.agg #[.int .u64 a, .int .u64 A], .int .u64 n] w fun e w' => e = .returned (.bool (hasB a A n)) ∧ w.alloc (spO a A) = w' := by
  by_cases h : a ≤ n
  · go_enter Try.func14, Try.ntmps14
    go_wp2
    go_ret
    exact ⟨rb (by rw [Bool.eq_iff_iff]; simp [hasB]; omega), rfl⟩
  · go_enter Try.func14, Try.ntmps14
    go_wp2
    go_ret
    exact ⟨rb (by rw [Bool.eq_iff_iff]; simp [hasB]; omega), rfl⟩
theorem lwithin_any (a A b B : Int) (w : World) : Calls Try.prog 16 #[.agg #[.int .u64 a, .int .u64 A], .agg #[.int .u64 b, .int .u64 B]] w fun e w' => e = .returned (.bool (withinB a A b B)) ∧ Below w.heap.size w w' := by
  obtain ⟨r1, H1⟩ : ∃ r, Hid (r = decide (a ≤ A)) := ⟨_, rfl⟩
  obtain ⟨r3, H3⟩ : ∃ r, Hid (r = hasB b B a) := ⟨_, rfl⟩
  obtain ⟨r4, H4⟩ : ∃ r, Hid (r = hasB b B A) := ⟨_, rfl⟩
  have HE : Hid (withinB a A b B = (r1 && r3 && r4)) := by
    show _ = _
    rw [H1.out, H3.out, H4.out, Bool.eq_iff_iff]
    simp [withinB, hasB]
    omega
  have q1 := H1
  have q3 := H3
  have q4 := H4
  cases r1 <;> cases r3 <;> cases r4
  all_goals go_enter Try.func16, Try.ntmps16
  all_goals go_wp2_with (first
    | (go_at_call 10; have hq := q1; clear hq; go_must (refine (lright_any a A _).mono ?_); rintro e w' ⟨rfl, rfl⟩; rw [← H1.out]; clear q1)
    | (go_at_call 14; have hq := q3; clear hq; go_must (refine (lhas_any b B a _).mono ?_); rintro e w' ⟨rfl, rfl⟩; rw [← H3.out]; clear q3)
    | (go_at_call 14; have hq := q4; clear hq; go_must (refine (lhas_any b B A _).mono ?_); rintro e w' ⟨rfl, rfl⟩; rw [← H4.out]; clear q4))
  all_goals go_ret
  all_goals exact ⟨rb (by rw [HE.out]; rfl), by go_grown⟩
end Go.Proofs.Ytammakfpmimljaa
