/-
  A span that is boxed: its two cells, loaded whole, stored whole. No Go text in sight.
-/
import Derived.Test.YtammakfpmimljaaS6Slices
namespace Go.Proofs.Ytammakfpmimljaa
open Go.RowKit
set_option linter.unusedVariables false

/-- The box of a span. -/
abbrev spO (a A : Int) : Obj := .cells #[.int .u64 a, .int .u64 A] 24
theorem boxS_below {w w1 : World} {o : Obj} (h : Below (w.alloc o).heap.size (w.alloc o) w1) : Below w.heap.size w w1 := ((Below.refl _ _).alloc (Nat.le_refl _) o).trans (h.mono (by simp))
/-- A boxed span, loaded whole. -/
theorem run_boxS {w : World} {n : Nat} {a A : Int} (h0 : w.cell? ⟨n, 0, none⟩ = some (.int .u64 a)) (h1 : w.cell? ⟨n, 1, none⟩ = some (.int .u64 A)) : (loadVar 24 ⟨n, 0, none⟩).run Try.prog w = .ok (.agg #[.int .u64 a, .int .u64 A]) w := by
  refine run_loadVar_mid w n 0 24 [.int .u64 a, .int .u64 A] _ ?_ Try.underlying24 rfl (by kernel_rfl)
  intro j v hv
  rw [Nat.zero_add]
  have hj : j < 2 := (List.getElem?_eq_some_iff.1 hv).1
  have hc : j = 0 ∨ j = 1 := by omega
  rcases hc with rfl | rfl <;> simp at hv <;> subst hv <;> assumption
end Go.Proofs.Ytammakfpmimljaa
