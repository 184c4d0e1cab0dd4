
/-
  An answer of a map in a box, as a result. No condition.
-/
import Derived.Test.YtpbfgebecgikjaaGx
namespace Go.Proofs.Ytpbfgebecgikjaa
open Go.RowKit
set_option linter.unusedVariables false
set_option linter.unusedSimpArgs false
set_option maxRecDepth 100000

abbrev resG (E : Int) (f : Bool) (v : Int) (o : Bool) (k u : Int) : Value := .agg #[.int .i64 E, .bool f, .int .u64 v, .bool o, .int .u64 k, .int .u64 u]
abbrev resCG (E : Int) (f : Bool) (v : Int) (o : Bool) (k u : Int) : List Value := [.int .i64 E, .bool f, .int .u64 v, .bool o, .int .u64 k, .int .u64 u]
theorem results_cellG {fn : Func} {p : Tmp} {ty : TypeId} (h : fn.results = #[.cell p ty]) (tmps : Array Value) (P : Program) (w : World) :
    (results fn tmps).run P w = ((asAddr (tmps.getD p undef)).run P w).andThen fun a w₁ => (loadVar ty a).run P w₁ := by
  simp only [results, h]
  simp [Sem.run_bind, Result.andThen]
theorem run_boxRG {w : World} {n : Nat} {E : Int} {f : Bool} {v : Int} {o : Bool} {k u : Int} (h : Hp w n 47 (resCG E f v o k u)) : (loadVar 47 ⟨n, 0, none⟩).run Try.prog w = .ok (resG E f v o k u) w := by
  refine run_loadVar_mid w n 0 47 (resCG E f v o k u) _ ?_ Try.underlying47 rfl (by kernel_rfl)
  intro j x hx
  rw [Nat.zero_add]
  exact h.cell hx
theorem res_ret {fn : Func} {p : Tmp} {w2 : World} {n : Nat} {tmps : Array Value} {E : Int} {f : Bool} {v : Int} {o : Bool} {k u : Int} {Q : Ending → World → Prop} (hr : fn.results = #[.cell p 47]) (hp : tmps.getD p undef = .pointer (some ⟨n, 0, none⟩)) (hx : Hp w2 n 47 (resCG E f v o k u)) (hQ : Q (.returned (resG E f v o k u)) w2) : bodyPost Try.prog fn Q .ret ⟨tmps, []⟩ w2 := by
  refine bodyPost_ret (v := resG E f v o k u) ?_ rfl hQ
  rw [results_cellG hr, hp]
  simp only [asAddr, Sem.run_pure, Result.andThen]
  rw [run_boxRG hx]
/-- Six stores into a box of six cells. -/
theorem six_sets {w : World} {n : Nat} {cs : List Value} {E : Int} {f : Bool} {v : Int} {o : Bool} {k u : Int} (h : Hp w n 47 cs) (hl : cs.length = 6) :
    Hp ((((((w.setCell ⟨n, 0, none⟩ (.int .i64 E)).setCell ⟨n, 1, none⟩ (.bool f)).setCell ⟨n, 2, none⟩ (.int .u64 v)).setCell ⟨n, 3, none⟩ (.bool o)).setCell ⟨n, 4, none⟩ (.int .u64 k)).setCell ⟨n, 5, none⟩ (.int .u64 u)) n 47 (resCG E f v o k u) ∧ w.grownBy ((((((w.setCell ⟨n, 0, none⟩ (.int .i64 E)).setCell ⟨n, 1, none⟩ (.bool f)).setCell ⟨n, 2, none⟩ (.int .u64 v)).setCell ⟨n, 3, none⟩ (.bool o)).setCell ⟨n, 4, none⟩ (.int .u64 k)).setCell ⟨n, 5, none⟩ (.int .u64 u)) (some n) := by
  have hs := h.sets (resCG E f v o k u) 0
  rw [splice_all _ _ (by rw [hl]; rfl)] at hs
  exact ⟨hs, grown_sets n (resCG E f v o k u) w 0⟩
end Go.Proofs.Ytpbfgebecgikjaa
