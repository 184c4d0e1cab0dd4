
/-
  What New of an owner comes to, plain. No Go text in sight.
-/
import Derived.Test.YtpbfgebecgikjaaO22Plain
namespace Go.Proofs.Ytpbfgebecgikjaa
set_option linter.unusedVariables false
set_option linter.unusedSimpArgs false
def mkDf (e : Int × Int) : Option Df := if (e.1 = 0 ∨ e.1 = 1) ∧ 1 ≤ e.2 ∧ e.2 ≤ 16 then some (decide (e.1 = 1), e.2.toNat) else none
def allDf : List (Int × Int) → Option (List Df)
  | [] => some []
  | e :: l => match mkDf e, allDf l with
    | some d, some ds => some (d :: ds)
    | _, _ => none
def newO (sh n : Int) (es : List (Int × Int)) : Option On :=
  if n < 1 ∨ 4 < n ∨ sh < 0 ∨ n ≤ sh ∨ 4 < es.length then none else (allDf es).map (On.new sh.toNat n.toNat)
theorem allDf_some : ∀ {es : List (Int × Int)} {ds : List Df}, allDf es = some ds → ds.length = es.length ∧ ∀ i, i < es.length → mkDf (es.getD i (0, 0)) = some (ds.getD i (false, 0))
  | [], ds, h => by
    injection h with h
    subst h
    exact ⟨rfl, fun i hi => by simp at hi⟩
  | e :: l, ds, h => by
    unfold allDf at h
    cases h1 : mkDf e with
    | none => rw [h1] at h; cases h
    | some d =>
      cases h2 : allDf l with
      | none => rw [h1, h2] at h; cases h
      | some r =>
        rw [h1, h2] at h
        injection h with h
        subst h
        obtain ⟨g1, g2⟩ := allDf_some h2
        refine ⟨by simp [g1], fun i hi => ?_⟩
        cases i with
        | zero => simpa using h1
        | succ i => simpa using g2 i (by simpa using hi)
theorem allDf_none : ∀ {es : List (Int × Int)}, allDf es = none → ∃ i, i < es.length ∧ mkDf (es.getD i (0, 0)) = none ∧ ∀ j, j < i → ∃ d, mkDf (es.getD j (0, 0)) = some d
  | [], h => by cases h
  | e :: l, h => by
    unfold allDf at h
    cases h1 : mkDf e with
    | none => exact ⟨0, by simp, by simpa using h1, fun j hj => absurd hj (Nat.not_lt_zero _)⟩
    | some d =>
      cases h2 : allDf l with
      | some r => rw [h1, h2] at h; cases h
      | none =>
        obtain ⟨i, g1, g2, g3⟩ := allDf_none h2
        refine ⟨i + 1, by simpa using g1, by simpa using g2, fun j hj => ?_⟩
        cases j with
        | zero => exact ⟨d, by simpa using h1⟩
        | succ j => obtain ⟨d', e⟩ := g3 j (by omega); exact ⟨d', by simpa using e⟩
theorem mkDf_some {e : Int × Int} {d : Df} (h : mkDf e = some d) : e.1 = (if d.1 = true then 1 else 0) ∧ e.2 = d.2 ∧ 1 ≤ d.2 ∧ d.2 ≤ 16 := by
  unfold mkDf at h
  split at h
  · rename_i hc
    injection h with h
    subst h
    refine ⟨?_, by show e.2 = (e.2.toNat : Int); omega, by show 1 ≤ e.2.toNat; omega, by show e.2.toNat ≤ 16; omega⟩
    rcases hc.1 with g | g
    · simp [g]
    · simp [g]
  · cases h
theorem mkDf_none {e : Int × Int} (h : mkDf e = none) : (e.1 ≠ 0 ∧ e.1 ≠ 1) ∨ e.2 < 1 ∨ 16 < e.2 := by
  unfold mkDf at h
  split at h
  · cases h
  · rename_i hc
    by_cases h0 : e.1 = 0 ∨ e.1 = 1
    · right
      by_cases h1 : e.2 < 1
      · exact .inl h1
      · exact .inr (by have := fun q => hc ⟨h0, by omega, q⟩; omega)
    · left
      exact ⟨fun q => h0 (.inl q), fun q => h0 (.inr q)⟩
theorem newO_some {sh n : Int} {es : List (Int × Int)} {o : On} (h : newO sh n es = some o) : (1 ≤ n ∧ n ≤ 4) ∧ (0 ≤ sh ∧ sh < n) ∧ es.length ≤ 4 ∧ ∃ ds, allDf es = some ds ∧ o = On.new sh.toNat n.toNat ds ∧ o.Ok := by
  unfold newO at h
  split at h
  · cases h
  · rename_i hc
    cases h2 : allDf es with
    | none => rw [h2] at h; cases h
    | some ds =>
      rw [h2] at h
      injection h with h
      obtain ⟨g1, g2⟩ := allDf_some h2
      refine ⟨by omega, by omega, by omega, ds, rfl, h.symm, ?_⟩
      rw [← h]
      refine On.Ok.new (by omega) (by omega) (by omega) (fun i hi => ?_)
      have := mkDf_some (g2 i (by omega))
      exact ⟨this.2.2.1, this.2.2.2⟩
end Go.Proofs.Ytpbfgebecgikjaa
