
/-
  A ring, plain: what each call does to what waits, and to the counts. No Go text in sight.
-/
import Derived.Test.YthcdfknadcdfkaaR16Plain
namespace Go.Proofs.Ythcdfknadcdfkaa
set_option linter.unusedVariables false
set_option linter.unusedSimpArgs false
namespace Rg
variable {r : Rg}
theorem Ok.waits_le (h : r.Ok) : r.waits.length ≤ r.room := by
  rw [Rg.waits_len]
  have := h.full
  split <;> omega
theorem Ok.full_iff (h : r.Ok) (hc : r.closed = false) : r.room ≤ r.all.length - r.taken ↔ r.waits.length = r.room := by
  have h1 := h.full
  have h2 := h.taken
  rw [Rg.waits_len, hc]
  simp only [Bool.false_eq_true, if_false]
  omega
theorem accept_shut (hc : r.closed = true) (a b n : Int) : r.accept a b n = (0, 43, r) := by unfold Rg.accept; rw [if_pos hc]
theorem Ok.accept_full (h : r.Ok) (hc : r.closed = false) (hf : r.waits.length = r.room) (a b n : Int) : r.accept a b n = (0, 40, { r with refused := r.refused + 1 }) := by
  unfold Rg.accept
  rw [if_neg (by rw [hc]; decide), if_pos ((h.full_iff hc).2 hf)]
theorem Ok.accept_yes (h : r.Ok) (hc : r.closed = false) (hf : r.waits.length ≠ r.room) (a b n : Int) : r.accept a b n = (n, 0, { r with all := r.all ++ [⟨n, a, b⟩] }) := by
  unfold Rg.accept
  rw [if_neg (by rw [hc]; decide), if_neg (fun e => hf ((h.full_iff hc).1 e))]
theorem Ok.waits_more (h : r.Ok) (hc : r.closed = false) (q : Qe) : ({ r with all := r.all ++ [q] } : Rg).waits = r.waits ++ [q] := by
  unfold Rg.waits
  simp only [hc, Bool.false_eq_true, if_false]
  exact List.drop_append_of_le_length h.taken
theorem take_none (h : r.waits = []) : r.take = (Qe.nil, false, r) := by unfold Rg.take; rw [if_pos h]
theorem take_some {q : Qe} {l : List Qe} (h : r.waits = q :: l) : r.closed = false ∧ r.taken < r.all.length ∧ r.take = (q, true, { r with taken := r.taken + 1 }) ∧ ({ r with taken := r.taken + 1 } : Rg).waits = l := by
  have hc : r.closed = false := by
    cases e : r.closed with
    | false => rfl
    | true => unfold Rg.waits at h; rw [if_pos e] at h; cases h
  have hd : r.all.drop r.taken = q :: l := by
    unfold Rg.waits at h
    rw [hc, if_neg (by decide)] at h
    exact h
  have hlt : r.taken < r.all.length := by
    refine Nat.lt_of_not_le fun e => ?_
    rw [List.drop_eq_nil_of_le e] at hd
    cases hd
  rw [List.drop_eq_getElem_cons hlt] at hd
  injection hd with e1 e2
  refine ⟨hc, hlt, ?_, ?_⟩
  · unfold Rg.take
    rw [if_neg (by rw [h]; simp)]
    rw [List.getD_eq_getElem?_getD, List.getElem?_eq_getElem hlt]
    simp [e1]
  · unfold Rg.waits
    simp only [hc, Bool.false_eq_true, if_false]
    exact e2
theorem waits_shut : (r.shut).2.waits = [] := by
  unfold Rg.shut Rg.waits
  simp
/-- What was accepted is what was taken, dropped and waits. -/
theorem Ok.sum (h : r.Ok) : r.counts.1 = r.counts.2.2.1 + r.counts.2.2.2.1 + r.counts.2.2.2.2 ∧ r.counts.2.2.2.2 = r.waits.length := by
  have h1 := h.taken
  have h2 := @Rg.waits_len r
  unfold Rg.counts
  cases hc : r.closed with
  | true =>
    rw [hc, if_pos rfl] at h2
    simp only [if_true]
    exact ⟨by omega, by omega⟩
  | false =>
    rw [hc, if_neg (by decide)] at h2
    simp only [Bool.false_eq_true, if_false]
    exact ⟨by omega, by omega⟩
end Rg
end Go.Proofs.Ythcdfknadcdfkaa
