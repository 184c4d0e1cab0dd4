
/-
  The document's LRU of layer 14: Order. Condition: it lies where the pointer says, its rows are the call's own; touches rise.
-/
import Derived.Test.YtinoelooccmmnaaL14Touch
namespace Go.Proofs.Ytinoelooccmmnaa
open Go.RowKit
set_option linter.unusedVariables false
set_option linter.unusedSimpArgs false
set_option maxRecDepth 100000

/-- Touches rise. -/
def Ris (kt : List Kp) : Prop := kt.Pairwise (fun p q => p.t < q.t)
/-- What was touched behind a time, the last first. -/
def outT (kt : List Kp) (n : Nat) : List Kp := (kt.filter (fun p => decide ((n : Int) < p.t))).reverse
def atT (kt : List Kp) (n : Nat) : List Kp := kt.filter (fun p => decide (p.t = (n : Int)))
theorem out_step {kt : List Kp} (h : Ris kt) (n : Nat) : outT kt n = outT kt (n + 1) ++ atT kt (n + 1) := by
  have key : kt.filter (fun p => decide ((n : Int) < p.t)) = (atT kt (n + 1)).reverse ++ kt.filter (fun p => decide (((n + 1 : Nat) : Int) < p.t)) := by
    unfold atT
    induction kt with
    | nil => rfl
    | cons p l ih =>
      obtain ⟨hp, hl⟩ := List.pairwise_cons.1 h
      have ih := ih hl
      rcases Int.lt_trichotomy p.t ((n + 1 : Nat) : Int) with g | g | g
      · rw [List.filter_cons_of_neg (by simp; omega), List.filter_cons_of_neg (by simp; omega), List.filter_cons_of_neg (by simp; omega)]
        exact ih
      · have hall : ∀ q ∈ l, ((n + 1 : Nat) : Int) < q.t := fun q hq => by have := hp q hq; omega
        have e1 : l.filter (fun p => decide ((n : Int) < p.t)) = l := List.filter_eq_self.2 (fun q hq => by have := hall q hq; simp; omega)
        have e2 : l.filter (fun p => decide (p.t = ((n + 1 : Nat) : Int))) = [] := List.filter_eq_nil_iff.2 (fun q hq => by have := hall q hq; simp; omega)
        have e3 : l.filter (fun p => decide (((n + 1 : Nat) : Int) < p.t)) = l := List.filter_eq_self.2 (fun q hq => by have := hall q hq; simpa using this)
        rw [List.filter_cons_of_pos (by simp; omega), List.filter_cons_of_pos (by simpa using g), List.filter_cons_of_neg (by simp; omega), e1, e2, e3]
        rfl
      · have hall : ∀ q ∈ p :: l, ((n + 1 : Nat) : Int) < q.t := fun q hq => by
          rcases List.mem_cons.1 hq with e | e
          · rw [e]; exact g
          · have := hp q e; omega
        have e1 : (p :: l).filter (fun p => decide ((n : Int) < p.t)) = p :: l := List.filter_eq_self.2 (fun q hq => by have := hall q hq; simp; omega)
        have e2 : (p :: l).filter (fun p => decide (p.t = ((n + 1 : Nat) : Int))) = [] := List.filter_eq_nil_iff.2 (fun q hq => by have := hall q hq; simp; omega)
        have e3 : (p :: l).filter (fun p => decide (((n + 1 : Nat) : Int) < p.t)) = p :: l := List.filter_eq_self.2 (fun q hq => by have := hall q hq; simpa using this)
        rw [e1, e2, e3]
        rfl
  unfold outT
  rw [key, List.reverse_append, List.reverse_reverse]
theorem out_none {kt : List Kp} {n : Nat} (h : ∀ p ∈ kt, p.t ≤ n) : outT kt n = [] := by
  unfold outT
  rw [List.filter_eq_nil_iff.2 (fun q hq => by have := h q hq; simp; omega)]
  rfl
theorem out_all {kt : List Kp} (h : ∀ p ∈ kt, 1 ≤ p.t) : outT kt 0 = kt.reverse := by
  unfold outT
  rw [List.filter_eq_self.2 (fun q hq => by have := h q hq; simp; omega)]
theorem out_full {kt : List Kp} {n : Nat} (h : kt.length ≤ (outT kt n).length) : outT kt n = kt.reverse := by
  unfold outT at h ⊢
  rw [List.length_reverse] at h
  have h1 := List.length_filter_le (fun p : Kp => decide ((n : Int) < p.t)) kt
  have h2 : (kt.filter (fun p => decide ((n : Int) < p.t))).length = kt.length := by omega
  rw [List.filter_eq_self.2 (List.length_filter_eq_length_iff.1 h2)]
theorem out_le (kt : List Kp) (n : Nat) : (outT kt n).length ≤ kt.length := by
  unfold outT
  rw [List.length_reverse]
  exact List.length_filter_le _ _
theorem at_more {kt : List Kp} {n j : Nat} (hj : j < kt.length) : atT (kt.take (j + 1)) n = atT (kt.take j) n ++ (if (kt.getD j Kp.nil).t = (n : Int) then [kt.getD j Kp.nil] else []) := by
  unfold atT
  rw [take_moreK hj, List.filter_append]
  congr 1
  by_cases e : (kt.getD j Kp.nil).t = (n : Int)
  · rw [if_pos e, List.filter_cons_of_pos (by simpa using e)]
    rfl
  · rw [if_neg e, List.filter_cons_of_neg (by simpa using e)]
    rfl
theorem at_le (kt : List Kp) (n : Nat) : (atT kt n).length ≤ kt.length := List.length_filter_le _ _
section
variable {w : World} {B l b cap : Nat} {vd vk vw : Value} {D : List Pp} {kt : List Kp} {c : Nat}
end
end Go.Proofs.Ytinoelooccmmnaa
