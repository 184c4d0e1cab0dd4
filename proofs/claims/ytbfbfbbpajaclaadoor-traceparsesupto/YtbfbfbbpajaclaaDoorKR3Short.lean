
/-
  The line of a right instruction is short: at most 39 bytes, one fewer than the instruction itself takes. Plain.
-/
import Derived.Test.YtbfbfbbpajaclaaDoorKR3Plain
import Derived.Test.YtbfbfbbpajaclaaDoorR2Plain
namespace Go.Proofs.YtbfbfbbpajaclaaDoor
open Go.RowKit
set_option linter.unusedVariables false

theorem digF_one {f u : Nat} (h : u ≤ 9) : (digF (f + 1) u).length ≤ 1 := by
  rw [digF_last (by omega)]; simp
theorem digF_two {f u : Nat} (h : u ≤ 99) : (digF (f + 2) u).length ≤ 2 := by
  by_cases h0 : u / 10 = 0
  · rw [digF_last h0]; simp
  · rw [digF_more h0]
    have := digF_one (f := f) (u := u / 10) (by omega)
    simp; omega
theorem digF_three {f u : Nat} (h : u ≤ 999) : (digF (f + 3) u).length ≤ 3 := by
  by_cases h0 : u / 10 = 0
  · rw [digF_last h0]; simp
  · rw [digF_more h0]
    have := digF_two (f := f) (u := u / 10) (by omega)
    simp; omega
theorem numL_one {n : Int} (h : 0 ≤ n ∧ n ≤ 9) : (numL n).length ≤ 1 := by
  unfold numL; rw [if_neg (by omega)]; exact digF_one (f := 19) (by omega)
theorem numL_two {n : Int} (h : 0 ≤ n ∧ n ≤ 99) : (numL n).length ≤ 2 := by
  unfold numL; rw [if_neg (by omega)]; exact digF_two (f := 18) (by omega)
theorem numL_three {n : Int} (h : 0 ≤ n ∧ n ≤ 999) : (numL n).length ≤ 3 := by
  unfold numL; rw [if_neg (by omega)]; exact digF_three (f := 17) (by omega)
theorem rL_two {n : Int} (h : regB n = true) : (rL n).length ≤ 2 := by
  have := regB_bd h
  have := numL_one (n := n) (by omega)
  simp [rL]; omega
theorem lineL_short {op d a b imm : Int} (h : rightB op d a b imm = true) : (lineL op d a b imm).length ≤ 39 := by
  have h1 := nmL_len op
  have h4 := srcL_len b imm
  unfold lineL
  rw [List.length_append, List.length_cons]
  unfold tailL
  by_cases c1 : op = 0 ∨ op = 11
  · rw [if_pos c1]
    have hr : regB d = true := by rcases c1 with rfl | rfl; (rw [rightB_0] at h; simp at h; exact h.1.1); (rw [rightB_11] at h; simp at h; exact h.1.1)
    have := rL_two hr
    simp; omega
  rw [if_neg c1]
  have ho := right_op h
  by_cases c2 : op ≤ 10
  · rw [if_pos c2]
    rw [rightB_three (by omega)] at h
    simp at h
    have := rL_two h.1.1
    have := rL_two h.1.2
    simp; omega
  rw [if_neg c2]
  by_cases c3 : op = 12
  · rw [if_pos c3]
    subst c3
    rw [rightB_12] at h
    simp at h
    have := rL_two h.1.2
    simp; omega
  rw [if_neg c3]
  by_cases c4 : op = 13 ∨ op = 14
  · rw [if_pos c4]
    have hr : regB d = true := by rcases c4 with rfl | rfl; (rw [rightB_13] at h; simp at h; exact h.1.1.1); (rw [rightB_14] at h; simp at h; exact h.1.1.1.1)
    have := rL_two hr
    have := numL_len imm
    simp; omega
  rw [if_neg c4]
  by_cases c5 : op = 15
  · rw [if_pos c5]
    have := numL_len d
    omega
  rw [if_neg c5]
  by_cases c6 : op ≤ 19
  · rw [if_pos c6]
    have hd := right_far h (by omega)
    rw [rightB_jump (by omega)] at h
    simp at h
    have := rL_two h.1.2
    have := numL_two (n := d) (by omega)
    simp; omega
  rw [if_neg c6]
  by_cases c7 : op = 20
  · rw [if_pos c7]
    subst c7
    have hd := right_far h (by omega)
    rw [rightB_20] at h
    simp at h
    have := rL_two h.1.1.1.2
    have := numL_two (n := d) (by omega)
    have := numL_three (n := imm) (by omega)
    simp; omega
  rw [if_neg c7]
  by_cases c8 : op = 21
  · rw [if_pos c8]
    have := numL_len imm
    omega
  rw [if_neg c8]
  obtain rfl : op = 22 := by omega
  rw [rightB_22] at h
  simp at h
  have := rL_two h.1.1.2
  omega
end Go.Proofs.YtbfbfbbpajaclaaDoor
