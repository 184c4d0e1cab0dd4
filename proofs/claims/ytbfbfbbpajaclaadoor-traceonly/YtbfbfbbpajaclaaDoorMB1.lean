
/-
  Layer 2's plain functions: what an instruction's fields must be, by the document. No Go text in sight.
-/
import Derived.WalkKit
namespace Go.Proofs.YtbfbfbbpajaclaaDoor
open Go.RowKit
set_option linter.unusedVariables false

def regB (n : Int) : Bool := decide (0 ≤ n) && decide (n ≤ 7)
def sourcedB (b imm : Int) : Bool := (regB b && imm == 0) || b == 8
def threeB (op : Int) : Bool := decide (1 ≤ op) && decide (op ≤ 10)
def jumpB (op : Int) : Bool := decide (16 ≤ op) && decide (op ≤ 19)
/-- Is an instruction right? -/
def rightB (op d a b imm : Int) : Bool :=
  if op = 0 ∨ op = 11 then regB d && a == 0 && sourcedB b imm
  else if 1 ≤ op ∧ op ≤ 10 then regB d && regB a && sourcedB b imm
  else if op = 12 then d == 0 && regB a && sourcedB b imm
  else if op = 13 then regB d && a == 0 && b == 0 && (imm == 0 || imm == 1)
  else if op = 14 then regB d && a == 0 && b == 0 && decide (0 ≤ imm) && decide (imm ≤ 3)
  else if op = 15 then decide (0 ≤ d) && decide (d ≤ 63) && a == 0 && b == 0 && imm == 0
  else if 16 ≤ op ∧ op ≤ 19 then decide (0 ≤ d) && decide (d ≤ 63) && regB a && sourcedB b imm
  else if op = 20 then decide (1 ≤ d) && decide (d ≤ 63) && regB a && b == 0 && decide (1 ≤ imm) && decide (imm ≤ 255)
  else if op = 21 then d == 0 && a == 0 && b == 0 && decide (0 ≤ imm) && decide (imm ≤ 6)
  else if op = 22 then d == 0 && regB a && b == 0 && imm == 0
  else false
theorem rightB_three {op d a b imm : Int} (h : 1 ≤ op ∧ op ≤ 10) : rightB op d a b imm = (regB d && regB a && sourcedB b imm) := by
  unfold rightB; rw [if_neg (by omega), if_pos h]
theorem rightB_jump {op d a b imm : Int} (h : 16 ≤ op ∧ op ≤ 19) : rightB op d a b imm = (decide (0 ≤ d) && decide (d ≤ 63) && regB a && sourcedB b imm) := by
  unfold rightB; rw [if_neg (by omega), if_neg (by omega), if_neg (by omega), if_neg (by omega), if_neg (by omega), if_neg (by omega), if_pos h]
theorem rightB_none {op d a b imm : Int} (h : op < 0 ∨ 22 < op) : rightB op d a b imm = false := by
  unfold rightB
  rw [if_neg (by omega), if_neg (by omega), if_neg (by omega), if_neg (by omega), if_neg (by omega), if_neg (by omega), if_neg (by omega), if_neg (by omega), if_neg (by omega), if_neg (by omega)]
theorem rightB_0 {d a b imm : Int} : rightB 0 d a b imm = (regB d && a == 0 && sourcedB b imm) := by unfold rightB; simp
theorem rightB_11 {d a b imm : Int} : rightB 11 d a b imm = (regB d && a == 0 && sourcedB b imm) := by unfold rightB; simp
theorem rightB_12 {d a b imm : Int} : rightB 12 d a b imm = (d == 0 && regB a && sourcedB b imm) := by unfold rightB; simp
theorem rightB_13 {d a b imm : Int} : rightB 13 d a b imm = (regB d && a == 0 && b == 0 && (imm == 0 || imm == 1)) := by unfold rightB; simp
theorem rightB_14 {d a b imm : Int} : rightB 14 d a b imm = (regB d && a == 0 && b == 0 && decide (0 ≤ imm) && decide (imm ≤ 3)) := by unfold rightB; simp
theorem rightB_15 {d a b imm : Int} : rightB 15 d a b imm = (decide (0 ≤ d) && decide (d ≤ 63) && a == 0 && b == 0 && imm == 0) := by unfold rightB; simp
theorem rightB_20 {d a b imm : Int} : rightB 20 d a b imm = (decide (1 ≤ d) && decide (d ≤ 63) && regB a && b == 0 && decide (1 ≤ imm) && decide (imm ≤ 255)) := by unfold rightB; simp
theorem rightB_21 {d a b imm : Int} : rightB 21 d a b imm = (d == 0 && a == 0 && b == 0 && decide (0 ≤ imm) && decide (imm ≤ 6)) := by unfold rightB; simp
theorem rightB_22 {d a b imm : Int} : rightB 22 d a b imm = (d == 0 && regB a && b == 0 && imm == 0) := by unfold rightB; simp
def sourceB (op d a b imm : Int) : Bool := rightB op d a b imm && (decide (op ≤ 12) || jumpB op)
/-- The register that is written. -/
def writesL (op d a b imm : Int) : Int × Bool :=
  if rightB op d a b imm = false then (0, false) else if op ≤ 11 ∨ op = 13 ∨ op = 14 then (d, true) else (0, op == 21)
/-- How far it leads, whether it does, whether it may go on at the next place. -/
def goesL (op d a b imm : Int) : Int × Bool × Bool :=
  if rightB op d a b imm = false then (0, false, false) else if op = 15 then (d + 1, true, false) else if 16 ≤ op ∧ op ≤ 19 then (d + 1, true, true) else if op = 20 then (-d, true, true) else (0, false, op != 22)
theorem right_op {op d a b imm : Int} (h : rightB op d a b imm = true) : 0 ≤ op ∧ op ≤ 22 := by
  by_cases hx : op < 0 ∨ 22 < op
  · rw [rightB_none hx] at h; cases h
  · omega
theorem right_far {op d a b imm : Int} (h : rightB op d a b imm = true) (ho : 15 ≤ op ∧ op ≤ 20) : 0 ≤ d ∧ d ≤ 63 := by
  by_cases h1 : 16 ≤ op ∧ op ≤ 19
  · rw [rightB_jump h1] at h; simp at h; omega
  · have : op = 15 ∨ op = 20 := by omega
    rcases this with rfl | rfl
    · rw [rightB_15] at h; simp at h; omega
    · rw [rightB_20] at h; simp at h; omega
theorem regB_bd {n : Int} (h : regB n = true) : 0 ≤ n ∧ n ≤ 7 := by simp [regB] at h; exact h
def readsP (op : Int) : Bool := threeB op || op == 12 || jumpB op || op == 20 || op == 22
theorem right_a {op d a b imm : Int} (h : rightB op d a b imm = true) (hp : readsP op = true) : 0 ≤ a ∧ a ≤ 7 := by
  by_cases h1 : 1 ≤ op ∧ op ≤ 10
  · rw [rightB_three h1] at h; simp at h; exact regB_bd h.1.2
  by_cases h2 : 16 ≤ op ∧ op ≤ 19
  · rw [rightB_jump h2] at h; simp at h; exact regB_bd h.1.2
  have h3 : threeB op = false := by simp [threeB]; omega
  have h4 : jumpB op = false := by simp [jumpB]; omega
  simp [readsP, h3, h4] at hp
  rcases hp with (rfl | rfl) | rfl
  · rw [rightB_12] at h; simp at h; exact regB_bd h.1.2
  · rw [rightB_20] at h; simp at h; exact regB_bd h.1.1.1.2
  · rw [rightB_22] at h; simp at h; exact regB_bd h.1.1.2
theorem sourced_b {b imm : Int} (h : sourcedB b imm = true) : (0 ≤ b ∧ b ≤ 7) ∨ b = 8 := by
  simp [sourcedB] at h
  rcases h with h | h
  · exact .inl (regB_bd h.1)
  · exact .inr h
theorem source_b {op d a b imm : Int} (h : sourceB op d a b imm = true) : (0 ≤ b ∧ b ≤ 7) ∨ b = 8 := by
  simp [sourceB] at h
  obtain ⟨hr, ho⟩ := h
  have ho' : (0 ≤ op ∧ op ≤ 12) ∨ (16 ≤ op ∧ op ≤ 19) := by
    have := right_op hr
    rcases ho with h | h
    · omega
    · simp [jumpB] at h; omega
  by_cases h1 : 1 ≤ op ∧ op ≤ 10
  · rw [rightB_three h1] at hr; simp at hr; exact sourced_b hr.2
  by_cases h2 : 16 ≤ op ∧ op ≤ 19
  · rw [rightB_jump h2] at hr; simp at hr; exact sourced_b hr.2
  have : op = 0 ∨ op = 11 ∨ op = 12 := by omega
  rcases this with rfl | rfl | rfl
  · rw [rightB_0] at hr; simp at hr; exact sourced_b hr.2
  · rw [rightB_11] at hr; simp at hr; exact sourced_b hr.2
  · rw [rightB_12] at hr; simp at hr; exact sourced_b hr.2
theorem r2b {a b : Bool} (h : a = b) : Ending.returned (.bool a) = .returned (.bool b) := by rw [h]
end Go.Proofs.YtbfbfbbpajaclaaDoor
