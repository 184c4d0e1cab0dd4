/-
  The project's shape.named at every operation's shape, in one contract: what comes back is like what went in just where nothing is left over. No condition beyond the numbers' kinds.
-/
import Derived.Test.YtfmibjgihicedaaO2Named
import Derived.Test.YtfmibjgihicedaaO2Plain
namespace Go.Proofs.Ytfmibjgihicedaa
open Go.RowKit
set_option linter.unusedVariables false
set_option linter.unusedSimpArgs false

theorem zero_op {op : Int} (h : (shapeL op).zero = false) : 0 ≤ op ∧ op ≤ 22 := by
  by_cases hx : op < 0 ∨ 22 < op
  · rw [shapeL_none hx] at h; cases h
  · omega
theorem cases_op {op : Int} (h : 0 ≤ op ∧ op ≤ 22) : (op = 0 ∨ op = 11) ∨ (1 ≤ op ∧ op ≤ 10) ∨ op = 12 ∨ op = 13 ∨ op = 14 ∨ op = 15 ∨ (16 ≤ op ∧ op ≤ 19) ∨ op = 20 ∨ op = 21 ∨ op = 22 := by omega
theorem zero_right {op d a b imm : Int} (h : (shapeL op).zero = true) : rightB op d a b imm = false := by
  by_cases hx : op < 0 ∨ 22 < op
  · exact rightB_none hx
  · exfalso
    rcases cases_op (op := op) (by omega) with hop | hop | rfl | rfl | rfl | rfl | hop | rfl | rfl | rfl
    · rw [shape_A hop] at h; cases h
    · rw [shape_B hop] at h; cases h
    · cases h
    · cases h
    · cases h
    · cases h
    · rw [shape_G hop] at h; cases h
    · cases h
    · cases h
    · cases h
/-- What 'named' makes of an instruction. -/
theorem named_any (op d a b imm : Int) (w : World) (ho : 0 ≤ op ∧ op ≤ 22) : Calls Try.prog 44 #[(shapeL op).v, instV op d a b imm] w fun e w' =>
    ∃ j : In, e = .returned j.v ∧ Below w.heap.size w w' ∧ rightB op d a b imm = (!neI ⟨op, d, a, b, imm⟩ j && fitsB (shapeL op).dest (shapeL op).source (shapeL op).farL (shapeL op).farM (shapeL op).immL (shapeL op).immM d a b imm) := by
  rcases cases_op ho with hop | hop | rfl | rfl | rfl | rfl | hop | rfl | rfl | rfl
  · rw [shape_A hop]
    cases h8 : (b == 8)
    · exact ((named_Ar op d a b imm w h8).mono fun e w1 ⟨he, hb⟩ => ⟨⟨op, d, 0, b, 0⟩, he, hb, by rw [right_A hop]; simp [neI, h8]⟩)
    · exact ((named_A8 op d a b imm w h8).mono fun e w1 ⟨he, hb⟩ => ⟨⟨op, d, 0, b, imm⟩, he, hb, by rw [right_A hop]; simp [neI, h8]⟩)
  · rw [shape_B hop]
    cases h8 : (b == 8)
    · exact ((named_Br op d a b imm w h8).mono fun e w1 ⟨he, hb⟩ => ⟨⟨op, d, a, b, 0⟩, he, hb, by rw [right_B hop]; simp [neI, h8]⟩)
    · exact ((named_B8 op d a b imm w h8).mono fun e w1 ⟨he, hb⟩ => ⟨⟨op, d, a, b, imm⟩, he, hb, by rw [right_B hop]; simp [neI, h8]⟩)
  · skip
    cases h8 : (b == 8)
    · exact ((named_Cr 12 d a b imm w h8).mono fun e w1 ⟨he, hb⟩ => ⟨⟨12, 0, a, b, 0⟩, he, hb, by refine (right_C).trans ?_; simp [neI, h8]; rfl⟩)
    · exact ((named_C8 12 d a b imm w h8).mono fun e w1 ⟨he, hb⟩ => ⟨⟨12, 0, a, b, imm⟩, he, hb, by refine (right_C).trans ?_; simp [neI, h8]; rfl⟩)
  · exact ((named_D 13 d a b imm w).mono fun e w1 ⟨he, hb⟩ => ⟨⟨13, d, 0, 0, imm⟩, he, hb, by refine (right_D).trans ?_; simp [neI]; rfl⟩)
  · exact ((named_E 14 d a b imm w).mono fun e w1 ⟨he, hb⟩ => ⟨⟨14, d, 0, 0, imm⟩, he, hb, by refine (right_E).trans ?_; simp [neI]; rfl⟩)
  · exact ((named_F 15 d a b imm w).mono fun e w1 ⟨he, hb⟩ => ⟨⟨15, d, 0, 0, 0⟩, he, hb, by refine (right_F).trans ?_; simp [neI]; rfl⟩)
  · rw [shape_G hop]
    cases h8 : (b == 8)
    · exact ((named_Gr op d a b imm w h8).mono fun e w1 ⟨he, hb⟩ => ⟨⟨op, d, a, b, 0⟩, he, hb, by rw [right_G hop]; simp [neI, h8]⟩)
    · exact ((named_G8 op d a b imm w h8).mono fun e w1 ⟨he, hb⟩ => ⟨⟨op, d, a, b, imm⟩, he, hb, by rw [right_G hop]; simp [neI, h8]⟩)
  · exact ((named_H 20 d a b imm w).mono fun e w1 ⟨he, hb⟩ => ⟨⟨20, d, a, 0, imm⟩, he, hb, by refine (right_H).trans ?_; simp [neI]; rfl⟩)
  · exact ((named_I 21 d a b imm w).mono fun e w1 ⟨he, hb⟩ => ⟨⟨21, 0, 0, 0, imm⟩, he, hb, by refine (right_I).trans ?_; simp [neI]; rfl⟩)
  · exact ((named_J 22 d a b imm w).mono fun e w1 ⟨he, hb⟩ => ⟨⟨22, 0, a, 0, 0⟩, he, hb, by refine (right_J).trans ?_; simp [neI]; rfl⟩)
end Go.Proofs.Ytfmibjgihicedaa
