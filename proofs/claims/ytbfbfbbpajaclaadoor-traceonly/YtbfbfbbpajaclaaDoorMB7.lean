/-
  KR2Names
  KR3Plain
  KR3Short
-/
import Derived.Test.YtbfbfbbpajaclaaDoorMB1
import Derived.Test.YtbfbfbbpajaclaaDoorRows
import Derived.WalkSpells
import Derived.OpenShut
import Derived.Below
import Derived.Laws.Strings
import Derived.WideShapes
/-
  What the document's names, Name and Find do: the operations' names by number, and the number of a name. Condition: a name's length fits.
-/
namespace Go.Proofs.YtbfbfbbpajaclaaDoor
open Go.RowKit
set_option linter.unusedVariables false

/-- The operations' names. -/
def nameL : List ByteArray := [⟨#[115, 101, 116]⟩, ⟨#[97, 100, 100]⟩, ⟨#[115, 117, 98]⟩, ⟨#[109, 117, 108]⟩, ⟨#[100, 105, 118]⟩, ⟨#[114, 101, 109]⟩, ⟨#[97, 110, 100]⟩, ⟨#[111, 114]⟩, ⟨#[120, 111, 114]⟩, ⟨#[115, 104, 108]⟩, ⟨#[115, 104, 114]⟩, ⟨#[108, 111, 97, 100]⟩, ⟨#[115, 116, 111, 114, 101]⟩, ⟨#[102, 105, 101, 108, 100]⟩, ⟨#[109, 97, 112]⟩, ⟨#[106, 117, 109, 112]⟩, ⟨#[106, 101, 113]⟩, ⟨#[106, 110, 101]⟩, ⟨#[106, 108, 116]⟩, ⟨#[106, 103, 101]⟩, ⟨#[108, 111, 111, 112]⟩, ⟨#[99, 97, 108, 108]⟩, ⟨#[101, 120, 105, 116]⟩]
def nameS (i : Nat) : ByteArray := nameL.getD i ⟨#[]⟩

/-- The name of a number. -/
def nameF (op : Int) : ByteArray := if 0 ≤ op ∧ op < 23 then nameS op.toNat else ⟨#[]⟩
theorem rets {a b : ByteArray} (h : a = b) : Ending.returned (.string a) = .returned (.string b) := by rw [h]

theorem str_ne {t s : ByteArray} (h : t ≠ s) : (t.toList == s.toList) = false := by
  rw [beq_eq_false_iff_ne]
  intro e
  rw [ByteArray.toList_eq, ByteArray.toList_eq] at e
  exact h (Go.WideShapes.bytes_inj e)
/-- The first number from i on whose name it is. -/
def findF (s : ByteArray) : Nat → Nat → Int × Bool
  | 0, _ => (0, false)
  | f + 1, i => if nameS i = s then ((i : Int), true) else findF s f (i + 1)
def findL (s : ByteArray) : Int × Bool := findF s 23 0

end Go.Proofs.YtbfbfbbpajaclaaDoor
/-
  Layer 3's plain functions: numbers in decimal digits, an instruction's line. No Go text in sight.
-/
namespace Go.Proofs.YtbfbfbbpajaclaaDoor
open Go.RowKit
set_option linter.unusedVariables false

/-- A string of bytes. -/
abbrev str (l : List UInt8) : ByteArray := ⟨l.toArray⟩
/-- A digit. -/
def dig (k : Nat) : UInt8 := (48 + k).toUInt8
/-- Decimal digits, at most f of them. -/
def digF : Nat → Nat → List UInt8
  | 0, _ => []
  | f + 1, u => (if u / 10 = 0 then [] else digF f (u / 10)) ++ [dig (u % 10)]
/-- A number as it is written. -/
def numL (n : Int) : List UInt8 := if n < 0 then 45 :: digF 20 (-n).toNat else digF 20 n.toNat
theorem digF_last {f u : Nat} (h : u / 10 = 0) : digF (f + 1) u = [dig (u % 10)] := by simp [digF, h]
theorem digF_more {f u : Nat} (h : u / 10 ≠ 0) : digF (f + 1) u = digF f (u / 10) ++ [dig (u % 10)] := by simp [digF, h]
theorem str_app (a b : List UInt8) : str a ++ str b = str (a ++ b) := by
  show ByteArray.append _ _ = _
  simp [ByteArray.append]
theorem digF_len : ∀ f u : Nat, (digF f u).length ≤ f
  | 0, _ => by simp [digF]
  | f + 1, u => by
    have := digF_len f (u / 10)
    unfold digF
    split <;> simp <;> omega
theorem numL_len (n : Int) : (numL n).length ≤ 21 := by
  unfold numL
  split
  · have := digF_len 20 (-n).toNat; simp; omega
  · have := digF_len 20 n.toNat; omega
/-- A register, a source, as they are written. -/
def rL (n : Int) : List UInt8 := 114 :: numL n
def srcL (b imm : Int) : List UInt8 := if b = 8 then numL imm else rL b
theorem rL_len (n : Int) : (rL n).length ≤ 22 := by have := numL_len n; simp [rL]; omega
theorem srcL_len (b imm : Int) : (srcL b imm).length ≤ 22 := by
  unfold srcL
  split
  · have := numL_len imm; omega
  · exact rL_len b
/-- A name's bytes. -/
def nmL (op : Int) : List UInt8 := (nameF op).data.toList
theorem nmL_str (op : Int) : str (nmL op) = nameF op := by unfold nmL; rfl
theorem nameS_len : ∀ k : Fin 23, (nameS k.val).data.toList.length ≤ 5 := by decide +kernel
theorem nmL_len (op : Int) : (nmL op).length ≤ 5 := by
  unfold nmL nameF
  split
  · rename_i h
    exact nameS_len ⟨op.toNat, by omega⟩
  · simp
/-- What stands behind the name and a blank. -/
def tailL (op d a b imm : Int) : List UInt8 :=
  if op = 0 ∨ op = 11 then rL d ++ 32 :: srcL b imm
  else if op ≤ 10 then rL d ++ 32 :: (rL a ++ 32 :: srcL b imm)
  else if op = 12 then rL a ++ 32 :: srcL b imm
  else if op = 13 ∨ op = 14 then rL d ++ 32 :: numL imm
  else if op = 15 then numL d
  else if op ≤ 19 then rL a ++ 32 :: (srcL b imm ++ 32 :: numL d)
  else if op = 20 then rL a ++ 32 :: (numL d ++ 32 :: numL imm)
  else if op = 21 then numL imm
  else rL a
/-- The line of an instruction. -/
def lineL (op d a b imm : Int) : List UInt8 := nmL op ++ 32 :: tailL op d a b imm
theorem lineL_len (op d a b imm : Int) : (lineL op d a b imm).length ≤ 80 := by
  have h1 := nmL_len op
  have h2 := rL_len d
  have h3 := rL_len a
  have h4 := srcL_len b imm
  have h5 := numL_len imm
  have h6 := numL_len d
  unfold lineL tailL
  repeat' split
  all_goals (simp; omega)
theorem retstr {a b : ByteArray} (h : a = b) : Ending.returned (.string a) = .returned (.string b) := by rw [h]
end Go.Proofs.YtbfbfbbpajaclaaDoor
/-
  The line of a right instruction is short: at most 39 bytes, one fewer than the instruction itself takes. Plain.
-/
namespace Go.Proofs.YtbfbfbbpajaclaaDoor
open Go.RowKit
set_option linter.unusedVariables false

theorem digF_one {f u : Nat} (h : u ≤ 9) : (digF (f + 1) u).length ≤ 1 := by
  rw [digF_last (by omega)]; simp
theorem digF_two {f u : Nat} (h : u ≤ 99) : (digF (f + 2) u).length ≤ 2 := by
  by_cases h0 : u / 10 = 0
  · rw [digF_last h0]; simp
  · rw [digF_more h0]
    have := digF_one (f := f) (u := u / 10) (by omega)
    simp; omega
theorem digF_three {f u : Nat} (h : u ≤ 999) : (digF (f + 3) u).length ≤ 3 := by
  by_cases h0 : u / 10 = 0
  · rw [digF_last h0]; simp
  · rw [digF_more h0]
    have := digF_two (f := f) (u := u / 10) (by omega)
    simp; omega
theorem numL_one {n : Int} (h : 0 ≤ n ∧ n ≤ 9) : (numL n).length ≤ 1 := by
  unfold numL; rw [if_neg (by omega)]; exact digF_one (f := 19) (by omega)
theorem numL_two {n : Int} (h : 0 ≤ n ∧ n ≤ 99) : (numL n).length ≤ 2 := by
  unfold numL; rw [if_neg (by omega)]; exact digF_two (f := 18) (by omega)
theorem numL_three {n : Int} (h : 0 ≤ n ∧ n ≤ 999) : (numL n).length ≤ 3 := by
  unfold numL; rw [if_neg (by omega)]; exact digF_three (f := 17) (by omega)
theorem rL_two {n : Int} (h : regB n = true) : (rL n).length ≤ 2 := by
  have := regB_bd h
  have := numL_one (n := n) (by omega)
  simp [rL]; omega
theorem lineL_short {op d a b imm : Int} (h : rightB op d a b imm = true) : (lineL op d a b imm).length ≤ 39 := by
  have h1 := nmL_len op
  have h4 := srcL_len b imm
  unfold lineL
  rw [List.length_append, List.length_cons]
  unfold tailL
  by_cases c1 : op = 0 ∨ op = 11
  · rw [if_pos c1]
    have hr : regB d = true := by rcases c1 with rfl | rfl; (rw [rightB_0] at h; simp at h; exact h.1.1); (rw [rightB_11] at h; simp at h; exact h.1.1)
    have := rL_two hr
    simp; omega
  rw [if_neg c1]
  have ho := right_op h
  by_cases c2 : op ≤ 10
  · rw [if_pos c2]
    rw [rightB_three (by omega)] at h
    simp at h
    have := rL_two h.1.1
    have := rL_two h.1.2
    simp; omega
  rw [if_neg c2]
  by_cases c3 : op = 12
  · rw [if_pos c3]
    subst c3
    rw [rightB_12] at h
    simp at h
    have := rL_two h.1.2
    simp; omega
  rw [if_neg c3]
  by_cases c4 : op = 13 ∨ op = 14
  · rw [if_pos c4]
    have hr : regB d = true := by rcases c4 with rfl | rfl; (rw [rightB_13] at h; simp at h; exact h.1.1.1); (rw [rightB_14] at h; simp at h; exact h.1.1.1.1)
    have := rL_two hr
    have := numL_len imm
    simp; omega
  rw [if_neg c4]
  by_cases c5 : op = 15
  · rw [if_pos c5]
    have := numL_len d
    omega
  rw [if_neg c5]
  by_cases c6 : op ≤ 19
  · rw [if_pos c6]
    have hd := right_far h (by omega)
    rw [rightB_jump (by omega)] at h
    simp at h
    have := rL_two h.1.2
    have := numL_two (n := d) (by omega)
    simp; omega
  rw [if_neg c6]
  by_cases c7 : op = 20
  · rw [if_pos c7]
    subst c7
    have hd := right_far h (by omega)
    rw [rightB_20] at h
    simp at h
    have := rL_two h.1.1.1.2
    have := numL_two (n := d) (by omega)
    have := numL_three (n := imm) (by omega)
    simp; omega
  rw [if_neg c7]
  by_cases c8 : op = 21
  · rw [if_pos c8]
    have := numL_len imm
    omega
  rw [if_neg c8]
  obtain rfl : op = 22 := by omega
  rw [rightB_22] at h
  simp at h
  have := rL_two h.1.1.2
  omega
end Go.Proofs.YtbfbfbbpajaclaaDoor
