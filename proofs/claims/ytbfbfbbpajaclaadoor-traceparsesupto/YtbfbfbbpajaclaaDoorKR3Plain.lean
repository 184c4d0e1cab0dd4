
/-
  Layer 3's plain functions: numbers in decimal digits, an instruction's line. No Go text in sight.
-/
import Derived.Test.YtbfbfbbpajaclaaDoorKR2Names
namespace Go.Proofs.YtbfbfbbpajaclaaDoor
open Go.RowKit
set_option linter.unusedVariables false

/-- A string of bytes. -/
abbrev str (l : List UInt8) : ByteArray := ⟨l.toArray⟩
/-- A digit. -/
def dig (k : Nat) : UInt8 := (48 + k).toUInt8
/-- Decimal digits, at most f of them. -/
def digF : Nat → Nat → List UInt8
  | 0, _ => []
  | f + 1, u => (if u / 10 = 0 then [] else digF f (u / 10)) ++ [dig (u % 10)]
/-- A number as it is written. -/
def numL (n : Int) : List UInt8 := if n < 0 then 45 :: digF 20 (-n).toNat else digF 20 n.toNat
theorem digF_last {f u : Nat} (h : u / 10 = 0) : digF (f + 1) u = [dig (u % 10)] := by simp [digF, h]
theorem digF_more {f u : Nat} (h : u / 10 ≠ 0) : digF (f + 1) u = digF f (u / 10) ++ [dig (u % 10)] := by simp [digF, h]
theorem str_app (a b : List UInt8) : str a ++ str b = str (a ++ b) := by
  show ByteArray.append _ _ = _
  simp [ByteArray.append]
theorem digF_len : ∀ f u : Nat, (digF f u).length ≤ f
  | 0, _ => by simp [digF]
  | f + 1, u => by
    have := digF_len f (u / 10)
    unfold digF
    split <;> simp <;> omega
theorem numL_len (n : Int) : (numL n).length ≤ 21 := by
  unfold numL
  split
  · have := digF_len 20 (-n).toNat; simp; omega
  · have := digF_len 20 n.toNat; omega
/-- A register, a source, as they are written. -/
def rL (n : Int) : List UInt8 := 114 :: numL n
def srcL (b imm : Int) : List UInt8 := if b = 8 then numL imm else rL b
theorem rL_len (n : Int) : (rL n).length ≤ 22 := by have := numL_len n; simp [rL]; omega
theorem srcL_len (b imm : Int) : (srcL b imm).length ≤ 22 := by
  unfold srcL
  split
  · have := numL_len imm; omega
  · exact rL_len b
/-- A name's bytes. -/
def nmL (op : Int) : List UInt8 := (nameF op).data.toList
theorem nmL_str (op : Int) : str (nmL op) = nameF op := by unfold nmL; rfl
theorem nameS_len : ∀ k : Fin 23, (nameS k.val).data.toList.length ≤ 5 := by decide +kernel
theorem nmL_len (op : Int) : (nmL op).length ≤ 5 := by
  unfold nmL nameF
  split
  · rename_i h
    exact nameS_len ⟨op.toNat, by omega⟩
  · simp
/-- What stands behind the name and a blank. -/
def tailL (op d a b imm : Int) : List UInt8 :=
  if op = 0 ∨ op = 11 then rL d ++ 32 :: srcL b imm
  else if op ≤ 10 then rL d ++ 32 :: (rL a ++ 32 :: srcL b imm)
  else if op = 12 then rL a ++ 32 :: srcL b imm
  else if op = 13 ∨ op = 14 then rL d ++ 32 :: numL imm
  else if op = 15 then numL d
  else if op ≤ 19 then rL a ++ 32 :: (srcL b imm ++ 32 :: numL d)
  else if op = 20 then rL a ++ 32 :: (numL d ++ 32 :: numL imm)
  else if op = 21 then numL imm
  else rL a
/-- The line of an instruction. -/
def lineL (op d a b imm : Int) : List UInt8 := nmL op ++ 32 :: tailL op d a b imm
theorem lineL_len (op d a b imm : Int) : (lineL op d a b imm).length ≤ 80 := by
  have h1 := nmL_len op
  have h2 := rL_len d
  have h3 := rL_len a
  have h4 := srcL_len b imm
  have h5 := numL_len imm
  have h6 := numL_len d
  unfold lineL tailL
  repeat' split
  all_goals (simp; omega)
theorem retstr {a b : ByteArray} (h : a = b) : Ending.returned (.string a) = .returned (.string b) := by rw [h]
end Go.Proofs.YtbfbfbbpajaclaaDoor
