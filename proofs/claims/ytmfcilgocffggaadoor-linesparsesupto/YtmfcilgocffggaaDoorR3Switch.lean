/-
  The switch of the document's Read, with no Go text in sight.
-/
import Derived.Test.YtmfcilgocffggaaDoorR3Read
namespace Go.Proofs.YtmfcilgocffggaaDoor
open Go.RowKit
set_option linter.unusedVariables false
set_option maxRecDepth 100000

/-- D, A, Imm and the source's word, as the switch lays them. -/
def swL (op n0 n1 m0 m1 m2 : Int) : Int × Int × Int × Int :=
  if op = 0 ∨ op = 11 then (n0, 0, 0, 1)
  else if op ≤ 10 then (n0, n1, 0, 2)
  else if op = 12 then (0, n0, 0, 1)
  else if op = 13 ∨ op = 14 then (n0, 0, m1, 0)
  else if op = 15 then (m0, 0, 0, 0)
  else if op ≤ 19 then (m2, n0, 0, 1)
  else if op = 20 then (m1, n0, m2, 0)
  else if op = 21 then (0, 0, m0, 0)
  else (0, n0, 0, 0)
theorem sw_at (op n0 n1 m0 m1 m2 : Int) : (swL op n0 n1 m0 m1 m2).2.2.2 = 0 ∨ (swL op n0 n1 m0 m1 m2).2.2.2 = 1 ∨ (swL op n0 n1 m0 m1 m2).2.2.2 = 2 := by
  unfold swL
  repeat' split
  all_goals simp

theorem cand_0 {op : Int} {ts : List (List UInt8)} (h : (swL op (nW (ts.getD 0 [])) (nW (ts.getD 1 [])) (mW (ts.getD 0 [])) (mW (ts.getD 1 [])) (mW (ts.getD 2 []))).2.2.2 = 0) : candI op ts = ⟨op, (swL op (nW (ts.getD 0 [])) (nW (ts.getD 1 [])) (mW (ts.getD 0 [])) (mW (ts.getD 1 [])) (mW (ts.getD 2 []))).1, (swL op (nW (ts.getD 0 [])) (nW (ts.getD 1 [])) (mW (ts.getD 0 [])) (mW (ts.getD 1 [])) (mW (ts.getD 2 []))).2.1, 0, (swL op (nW (ts.getD 0 [])) (nW (ts.getD 1 [])) (mW (ts.getD 0 [])) (mW (ts.getD 1 [])) (mW (ts.getD 2 []))).2.2.1⟩ := by
  unfold swL at h ⊢
  unfold candI
  by_cases c0 : op = 0 ∨ op = 11
  · simp only [if_pos c0] at h ⊢
    omega
  simp only [if_neg c0] at h ⊢
  by_cases c1 : op ≤ 10
  · simp only [if_pos c1] at h ⊢
    omega
  simp only [if_neg c1] at h ⊢
  by_cases c2 : op = 12
  · simp only [if_pos c2] at h ⊢
    omega
  simp only [if_neg c2] at h ⊢
  by_cases c3 : op = 13 ∨ op = 14
  · simp only [if_pos c3] at h ⊢
  simp only [if_neg c3] at h ⊢
  by_cases c4 : op = 15
  · simp only [if_pos c4] at h ⊢
  simp only [if_neg c4] at h ⊢
  by_cases c5 : op ≤ 19
  · simp only [if_pos c5] at h ⊢
    omega
  simp only [if_neg c5] at h ⊢
  by_cases c6 : op = 20
  · simp only [if_pos c6] at h ⊢
  simp only [if_neg c6] at h ⊢
  by_cases c7 : op = 21
  · simp only [if_pos c7] at h ⊢
  simp only [if_neg c7] at h ⊢
theorem cand_1 {op : Int} {ts : List (List UInt8)} (h : (swL op (nW (ts.getD 0 [])) (nW (ts.getD 1 [])) (mW (ts.getD 0 [])) (mW (ts.getD 1 [])) (mW (ts.getD 2 []))).2.2.2 = 1) : candI op ts = ⟨op, (swL op (nW (ts.getD 0 [])) (nW (ts.getD 1 [])) (mW (ts.getD 0 [])) (mW (ts.getD 1 [])) (mW (ts.getD 2 []))).1, (swL op (nW (ts.getD 0 [])) (nW (ts.getD 1 [])) (mW (ts.getD 0 [])) (mW (ts.getD 1 [])) (mW (ts.getD 2 []))).2.1, if regW (ts.getD 1 []) = true then nW (ts.getD 1 []) else 8, mW (ts.getD 1 [])⟩ ∧ (swL op (nW (ts.getD 0 [])) (nW (ts.getD 1 [])) (mW (ts.getD 0 [])) (mW (ts.getD 1 [])) (mW (ts.getD 2 []))).2.2.1 = 0 := by
  unfold swL at h ⊢
  unfold candI
  by_cases c0 : op = 0 ∨ op = 11
  · simp only [if_pos c0] at h ⊢
    exact ⟨trivial, trivial⟩
  simp only [if_neg c0] at h ⊢
  by_cases c1 : op ≤ 10
  · simp only [if_pos c1] at h ⊢
    omega
  simp only [if_neg c1] at h ⊢
  by_cases c2 : op = 12
  · simp only [if_pos c2] at h ⊢
    exact ⟨trivial, trivial⟩
  simp only [if_neg c2] at h ⊢
  by_cases c3 : op = 13 ∨ op = 14
  · simp only [if_pos c3] at h ⊢
    omega
  simp only [if_neg c3] at h ⊢
  by_cases c4 : op = 15
  · simp only [if_pos c4] at h ⊢
    omega
  simp only [if_neg c4] at h ⊢
  by_cases c5 : op ≤ 19
  · simp only [if_pos c5] at h ⊢
    exact ⟨trivial, trivial⟩
  simp only [if_neg c5] at h ⊢
  by_cases c6 : op = 20
  · simp only [if_pos c6] at h ⊢
    omega
  simp only [if_neg c6] at h ⊢
  by_cases c7 : op = 21
  · simp only [if_pos c7] at h ⊢
    omega
  simp only [if_neg c7] at h ⊢
  omega
theorem cand_2 {op : Int} {ts : List (List UInt8)} (h : (swL op (nW (ts.getD 0 [])) (nW (ts.getD 1 [])) (mW (ts.getD 0 [])) (mW (ts.getD 1 [])) (mW (ts.getD 2 []))).2.2.2 = 2) : candI op ts = ⟨op, (swL op (nW (ts.getD 0 [])) (nW (ts.getD 1 [])) (mW (ts.getD 0 [])) (mW (ts.getD 1 [])) (mW (ts.getD 2 []))).1, (swL op (nW (ts.getD 0 [])) (nW (ts.getD 1 [])) (mW (ts.getD 0 [])) (mW (ts.getD 1 [])) (mW (ts.getD 2 []))).2.1, if regW (ts.getD 2 []) = true then nW (ts.getD 2 []) else 8, mW (ts.getD 2 [])⟩ ∧ (swL op (nW (ts.getD 0 [])) (nW (ts.getD 1 [])) (mW (ts.getD 0 [])) (mW (ts.getD 1 [])) (mW (ts.getD 2 []))).2.2.1 = 0 := by
  unfold swL at h ⊢
  unfold candI
  by_cases c0 : op = 0 ∨ op = 11
  · simp only [if_pos c0] at h ⊢
    omega
  simp only [if_neg c0] at h ⊢
  by_cases c1 : op ≤ 10
  · simp only [if_pos c1] at h ⊢
    exact ⟨trivial, trivial⟩
  simp only [if_neg c1] at h ⊢
  by_cases c2 : op = 12
  · simp only [if_pos c2] at h ⊢
    omega
  simp only [if_neg c2] at h ⊢
  by_cases c3 : op = 13 ∨ op = 14
  · simp only [if_pos c3] at h ⊢
    omega
  simp only [if_neg c3] at h ⊢
  by_cases c4 : op = 15
  · simp only [if_pos c4] at h ⊢
    omega
  simp only [if_neg c4] at h ⊢
  by_cases c5 : op ≤ 19
  · simp only [if_pos c5] at h ⊢
    omega
  simp only [if_neg c5] at h ⊢
  by_cases c6 : op = 20
  · simp only [if_pos c6] at h ⊢
    omega
  simp only [if_neg c6] at h ⊢
  by_cases c7 : op = 21
  · simp only [if_pos c7] at h ⊢
    omega
  simp only [if_neg c7] at h ⊢
  omega
end Go.Proofs.YtmfcilgocffggaaDoor
