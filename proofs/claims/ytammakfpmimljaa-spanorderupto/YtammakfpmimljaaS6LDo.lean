/-
  What the landed Do answers. Condition: spans of numbers of 64 bits.
-/
import Derived.Test.YtammakfpmimljaaS6LDoB
namespace Go.Proofs.Ytammakfpmimljaa
open Go.RowKit
set_option linter.unusedVariables false
set_option maxRecDepth 20000

theorem isOp_eq (op : Int) : isOp op = decide (1 ≤ op ∧ op ≤ 10) := rfl
/-- The landed Do. -/
theorem ldo_any : KDo := by
  intro op a A b B w ha hA hb hB
  unfold W64 at ha hA hb hB
  obtain ⟨n, HN⟩ : ∃ n, Hid (n = doL op a b) := ⟨_, rfl⟩
  unfold doR
  by_cases c1 : 1 ≤ op ∧ op ≤ 10
  case neg => rw [if_neg (fun h => c1 h.1)]; exact ldo_no1 op a A b B n w ha hb (by show _ = _; rw [isOp_eq, decide_eq_false c1]) HN
  have HO : Hid (true = isOp op) := by show _ = _; rw [isOp_eq, decide_eq_true c1]
  by_cases c2 : a ≤ A ∧ b ≤ B
  case neg =>
    rw [if_neg (fun h => c2 h.2)]
    exact ldo_no2 op a A b B n w ha hb HO HN (by show _ = _; rw [← Bool.decide_and, decide_eq_false c2])
  have HR : Hid (true = (decide (a ≤ A) && decide (b ≤ B))) := by show _ = _; rw [← Bool.decide_and, decide_eq_true c2]
  rw [if_pos ⟨c1, c2⟩]
  by_cases hs : a = A ∧ b = B
  · have e : spanL op a A b B = (n, n) := by unfold spanL; rw [if_pos hs, HN.out]
    rw [e]
    exact ldo_one op a A b B n w ha hb HO HN HR (by show _ = _; rw [hs.1, hs.2]; simp)
  have HS : Hid (false = ((a == A) && (b == B))) := by
    show _ = _
    symm
    rw [Bool.eq_false_iff]
    intro h
    simp at h
    exact hs h
  have h1 : 0 ≤ a ∧ a ≤ A ∧ A ≤ 18446744073709551615 := by omega
  have h2 : 0 ≤ b ∧ b ≤ B ∧ B ≤ 18446744073709551615 := by omega
  have c : op = 1 ∨ op = 2 ∨ op = 3 ∨ op = 4 ∨ op = 5 ∨ op = 6 ∨ op = 7 ∨ op = 8 ∨ op = 9 ∨ op = 10 := by omega
  rcases c with rfl | rfl | rfl | rfl | rfl | rfl | rfl | rfl | rfl | rfl
  · have e : spanL 1 a A b B = (if 18446744073709551615 < A + B then (0, 18446744073709551615) else (a + b, A + B)) := by unfold spanL; rw [if_neg hs]; rfl
    rw [e]
    exact ldo_sum a A b B n w ha hb HO HN HR HS _ _ (fun w => lsum_any a A b B w h1 h2)
  · have e : spanL 2 a A b B = (if a < B then (0, 18446744073709551615) else (a - B, A - b)) := by unfold spanL; rw [if_neg hs]; rfl
    rw [e]
    exact ldo_difference a A b B n w ha hb HO HN HR HS _ _ (fun w => ldiff_any a A b B w h1 h2)
  · have e : spanL 3 a A b B = (if 18446744073709551615 < A * B then (0, 18446744073709551615) else (a * b, A * B)) := by unfold spanL; rw [if_neg hs]; rfl
    rw [e]
    exact ldo_product a A b B n w ha hb HO HN HR HS _ _ (fun w => lprod_any a A b B w h1 h2)
  · have e : spanL 4 a A b B = (if b = 0 then (0, A) else (a / B, A / b)) := by unfold spanL; rw [if_neg hs]; rfl
    rw [e]
    exact ldo_quotient a A b B n w ha hb HO HN HR HS _ _ (fun w => lquo_any a A b B w h1 h2)
  · have e : spanL 5 a A b B = (if b = 0 then (0, A) else if A < b then (a, A) else (0, min A (B - 1))) := by unfold spanL; rw [if_neg hs]; rfl
    rw [e]
    exact ldo_rest a A b B n w ha hb HO HN HR HS _ _ (fun w => lrest_any a A b B w h1 h2)
  · have e : spanL 6 a A b B = (0, min A B) := by unfold spanL; rw [if_neg hs]; rfl
    rw [e]
    exact ldo_and a A b B n w ha hb HO HN HR HS
  · have e : spanL 7 a A b B = (max a b, formL (max A B)) := by unfold spanL; rw [if_neg hs]; rfl
    rw [e]
    exact ldo_or a A b B n w ha hb HO HN HR HS hA hB
  · have e : spanL 8 a A b B = (0, formL (max A B)) := by unfold spanL; rw [if_neg hs]; rfl
    rw [e]
    exact ldo_xor a A b B n w ha hb HO HN HR HS hA hB
  · have e : spanL 9 a A b B = (if b = B ∧ A * 2 ^ min b.toNat 64 ≤ 18446744073709551615 then (a * 2 ^ min b.toNat 64, A * 2 ^ min b.toNat 64) else (0, 18446744073709551615)) := by unfold spanL; rw [if_neg hs]; rfl
    rw [e]
    exact ldo_raised a A b B n w ha hb HO HN HR HS _ _ (fun w => lraised_any a A b B w h1 h2)
  · have e : spanL 10 a A b B = (a / 2 ^ min B.toNat 64, A / 2 ^ min b.toNat 64) := by unfold spanL; rw [if_neg hs]; rfl
    rw [e]
    exact ldo_shr a A b B n w ha hb HO HN HR HS hA hB
end Go.Proofs.Ytammakfpmimljaa
