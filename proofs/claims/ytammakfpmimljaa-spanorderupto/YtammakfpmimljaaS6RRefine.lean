/-
  What the document's Refine answers: the plain function refineL where the operation is a condition and both spans are right, else no. Condition: numbers of 64 bits.
-/
import Derived.Test.YtammakfpmimljaaS6RRefA
import Derived.Test.YtammakfpmimljaaS6RRefB
import Derived.Test.YtammakfpmimljaaS6RNo
namespace Go.Proofs.Ytammakfpmimljaa
open Go.RowKit
set_option linter.unusedVariables false

/-- A span and true, or the zero span and false. -/
def optV : Option (Int × Int) → Value
  | none => .tuple #[.agg #[.int .u64 0, .int .u64 0], .bool false]
  | some p => .tuple #[.agg #[.int .u64 p.1, .int .u64 p.2], .bool true]
def refineR (op a A b B : Int) (h : Bool) : Option (Int × Int) := if (16 ≤ op ∧ op ≤ 19) ∧ a ≤ A ∧ b ≤ B then refineL op a A b B h else none
def doR (op a A b B : Int) : Option (Int × Int) := if (1 ≤ op ∧ op ≤ 10) ∧ a ≤ A ∧ b ≤ B then some (spanL op a A b B) else none
theorem wrap_in {x : Int} (h0 : 0 ≤ x) (h : x ≤ 18446744073709551615) : IntKind.u64.wrap x = x := by rw [IntKind.wrap_u64]; omega

theorem sref_less (op : Int) (h : Bool) (hl : lessB op h = true) (a A n : Int) (w : World) (ha : 0 ≤ a ∧ a ≤ A ∧ A ≤ 18446744073709551615) (hb : 0 ≤ n ∧ n ≤ 18446744073709551615) :
    Calls Try.prog 25 #[.int .i64 op, .agg #[.int .u64 a, .int .u64 A], .agg #[.int .u64 n, .int .u64 n], .bool h] w fun e w' => e = .returned (optV (if n ≤ a then none else some (a, min A (n - 1)))) ∧ Below w.heap.size w w' := by
  have hc : (op = 18 ∧ h = true) ∨ (op = 19 ∧ h = false) := by
    unfold lessB at hl
    cases h <;> simp at hl ⊢ <;> exact hl
  by_cases h1 : n ≤ a
  · rw [if_pos h1]
    rcases hc with ⟨rfl, rfl⟩ | ⟨rfl, rfl⟩
    · exact sref_less1_18 a A n w ha hb h1
    · exact sref_less1_19 a A n w ha hb h1
  rw [if_neg h1]
  have hX := wrap_in (x := n - 1) (by omega) (by omega)
  by_cases h2 : A ≤ n - 1
  · rw [Int.min_eq_left h2]
    rcases hc with ⟨rfl, rfl⟩ | ⟨rfl, rfl⟩
    · exact sref_less2_18 a A n w ha hb (by omega) hX h2
    · exact sref_less2_19 a A n w ha hb (by omega) hX h2
  · rw [Int.min_eq_right (by omega)]
    rcases hc with ⟨rfl, rfl⟩ | ⟨rfl, rfl⟩
    · exact sref_less3_18 a A n w ha hb (by omega) hX (by omega)
    · exact sref_less3_19 a A n w ha hb (by omega) hX (by omega)
theorem sref_from (op : Int) (h : Bool) (hc : (op = 18 ∧ h = false) ∨ (op = 19 ∧ h = true)) (a A n : Int) (w : World) (ha : 0 ≤ a ∧ a ≤ A ∧ A ≤ 18446744073709551615) (hb : 0 ≤ n ∧ n ≤ 18446744073709551615) :
    Calls Try.prog 25 #[.int .i64 op, .agg #[.int .u64 a, .int .u64 A], .agg #[.int .u64 n, .int .u64 n], .bool h] w fun e w' => e = .returned (optV (if A < n then none else some (max a n, A))) ∧ Below w.heap.size w w' := by
  by_cases h1 : A < n
  · rw [if_pos h1]
    rcases hc with ⟨rfl, rfl⟩ | ⟨rfl, rfl⟩
    · exact sref_from1_18 a A n w ha hb h1
    · exact sref_from1_19 a A n w ha hb h1
  rw [if_neg h1]
  by_cases h2 : a < n
  · rw [Int.max_eq_right (by omega)]
    rcases hc with ⟨rfl, rfl⟩ | ⟨rfl, rfl⟩
    · exact sref_from2_18 a A n w ha hb (by omega) h2
    · exact sref_from2_19 a A n w ha hb (by omega) h2
  · rw [Int.max_eq_left (by omega)]
    rcases hc with ⟨rfl, rfl⟩ | ⟨rfl, rfl⟩
    · exact sref_from3_18 a A n w ha hb (by omega) (by omega)
    · exact sref_from3_19 a A n w ha hb (by omega) (by omega)
theorem sref_same (op : Int) (h : Bool) (hc : (op = 16 ∧ h = true) ∨ (op = 17 ∧ h = false)) (a A n : Int) (w : World) (ha : 0 ≤ a ∧ a ≤ A ∧ A ≤ 18446744073709551615) (hb : 0 ≤ n ∧ n ≤ 18446744073709551615) :
    Calls Try.prog 25 #[.int .i64 op, .agg #[.int .u64 a, .int .u64 A], .agg #[.int .u64 n, .int .u64 n], .bool h] w fun e w' => e = .returned (optV (if a ≤ n ∧ n ≤ A then some (n, n) else none)) ∧ Below w.heap.size w w' := by
  by_cases h1 : a ≤ n ∧ n ≤ A
  · rw [if_pos h1]
    have hh : hasB a A n = true := by simp [hasB]; omega
    rcases hc with ⟨rfl, rfl⟩ | ⟨rfl, rfl⟩
    · exact sref_same1_16 a A n w ha hb hh
    · exact sref_same1_17 a A n w ha hb hh
  · rw [if_neg h1]
    have hh : hasB a A n = false := by simp [hasB]; omega
    rcases hc with ⟨rfl, rfl⟩ | ⟨rfl, rfl⟩
    · exact sref_same2_16 a A n w ha hb hh
    · exact sref_same2_17 a A n w ha hb hh
theorem sref_not (op : Int) (h : Bool) (hc : (op = 16 ∧ h = false) ∨ (op = 17 ∧ h = true)) (a A n : Int) (w : World) (ha : 0 ≤ a ∧ a ≤ A ∧ A ≤ 18446744073709551615) (hb : 0 ≤ n ∧ n ≤ 18446744073709551615) :
    Calls Try.prog 25 #[.int .i64 op, .agg #[.int .u64 a, .int .u64 A], .agg #[.int .u64 n, .int .u64 n], .bool h] w fun e w' => e = .returned (optV (if a = n ∧ A = n then none else if a = n then some (n + 1, A) else if A = n then some (a, n - 1) else some (a, A))) ∧ Below w.heap.size w w' := by
  by_cases h1 : a = n ∧ A = n
  · rw [if_pos h1]
    obtain ⟨rfl, rfl⟩ := h1
    rcases hc with ⟨rfl, rfl⟩ | ⟨rfl, rfl⟩
    · exact sref_not1_16 _ w ha hb
    · exact sref_not1_17 _ w ha hb
  rw [if_neg h1]
  by_cases h2 : a = n
  · rw [if_pos h2]
    subst h2
    have hX := wrap_in (x := a + 1) (by omega) (by omega)
    have hA : (A == a) = false := by simp; omega
    rcases hc with ⟨rfl, rfl⟩ | ⟨rfl, rfl⟩
    · exact sref_not2_16 A a w ha hb hA hX
    · exact sref_not2_17 A a w ha hb hA hX
  rw [if_neg h2]
  have ha' : (a == n) = false := by simpa using h2
  by_cases h3 : A = n
  · rw [if_pos h3]
    subst h3
    have hX := wrap_in (x := A - 1) (by omega) (by omega)
    rcases hc with ⟨rfl, rfl⟩ | ⟨rfl, rfl⟩
    · exact sref_not3_16 a A w ha hb ha' hX
    · exact sref_not3_17 a A w ha hb ha' hX
  · rw [if_neg h3]
    have hA' : (A == n) = false := by simpa using h3
    rcases hc with ⟨rfl, rfl⟩ | ⟨rfl, rfl⟩
    · exact sref_not4_16 a A n w ha hb ha' hA'
    · exact sref_not4_17 a A n w ha hb ha' hA'
/-- The document's Refine. -/
theorem srefine_any (op a A b B : Int) (h : Bool) (w : World) (ha : W64 a) (hA : W64 A) (hb : W64 b) (hB : W64 B) :
    Calls Try.prog 25 #[.int .i64 op, .agg #[.int .u64 a, .int .u64 A], .agg #[.int .u64 b, .int .u64 B], .bool h] w fun e w' => e = .returned (optV (refineR op a A b B h)) ∧ Below w.heap.size w w' := by
  unfold W64 at ha hA hb hB
  unfold refineR
  by_cases c1 : op < 16
  · rw [if_neg (by omega)]; exact sref_lo op a A b B h w c1
  by_cases c2 : 19 < op
  · rw [if_neg (by omega)]; exact sref_hi op a A b B h w c1 c2
  have hop : 16 ≤ op ∧ op ≤ 19 := by omega
  by_cases c3 : a ≤ A
  case neg => rw [if_neg (by omega)]; exact sref_na op a A b B h w hop (decide_eq_false c3)
  by_cases c4 : b ≤ B
  case neg => rw [if_neg (by omega)]; exact sref_nb op a A b B h w hop (decide_eq_true c3) (decide_eq_false c4)
  rw [if_pos ⟨hop, c3, c4⟩]
  unfold refineL
  by_cases c5 : b ≠ B
  · rw [if_pos c5]; exact sref_wide op a A b B h w hop (decide_eq_true c3) (decide_eq_true c4) (by simpa using c5)
  rw [if_neg c5]
  obtain rfl : b = B := by omega
  by_cases c6 : lessB op h = true
  · rw [if_pos c6]; exact sref_less op h c6 a A b w ⟨ha.1, c3, hA.2⟩ hb
  rw [if_neg c6]
  by_cases c7 : 18 ≤ op
  · rw [if_pos c7]
    refine sref_from op h ?_ a A b w ⟨ha.1, c3, hA.2⟩ hb
    have : op = 18 ∨ op = 19 := by omega
    rcases this with rfl | rfl <;> cases h <;> simp [lessB] at c6 ⊢
  rw [if_neg c7]
  have c8 : op = 16 ∨ op = 17 := by omega
  by_cases c9 : sameB op h = true
  · rw [if_pos c9]
    refine sref_same op h ?_ a A b w ⟨ha.1, c3, hA.2⟩ hb
    rcases c8 with rfl | rfl <;> cases h <;> simp [sameB] at c9 ⊢
  · rw [if_neg c9]
    refine sref_not op h ?_ a A b w ⟨ha.1, c3, hA.2⟩ hb
    rcases c8 with rfl | rfl <;> cases h <;> simp [sameB] at c9 ⊢
end Go.Proofs.Ytammakfpmimljaa
