/-
  S6Lists
  A5Do
  A5RDo
  A5RAll
  A5As
-/
import Derived.Test.YtoahbnkfkjiohaaML7
import Derived.Test.YtoahbnkfkjiohaaML6
/-
  The least and the greatest of a list; spans joined and met (joinL, meetL): neither the order nor how often one stands there matters. Plain.
-/
namespace Go.Proofs.Ytoahbnkfkjiohaa
open Go.RowKit
set_option linter.unusedVariables false

def minF : List Int → Int
  | [] => 0
  | x :: r => r.foldl min x
def maxF : List Int → Int
  | [] => 0
  | x :: r => r.foldl max x
theorem foldl_min (r : List Int) : ∀ x : Int, r.foldl min x ≤ x ∧ (∀ y ∈ r, r.foldl min x ≤ y) ∧ (r.foldl min x = x ∨ r.foldl min x ∈ r) := by
  induction r with
  | nil => intro x; simp
  | cons z r ih =>
    intro x
    obtain ⟨h1, h2, h3⟩ := ih (min x z)
    refine ⟨by show r.foldl min (min x z) ≤ x; omega, fun y hy => ?_, ?_⟩
    · show r.foldl min (min x z) ≤ y
      rcases List.mem_cons.1 hy with rfl | hy
      · omega
      · exact h2 y hy
    · show r.foldl min (min x z) = x ∨ r.foldl min (min x z) ∈ z :: r
      rcases h3 with h3 | h3
      · by_cases hc : x ≤ z
        · left; rw [h3]; omega
        · right; rw [h3, Int.min_eq_right (by omega)]; simp
      · right; simp [h3]
theorem foldl_max (r : List Int) : ∀ x : Int, x ≤ r.foldl max x ∧ (∀ y ∈ r, y ≤ r.foldl max x) ∧ (r.foldl max x = x ∨ r.foldl max x ∈ r) := by
  induction r with
  | nil => intro x; simp
  | cons z r ih =>
    intro x
    obtain ⟨h1, h2, h3⟩ := ih (max x z)
    refine ⟨by show x ≤ r.foldl max (max x z); omega, fun y hy => ?_, ?_⟩
    · show y ≤ r.foldl max (max x z)
      rcases List.mem_cons.1 hy with rfl | hy
      · omega
      · exact h2 y hy
    · show r.foldl max (max x z) = x ∨ r.foldl max (max x z) ∈ z :: r
      rcases h3 with h3 | h3
      · by_cases hc : z ≤ x
        · left; rw [h3]; omega
        · right; rw [h3, Int.max_eq_right (by omega)]; simp
      · right; simp [h3]
theorem minF_le {xs : List Int} {y : Int} (h : y ∈ xs) : minF xs ≤ y := by
  cases xs with
  | nil => simp at h
  | cons x r =>
    rcases List.mem_cons.1 h with rfl | h
    · exact (foldl_min r _).1
    · exact (foldl_min r x).2.1 y h
theorem le_maxF {xs : List Int} {y : Int} (h : y ∈ xs) : y ≤ maxF xs := by
  cases xs with
  | nil => simp at h
  | cons x r =>
    rcases List.mem_cons.1 h with rfl | h
    · exact (foldl_max r _).1
    · exact (foldl_max r x).2.1 y h
theorem minF_mem {xs : List Int} (h : xs ≠ []) : minF xs ∈ xs := by
  cases xs with
  | nil => exact absurd rfl h
  | cons x r =>
    show r.foldl min x ∈ x :: r
    rcases (foldl_min r x).2.2 with h | h
    · rw [h]; simp
    · simp [h]
theorem maxF_mem {xs : List Int} (h : xs ≠ []) : maxF xs ∈ xs := by
  cases xs with
  | nil => exact absurd rfl h
  | cons x r =>
    show r.foldl max x ∈ x :: r
    rcases (foldl_max r x).2.2 with h | h
    · rw [h]; simp
    · simp [h]
theorem minF_same {xs ys : List Int} (hx : xs ≠ []) (h : ∀ x, x ∈ xs ↔ x ∈ ys) : minF xs = minF ys := by
  have hy : ys ≠ [] := by intro e; subst e; exact absurd ((h _).1 (minF_mem hx)) (by simp)
  have h1 := minF_le ((h _).2 (minF_mem hy))
  have h2 := minF_le ((h _).1 (minF_mem hx))
  omega
theorem maxF_same {xs ys : List Int} (hx : xs ≠ []) (h : ∀ x, x ∈ xs ↔ x ∈ ys) : maxF xs = maxF ys := by
  have hy : ys ≠ [] := by intro e; subst e; exact absurd ((h _).1 (maxF_mem hx)) (by simp)
  have h1 := le_maxF ((h _).2 (maxF_mem hy))
  have h2 := le_maxF ((h _).1 (maxF_mem hx))
  omega
theorem minF_snoc {xs : List Int} (h : xs ≠ []) (y : Int) : minF (xs ++ [y]) = min (minF xs) y := by
  cases xs with
  | nil => exact absurd rfl h
  | cons x r => show (r ++ [y]).foldl min x = min (r.foldl min x) y; rw [List.foldl_append]; rfl
theorem maxF_snoc {xs : List Int} (h : xs ≠ []) (y : Int) : maxF (xs ++ [y]) = max (maxF xs) y := by
  cases xs with
  | nil => exact absurd rfl h
  | cons x r => show (r ++ [y]).foldl max x = max (r.foldl max x) y; rw [List.foldl_append]; rfl

/-! A span is a pair of its ends. -/
def okS (s : Int × Int) : Bool := decide (s.1 ≤ s.2)
def loF (ss : List (Int × Int)) : Int := minF (ss.map (·.1))
def hiF (ss : List (Int × Int)) : Int := maxF (ss.map (·.2))
def loM (ss : List (Int × Int)) : Int := maxF (ss.map (·.1))
def hiM (ss : List (Int × Int)) : Int := minF (ss.map (·.2))
def joinB (ss : List (Int × Int)) : Bool := !ss.isEmpty && ss.all okS
def meetB (ss : List (Int × Int)) : Bool := joinB ss && decide (loM ss ≤ hiM ss)
def joinL (ss : List (Int × Int)) : Int × Int := if joinB ss = true then (loF ss, hiF ss) else (0, 0)
def meetL (ss : List (Int × Int)) : Int × Int := if meetB ss = true then (loM ss, hiM ss) else (0, 0)
theorem map_same {ss ts : List (Int × Int)} (f : Int × Int → Int) (h : ∀ s, s ∈ ss ↔ s ∈ ts) : ∀ x, x ∈ ss.map f ↔ x ∈ ts.map f := by
  intro x
  simp only [List.mem_map]
  constructor
  · rintro ⟨s, hs, rfl⟩; exact ⟨s, (h s).1 hs, rfl⟩
  · rintro ⟨s, hs, rfl⟩; exact ⟨s, (h s).2 hs, rfl⟩
theorem empty_same {ss ts : List (Int × Int)} (h : ∀ s, s ∈ ss ↔ s ∈ ts) : ss.isEmpty = ts.isEmpty := by
  cases ss with
  | nil =>
    cases ts with
    | nil => rfl
    | cons t ts => exact absurd ((h t).2 (by simp)) (by simp)
  | cons s ss =>
    cases ts with
    | nil => exact absurd ((h s).1 (by simp)) (by simp)
    | cons t ts => rfl
theorem all_same {ss ts : List (Int × Int)} (h : ∀ s, s ∈ ss ↔ s ∈ ts) : ss.all okS = ts.all okS := by
  rw [Bool.eq_iff_iff, List.all_eq_true, List.all_eq_true]
  exact ⟨fun g s hs => g s ((h s).2 hs), fun g s hs => g s ((h s).1 hs)⟩
theorem joinB_same {ss ts : List (Int × Int)} (h : ∀ s, s ∈ ss ↔ s ∈ ts) : joinB ss = joinB ts := by
  unfold joinB; rw [empty_same h, all_same h]
theorem ends_same {ss ts : List (Int × Int)} (hne : ss ≠ []) (h : ∀ s, s ∈ ss ↔ s ∈ ts) : loF ss = loF ts ∧ hiF ss = hiF ts ∧ loM ss = loM ts ∧ hiM ss = hiM ts := by
  have g : ∀ f : Int × Int → Int, ss.map f ≠ [] := fun f e => hne (List.map_eq_nil_iff.1 e)
  exact ⟨minF_same (g _) (map_same _ h), maxF_same (g _) (map_same _ h), maxF_same (g _) (map_same _ h), minF_same (g _) (map_same _ h)⟩
theorem joinB_ne {ss : List (Int × Int)} (h : joinB ss = true) : ss ≠ [] ∧ ∀ s ∈ ss, s.1 ≤ s.2 := by
  unfold joinB at h
  rw [Bool.and_eq_true] at h
  refine ⟨fun e => by subst e; simp at h, fun s hs => ?_⟩
  exact of_decide_eq_true (List.all_eq_true.1 h.2 s hs)
theorem meetB_same {ss ts : List (Int × Int)} (h : ∀ s, s ∈ ss ↔ s ∈ ts) : meetB ss = meetB ts := by
  unfold meetB
  rw [← joinB_same h]
  cases hj : joinB ss with
  | false => rfl
  | true =>
    obtain ⟨_, _, e1, e2⟩ := ends_same (joinB_ne hj).1 h
    rw [e1, e2]
theorem join_same {ss ts : List (Int × Int)} (h : ∀ s, s ∈ ss ↔ s ∈ ts) : joinL ss = joinL ts := by
  unfold joinL
  rw [← joinB_same h]
  split
  · rename_i hj
    obtain ⟨e1, e2, _, _⟩ := ends_same (joinB_ne hj).1 h
    rw [e1, e2]
  · rfl
theorem meet_same {ss ts : List (Int × Int)} (h : ∀ s, s ∈ ss ↔ s ∈ ts) : meetL ss = meetL ts := by
  unfold meetL
  rw [← meetB_same h]
  split
  · rename_i hm
    have hj : joinB ss = true := by unfold meetB at hm; rw [Bool.and_eq_true] at hm; exact hm.1
    obtain ⟨_, _, e1, e2⟩ := ends_same (joinB_ne hj).1 h
    rw [e1, e2]
  · rfl
/-- Each is within the join, the meet within each. -/
theorem join_holds {ss : List (Int × Int)} (h : joinB ss = true) {s : Int × Int} (hs : s ∈ ss) : (joinL ss).1 ≤ s.1 ∧ s.2 ≤ (joinL ss).2 ∧ (joinL ss).1 ≤ (joinL ss).2 := by
  unfold joinL
  rw [if_pos h]
  have h1 : loF ss ≤ s.1 := minF_le (List.mem_map.2 ⟨s, hs, rfl⟩)
  have h2 : s.2 ≤ hiF ss := le_maxF (List.mem_map.2 ⟨s, hs, rfl⟩)
  have h3 := (joinB_ne h).2 s hs
  exact ⟨h1, h2, by show loF ss ≤ hiF ss; omega⟩
theorem meet_holds {ss : List (Int × Int)} (h : meetB ss = true) {s : Int × Int} (hs : s ∈ ss) : s.1 ≤ (meetL ss).1 ∧ (meetL ss).2 ≤ s.2 ∧ (meetL ss).1 ≤ (meetL ss).2 := by
  unfold meetL
  rw [if_pos h]
  have h1 : s.1 ≤ loM ss := le_maxF (List.mem_map.2 ⟨s, hs, rfl⟩)
  have h2 : hiM ss ≤ s.2 := minF_le (List.mem_map.2 ⟨s, hs, rfl⟩)
  refine ⟨h1, h2, ?_⟩
  unfold meetB at h
  rw [Bool.and_eq_true] at h
  exact of_decide_eq_true h.2
end Go.Proofs.Ytoahbnkfkjiohaa
/-
  What arith.Do and arith.Holds answer: the plain functions doL and holdL, and whether the operation is one; memory stays. Condition: both numbers are of 64 bits.
-/
namespace Go.Proofs.Ytoahbnkfkjiohaa
open Go.RowKit
set_option linter.unusedVariables false

theorem quo_any (a b : Int) (w : World) (ha : 0 ≤ a ∧ a ≤ 18446744073709551615) (hb : 0 ≤ b ∧ b ≤ 18446744073709551615) :
    Calls Try.prog 78 #[.int .u64 a, .int .u64 b] w fun e w' => e = .returned (.int .u64 (a / b)) ∧ w = w' := by
  by_cases h : b = 0
  · subst h
    go_enter Try.func78, Try.ntmps78
    go_wp2
    go_ret
    exact ⟨ret1 (by simp), rfl⟩
  · have h' : (b == 0) = false := by simpa using h
    go_enter Try.func78, Try.ntmps78
    go_wp2
    go_ret
    exact ⟨rfl, rfl⟩
theorem rest_any (a b : Int) (w : World) (ha : 0 ≤ a ∧ a ≤ 18446744073709551615) (hb : 0 ≤ b ∧ b ≤ 18446744073709551615) :
    Calls Try.prog 79 #[.int .u64 a, .int .u64 b] w fun e w' => e = .returned (.int .u64 (a % b)) ∧ w = w' := by
  by_cases h : b = 0
  · subst h
    go_enter Try.func79, Try.ntmps79
    go_wp2
    go_ret
    exact ⟨ret1 (by simp), rfl⟩
  · have h' : (b == 0) = false := by simpa using h
    go_enter Try.func79, Try.ntmps79
    go_wp2
    go_ret
    exact ⟨rfl, rfl⟩

theorem do_end {op a b x : Int} {c : Bool} {P : Prop} (h1 : x = doL op a b) (h2 : c = isOp op) (hP : P) : Ending.returned (.tuple #[.int .u64 x, .bool c]) = .returned (.tuple #[.int .u64 (doL op a b), .bool (isOp op)]) ∧ P := ⟨ret2 h1 h2, hP⟩

set_option maxHeartbeats 400000 in
theorem do_any (op a b : Int) (w : World) (ha : 0 ≤ a ∧ a ≤ 18446744073709551615) (hb : 0 ≤ b ∧ b ≤ 18446744073709551615) :
    Calls Try.prog 70 #[.int .i64 op, .int .u64 a, .int .u64 b] w fun e w' =>
      e = .returned (.tuple #[.int .u64 (doL op a b), .bool (isOp op)]) ∧ w = w' := by
  go_enter Try.func70, Try.ntmps70
  go_wp2_with (first
    | (go_at_call 78; refine (quo_any _ _ _ ha hb).mono ?_; rintro e w' ⟨rfl, rfl⟩)
    | (go_at_call 79; refine (rest_any _ _ _ ha hb).mono ?_; rintro e w' ⟨rfl, rfl⟩))
  all_goals go_ret2
  all_goals simp only [beq_iff_eq, beq_eq_false_iff_ne, ne_eq] at *
  all_goals first
    | (subst op; exact do_end (by simp [doL, IntKind.wrap_u64]) rfl (by trivial))
    | (refine do_end ?_ ?_ (by trivial)
       · unfold doL; repeat rw [if_neg (by assumption)]
       · unfold isOp; symm; apply decide_eq_false; omega)

theorem hold_end {op a b : Int} {x c : Bool} {P : Prop} (h1 : x = holdL op a b) (h2 : c = isCond op) (hP : P) : Ending.returned (.tuple #[.bool x, .bool c]) = .returned (.tuple #[.bool (holdL op a b), .bool (isCond op)]) ∧ P := ⟨ret2b h1 h2, hP⟩

theorem holds_any (op a b : Int) (w : World) (ha : 0 ≤ a ∧ a ≤ 18446744073709551615) (hb : 0 ≤ b ∧ b ≤ 18446744073709551615) :
    Calls Try.prog 61 #[.int .i64 op, .int .u64 a, .int .u64 b] w fun e w' =>
      e = .returned (.tuple #[.bool (holdL op a b), .bool (isCond op)]) ∧ w = w' := by
  go_enter Try.func61, Try.ntmps61
  go_wp2
  all_goals go_ret2
  all_goals simp only [beq_iff_eq, beq_eq_false_iff_ne, ne_eq] at *
  all_goals first
    | (subst op; exact hold_end rfl rfl (by trivial))
    | (refine hold_end ?_ ?_ (by trivial)
       · unfold holdL; repeat rw [if_neg (by assumption)]
       · unfold isCond; symm; apply decide_eq_false; omega)
end Go.Proofs.Ytoahbnkfkjiohaa
/-
  What the document's Do and Holds answer: the same plain functions doL and holdL; memory stays. Condition: both numbers are of 64 bits.
-/
namespace Go.Proofs.Ytoahbnkfkjiohaa
open Go.RowKit
set_option linter.unusedVariables false

/-- What turns to 0 and stays so, and is 0 at 64. -/
theorem till_zero {f : Nat → Int} (h64 : f 64 = 0) (hz : ∀ i n, i ≤ n → f i = 0 → f n = 0) {i b : Nat} (hi : i ≤ b) (h : i = b ∨ f i = 0) : f i = f (min b 64) := by
  by_cases hb : b ≤ 64
  · rw [Nat.min_eq_left hb]
    rcases h with rfl | h
    · rfl
    · rw [h, hz i b hi h]
  · rw [Nat.min_eq_right (by omega), h64]
    rcases h with rfl | h
    · exact hz 64 i (by omega) h64
    · exact h
theorem shl_zero (a : Int) : a * 2 ^ 64 % 18446744073709551616 = 0 := by
  have e : (2 : Int) ^ 64 = 18446744073709551616 := by decide
  rw [e]; omega
theorem shl_stays (a : Int) (i n : Nat) (h : i ≤ n) (hz : a * 2 ^ i % 18446744073709551616 = 0) : a * 2 ^ n % 18446744073709551616 = 0 := by
  obtain ⟨j, rfl⟩ := Nat.exists_eq_add_of_le h
  rw [Int.pow_add, ← Int.mul_assoc, Int.mul_emod, hz]
  simp
theorem shr_zero (a : Int) (h0 : 0 ≤ a) (h : a ≤ 18446744073709551615) : a / 2 ^ 64 = 0 := by
  have e : (2 : Int) ^ 64 = 18446744073709551616 := by decide
  rw [e]; omega
theorem div_pow_add (a : Int) (i j : Nat) : a / 2 ^ (i + j) = a / 2 ^ i / 2 ^ j := by
  rw [Int.pow_add, Int.ediv_ediv_of_nonneg (Int.le_of_lt (pow_pos_int i))]
theorem shr_stays (a : Int) (i n : Nat) (h : i ≤ n) (hz : a / 2 ^ i = 0) : a / 2 ^ n = 0 := by
  obtain ⟨j, rfl⟩ := Nat.exists_eq_add_of_le h
  rw [div_pow_add, hz]
  simp
theorem shl_next (a : Int) (i : Nat) : (a * 2 ^ i % 18446744073709551616 + a * 2 ^ i % 18446744073709551616) % 18446744073709551616 = a * 2 ^ (i + 1) % 18446744073709551616 := by
  rw [Int.pow_succ, ← Int.mul_assoc]
  generalize a * 2 ^ i = z
  omega

end Go.Proofs.Ytoahbnkfkjiohaa
/-
  What the document's Do answers at every operation: the plain function doL; memory stays. Condition: both numbers are of 64 bits.
-/
namespace Go.Proofs.Ytoahbnkfkjiohaa
open Go.RowKit
set_option linter.unusedVariables false

end Go.Proofs.Ytoahbnkfkjiohaa
/-
  What arith.Do, arith.Holds and the document's Do answer, as letters; memory stays. Condition: numbers of 64 bits.
-/
namespace Go.Proofs.Ytoahbnkfkjiohaa
open Go.RowKit
set_option linter.unusedVariables false

/-! The same, what is answered as letters. -/
theorem do_as {op a b n : Int} {c : Bool} (h1 : Hid (n = doL op a b)) (h2 : Hid (c = isOp op)) (w : World) (ha : 0 ≤ a ∧ a ≤ 18446744073709551615) (hb : 0 ≤ b ∧ b ≤ 18446744073709551615) :
    Calls Try.prog 70 #[.int .i64 op, .int .u64 a, .int .u64 b] w fun e w' => e = .returned (.tuple #[.int .u64 n, .bool c]) ∧ w = w' := by
  rw [h1.out, h2.out]; exact do_any op a b w ha hb
theorem holds_as {op a b : Int} {n c : Bool} (h1 : Hid (n = holdL op a b)) (h2 : Hid (c = isCond op)) (w : World) (ha : 0 ≤ a ∧ a ≤ 18446744073709551615) (hb : 0 ≤ b ∧ b ≤ 18446744073709551615) :
    Calls Try.prog 61 #[.int .i64 op, .int .u64 a, .int .u64 b] w fun e w' => e = .returned (.tuple #[.bool n, .bool c]) ∧ w = w' := by
  rw [h1.out, h2.out]; exact holds_any op a b w ha hb
end Go.Proofs.Ytoahbnkfkjiohaa
