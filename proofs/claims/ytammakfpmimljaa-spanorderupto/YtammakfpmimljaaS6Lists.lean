/-
  The least and the greatest of a list; spans joined and met (joinL, meetL): neither the order nor how often one stands there matters. Plain.
-/
import Derived.Test.YtammakfpmimljaaS6Plain
namespace Go.Proofs.Ytammakfpmimljaa
open Go.RowKit
set_option linter.unusedVariables false

def minF : List Int → Int
  | [] => 0
  | x :: r => r.foldl min x
def maxF : List Int → Int
  | [] => 0
  | x :: r => r.foldl max x
theorem foldl_min (r : List Int) : ∀ x : Int, r.foldl min x ≤ x ∧ (∀ y ∈ r, r.foldl min x ≤ y) ∧ (r.foldl min x = x ∨ r.foldl min x ∈ r) := by
  induction r with
  | nil => intro x; simp
  | cons z r ih =>
    intro x
    obtain ⟨h1, h2, h3⟩ := ih (min x z)
    refine ⟨by show r.foldl min (min x z) ≤ x; omega, fun y hy => ?_, ?_⟩
    · show r.foldl min (min x z) ≤ y
      rcases List.mem_cons.1 hy with rfl | hy
      · omega
      · exact h2 y hy
    · show r.foldl min (min x z) = x ∨ r.foldl min (min x z) ∈ z :: r
      rcases h3 with h3 | h3
      · by_cases hc : x ≤ z
        · left; rw [h3]; omega
        · right; rw [h3, Int.min_eq_right (by omega)]; simp
      · right; simp [h3]
theorem foldl_max (r : List Int) : ∀ x : Int, x ≤ r.foldl max x ∧ (∀ y ∈ r, y ≤ r.foldl max x) ∧ (r.foldl max x = x ∨ r.foldl max x ∈ r) := by
  induction r with
  | nil => intro x; simp
  | cons z r ih =>
    intro x
    obtain ⟨h1, h2, h3⟩ := ih (max x z)
    refine ⟨by show x ≤ r.foldl max (max x z); omega, fun y hy => ?_, ?_⟩
    · show y ≤ r.foldl max (max x z)
      rcases List.mem_cons.1 hy with rfl | hy
      · omega
      · exact h2 y hy
    · show r.foldl max (max x z) = x ∨ r.foldl max (max x z) ∈ z :: r
      rcases h3 with h3 | h3
      · by_cases hc : z ≤ x
        · left; rw [h3]; omega
        · right; rw [h3, Int.max_eq_right (by omega)]; simp
      · right; simp [h3]
theorem minF_le {xs : List Int} {y : Int} (h : y ∈ xs) : minF xs ≤ y := by
  cases xs with
  | nil => simp at h
  | cons x r =>
    rcases List.mem_cons.1 h with rfl | h
    · exact (foldl_min r _).1
    · exact (foldl_min r x).2.1 y h
theorem le_maxF {xs : List Int} {y : Int} (h : y ∈ xs) : y ≤ maxF xs := by
  cases xs with
  | nil => simp at h
  | cons x r =>
    rcases List.mem_cons.1 h with rfl | h
    · exact (foldl_max r _).1
    · exact (foldl_max r x).2.1 y h
theorem minF_mem {xs : List Int} (h : xs ≠ []) : minF xs ∈ xs := by
  cases xs with
  | nil => exact absurd rfl h
  | cons x r =>
    show r.foldl min x ∈ x :: r
    rcases (foldl_min r x).2.2 with h | h
    · rw [h]; simp
    · simp [h]
theorem maxF_mem {xs : List Int} (h : xs ≠ []) : maxF xs ∈ xs := by
  cases xs with
  | nil => exact absurd rfl h
  | cons x r =>
    show r.foldl max x ∈ x :: r
    rcases (foldl_max r x).2.2 with h | h
    · rw [h]; simp
    · simp [h]
theorem minF_same {xs ys : List Int} (hx : xs ≠ []) (h : ∀ x, x ∈ xs ↔ x ∈ ys) : minF xs = minF ys := by
  have hy : ys ≠ [] := by intro e; subst e; exact absurd ((h _).1 (minF_mem hx)) (by simp)
  have h1 := minF_le ((h _).2 (minF_mem hy))
  have h2 := minF_le ((h _).1 (minF_mem hx))
  omega
theorem maxF_same {xs ys : List Int} (hx : xs ≠ []) (h : ∀ x, x ∈ xs ↔ x ∈ ys) : maxF xs = maxF ys := by
  have hy : ys ≠ [] := by intro e; subst e; exact absurd ((h _).1 (maxF_mem hx)) (by simp)
  have h1 := le_maxF ((h _).2 (maxF_mem hy))
  have h2 := le_maxF ((h _).1 (maxF_mem hx))
  omega
theorem minF_snoc {xs : List Int} (h : xs ≠ []) (y : Int) : minF (xs ++ [y]) = min (minF xs) y := by
  cases xs with
  | nil => exact absurd rfl h
  | cons x r => show (r ++ [y]).foldl min x = min (r.foldl min x) y; rw [List.foldl_append]; rfl
theorem maxF_snoc {xs : List Int} (h : xs ≠ []) (y : Int) : maxF (xs ++ [y]) = max (maxF xs) y := by
  cases xs with
  | nil => exact absurd rfl h
  | cons x r => show (r ++ [y]).foldl max x = max (r.foldl max x) y; rw [List.foldl_append]; rfl

/-! A span is a pair of its ends. -/
def okS (s : Int × Int) : Bool := decide (s.1 ≤ s.2)
def loF (ss : List (Int × Int)) : Int := minF (ss.map (·.1))
def hiF (ss : List (Int × Int)) : Int := maxF (ss.map (·.2))
def loM (ss : List (Int × Int)) : Int := maxF (ss.map (·.1))
def hiM (ss : List (Int × Int)) : Int := minF (ss.map (·.2))
def joinB (ss : List (Int × Int)) : Bool := !ss.isEmpty && ss.all okS
def meetB (ss : List (Int × Int)) : Bool := joinB ss && decide (loM ss ≤ hiM ss)
def joinL (ss : List (Int × Int)) : Int × Int := if joinB ss = true then (loF ss, hiF ss) else (0, 0)
def meetL (ss : List (Int × Int)) : Int × Int := if meetB ss = true then (loM ss, hiM ss) else (0, 0)
theorem map_same {ss ts : List (Int × Int)} (f : Int × Int → Int) (h : ∀ s, s ∈ ss ↔ s ∈ ts) : ∀ x, x ∈ ss.map f ↔ x ∈ ts.map f := by
  intro x
  simp only [List.mem_map]
  constructor
  · rintro ⟨s, hs, rfl⟩; exact ⟨s, (h s).1 hs, rfl⟩
  · rintro ⟨s, hs, rfl⟩; exact ⟨s, (h s).2 hs, rfl⟩
theorem empty_same {ss ts : List (Int × Int)} (h : ∀ s, s ∈ ss ↔ s ∈ ts) : ss.isEmpty = ts.isEmpty := by
  cases ss with
  | nil =>
    cases ts with
    | nil => rfl
    | cons t ts => exact absurd ((h t).2 (by simp)) (by simp)
  | cons s ss =>
    cases ts with
    | nil => exact absurd ((h s).1 (by simp)) (by simp)
    | cons t ts => rfl
theorem all_same {ss ts : List (Int × Int)} (h : ∀ s, s ∈ ss ↔ s ∈ ts) : ss.all okS = ts.all okS := by
  rw [Bool.eq_iff_iff, List.all_eq_true, List.all_eq_true]
  exact ⟨fun g s hs => g s ((h s).2 hs), fun g s hs => g s ((h s).1 hs)⟩
theorem joinB_same {ss ts : List (Int × Int)} (h : ∀ s, s ∈ ss ↔ s ∈ ts) : joinB ss = joinB ts := by
  unfold joinB; rw [empty_same h, all_same h]
theorem ends_same {ss ts : List (Int × Int)} (hne : ss ≠ []) (h : ∀ s, s ∈ ss ↔ s ∈ ts) : loF ss = loF ts ∧ hiF ss = hiF ts ∧ loM ss = loM ts ∧ hiM ss = hiM ts := by
  have g : ∀ f : Int × Int → Int, ss.map f ≠ [] := fun f e => hne (List.map_eq_nil_iff.1 e)
  exact ⟨minF_same (g _) (map_same _ h), maxF_same (g _) (map_same _ h), maxF_same (g _) (map_same _ h), minF_same (g _) (map_same _ h)⟩
theorem joinB_ne {ss : List (Int × Int)} (h : joinB ss = true) : ss ≠ [] ∧ ∀ s ∈ ss, s.1 ≤ s.2 := by
  unfold joinB at h
  rw [Bool.and_eq_true] at h
  refine ⟨fun e => by subst e; simp at h, fun s hs => ?_⟩
  exact of_decide_eq_true (List.all_eq_true.1 h.2 s hs)
theorem meetB_same {ss ts : List (Int × Int)} (h : ∀ s, s ∈ ss ↔ s ∈ ts) : meetB ss = meetB ts := by
  unfold meetB
  rw [← joinB_same h]
  cases hj : joinB ss with
  | false => rfl
  | true =>
    obtain ⟨_, _, e1, e2⟩ := ends_same (joinB_ne hj).1 h
    rw [e1, e2]
theorem join_same {ss ts : List (Int × Int)} (h : ∀ s, s ∈ ss ↔ s ∈ ts) : joinL ss = joinL ts := by
  unfold joinL
  rw [← joinB_same h]
  split
  · rename_i hj
    obtain ⟨e1, e2, _, _⟩ := ends_same (joinB_ne hj).1 h
    rw [e1, e2]
  · rfl
theorem meet_same {ss ts : List (Int × Int)} (h : ∀ s, s ∈ ss ↔ s ∈ ts) : meetL ss = meetL ts := by
  unfold meetL
  rw [← meetB_same h]
  split
  · rename_i hm
    have hj : joinB ss = true := by unfold meetB at hm; rw [Bool.and_eq_true] at hm; exact hm.1
    obtain ⟨_, _, e1, e2⟩ := ends_same (joinB_ne hj).1 h
    rw [e1, e2]
  · rfl
/-- Each is within the join, the meet within each. -/
theorem join_holds {ss : List (Int × Int)} (h : joinB ss = true) {s : Int × Int} (hs : s ∈ ss) : (joinL ss).1 ≤ s.1 ∧ s.2 ≤ (joinL ss).2 ∧ (joinL ss).1 ≤ (joinL ss).2 := by
  unfold joinL
  rw [if_pos h]
  have h1 : loF ss ≤ s.1 := minF_le (List.mem_map.2 ⟨s, hs, rfl⟩)
  have h2 : s.2 ≤ hiF ss := le_maxF (List.mem_map.2 ⟨s, hs, rfl⟩)
  have h3 := (joinB_ne h).2 s hs
  exact ⟨h1, h2, by show loF ss ≤ hiF ss; omega⟩
theorem meet_holds {ss : List (Int × Int)} (h : meetB ss = true) {s : Int × Int} (hs : s ∈ ss) : s.1 ≤ (meetL ss).1 ∧ (meetL ss).2 ≤ s.2 ∧ (meetL ss).1 ≤ (meetL ss).2 := by
  unfold meetL
  rw [if_pos h]
  have h1 : s.1 ≤ loM ss := le_maxF (List.mem_map.2 ⟨s, hs, rfl⟩)
  have h2 : hiM ss ≤ s.2 := minF_le (List.mem_map.2 ⟨s, hs, rfl⟩)
  refine ⟨h1, h2, ?_⟩
  unfold meetB at h
  rw [Bool.and_eq_true] at h
  exact of_decide_eq_true h.2
end Go.Proofs.Ytammakfpmimljaa
