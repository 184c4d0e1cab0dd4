/-
  What the document's reg, sourced, Three, Jump and Right do. No condition beyond the numbers' kinds.
-/
import Derived.Test.YtfmibjgihicedaaRows
import Derived.Test.YtfmibjgihicedaaR2Plain
import Derived.WalkSpells
import Derived.OpenShut
import Derived.Below
namespace Go.Proofs.Ytfmibjgihicedaa
open Go.RowKit
set_option linter.unusedVariables false

theorem reg_any (n : Int) (w : World) : Calls Try.prog 38 #[.int .i64 n] w fun e w' => e = .returned (.bool (regB n)) ∧ w = w' := by
  unfold regB
  by_cases h : 0 ≤ n
  · go_enter Try.func38, Try.ntmps38
    go_wp2
    go_ret
    exact ⟨r2b (by simp [h]), rfl⟩
  · go_enter Try.func38, Try.ntmps38
    go_wp2
    go_ret
    exact ⟨r2b (by simp; omega), rfl⟩
theorem three_any (n : Int) (w : World) : Calls Try.prog 40 #[.int .i64 n] w fun e w' => e = .returned (.bool (threeB n)) ∧ w = w' := by
  unfold threeB
  by_cases h : 1 ≤ n
  · go_enter Try.func40, Try.ntmps40
    go_wp2
    go_ret
    exact ⟨r2b (by simp [h]), rfl⟩
  · go_enter Try.func40, Try.ntmps40
    go_wp2
    go_ret
    exact ⟨r2b (by simp; omega), rfl⟩
theorem jump_any (n : Int) (w : World) : Calls Try.prog 41 #[.int .i64 n] w fun e w' => e = .returned (.bool (jumpB n)) ∧ w = w' := by
  unfold jumpB
  by_cases h : 16 ≤ n
  · go_enter Try.func41, Try.ntmps41
    go_wp2
    go_ret
    exact ⟨r2b (by simp [h]), rfl⟩
  · go_enter Try.func41, Try.ntmps41
    go_wp2
    go_ret
    exact ⟨r2b (by simp; omega), rfl⟩

/-- An instruction as a value. -/
abbrev instV (op d a b imm : Int) : Value := .agg #[.int .i64 op, .int .i64 d, .int .i64 a, .int .i64 b, .int .i64 imm]

theorem sourced_any (op d a b imm : Int) (w : World) : Calls Try.prog 39 #[instV op d a b imm] w fun e w' => e = .returned (.bool (sourcedB b imm)) ∧ w.alloc (.cells #[.int .i64 op, .int .i64 d, .int .i64 a, .int .i64 b, .int .i64 imm] 32) = w' := by
  by_cases hr : regB b = true
  · by_cases hi : imm = 0
    · have hib : (imm == 0) = true := by simp [hi]
      clear hi
      go_enter Try.func39, Try.ntmps39
      go_wp2_with (go_at_call 38; go_must (refine (reg_any b _).mono ?_); rintro e w' ⟨rfl, rfl⟩)
      go_ret
      exact ⟨r2b (by simp [sourcedB, hr, hib]), rfl⟩
    · have hib : (imm == 0) = false := by simp [hi]
      clear hi
      go_enter Try.func39, Try.ntmps39
      go_wp2_with (go_at_call 38; go_must (refine (reg_any b _).mono ?_); rintro e w' ⟨rfl, rfl⟩)
      go_ret
      exact ⟨r2b (by simp [sourcedB, hr, hib]), rfl⟩
  · have hr : regB b = false := by simpa using hr
    go_enter Try.func39, Try.ntmps39
    go_wp2_with (go_at_call 38; go_must (refine (reg_any b _).mono ?_); rintro e w' ⟨rfl, rfl⟩)
    go_ret
    exact ⟨r2b (by simp [sourcedB, hr]), rfl⟩

set_option maxRecDepth 100000 in
set_option maxHeartbeats 800000 in
theorem right_0 (d a b imm : Int) (w : World) : Calls Try.prog 27 #[instV 0 d a b imm] w fun e w' => e = .returned (.bool (rightB 0 d a b imm)) ∧ Below w.heap.size w w' := by
  have hth : threeB 0 = false := rfl
  have hju : jumpB 0 = false := rfl
  by_cases h2 : (regB d) = true
  · skip
    by_cases h1 : (a == 0) = true
    · skip
      go_enter Try.func27, Try.ntmps27
      go_wp2_with (first
        | (go_at_call 38; refine (reg_any _ _).mono ?_; rintro e w' ⟨rfl, rfl⟩)
        | (go_at_call 39; refine (sourced_any _ _ _ _ _ _).mono ?_; rintro e w' ⟨rfl, rfl⟩)
        | (go_at_call 40; refine (three_any _ _).mono ?_; rintro e w' ⟨rfl, rfl⟩)
        | (go_at_call 41; refine (jump_any _ _).mono ?_; rintro e w' ⟨rfl, rfl⟩))
      go_ret
      exact ⟨r2b (by rw [rightB_0]; first | (simp [*]; done) | (simp [*]; intros; omega)), by repeat (first | exact Below.refl _ _ | (refine Below.alloc ?_ (by simp) _))⟩
    · have h1 := eq_false_of_ne_true h1
      go_enter Try.func27, Try.ntmps27
      go_wp2_with (first
        | (go_at_call 38; refine (reg_any _ _).mono ?_; rintro e w' ⟨rfl, rfl⟩)
        | (go_at_call 39; refine (sourced_any _ _ _ _ _ _).mono ?_; rintro e w' ⟨rfl, rfl⟩)
        | (go_at_call 40; refine (three_any _ _).mono ?_; rintro e w' ⟨rfl, rfl⟩)
        | (go_at_call 41; refine (jump_any _ _).mono ?_; rintro e w' ⟨rfl, rfl⟩))
      go_ret
      exact ⟨r2b (by rw [rightB_0]; first | (simp [*]; done) | (simp [*]; intros; omega)), by repeat (first | exact Below.refl _ _ | (refine Below.alloc ?_ (by simp) _))⟩
  · have h2 := eq_false_of_ne_true h2
    go_enter Try.func27, Try.ntmps27
    go_wp2_with (first
      | (go_at_call 38; refine (reg_any _ _).mono ?_; rintro e w' ⟨rfl, rfl⟩)
      | (go_at_call 39; refine (sourced_any _ _ _ _ _ _).mono ?_; rintro e w' ⟨rfl, rfl⟩)
      | (go_at_call 40; refine (three_any _ _).mono ?_; rintro e w' ⟨rfl, rfl⟩)
      | (go_at_call 41; refine (jump_any _ _).mono ?_; rintro e w' ⟨rfl, rfl⟩))
    go_ret
    exact ⟨r2b (by rw [rightB_0]; first | (simp [*]; done) | (simp [*]; intros; omega)), by repeat (first | exact Below.refl _ _ | (refine Below.alloc ?_ (by simp) _))⟩

set_option maxRecDepth 100000 in
set_option maxHeartbeats 800000 in
theorem right_11 (d a b imm : Int) (w : World) : Calls Try.prog 27 #[instV 11 d a b imm] w fun e w' => e = .returned (.bool (rightB 11 d a b imm)) ∧ Below w.heap.size w w' := by
  have hth : threeB 11 = false := rfl
  have hju : jumpB 11 = false := rfl
  by_cases h2 : (regB d) = true
  · skip
    by_cases h1 : (a == 0) = true
    · skip
      go_enter Try.func27, Try.ntmps27
      go_wp2_with (first
        | (go_at_call 38; refine (reg_any _ _).mono ?_; rintro e w' ⟨rfl, rfl⟩)
        | (go_at_call 39; refine (sourced_any _ _ _ _ _ _).mono ?_; rintro e w' ⟨rfl, rfl⟩)
        | (go_at_call 40; refine (three_any _ _).mono ?_; rintro e w' ⟨rfl, rfl⟩)
        | (go_at_call 41; refine (jump_any _ _).mono ?_; rintro e w' ⟨rfl, rfl⟩))
      go_ret
      exact ⟨r2b (by rw [rightB_11]; first | (simp [*]; done) | (simp [*]; intros; omega)), by repeat (first | exact Below.refl _ _ | (refine Below.alloc ?_ (by simp) _))⟩
    · have h1 := eq_false_of_ne_true h1
      go_enter Try.func27, Try.ntmps27
      go_wp2_with (first
        | (go_at_call 38; refine (reg_any _ _).mono ?_; rintro e w' ⟨rfl, rfl⟩)
        | (go_at_call 39; refine (sourced_any _ _ _ _ _ _).mono ?_; rintro e w' ⟨rfl, rfl⟩)
        | (go_at_call 40; refine (three_any _ _).mono ?_; rintro e w' ⟨rfl, rfl⟩)
        | (go_at_call 41; refine (jump_any _ _).mono ?_; rintro e w' ⟨rfl, rfl⟩))
      go_ret
      exact ⟨r2b (by rw [rightB_11]; first | (simp [*]; done) | (simp [*]; intros; omega)), by repeat (first | exact Below.refl _ _ | (refine Below.alloc ?_ (by simp) _))⟩
  · have h2 := eq_false_of_ne_true h2
    go_enter Try.func27, Try.ntmps27
    go_wp2_with (first
      | (go_at_call 38; refine (reg_any _ _).mono ?_; rintro e w' ⟨rfl, rfl⟩)
      | (go_at_call 39; refine (sourced_any _ _ _ _ _ _).mono ?_; rintro e w' ⟨rfl, rfl⟩)
      | (go_at_call 40; refine (three_any _ _).mono ?_; rintro e w' ⟨rfl, rfl⟩)
      | (go_at_call 41; refine (jump_any _ _).mono ?_; rintro e w' ⟨rfl, rfl⟩))
    go_ret
    exact ⟨r2b (by rw [rightB_11]; first | (simp [*]; done) | (simp [*]; intros; omega)), by repeat (first | exact Below.refl _ _ | (refine Below.alloc ?_ (by simp) _))⟩

set_option maxRecDepth 100000 in
set_option maxHeartbeats 800000 in
theorem right_12 (d a b imm : Int) (w : World) : Calls Try.prog 27 #[instV 12 d a b imm] w fun e w' => e = .returned (.bool (rightB 12 d a b imm)) ∧ Below w.heap.size w w' := by
  have hth : threeB 12 = false := rfl
  have hju : jumpB 12 = false := rfl
  by_cases h2 : (d == 0) = true
  · skip
    by_cases h1 : (regB a) = true
    · skip
      go_enter Try.func27, Try.ntmps27
      go_wp2_with (first
        | (go_at_call 38; refine (reg_any _ _).mono ?_; rintro e w' ⟨rfl, rfl⟩)
        | (go_at_call 39; refine (sourced_any _ _ _ _ _ _).mono ?_; rintro e w' ⟨rfl, rfl⟩)
        | (go_at_call 40; refine (three_any _ _).mono ?_; rintro e w' ⟨rfl, rfl⟩)
        | (go_at_call 41; refine (jump_any _ _).mono ?_; rintro e w' ⟨rfl, rfl⟩))
      go_ret
      exact ⟨r2b (by rw [rightB_12]; first | (simp [*]; done) | (simp [*]; intros; omega)), by repeat (first | exact Below.refl _ _ | (refine Below.alloc ?_ (by simp) _))⟩
    · have h1 := eq_false_of_ne_true h1
      go_enter Try.func27, Try.ntmps27
      go_wp2_with (first
        | (go_at_call 38; refine (reg_any _ _).mono ?_; rintro e w' ⟨rfl, rfl⟩)
        | (go_at_call 39; refine (sourced_any _ _ _ _ _ _).mono ?_; rintro e w' ⟨rfl, rfl⟩)
        | (go_at_call 40; refine (three_any _ _).mono ?_; rintro e w' ⟨rfl, rfl⟩)
        | (go_at_call 41; refine (jump_any _ _).mono ?_; rintro e w' ⟨rfl, rfl⟩))
      go_ret
      exact ⟨r2b (by rw [rightB_12]; first | (simp [*]; done) | (simp [*]; intros; omega)), by repeat (first | exact Below.refl _ _ | (refine Below.alloc ?_ (by simp) _))⟩
  · have h2 := eq_false_of_ne_true h2
    go_enter Try.func27, Try.ntmps27
    go_wp2_with (first
      | (go_at_call 38; refine (reg_any _ _).mono ?_; rintro e w' ⟨rfl, rfl⟩)
      | (go_at_call 39; refine (sourced_any _ _ _ _ _ _).mono ?_; rintro e w' ⟨rfl, rfl⟩)
      | (go_at_call 40; refine (three_any _ _).mono ?_; rintro e w' ⟨rfl, rfl⟩)
      | (go_at_call 41; refine (jump_any _ _).mono ?_; rintro e w' ⟨rfl, rfl⟩))
    go_ret
    exact ⟨r2b (by rw [rightB_12]; first | (simp [*]; done) | (simp [*]; intros; omega)), by repeat (first | exact Below.refl _ _ | (refine Below.alloc ?_ (by simp) _))⟩

set_option maxRecDepth 100000 in
set_option maxHeartbeats 800000 in
theorem right_13 (d a b imm : Int) (w : World) : Calls Try.prog 27 #[instV 13 d a b imm] w fun e w' => e = .returned (.bool (rightB 13 d a b imm)) ∧ Below w.heap.size w w' := by
  have hth : threeB 13 = false := rfl
  have hju : jumpB 13 = false := rfl
  by_cases h4 : (regB d) = true
  · skip
    by_cases h3 : (a == 0) = true
    · skip
      by_cases h2 : (b == 0) = true
      · skip
        by_cases h1 : (imm == 0) = true
        · skip
          go_enter Try.func27, Try.ntmps27
          go_wp2_with (first
            | (go_at_call 38; refine (reg_any _ _).mono ?_; rintro e w' ⟨rfl, rfl⟩)
            | (go_at_call 39; refine (sourced_any _ _ _ _ _ _).mono ?_; rintro e w' ⟨rfl, rfl⟩)
            | (go_at_call 40; refine (three_any _ _).mono ?_; rintro e w' ⟨rfl, rfl⟩)
            | (go_at_call 41; refine (jump_any _ _).mono ?_; rintro e w' ⟨rfl, rfl⟩))
          go_ret
          exact ⟨r2b (by rw [rightB_13]; first | (simp [*]; done) | (simp [*]; intros; omega)), by repeat (first | exact Below.refl _ _ | (refine Below.alloc ?_ (by simp) _))⟩
        · have h1 := eq_false_of_ne_true h1
          go_enter Try.func27, Try.ntmps27
          go_wp2_with (first
            | (go_at_call 38; refine (reg_any _ _).mono ?_; rintro e w' ⟨rfl, rfl⟩)
            | (go_at_call 39; refine (sourced_any _ _ _ _ _ _).mono ?_; rintro e w' ⟨rfl, rfl⟩)
            | (go_at_call 40; refine (three_any _ _).mono ?_; rintro e w' ⟨rfl, rfl⟩)
            | (go_at_call 41; refine (jump_any _ _).mono ?_; rintro e w' ⟨rfl, rfl⟩))
          go_ret
          exact ⟨r2b (by rw [rightB_13]; first | (simp [*]; done) | (simp [*]; intros; omega)), by repeat (first | exact Below.refl _ _ | (refine Below.alloc ?_ (by simp) _))⟩
      · have h2 := eq_false_of_ne_true h2
        go_enter Try.func27, Try.ntmps27
        go_wp2_with (first
          | (go_at_call 38; refine (reg_any _ _).mono ?_; rintro e w' ⟨rfl, rfl⟩)
          | (go_at_call 39; refine (sourced_any _ _ _ _ _ _).mono ?_; rintro e w' ⟨rfl, rfl⟩)
          | (go_at_call 40; refine (three_any _ _).mono ?_; rintro e w' ⟨rfl, rfl⟩)
          | (go_at_call 41; refine (jump_any _ _).mono ?_; rintro e w' ⟨rfl, rfl⟩))
        go_ret
        exact ⟨r2b (by rw [rightB_13]; first | (simp [*]; done) | (simp [*]; intros; omega)), by repeat (first | exact Below.refl _ _ | (refine Below.alloc ?_ (by simp) _))⟩
    · have h3 := eq_false_of_ne_true h3
      go_enter Try.func27, Try.ntmps27
      go_wp2_with (first
        | (go_at_call 38; refine (reg_any _ _).mono ?_; rintro e w' ⟨rfl, rfl⟩)
        | (go_at_call 39; refine (sourced_any _ _ _ _ _ _).mono ?_; rintro e w' ⟨rfl, rfl⟩)
        | (go_at_call 40; refine (three_any _ _).mono ?_; rintro e w' ⟨rfl, rfl⟩)
        | (go_at_call 41; refine (jump_any _ _).mono ?_; rintro e w' ⟨rfl, rfl⟩))
      go_ret
      exact ⟨r2b (by rw [rightB_13]; first | (simp [*]; done) | (simp [*]; intros; omega)), by repeat (first | exact Below.refl _ _ | (refine Below.alloc ?_ (by simp) _))⟩
  · have h4 := eq_false_of_ne_true h4
    go_enter Try.func27, Try.ntmps27
    go_wp2_with (first
      | (go_at_call 38; refine (reg_any _ _).mono ?_; rintro e w' ⟨rfl, rfl⟩)
      | (go_at_call 39; refine (sourced_any _ _ _ _ _ _).mono ?_; rintro e w' ⟨rfl, rfl⟩)
      | (go_at_call 40; refine (three_any _ _).mono ?_; rintro e w' ⟨rfl, rfl⟩)
      | (go_at_call 41; refine (jump_any _ _).mono ?_; rintro e w' ⟨rfl, rfl⟩))
    go_ret
    exact ⟨r2b (by rw [rightB_13]; first | (simp [*]; done) | (simp [*]; intros; omega)), by repeat (first | exact Below.refl _ _ | (refine Below.alloc ?_ (by simp) _))⟩

set_option maxRecDepth 100000 in
set_option maxHeartbeats 800000 in
theorem right_14 (d a b imm : Int) (w : World) : Calls Try.prog 27 #[instV 14 d a b imm] w fun e w' => e = .returned (.bool (rightB 14 d a b imm)) ∧ Below w.heap.size w w' := by
  have hth : threeB 14 = false := rfl
  have hju : jumpB 14 = false := rfl
  by_cases h4 : (regB d) = true
  · skip
    by_cases h3 : (a == 0) = true
    · skip
      by_cases h2 : (b == 0) = true
      · skip
        by_cases h1 : 0 ≤ imm
        · skip
          go_enter Try.func27, Try.ntmps27
          go_wp2_with (first
            | (go_at_call 38; refine (reg_any _ _).mono ?_; rintro e w' ⟨rfl, rfl⟩)
            | (go_at_call 39; refine (sourced_any _ _ _ _ _ _).mono ?_; rintro e w' ⟨rfl, rfl⟩)
            | (go_at_call 40; refine (three_any _ _).mono ?_; rintro e w' ⟨rfl, rfl⟩)
            | (go_at_call 41; refine (jump_any _ _).mono ?_; rintro e w' ⟨rfl, rfl⟩))
          go_ret
          exact ⟨r2b (by rw [rightB_14]; first | (simp [*]; done) | (simp [*]; intros; omega)), by repeat (first | exact Below.refl _ _ | (refine Below.alloc ?_ (by simp) _))⟩
        · skip
          go_enter Try.func27, Try.ntmps27
          go_wp2_with (first
            | (go_at_call 38; refine (reg_any _ _).mono ?_; rintro e w' ⟨rfl, rfl⟩)
            | (go_at_call 39; refine (sourced_any _ _ _ _ _ _).mono ?_; rintro e w' ⟨rfl, rfl⟩)
            | (go_at_call 40; refine (three_any _ _).mono ?_; rintro e w' ⟨rfl, rfl⟩)
            | (go_at_call 41; refine (jump_any _ _).mono ?_; rintro e w' ⟨rfl, rfl⟩))
          go_ret
          exact ⟨r2b (by rw [rightB_14]; first | (simp [*]; done) | (simp [*]; intros; omega)), by repeat (first | exact Below.refl _ _ | (refine Below.alloc ?_ (by simp) _))⟩
      · have h2 := eq_false_of_ne_true h2
        go_enter Try.func27, Try.ntmps27
        go_wp2_with (first
          | (go_at_call 38; refine (reg_any _ _).mono ?_; rintro e w' ⟨rfl, rfl⟩)
          | (go_at_call 39; refine (sourced_any _ _ _ _ _ _).mono ?_; rintro e w' ⟨rfl, rfl⟩)
          | (go_at_call 40; refine (three_any _ _).mono ?_; rintro e w' ⟨rfl, rfl⟩)
          | (go_at_call 41; refine (jump_any _ _).mono ?_; rintro e w' ⟨rfl, rfl⟩))
        go_ret
        exact ⟨r2b (by rw [rightB_14]; first | (simp [*]; done) | (simp [*]; intros; omega)), by repeat (first | exact Below.refl _ _ | (refine Below.alloc ?_ (by simp) _))⟩
    · have h3 := eq_false_of_ne_true h3
      go_enter Try.func27, Try.ntmps27
      go_wp2_with (first
        | (go_at_call 38; refine (reg_any _ _).mono ?_; rintro e w' ⟨rfl, rfl⟩)
        | (go_at_call 39; refine (sourced_any _ _ _ _ _ _).mono ?_; rintro e w' ⟨rfl, rfl⟩)
        | (go_at_call 40; refine (three_any _ _).mono ?_; rintro e w' ⟨rfl, rfl⟩)
        | (go_at_call 41; refine (jump_any _ _).mono ?_; rintro e w' ⟨rfl, rfl⟩))
      go_ret
      exact ⟨r2b (by rw [rightB_14]; first | (simp [*]; done) | (simp [*]; intros; omega)), by repeat (first | exact Below.refl _ _ | (refine Below.alloc ?_ (by simp) _))⟩
  · have h4 := eq_false_of_ne_true h4
    go_enter Try.func27, Try.ntmps27
    go_wp2_with (first
      | (go_at_call 38; refine (reg_any _ _).mono ?_; rintro e w' ⟨rfl, rfl⟩)
      | (go_at_call 39; refine (sourced_any _ _ _ _ _ _).mono ?_; rintro e w' ⟨rfl, rfl⟩)
      | (go_at_call 40; refine (three_any _ _).mono ?_; rintro e w' ⟨rfl, rfl⟩)
      | (go_at_call 41; refine (jump_any _ _).mono ?_; rintro e w' ⟨rfl, rfl⟩))
    go_ret
    exact ⟨r2b (by rw [rightB_14]; first | (simp [*]; done) | (simp [*]; intros; omega)), by repeat (first | exact Below.refl _ _ | (refine Below.alloc ?_ (by simp) _))⟩

set_option maxRecDepth 100000 in
set_option maxHeartbeats 800000 in
theorem right_15 (d a b imm : Int) (w : World) : Calls Try.prog 27 #[instV 15 d a b imm] w fun e w' => e = .returned (.bool (rightB 15 d a b imm)) ∧ Below w.heap.size w w' := by
  have hth : threeB 15 = false := rfl
  have hju : jumpB 15 = false := rfl
  by_cases h4 : 0 ≤ d
  · skip
    by_cases h3 : d ≤ 63
    · skip
      by_cases h2 : (a == 0) = true
      · skip
        by_cases h1 : (b == 0) = true
        · skip
          go_enter Try.func27, Try.ntmps27
          go_wp2_with (first
            | (go_at_call 38; refine (reg_any _ _).mono ?_; rintro e w' ⟨rfl, rfl⟩)
            | (go_at_call 39; refine (sourced_any _ _ _ _ _ _).mono ?_; rintro e w' ⟨rfl, rfl⟩)
            | (go_at_call 40; refine (three_any _ _).mono ?_; rintro e w' ⟨rfl, rfl⟩)
            | (go_at_call 41; refine (jump_any _ _).mono ?_; rintro e w' ⟨rfl, rfl⟩))
          go_ret
          exact ⟨r2b (by rw [rightB_15]; first | (simp [*]; done) | (simp [*]; intros; omega)), by repeat (first | exact Below.refl _ _ | (refine Below.alloc ?_ (by simp) _))⟩
        · have h1 := eq_false_of_ne_true h1
          go_enter Try.func27, Try.ntmps27
          go_wp2_with (first
            | (go_at_call 38; refine (reg_any _ _).mono ?_; rintro e w' ⟨rfl, rfl⟩)
            | (go_at_call 39; refine (sourced_any _ _ _ _ _ _).mono ?_; rintro e w' ⟨rfl, rfl⟩)
            | (go_at_call 40; refine (three_any _ _).mono ?_; rintro e w' ⟨rfl, rfl⟩)
            | (go_at_call 41; refine (jump_any _ _).mono ?_; rintro e w' ⟨rfl, rfl⟩))
          go_ret
          exact ⟨r2b (by rw [rightB_15]; first | (simp [*]; done) | (simp [*]; intros; omega)), by repeat (first | exact Below.refl _ _ | (refine Below.alloc ?_ (by simp) _))⟩
      · have h2 := eq_false_of_ne_true h2
        go_enter Try.func27, Try.ntmps27
        go_wp2_with (first
          | (go_at_call 38; refine (reg_any _ _).mono ?_; rintro e w' ⟨rfl, rfl⟩)
          | (go_at_call 39; refine (sourced_any _ _ _ _ _ _).mono ?_; rintro e w' ⟨rfl, rfl⟩)
          | (go_at_call 40; refine (three_any _ _).mono ?_; rintro e w' ⟨rfl, rfl⟩)
          | (go_at_call 41; refine (jump_any _ _).mono ?_; rintro e w' ⟨rfl, rfl⟩))
        go_ret
        exact ⟨r2b (by rw [rightB_15]; first | (simp [*]; done) | (simp [*]; intros; omega)), by repeat (first | exact Below.refl _ _ | (refine Below.alloc ?_ (by simp) _))⟩
    · skip
      go_enter Try.func27, Try.ntmps27
      go_wp2_with (first
        | (go_at_call 38; refine (reg_any _ _).mono ?_; rintro e w' ⟨rfl, rfl⟩)
        | (go_at_call 39; refine (sourced_any _ _ _ _ _ _).mono ?_; rintro e w' ⟨rfl, rfl⟩)
        | (go_at_call 40; refine (three_any _ _).mono ?_; rintro e w' ⟨rfl, rfl⟩)
        | (go_at_call 41; refine (jump_any _ _).mono ?_; rintro e w' ⟨rfl, rfl⟩))
      go_ret
      exact ⟨r2b (by rw [rightB_15]; first | (simp [*]; done) | (simp [*]; intros; omega)), by repeat (first | exact Below.refl _ _ | (refine Below.alloc ?_ (by simp) _))⟩
  · skip
    go_enter Try.func27, Try.ntmps27
    go_wp2_with (first
      | (go_at_call 38; refine (reg_any _ _).mono ?_; rintro e w' ⟨rfl, rfl⟩)
      | (go_at_call 39; refine (sourced_any _ _ _ _ _ _).mono ?_; rintro e w' ⟨rfl, rfl⟩)
      | (go_at_call 40; refine (three_any _ _).mono ?_; rintro e w' ⟨rfl, rfl⟩)
      | (go_at_call 41; refine (jump_any _ _).mono ?_; rintro e w' ⟨rfl, rfl⟩))
    go_ret
    exact ⟨r2b (by rw [rightB_15]; first | (simp [*]; done) | (simp [*]; intros; omega)), by repeat (first | exact Below.refl _ _ | (refine Below.alloc ?_ (by simp) _))⟩

set_option maxRecDepth 100000 in
set_option maxHeartbeats 800000 in
theorem right_20 (d a b imm : Int) (w : World) : Calls Try.prog 27 #[instV 20 d a b imm] w fun e w' => e = .returned (.bool (rightB 20 d a b imm)) ∧ Below w.heap.size w w' := by
  have hth : threeB 20 = false := rfl
  have hju : jumpB 20 = false := rfl
  by_cases h5 : 1 ≤ d
  · skip
    by_cases h4 : d ≤ 63
    · skip
      by_cases h3 : (regB a) = true
      · skip
        by_cases h2 : (b == 0) = true
        · skip
          by_cases h1 : 1 ≤ imm
          · skip
            go_enter Try.func27, Try.ntmps27
            go_wp2_with (first
              | (go_at_call 38; refine (reg_any _ _).mono ?_; rintro e w' ⟨rfl, rfl⟩)
              | (go_at_call 39; refine (sourced_any _ _ _ _ _ _).mono ?_; rintro e w' ⟨rfl, rfl⟩)
              | (go_at_call 40; refine (three_any _ _).mono ?_; rintro e w' ⟨rfl, rfl⟩)
              | (go_at_call 41; refine (jump_any _ _).mono ?_; rintro e w' ⟨rfl, rfl⟩))
            go_ret
            exact ⟨r2b (by rw [rightB_20]; first | (simp [*]; done) | (simp [*]; intros; omega)), by repeat (first | exact Below.refl _ _ | (refine Below.alloc ?_ (by simp) _))⟩
          · skip
            go_enter Try.func27, Try.ntmps27
            go_wp2_with (first
              | (go_at_call 38; refine (reg_any _ _).mono ?_; rintro e w' ⟨rfl, rfl⟩)
              | (go_at_call 39; refine (sourced_any _ _ _ _ _ _).mono ?_; rintro e w' ⟨rfl, rfl⟩)
              | (go_at_call 40; refine (three_any _ _).mono ?_; rintro e w' ⟨rfl, rfl⟩)
              | (go_at_call 41; refine (jump_any _ _).mono ?_; rintro e w' ⟨rfl, rfl⟩))
            go_ret
            exact ⟨r2b (by rw [rightB_20]; first | (simp [*]; done) | (simp [*]; intros; omega)), by repeat (first | exact Below.refl _ _ | (refine Below.alloc ?_ (by simp) _))⟩
        · have h2 := eq_false_of_ne_true h2
          go_enter Try.func27, Try.ntmps27
          go_wp2_with (first
            | (go_at_call 38; refine (reg_any _ _).mono ?_; rintro e w' ⟨rfl, rfl⟩)
            | (go_at_call 39; refine (sourced_any _ _ _ _ _ _).mono ?_; rintro e w' ⟨rfl, rfl⟩)
            | (go_at_call 40; refine (three_any _ _).mono ?_; rintro e w' ⟨rfl, rfl⟩)
            | (go_at_call 41; refine (jump_any _ _).mono ?_; rintro e w' ⟨rfl, rfl⟩))
          go_ret
          exact ⟨r2b (by rw [rightB_20]; first | (simp [*]; done) | (simp [*]; intros; omega)), by repeat (first | exact Below.refl _ _ | (refine Below.alloc ?_ (by simp) _))⟩
      · have h3 := eq_false_of_ne_true h3
        go_enter Try.func27, Try.ntmps27
        go_wp2_with (first
          | (go_at_call 38; refine (reg_any _ _).mono ?_; rintro e w' ⟨rfl, rfl⟩)
          | (go_at_call 39; refine (sourced_any _ _ _ _ _ _).mono ?_; rintro e w' ⟨rfl, rfl⟩)
          | (go_at_call 40; refine (three_any _ _).mono ?_; rintro e w' ⟨rfl, rfl⟩)
          | (go_at_call 41; refine (jump_any _ _).mono ?_; rintro e w' ⟨rfl, rfl⟩))
        go_ret
        exact ⟨r2b (by rw [rightB_20]; first | (simp [*]; done) | (simp [*]; intros; omega)), by repeat (first | exact Below.refl _ _ | (refine Below.alloc ?_ (by simp) _))⟩
    · skip
      go_enter Try.func27, Try.ntmps27
      go_wp2_with (first
        | (go_at_call 38; refine (reg_any _ _).mono ?_; rintro e w' ⟨rfl, rfl⟩)
        | (go_at_call 39; refine (sourced_any _ _ _ _ _ _).mono ?_; rintro e w' ⟨rfl, rfl⟩)
        | (go_at_call 40; refine (three_any _ _).mono ?_; rintro e w' ⟨rfl, rfl⟩)
        | (go_at_call 41; refine (jump_any _ _).mono ?_; rintro e w' ⟨rfl, rfl⟩))
      go_ret
      exact ⟨r2b (by rw [rightB_20]; first | (simp [*]; done) | (simp [*]; intros; omega)), by repeat (first | exact Below.refl _ _ | (refine Below.alloc ?_ (by simp) _))⟩
  · skip
    go_enter Try.func27, Try.ntmps27
    go_wp2_with (first
      | (go_at_call 38; refine (reg_any _ _).mono ?_; rintro e w' ⟨rfl, rfl⟩)
      | (go_at_call 39; refine (sourced_any _ _ _ _ _ _).mono ?_; rintro e w' ⟨rfl, rfl⟩)
      | (go_at_call 40; refine (three_any _ _).mono ?_; rintro e w' ⟨rfl, rfl⟩)
      | (go_at_call 41; refine (jump_any _ _).mono ?_; rintro e w' ⟨rfl, rfl⟩))
    go_ret
    exact ⟨r2b (by rw [rightB_20]; first | (simp [*]; done) | (simp [*]; intros; omega)), by repeat (first | exact Below.refl _ _ | (refine Below.alloc ?_ (by simp) _))⟩

set_option maxRecDepth 100000 in
set_option maxHeartbeats 800000 in
theorem right_21 (d a b imm : Int) (w : World) : Calls Try.prog 27 #[instV 21 d a b imm] w fun e w' => e = .returned (.bool (rightB 21 d a b imm)) ∧ Below w.heap.size w w' := by
  have hth : threeB 21 = false := rfl
  have hju : jumpB 21 = false := rfl
  by_cases h4 : (d == 0) = true
  · skip
    by_cases h3 : (a == 0) = true
    · skip
      by_cases h2 : (b == 0) = true
      · skip
        by_cases h1 : 0 ≤ imm
        · skip
          go_enter Try.func27, Try.ntmps27
          go_wp2_with (first
            | (go_at_call 38; refine (reg_any _ _).mono ?_; rintro e w' ⟨rfl, rfl⟩)
            | (go_at_call 39; refine (sourced_any _ _ _ _ _ _).mono ?_; rintro e w' ⟨rfl, rfl⟩)
            | (go_at_call 40; refine (three_any _ _).mono ?_; rintro e w' ⟨rfl, rfl⟩)
            | (go_at_call 41; refine (jump_any _ _).mono ?_; rintro e w' ⟨rfl, rfl⟩))
          go_ret
          exact ⟨r2b (by rw [rightB_21]; first | (simp [*]; done) | (simp [*]; intros; omega)), by repeat (first | exact Below.refl _ _ | (refine Below.alloc ?_ (by simp) _))⟩
        · skip
          go_enter Try.func27, Try.ntmps27
          go_wp2_with (first
            | (go_at_call 38; refine (reg_any _ _).mono ?_; rintro e w' ⟨rfl, rfl⟩)
            | (go_at_call 39; refine (sourced_any _ _ _ _ _ _).mono ?_; rintro e w' ⟨rfl, rfl⟩)
            | (go_at_call 40; refine (three_any _ _).mono ?_; rintro e w' ⟨rfl, rfl⟩)
            | (go_at_call 41; refine (jump_any _ _).mono ?_; rintro e w' ⟨rfl, rfl⟩))
          go_ret
          exact ⟨r2b (by rw [rightB_21]; first | (simp [*]; done) | (simp [*]; intros; omega)), by repeat (first | exact Below.refl _ _ | (refine Below.alloc ?_ (by simp) _))⟩
      · have h2 := eq_false_of_ne_true h2
        go_enter Try.func27, Try.ntmps27
        go_wp2_with (first
          | (go_at_call 38; refine (reg_any _ _).mono ?_; rintro e w' ⟨rfl, rfl⟩)
          | (go_at_call 39; refine (sourced_any _ _ _ _ _ _).mono ?_; rintro e w' ⟨rfl, rfl⟩)
          | (go_at_call 40; refine (three_any _ _).mono ?_; rintro e w' ⟨rfl, rfl⟩)
          | (go_at_call 41; refine (jump_any _ _).mono ?_; rintro e w' ⟨rfl, rfl⟩))
        go_ret
        exact ⟨r2b (by rw [rightB_21]; first | (simp [*]; done) | (simp [*]; intros; omega)), by repeat (first | exact Below.refl _ _ | (refine Below.alloc ?_ (by simp) _))⟩
    · have h3 := eq_false_of_ne_true h3
      go_enter Try.func27, Try.ntmps27
      go_wp2_with (first
        | (go_at_call 38; refine (reg_any _ _).mono ?_; rintro e w' ⟨rfl, rfl⟩)
        | (go_at_call 39; refine (sourced_any _ _ _ _ _ _).mono ?_; rintro e w' ⟨rfl, rfl⟩)
        | (go_at_call 40; refine (three_any _ _).mono ?_; rintro e w' ⟨rfl, rfl⟩)
        | (go_at_call 41; refine (jump_any _ _).mono ?_; rintro e w' ⟨rfl, rfl⟩))
      go_ret
      exact ⟨r2b (by rw [rightB_21]; first | (simp [*]; done) | (simp [*]; intros; omega)), by repeat (first | exact Below.refl _ _ | (refine Below.alloc ?_ (by simp) _))⟩
  · have h4 := eq_false_of_ne_true h4
    go_enter Try.func27, Try.ntmps27
    go_wp2_with (first
      | (go_at_call 38; refine (reg_any _ _).mono ?_; rintro e w' ⟨rfl, rfl⟩)
      | (go_at_call 39; refine (sourced_any _ _ _ _ _ _).mono ?_; rintro e w' ⟨rfl, rfl⟩)
      | (go_at_call 40; refine (three_any _ _).mono ?_; rintro e w' ⟨rfl, rfl⟩)
      | (go_at_call 41; refine (jump_any _ _).mono ?_; rintro e w' ⟨rfl, rfl⟩))
    go_ret
    exact ⟨r2b (by rw [rightB_21]; first | (simp [*]; done) | (simp [*]; intros; omega)), by repeat (first | exact Below.refl _ _ | (refine Below.alloc ?_ (by simp) _))⟩

set_option maxRecDepth 100000 in
set_option maxHeartbeats 800000 in
theorem right_22 (d a b imm : Int) (w : World) : Calls Try.prog 27 #[instV 22 d a b imm] w fun e w' => e = .returned (.bool (rightB 22 d a b imm)) ∧ Below w.heap.size w w' := by
  have hth : threeB 22 = false := rfl
  have hju : jumpB 22 = false := rfl
  by_cases h3 : (d == 0) = true
  · skip
    by_cases h2 : (regB a) = true
    · skip
      by_cases h1 : (b == 0) = true
      · skip
        go_enter Try.func27, Try.ntmps27
        go_wp2_with (first
          | (go_at_call 38; refine (reg_any _ _).mono ?_; rintro e w' ⟨rfl, rfl⟩)
          | (go_at_call 39; refine (sourced_any _ _ _ _ _ _).mono ?_; rintro e w' ⟨rfl, rfl⟩)
          | (go_at_call 40; refine (three_any _ _).mono ?_; rintro e w' ⟨rfl, rfl⟩)
          | (go_at_call 41; refine (jump_any _ _).mono ?_; rintro e w' ⟨rfl, rfl⟩))
        go_ret
        exact ⟨r2b (by rw [rightB_22]; first | (simp [*]; done) | (simp [*]; intros; omega)), by repeat (first | exact Below.refl _ _ | (refine Below.alloc ?_ (by simp) _))⟩
      · have h1 := eq_false_of_ne_true h1
        go_enter Try.func27, Try.ntmps27
        go_wp2_with (first
          | (go_at_call 38; refine (reg_any _ _).mono ?_; rintro e w' ⟨rfl, rfl⟩)
          | (go_at_call 39; refine (sourced_any _ _ _ _ _ _).mono ?_; rintro e w' ⟨rfl, rfl⟩)
          | (go_at_call 40; refine (three_any _ _).mono ?_; rintro e w' ⟨rfl, rfl⟩)
          | (go_at_call 41; refine (jump_any _ _).mono ?_; rintro e w' ⟨rfl, rfl⟩))
        go_ret
        exact ⟨r2b (by rw [rightB_22]; first | (simp [*]; done) | (simp [*]; intros; omega)), by repeat (first | exact Below.refl _ _ | (refine Below.alloc ?_ (by simp) _))⟩
    · have h2 := eq_false_of_ne_true h2
      go_enter Try.func27, Try.ntmps27
      go_wp2_with (first
        | (go_at_call 38; refine (reg_any _ _).mono ?_; rintro e w' ⟨rfl, rfl⟩)
        | (go_at_call 39; refine (sourced_any _ _ _ _ _ _).mono ?_; rintro e w' ⟨rfl, rfl⟩)
        | (go_at_call 40; refine (three_any _ _).mono ?_; rintro e w' ⟨rfl, rfl⟩)
        | (go_at_call 41; refine (jump_any _ _).mono ?_; rintro e w' ⟨rfl, rfl⟩))
      go_ret
      exact ⟨r2b (by rw [rightB_22]; first | (simp [*]; done) | (simp [*]; intros; omega)), by repeat (first | exact Below.refl _ _ | (refine Below.alloc ?_ (by simp) _))⟩
  · have h3 := eq_false_of_ne_true h3
    go_enter Try.func27, Try.ntmps27
    go_wp2_with (first
      | (go_at_call 38; refine (reg_any _ _).mono ?_; rintro e w' ⟨rfl, rfl⟩)
      | (go_at_call 39; refine (sourced_any _ _ _ _ _ _).mono ?_; rintro e w' ⟨rfl, rfl⟩)
      | (go_at_call 40; refine (three_any _ _).mono ?_; rintro e w' ⟨rfl, rfl⟩)
      | (go_at_call 41; refine (jump_any _ _).mono ?_; rintro e w' ⟨rfl, rfl⟩))
    go_ret
    exact ⟨r2b (by rw [rightB_22]; first | (simp [*]; done) | (simp [*]; intros; omega)), by repeat (first | exact Below.refl _ _ | (refine Below.alloc ?_ (by simp) _))⟩

set_option maxRecDepth 100000 in
set_option maxHeartbeats 800000 in
theorem right_three (op d a b imm : Int) (w : World) (hr : 1 ≤ op ∧ op ≤ 10) : Calls Try.prog 27 #[instV op d a b imm] w fun e w' => e = .returned (.bool (rightB op d a b imm)) ∧ Below w.heap.size w w' := by
  have ho0 : (op == 0) = false := by simp; omega
  have ho11 : (op == 11) = false := by simp; omega
  have ho12 : (op == 12) = false := by simp; omega
  have ho13 : (op == 13) = false := by simp; omega
  have ho14 : (op == 14) = false := by simp; omega
  have ho15 : (op == 15) = false := by simp; omega
  have ho20 : (op == 20) = false := by simp; omega
  have ho21 : (op == 21) = false := by simp; omega
  have ho22 : (op == 22) = false := by simp; omega
  have hth : threeB op = true := by simp [threeB]; omega
  by_cases h2 : (regB d) = true
  · skip
    by_cases h1 : (regB a) = true
    · skip
      go_enter Try.func27, Try.ntmps27
      go_wp2_with (first
        | (go_at_call 38; refine (reg_any _ _).mono ?_; rintro e w' ⟨rfl, rfl⟩)
        | (go_at_call 39; refine (sourced_any _ _ _ _ _ _).mono ?_; rintro e w' ⟨rfl, rfl⟩)
        | (go_at_call 40; refine (three_any _ _).mono ?_; rintro e w' ⟨rfl, rfl⟩)
        | (go_at_call 41; refine (jump_any _ _).mono ?_; rintro e w' ⟨rfl, rfl⟩))
      go_ret
      exact ⟨r2b (by rw [rightB_three hr]; first | (simp [*]; done) | (simp [*]; intros; omega)), by repeat (first | exact Below.refl _ _ | (refine Below.alloc ?_ (by simp) _))⟩
    · have h1 := eq_false_of_ne_true h1
      go_enter Try.func27, Try.ntmps27
      go_wp2_with (first
        | (go_at_call 38; refine (reg_any _ _).mono ?_; rintro e w' ⟨rfl, rfl⟩)
        | (go_at_call 39; refine (sourced_any _ _ _ _ _ _).mono ?_; rintro e w' ⟨rfl, rfl⟩)
        | (go_at_call 40; refine (three_any _ _).mono ?_; rintro e w' ⟨rfl, rfl⟩)
        | (go_at_call 41; refine (jump_any _ _).mono ?_; rintro e w' ⟨rfl, rfl⟩))
      go_ret
      exact ⟨r2b (by rw [rightB_three hr]; first | (simp [*]; done) | (simp [*]; intros; omega)), by repeat (first | exact Below.refl _ _ | (refine Below.alloc ?_ (by simp) _))⟩
  · have h2 := eq_false_of_ne_true h2
    go_enter Try.func27, Try.ntmps27
    go_wp2_with (first
      | (go_at_call 38; refine (reg_any _ _).mono ?_; rintro e w' ⟨rfl, rfl⟩)
      | (go_at_call 39; refine (sourced_any _ _ _ _ _ _).mono ?_; rintro e w' ⟨rfl, rfl⟩)
      | (go_at_call 40; refine (three_any _ _).mono ?_; rintro e w' ⟨rfl, rfl⟩)
      | (go_at_call 41; refine (jump_any _ _).mono ?_; rintro e w' ⟨rfl, rfl⟩))
    go_ret
    exact ⟨r2b (by rw [rightB_three hr]; first | (simp [*]; done) | (simp [*]; intros; omega)), by repeat (first | exact Below.refl _ _ | (refine Below.alloc ?_ (by simp) _))⟩

set_option maxRecDepth 100000 in
set_option maxHeartbeats 800000 in
theorem right_jump (op d a b imm : Int) (w : World) (hr : 16 ≤ op ∧ op ≤ 19) : Calls Try.prog 27 #[instV op d a b imm] w fun e w' => e = .returned (.bool (rightB op d a b imm)) ∧ Below w.heap.size w w' := by
  have ho0 : (op == 0) = false := by simp; omega
  have ho11 : (op == 11) = false := by simp; omega
  have ho12 : (op == 12) = false := by simp; omega
  have ho13 : (op == 13) = false := by simp; omega
  have ho14 : (op == 14) = false := by simp; omega
  have ho15 : (op == 15) = false := by simp; omega
  have ho20 : (op == 20) = false := by simp; omega
  have ho21 : (op == 21) = false := by simp; omega
  have ho22 : (op == 22) = false := by simp; omega
  have hth : threeB op = false := by simp [threeB]; omega
  have hju : jumpB op = true := by simp [jumpB]; omega
  by_cases h3 : 0 ≤ d
  · skip
    by_cases h2 : d ≤ 63
    · skip
      by_cases h1 : (regB a) = true
      · skip
        go_enter Try.func27, Try.ntmps27
        go_wp2_with (first
          | (go_at_call 38; refine (reg_any _ _).mono ?_; rintro e w' ⟨rfl, rfl⟩)
          | (go_at_call 39; refine (sourced_any _ _ _ _ _ _).mono ?_; rintro e w' ⟨rfl, rfl⟩)
          | (go_at_call 40; refine (three_any _ _).mono ?_; rintro e w' ⟨rfl, rfl⟩)
          | (go_at_call 41; refine (jump_any _ _).mono ?_; rintro e w' ⟨rfl, rfl⟩))
        go_ret
        exact ⟨r2b (by rw [rightB_jump hr]; first | (simp [*]; done) | (simp [*]; intros; omega)), by repeat (first | exact Below.refl _ _ | (refine Below.alloc ?_ (by simp) _))⟩
      · have h1 := eq_false_of_ne_true h1
        go_enter Try.func27, Try.ntmps27
        go_wp2_with (first
          | (go_at_call 38; refine (reg_any _ _).mono ?_; rintro e w' ⟨rfl, rfl⟩)
          | (go_at_call 39; refine (sourced_any _ _ _ _ _ _).mono ?_; rintro e w' ⟨rfl, rfl⟩)
          | (go_at_call 40; refine (three_any _ _).mono ?_; rintro e w' ⟨rfl, rfl⟩)
          | (go_at_call 41; refine (jump_any _ _).mono ?_; rintro e w' ⟨rfl, rfl⟩))
        go_ret
        exact ⟨r2b (by rw [rightB_jump hr]; first | (simp [*]; done) | (simp [*]; intros; omega)), by repeat (first | exact Below.refl _ _ | (refine Below.alloc ?_ (by simp) _))⟩
    · skip
      go_enter Try.func27, Try.ntmps27
      go_wp2_with (first
        | (go_at_call 38; refine (reg_any _ _).mono ?_; rintro e w' ⟨rfl, rfl⟩)
        | (go_at_call 39; refine (sourced_any _ _ _ _ _ _).mono ?_; rintro e w' ⟨rfl, rfl⟩)
        | (go_at_call 40; refine (three_any _ _).mono ?_; rintro e w' ⟨rfl, rfl⟩)
        | (go_at_call 41; refine (jump_any _ _).mono ?_; rintro e w' ⟨rfl, rfl⟩))
      go_ret
      exact ⟨r2b (by rw [rightB_jump hr]; first | (simp [*]; done) | (simp [*]; intros; omega)), by repeat (first | exact Below.refl _ _ | (refine Below.alloc ?_ (by simp) _))⟩
  · skip
    go_enter Try.func27, Try.ntmps27
    go_wp2_with (first
      | (go_at_call 38; refine (reg_any _ _).mono ?_; rintro e w' ⟨rfl, rfl⟩)
      | (go_at_call 39; refine (sourced_any _ _ _ _ _ _).mono ?_; rintro e w' ⟨rfl, rfl⟩)
      | (go_at_call 40; refine (three_any _ _).mono ?_; rintro e w' ⟨rfl, rfl⟩)
      | (go_at_call 41; refine (jump_any _ _).mono ?_; rintro e w' ⟨rfl, rfl⟩))
    go_ret
    exact ⟨r2b (by rw [rightB_jump hr]; first | (simp [*]; done) | (simp [*]; intros; omega)), by repeat (first | exact Below.refl _ _ | (refine Below.alloc ?_ (by simp) _))⟩

set_option maxRecDepth 100000 in
set_option maxHeartbeats 800000 in
theorem right_none (op d a b imm : Int) (w : World) (hr : op < 0 ∨ 22 < op) : Calls Try.prog 27 #[instV op d a b imm] w fun e w' => e = .returned (.bool (rightB op d a b imm)) ∧ Below w.heap.size w w' := by
  have ho0 : (op == 0) = false := by simp; omega
  have ho11 : (op == 11) = false := by simp; omega
  have ho12 : (op == 12) = false := by simp; omega
  have ho13 : (op == 13) = false := by simp; omega
  have ho14 : (op == 14) = false := by simp; omega
  have ho15 : (op == 15) = false := by simp; omega
  have ho20 : (op == 20) = false := by simp; omega
  have ho21 : (op == 21) = false := by simp; omega
  have ho22 : (op == 22) = false := by simp; omega
  have hth : threeB op = false := by simp [threeB]; omega
  have hju : jumpB op = false := by simp [jumpB]; omega
  go_enter Try.func27, Try.ntmps27
  go_wp2_with (first
    | (go_at_call 38; refine (reg_any _ _).mono ?_; rintro e w' ⟨rfl, rfl⟩)
    | (go_at_call 39; refine (sourced_any _ _ _ _ _ _).mono ?_; rintro e w' ⟨rfl, rfl⟩)
    | (go_at_call 40; refine (three_any _ _).mono ?_; rintro e w' ⟨rfl, rfl⟩)
    | (go_at_call 41; refine (jump_any _ _).mono ?_; rintro e w' ⟨rfl, rfl⟩))
  go_ret
  exact ⟨r2b (by rw [rightB_none hr]), by repeat (first | exact Below.refl _ _ | (refine Below.alloc ?_ (by simp) _))⟩

/-- The document's Right of one instruction. -/
theorem right_any (op d a b imm : Int) (w : World) : Calls Try.prog 27 #[instV op d a b imm] w fun e w' => e = .returned (.bool (rightB op d a b imm)) ∧ Below w.heap.size w w' := by
  by_cases h1 : 1 ≤ op ∧ op ≤ 10
  · exact right_three op d a b imm w h1
  by_cases h2 : 16 ≤ op ∧ op ≤ 19
  · exact right_jump op d a b imm w h2
  by_cases h3 : op < 0 ∨ 22 < op
  · exact right_none op d a b imm w h3
  obtain rfl | rfl | rfl | rfl | rfl | rfl | rfl | rfl | rfl : op = 0 ∨ op = 11 ∨ op = 12 ∨ op = 13 ∨ op = 14 ∨ op = 15 ∨ op = 20 ∨ op = 21 ∨ op = 22 := by omega
  · exact right_0 d a b imm w
  · exact right_11 d a b imm w
  · exact right_12 d a b imm w
  · exact right_13 d a b imm w
  · exact right_14 d a b imm w
  · exact right_15 d a b imm w
  · exact right_20 d a b imm w
  · exact right_21 d a b imm w
  · exact right_22 d a b imm w
end Go.Proofs.Ytfmibjgihicedaa
