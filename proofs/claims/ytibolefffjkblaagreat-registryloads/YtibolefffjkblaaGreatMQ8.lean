/-
  R2Right
  R2Box
  J9Src
  R2Boxes
-/
import Derived.Test.YtibolefffjkblaaGreatMQ1
import Derived.Test.YtibolefffjkblaaGreatRows
import Derived.WalkSpells
import Derived.OpenShut
import Derived.Below
namespace Go.Proofs.YtibolefffjkblaaGreat
open Go.RowKit
set_option linter.unusedVariables false
theorem reg_any (n : Int) (w : World) : Calls Tryz.prog 134 #[.int .i64 n] w fun e w' => e = .returned (.bool (regB n)) /\ w = w' := by
 unfold regB
 by_cases h : 0 <= n
 ·go_enter Tryz.func134, Tryz.ntmps134
  go_wp2
  go_ret
  exact ⟨r2b (by simp [h]), rfl⟩
 ·go_enter Tryz.func134, Tryz.ntmps134
  go_wp2
  go_ret
  exact ⟨r2b (by simp; omega), rfl⟩
theorem three_any (n : Int) (w : World) : Calls Tryz.prog 136 #[.int .i64 n] w fun e w' => e = .returned (.bool (threeB n)) /\ w = w' := by
 unfold threeB
 by_cases h : 1 <= n
 ·go_enter Tryz.func136, Tryz.ntmps136
  go_wp2
  go_ret
  exact ⟨r2b (by simp [h]), rfl⟩
 ·go_enter Tryz.func136, Tryz.ntmps136
  go_wp2
  go_ret
  exact ⟨r2b (by simp; omega), rfl⟩
theorem jump_any (n : Int) (w : World) : Calls Tryz.prog 137 #[.int .i64 n] w fun e w' => e = .returned (.bool (jumpB n)) /\ w = w' := by
 unfold jumpB
 by_cases h : 16 <= n
 ·go_enter Tryz.func137, Tryz.ntmps137
  go_wp2
  go_ret
  exact ⟨r2b (by simp [h]), rfl⟩
 ·go_enter Tryz.func137, Tryz.ntmps137
  go_wp2
  go_ret
  exact ⟨r2b (by simp; omega), rfl⟩

abbrev instV (op d a b imm : Int) : Value := .agg #[.int .i64 op, .int .i64 d, .int .i64 a, .int .i64 b, .int .i64 imm]

theorem sourced_any (op d a b imm : Int) (w : World) : Calls Tryz.prog 135 #[instV op d a b imm] w fun e w' => e = .returned (.bool (sourcedB b imm)) /\ w.alloc (.cells #[.int .i64 op, .int .i64 d, .int .i64 a, .int .i64 b, .int .i64 imm] 67) = w' := by
 by_cases hr : regB b = true
 ·by_cases hi : imm = 0
  ·have hib : (imm == 0) = true := by simp [hi]
   clear hi
   go_enter Tryz.func135, Tryz.ntmps135
   go_wp2_with (go_at_call 134; go_must (refine (reg_any b _).mono ?_); rintro e w' ⟨rfl, rfl⟩)
   go_ret
   exact ⟨r2b (by simp [sourcedB, hr, hib]), rfl⟩
  ·have hib : (imm == 0) = false := by simp [hi]
   clear hi
   go_enter Tryz.func135, Tryz.ntmps135
   go_wp2_with (go_at_call 134; go_must (refine (reg_any b _).mono ?_); rintro e w' ⟨rfl, rfl⟩)
   go_ret
   exact ⟨r2b (by simp [sourcedB, hr, hib]), rfl⟩
 ·have hr : regB b = false := by simpa using hr
  go_enter Tryz.func135, Tryz.ntmps135
  go_wp2_with (go_at_call 134; go_must (refine (reg_any b _).mono ?_); rintro e w' ⟨rfl, rfl⟩)
  go_ret
  exact ⟨r2b (by simp [sourcedB, hr]), rfl⟩

set_option maxRecDepth 100000 in
set_option maxHeartbeats 800000 in
theorem right_0 (d a b imm : Int) (w : World) : Calls Tryz.prog 103 #[instV 0 d a b imm] w fun e w' => e = .returned (.bool (rightB 0 d a b imm)) /\ Below w.heap.size w w' := by
 have hth : threeB 0 = false := rfl
 have hju : jumpB 0 = false := rfl
 by_cases h2 : (regB d) = true
 by_cases h1 : (a == 0) = true
 all_goals ((try have h1 := eq_false_of_ne_true h1); (try have h2 := eq_false_of_ne_true h2))
 all_goals go_enter Tryz.func103, Tryz.ntmps103
 all_goals go_wp2_with (first
  | (go_at_call 134; refine (reg_any _ _).mono ?_; rintro e w' ⟨rfl, rfl⟩)
  | (go_at_call 135; refine (sourced_any _ _ _ _ _ _).mono ?_; rintro e w' ⟨rfl, rfl⟩)
  | (go_at_call 136; refine (three_any _ _).mono ?_; rintro e w' ⟨rfl, rfl⟩)
  | (go_at_call 137; refine (jump_any _ _).mono ?_; rintro e w' ⟨rfl, rfl⟩))
 all_goals go_ret
 all_goals exact ⟨r2b (by rw [rightB_0]; first | (simp [*]; done) | (simp [*]; intros; omega)), by repeat (first | exact Below.refl _ _ | (refine Below.alloc ?_ (by simp) _))⟩
set_option maxRecDepth 100000 in
set_option maxHeartbeats 800000 in
theorem right_11 (d a b imm : Int) (w : World) : Calls Tryz.prog 103 #[instV 11 d a b imm] w fun e w' => e = .returned (.bool (rightB 11 d a b imm)) /\ Below w.heap.size w w' := by
 have hth : threeB 11 = false := rfl
 have hju : jumpB 11 = false := rfl
 by_cases h2 : (regB d) = true
 by_cases h1 : (a == 0) = true
 all_goals ((try have h1 := eq_false_of_ne_true h1); (try have h2 := eq_false_of_ne_true h2))
 all_goals go_enter Tryz.func103, Tryz.ntmps103
 all_goals go_wp2_with (first
  | (go_at_call 134; refine (reg_any _ _).mono ?_; rintro e w' ⟨rfl, rfl⟩)
  | (go_at_call 135; refine (sourced_any _ _ _ _ _ _).mono ?_; rintro e w' ⟨rfl, rfl⟩)
  | (go_at_call 136; refine (three_any _ _).mono ?_; rintro e w' ⟨rfl, rfl⟩)
  | (go_at_call 137; refine (jump_any _ _).mono ?_; rintro e w' ⟨rfl, rfl⟩))
 all_goals go_ret
 all_goals exact ⟨r2b (by rw [rightB_11]; first | (simp [*]; done) | (simp [*]; intros; omega)), by repeat (first | exact Below.refl _ _ | (refine Below.alloc ?_ (by simp) _))⟩
set_option maxRecDepth 100000 in
set_option maxHeartbeats 800000 in
theorem right_12 (d a b imm : Int) (w : World) : Calls Tryz.prog 103 #[instV 12 d a b imm] w fun e w' => e = .returned (.bool (rightB 12 d a b imm)) /\ Below w.heap.size w w' := by
 have hth : threeB 12 = false := rfl
 have hju : jumpB 12 = false := rfl
 by_cases h2 : (d == 0) = true
 by_cases h1 : (regB a) = true
 all_goals ((try have h1 := eq_false_of_ne_true h1); (try have h2 := eq_false_of_ne_true h2))
 all_goals go_enter Tryz.func103, Tryz.ntmps103
 all_goals go_wp2_with (first
  | (go_at_call 134; refine (reg_any _ _).mono ?_; rintro e w' ⟨rfl, rfl⟩)
  | (go_at_call 135; refine (sourced_any _ _ _ _ _ _).mono ?_; rintro e w' ⟨rfl, rfl⟩)
  | (go_at_call 136; refine (three_any _ _).mono ?_; rintro e w' ⟨rfl, rfl⟩)
  | (go_at_call 137; refine (jump_any _ _).mono ?_; rintro e w' ⟨rfl, rfl⟩))
 all_goals go_ret
 all_goals exact ⟨r2b (by rw [rightB_12]; first | (simp [*]; done) | (simp [*]; intros; omega)), by repeat (first | exact Below.refl _ _ | (refine Below.alloc ?_ (by simp) _))⟩
set_option maxRecDepth 100000 in
set_option maxHeartbeats 800000 in
theorem right_13 (d a b imm : Int) (w : World) : Calls Tryz.prog 103 #[instV 13 d a b imm] w fun e w' => e = .returned (.bool (rightB 13 d a b imm)) /\ Below w.heap.size w w' := by
 have hth : threeB 13 = false := rfl
 have hju : jumpB 13 = false := rfl
 by_cases h4 : (regB d) = true
 by_cases h3 : (a == 0) = true
 by_cases h2 : (b == 0) = true
 by_cases h1 : (imm == 0) = true
 all_goals ((try have h1 := eq_false_of_ne_true h1); (try have h2 := eq_false_of_ne_true h2); (try have h3 := eq_false_of_ne_true h3); (try have h4 := eq_false_of_ne_true h4))
 all_goals go_enter Tryz.func103, Tryz.ntmps103
 all_goals go_wp2_with (first
  | (go_at_call 134; refine (reg_any _ _).mono ?_; rintro e w' ⟨rfl, rfl⟩)
  | (go_at_call 135; refine (sourced_any _ _ _ _ _ _).mono ?_; rintro e w' ⟨rfl, rfl⟩)
  | (go_at_call 136; refine (three_any _ _).mono ?_; rintro e w' ⟨rfl, rfl⟩)
  | (go_at_call 137; refine (jump_any _ _).mono ?_; rintro e w' ⟨rfl, rfl⟩))
 all_goals go_ret
 all_goals exact ⟨r2b (by rw [rightB_13]; first | (simp [*]; done) | (simp [*]; intros; omega)), by repeat (first | exact Below.refl _ _ | (refine Below.alloc ?_ (by simp) _))⟩
set_option maxRecDepth 100000 in
set_option maxHeartbeats 800000 in
theorem right_14 (d a b imm : Int) (w : World) : Calls Tryz.prog 103 #[instV 14 d a b imm] w fun e w' => e = .returned (.bool (rightB 14 d a b imm)) /\ Below w.heap.size w w' := by
 have hth : threeB 14 = false := rfl
 have hju : jumpB 14 = false := rfl
 by_cases h4 : (regB d) = true
 by_cases h3 : (a == 0) = true
 by_cases h2 : (b == 0) = true
 by_cases h1 : 0 <= imm
 all_goals ((try have h2 := eq_false_of_ne_true h2); (try have h3 := eq_false_of_ne_true h3); (try have h4 := eq_false_of_ne_true h4))
 all_goals go_enter Tryz.func103, Tryz.ntmps103
 all_goals go_wp2_with (first
  | (go_at_call 134; refine (reg_any _ _).mono ?_; rintro e w' ⟨rfl, rfl⟩)
  | (go_at_call 135; refine (sourced_any _ _ _ _ _ _).mono ?_; rintro e w' ⟨rfl, rfl⟩)
  | (go_at_call 136; refine (three_any _ _).mono ?_; rintro e w' ⟨rfl, rfl⟩)
  | (go_at_call 137; refine (jump_any _ _).mono ?_; rintro e w' ⟨rfl, rfl⟩))
 all_goals go_ret
 all_goals exact ⟨r2b (by rw [rightB_14]; first | (simp [*]; done) | (simp [*]; intros; omega)), by repeat (first | exact Below.refl _ _ | (refine Below.alloc ?_ (by simp) _))⟩
set_option maxRecDepth 100000 in
set_option maxHeartbeats 800000 in
theorem right_15 (d a b imm : Int) (w : World) : Calls Tryz.prog 103 #[instV 15 d a b imm] w fun e w' => e = .returned (.bool (rightB 15 d a b imm)) /\ Below w.heap.size w w' := by
 have hth : threeB 15 = false := rfl
 have hju : jumpB 15 = false := rfl
 by_cases h4 : 0 <= d
 by_cases h3 : d <= 63
 by_cases h2 : (a == 0) = true
 by_cases h1 : (b == 0) = true
 all_goals ((try have h1 := eq_false_of_ne_true h1); (try have h2 := eq_false_of_ne_true h2))
 all_goals go_enter Tryz.func103, Tryz.ntmps103
 all_goals go_wp2_with (first
  | (go_at_call 134; refine (reg_any _ _).mono ?_; rintro e w' ⟨rfl, rfl⟩)
  | (go_at_call 135; refine (sourced_any _ _ _ _ _ _).mono ?_; rintro e w' ⟨rfl, rfl⟩)
  | (go_at_call 136; refine (three_any _ _).mono ?_; rintro e w' ⟨rfl, rfl⟩)
  | (go_at_call 137; refine (jump_any _ _).mono ?_; rintro e w' ⟨rfl, rfl⟩))
 all_goals go_ret
 all_goals exact ⟨r2b (by rw [rightB_15]; first | (simp [*]; done) | (simp [*]; intros; omega)), by repeat (first | exact Below.refl _ _ | (refine Below.alloc ?_ (by simp) _))⟩
set_option maxRecDepth 100000 in
set_option maxHeartbeats 800000 in
theorem right_20 (d a b imm : Int) (w : World) : Calls Tryz.prog 103 #[instV 20 d a b imm] w fun e w' => e = .returned (.bool (rightB 20 d a b imm)) /\ Below w.heap.size w w' := by
 have hth : threeB 20 = false := rfl
 have hju : jumpB 20 = false := rfl
 by_cases h5 : 1 <= d
 by_cases h4 : d <= 63
 by_cases h3 : (regB a) = true
 by_cases h2 : (b == 0) = true
 by_cases h1 : 1 <= imm
 all_goals ((try have h2 := eq_false_of_ne_true h2); (try have h3 := eq_false_of_ne_true h3))
 all_goals go_enter Tryz.func103, Tryz.ntmps103
 all_goals go_wp2_with (first
  | (go_at_call 134; refine (reg_any _ _).mono ?_; rintro e w' ⟨rfl, rfl⟩)
  | (go_at_call 135; refine (sourced_any _ _ _ _ _ _).mono ?_; rintro e w' ⟨rfl, rfl⟩)
  | (go_at_call 136; refine (three_any _ _).mono ?_; rintro e w' ⟨rfl, rfl⟩)
  | (go_at_call 137; refine (jump_any _ _).mono ?_; rintro e w' ⟨rfl, rfl⟩))
 all_goals go_ret
 all_goals exact ⟨r2b (by rw [rightB_20]; first | (simp [*]; done) | (simp [*]; intros; omega)), by repeat (first | exact Below.refl _ _ | (refine Below.alloc ?_ (by simp) _))⟩
set_option maxRecDepth 100000 in
set_option maxHeartbeats 800000 in
theorem right_21 (d a b imm : Int) (w : World) : Calls Tryz.prog 103 #[instV 21 d a b imm] w fun e w' => e = .returned (.bool (rightB 21 d a b imm)) /\ Below w.heap.size w w' := by
 have hth : threeB 21 = false := rfl
 have hju : jumpB 21 = false := rfl
 by_cases h4 : (d == 0) = true
 by_cases h3 : (a == 0) = true
 by_cases h2 : (b == 0) = true
 by_cases h1 : 0 <= imm
 all_goals ((try have h2 := eq_false_of_ne_true h2); (try have h3 := eq_false_of_ne_true h3); (try have h4 := eq_false_of_ne_true h4))
 all_goals go_enter Tryz.func103, Tryz.ntmps103
 all_goals go_wp2_with (first
  | (go_at_call 134; refine (reg_any _ _).mono ?_; rintro e w' ⟨rfl, rfl⟩)
  | (go_at_call 135; refine (sourced_any _ _ _ _ _ _).mono ?_; rintro e w' ⟨rfl, rfl⟩)
  | (go_at_call 136; refine (three_any _ _).mono ?_; rintro e w' ⟨rfl, rfl⟩)
  | (go_at_call 137; refine (jump_any _ _).mono ?_; rintro e w' ⟨rfl, rfl⟩))
 all_goals go_ret
 all_goals exact ⟨r2b (by rw [rightB_21]; first | (simp [*]; done) | (simp [*]; intros; omega)), by repeat (first | exact Below.refl _ _ | (refine Below.alloc ?_ (by simp) _))⟩
set_option maxRecDepth 100000 in
set_option maxHeartbeats 800000 in
theorem right_22 (d a b imm : Int) (w : World) : Calls Tryz.prog 103 #[instV 22 d a b imm] w fun e w' => e = .returned (.bool (rightB 22 d a b imm)) /\ Below w.heap.size w w' := by
 have hth : threeB 22 = false := rfl
 have hju : jumpB 22 = false := rfl
 by_cases h3 : (d == 0) = true
 by_cases h2 : (regB a) = true
 by_cases h1 : (b == 0) = true
 all_goals ((try have h1 := eq_false_of_ne_true h1); (try have h2 := eq_false_of_ne_true h2); (try have h3 := eq_false_of_ne_true h3))
 all_goals go_enter Tryz.func103, Tryz.ntmps103
 all_goals go_wp2_with (first
  | (go_at_call 134; refine (reg_any _ _).mono ?_; rintro e w' ⟨rfl, rfl⟩)
  | (go_at_call 135; refine (sourced_any _ _ _ _ _ _).mono ?_; rintro e w' ⟨rfl, rfl⟩)
  | (go_at_call 136; refine (three_any _ _).mono ?_; rintro e w' ⟨rfl, rfl⟩)
  | (go_at_call 137; refine (jump_any _ _).mono ?_; rintro e w' ⟨rfl, rfl⟩))
 all_goals go_ret
 all_goals exact ⟨r2b (by rw [rightB_22]; first | (simp [*]; done) | (simp [*]; intros; omega)), by repeat (first | exact Below.refl _ _ | (refine Below.alloc ?_ (by simp) _))⟩
set_option maxRecDepth 100000 in
set_option maxHeartbeats 800000 in
theorem right_three (op d a b imm : Int) (w : World) (hr : 1 <= op /\ op <= 10) : Calls Tryz.prog 103 #[instV op d a b imm] w fun e w' => e = .returned (.bool (rightB op d a b imm)) /\ Below w.heap.size w w' := by
 have ho0 : (op == 0) = false := by simp; omega
 have ho11 : (op == 11) = false := by simp; omega
 have ho12 : (op == 12) = false := by simp; omega
 have ho13 : (op == 13) = false := by simp; omega
 have ho14 : (op == 14) = false := by simp; omega
 have ho15 : (op == 15) = false := by simp; omega
 have ho20 : (op == 20) = false := by simp; omega
 have ho21 : (op == 21) = false := by simp; omega
 have ho22 : (op == 22) = false := by simp; omega
 have hth : threeB op = true := by simp [threeB]; omega
 by_cases h2 : (regB d) = true
 by_cases h1 : (regB a) = true
 all_goals ((try have h1 := eq_false_of_ne_true h1); (try have h2 := eq_false_of_ne_true h2))
 all_goals go_enter Tryz.func103, Tryz.ntmps103
 all_goals go_wp2_with (first
  | (go_at_call 134; refine (reg_any _ _).mono ?_; rintro e w' ⟨rfl, rfl⟩)
  | (go_at_call 135; refine (sourced_any _ _ _ _ _ _).mono ?_; rintro e w' ⟨rfl, rfl⟩)
  | (go_at_call 136; refine (three_any _ _).mono ?_; rintro e w' ⟨rfl, rfl⟩)
  | (go_at_call 137; refine (jump_any _ _).mono ?_; rintro e w' ⟨rfl, rfl⟩))
 all_goals go_ret
 all_goals exact ⟨r2b (by rw [rightB_three hr]; first | (simp [*]; done) | (simp [*]; intros; omega)), by repeat (first | exact Below.refl _ _ | (refine Below.alloc ?_ (by simp) _))⟩
set_option maxRecDepth 100000 in
set_option maxHeartbeats 800000 in
theorem right_jump (op d a b imm : Int) (w : World) (hr : 16 <= op /\ op <= 19) : Calls Tryz.prog 103 #[instV op d a b imm] w fun e w' => e = .returned (.bool (rightB op d a b imm)) /\ Below w.heap.size w w' := by
 have ho0 : (op == 0) = false := by simp; omega
 have ho11 : (op == 11) = false := by simp; omega
 have ho12 : (op == 12) = false := by simp; omega
 have ho13 : (op == 13) = false := by simp; omega
 have ho14 : (op == 14) = false := by simp; omega
 have ho15 : (op == 15) = false := by simp; omega
 have ho20 : (op == 20) = false := by simp; omega
 have ho21 : (op == 21) = false := by simp; omega
 have ho22 : (op == 22) = false := by simp; omega
 have hth : threeB op = false := by simp [threeB]; omega
 have hju : jumpB op = true := by simp [jumpB]; omega
 by_cases h3 : 0 <= d
 by_cases h2 : d <= 63
 by_cases h1 : (regB a) = true
 all_goals ((try have h1 := eq_false_of_ne_true h1))
 all_goals go_enter Tryz.func103, Tryz.ntmps103
 all_goals go_wp2_with (first
  | (go_at_call 134; refine (reg_any _ _).mono ?_; rintro e w' ⟨rfl, rfl⟩)
  | (go_at_call 135; refine (sourced_any _ _ _ _ _ _).mono ?_; rintro e w' ⟨rfl, rfl⟩)
  | (go_at_call 136; refine (three_any _ _).mono ?_; rintro e w' ⟨rfl, rfl⟩)
  | (go_at_call 137; refine (jump_any _ _).mono ?_; rintro e w' ⟨rfl, rfl⟩))
 all_goals go_ret
 all_goals exact ⟨r2b (by rw [rightB_jump hr]; first | (simp [*]; done) | (simp [*]; intros; omega)), by repeat (first | exact Below.refl _ _ | (refine Below.alloc ?_ (by simp) _))⟩
set_option maxRecDepth 100000 in
set_option maxHeartbeats 800000 in
theorem right_none (op d a b imm : Int) (w : World) (hr : op < 0 ∨ 22 < op) : Calls Tryz.prog 103 #[instV op d a b imm] w fun e w' => e = .returned (.bool (rightB op d a b imm)) /\ Below w.heap.size w w' := by
 have ho0 : (op == 0) = false := by simp; omega
 have ho11 : (op == 11) = false := by simp; omega
 have ho12 : (op == 12) = false := by simp; omega
 have ho13 : (op == 13) = false := by simp; omega
 have ho14 : (op == 14) = false := by simp; omega
 have ho15 : (op == 15) = false := by simp; omega
 have ho20 : (op == 20) = false := by simp; omega
 have ho21 : (op == 21) = false := by simp; omega
 have ho22 : (op == 22) = false := by simp; omega
 have hth : threeB op = false := by simp [threeB]; omega
 have hju : jumpB op = false := by simp [jumpB]; omega
 go_enter Tryz.func103, Tryz.ntmps103
 go_wp2_with (first
  | (go_at_call 134; refine (reg_any _ _).mono ?_; rintro e w' ⟨rfl, rfl⟩)
  | (go_at_call 135; refine (sourced_any _ _ _ _ _ _).mono ?_; rintro e w' ⟨rfl, rfl⟩)
  | (go_at_call 136; refine (three_any _ _).mono ?_; rintro e w' ⟨rfl, rfl⟩)
  | (go_at_call 137; refine (jump_any _ _).mono ?_; rintro e w' ⟨rfl, rfl⟩))
 go_ret
 exact ⟨r2b (by rw [rightB_none hr]), by repeat (first | exact Below.refl _ _ | (refine Below.alloc ?_ (by simp) _))⟩

theorem right_any (op d a b imm : Int) (w : World) : Calls Tryz.prog 103 #[instV op d a b imm] w fun e w' => e = .returned (.bool (rightB op d a b imm)) /\ Below w.heap.size w w' := by
 by_cases h1 : 1 <= op /\ op <= 10
 ·exact right_three op d a b imm w h1
 by_cases h2 : 16 <= op /\ op <= 19
 ·exact right_jump op d a b imm w h2
 by_cases h3 : op < 0 ∨ 22 < op
 ·exact right_none op d a b imm w h3
 obtain rfl | rfl | rfl | rfl | rfl | rfl | rfl | rfl | rfl : op = 0 ∨ op = 11 ∨ op = 12 ∨ op = 13 ∨ op = 14 ∨ op = 15 ∨ op = 20 ∨ op = 21 ∨ op = 22 := by omega
 ·exact right_0 d a b imm w
 ·exact right_11 d a b imm w
 ·exact right_12 d a b imm w
 ·exact right_13 d a b imm w
 ·exact right_14 d a b imm w
 ·exact right_15 d a b imm w
 ·exact right_20 d a b imm w
 ·exact right_21 d a b imm w
 ·exact right_22 d a b imm w
abbrev instO (op d a b imm : Int) : Obj := .cells #[.int .i64 op, .int .i64 d, .int .i64 a, .int .i64 b, .int .i64 imm] 67
theorem box_below {w w1 : World} {o : Obj} (h : Below (w.alloc o).heap.size (w.alloc o) w1) : Below w.heap.size w w1 := ((Below.refl _ _).alloc (Nat.le_refl _) o).trans (h.mono (by simp))
theorem box_cell {w w1 : World} {op d a b imm : Int} (h : Below (w.alloc (instO op d a b imm)).heap.size (w.alloc (instO op d a b imm)) w1) :
  w1.cell? ⟨w.heap.size, 0, none⟩ = some (.int .i64 op) /\ w1.cell? ⟨w.heap.size, 1, none⟩ = some (.int .i64 d) /\ w1.cell? ⟨w.heap.size, 2, none⟩ = some (.int .i64 a) /\ w1.cell? ⟨w.heap.size, 3, none⟩ = some (.int .i64 b) /\ w1.cell? ⟨w.heap.size, 4, none⟩ = some (.int .i64 imm) := by
 refine ⟨?_, ?_, ?_, ?_, ?_⟩ <;> (rw [h.cell (by simp)]; simp)

theorem ret2ib {a a' : Int} {b b' : Bool} (h1 : a = a') (h2 : b = b') : Ending.returned (.tuple #[.int .i64 a, .bool b]) = .returned (.tuple #[.int .i64 a', .bool b']) := by rw [h1, h2]

abbrev Box (w : World) (n : Nat) (op d a b imm : Int) : Prop := w.cell? ⟨n, 0, none⟩ = some (.int .i64 op) /\ w.cell? ⟨n, 1, none⟩ = some (.int .i64 d) /\ w.cell? ⟨n, 2, none⟩ = some (.int .i64 a) /\ w.cell? ⟨n, 3, none⟩ = some (.int .i64 b) /\ w.cell? ⟨n, 4, none⟩ = some (.int .i64 imm)
theorem Box.below {w w' : World} {n B : Nat} {op d a b imm : Int} (h : Box w n op d a b imm) (hb : Below B w w') (hB : n < B) : Box w' n op d a b imm := by
 unfold Box
 rw [hb.cell (p := ⟨n, 0, none⟩) hB, hb.cell (p := ⟨n, 1, none⟩) hB, hb.cell (p := ⟨n, 2, none⟩) hB, hb.cell (p := ⟨n, 3, none⟩) hB, hb.cell (p := ⟨n, 4, none⟩) hB]
 exact h
end Go.Proofs.YtibolefffjkblaaGreat
