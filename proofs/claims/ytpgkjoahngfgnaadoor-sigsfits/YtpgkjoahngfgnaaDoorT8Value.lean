/-
  What the project's Value and the document's answer. No condition.
-/
import Derived.Test.YtpgkjoahngfgnaaDoorT8Small
namespace Go.Proofs.YtpgkjoahngfgnaaDoor
open Go.RowKit
set_option linter.unusedVariables false
set_option maxRecDepth 100000

/-- A map's answer, as a value. -/
abbrev resV (E : Int) (f : Bool) (v : Int) (o : Bool) (k u : Int) : Value := .agg #[.int .i64 E, .bool f, .int .u64 v, .bool o, .int .u64 k, .int .u64 u]
/-- What comes into r0. -/
def valL (h E : Int) (f : Bool) (v : Int) : Int :=
  if h = 0 ∨ h = 4 then v else if ((h = 1 ∨ h = 3) ∧ f = true) ∨ (h = 2 ∧ E = 0) then 1 else 0

theorem truth_any (b : Bool) (w : World) : Calls Tryd.prog 32 #[.bool b] w fun e w' => e = .returned (.int .u64 (if b then 1 else 0)) ∧ w = w' := by
  cases b
  all_goals go_enter Tryd.func32, Tryd.ntmps32
  all_goals go_wp2
  all_goals go_ret
  all_goals exact ⟨rfl, rfl⟩
theorem val_other {h E : Int} {f : Bool} {v : Int} (c : ¬ h = 0 ∧ ¬ h = 1 ∧ ¬ h = 2 ∧ ¬ h = 3 ∧ ¬ h = 4) : valL h E f v = 0 := by
  unfold valL; rw [if_neg (by omega), if_neg (by omega)]
theorem retu {a b : Int} (h : a = b) : Ending.returned (.int .u64 a) = .returned (.int .u64 b) := by rw [h]
set_option maxHeartbeats 1600000 in
theorem value_any (h E : Int) (f : Bool) (v : Int) (o : Bool) (k u : Int) (w : World) : Calls Tryd.prog 22 #[.int .i64 h, resV E f v o k u] w fun e w' => e = .returned (.int .u64 (valL h E f v)) ∧ Below w.heap.size w w' := by
  rcases helper_cases h with rfl | rfl | rfl | rfl | rfl | rfl | rfl | c
  rotate_right
  · have HE : Hid (valL h E f v = 0) := val_other (by omega)
    obtain ⟨c0, c1, c2, c3, c4, c5, c6⟩ := c
    go_enter Tryd.func22, Tryd.ntmps22
    go_wp2
    go_ret
    exact ⟨retu HE.out.symm, by go_grown⟩
  all_goals by_cases hE : E = 0
  all_goals try subst hE
  all_goals cases f
  all_goals go_enter Tryd.func22, Tryd.ntmps22
  all_goals go_wp2_with (go_at_call 32; go_must (refine (truth_any _ _).mono ?_); rintro e w1 ⟨rfl, rfl⟩)
  all_goals go_ret
  all_goals exact ⟨retu (by simp [valL, *]), by go_grown⟩
set_option maxHeartbeats 1600000 in
theorem rvalue_any (h E : Int) (f : Bool) (v : Int) (o : Bool) (k u : Int) (w : World) : Calls Tryd.prog 23 #[.int .i64 h, resV E f v o k u] w fun e w' => e = .returned (.int .u64 (valL h E f v)) ∧ Below w.heap.size w w' := by
  rcases helper_cases h with rfl | rfl | rfl | rfl | rfl | rfl | rfl | c
  rotate_right
  · have HE : Hid (valL h E f v = 0) := val_other (by omega)
    obtain ⟨c0, c1, c2, c3, c4, c5, c6⟩ := c
    go_enter Tryd.func23, Tryd.ntmps23
    go_wp2
    all_goals go_ret
    all_goals first
      | exact ⟨retu HE.out.symm, by go_grown⟩
      | (exfalso; simp_all)
  all_goals by_cases hE : E = 0
  all_goals try subst hE
  all_goals cases f
  all_goals go_enter Tryd.func23, Tryd.ntmps23
  all_goals go_wp2
  all_goals go_ret
  all_goals exact ⟨retu (by simp [valL, *]), by go_grown⟩
end Go.Proofs.YtpgkjoahngfgnaaDoor
