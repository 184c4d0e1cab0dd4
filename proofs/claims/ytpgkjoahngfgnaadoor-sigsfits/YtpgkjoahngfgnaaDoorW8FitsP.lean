/-
  What a helper takes: its own arguments; not one more, not one fewer, not another kind. Plain: no Go. And a store into an own row of types. No condition.
-/
import Derived.Test.YtpgkjoahngfgnaaDoorW8Checks
import Derived.Test.YtpgkjoahngfgnaaDoorW8Args
import Derived.Test.YtpgkjoahngfgnaaDoorW8Names
namespace Go.Proofs.YtpgkjoahngfgnaaDoor
open Go.RowKit
set_option linter.unusedVariables false
set_option maxRecDepth 100000

theorem helper7 {h : Int} (c : 0 ≤ h ∧ h < 7) : h = 0 ∨ h = 1 ∨ h = 2 ∨ h = 3 ∨ h = 4 ∨ h = 5 ∨ h = 6 := by omega
theorem args_pos {h : Int} (c : 0 ≤ h ∧ h < 7) : 0 < (argsL h).length := by
  rcases helper7 c with rfl | rfl | rfl | rfl | rfl | rfl | rfl <;> decide +kernel
theorem args_zero {h : Int} (c : ¬ (0 ≤ h ∧ h < 7)) : (argsL h).length = 0 := by
  rw [args_none (by omega)]; rfl
theorem find_name {h : Int} (c : 0 ≤ h ∧ h < 7) : findL (nameF h) = (h, true) := by
  rcases helper7 c with rfl | rfl | rfl | rfl | rfl | rfl | rfl <;> decide +kernel
theorem name_none {h : Int} (c : ¬ (0 ≤ h ∧ h < 7)) : nameF h = ⟨#[]⟩ := by unfold nameF; rw [if_neg c]
theorem check_none {h : Int} (c : ¬ (0 ≤ h ∧ h < 7)) (xs : List Ty) : checkL h xs = 34 := by unfold checkL; rw [if_pos c]
theorem check_count {h : Int} (c : 0 ≤ h ∧ h < 7) {xs : List Ty} (hl : xs.length ≠ (argsL h).length) : checkL h xs = 2 := by
  unfold checkL; rw [if_neg (by omega), if_pos hl]
theorem check_own {h : Int} (c : 0 ≤ h ∧ h < 7) : checkL h (argsL h) = 0 := by
  rcases helper7 c with rfl | rfl | rfl | rfl | rfl | rfl | rfl <;> decide +kernel
theorem asks_first {h : Int} (c : 0 ≤ h ∧ h < 7) : (asksL h).2 = (((argsL h).getD 0 Ty.nil).k == 2) := by
  rcases helper7 c with rfl | rfl | rfl | rfl | rfl | rfl | rfl <;> decide +kernel
theorem lt3 {i n : Nat} (hn : n ≤ 3) (hi : i < n) : i = 0 ∨ i = 1 ∨ i = 2 := by omega
/-- The other kind. -/
def otherT (t : Ty) : Ty := ⟨3 - t.k, t.lo, t.hi, 2⟩
theorem check_other {h : Int} (c : 0 ≤ h ∧ h < 7) {i : Nat} (hi : i < (argsL h).length) : checkL h ((argsL h).set i (otherT ((argsL h).getD i Ty.nil))) = 33 := by
  rcases lt3 (argsL_len h) hi with rfl | rfl | rfl <;> rcases helper7 c with rfl | rfl | rfl | rfl | rfl | rfl | rfl <;> first | decide +kernel | (exfalso; revert hi; decide +kernel)
theorem check_unset {h : Int} (c : 0 ≤ h ∧ h < 7) {i : Nat} (hi : i < (argsL h).length) : checkL h ((argsL h).set i Ty.nil) = 33 := by
  rcases lt3 (argsL_len h) hi with rfl | rfl | rfl <;> rcases helper7 c with rfl | rfl | rfl | rfl | rfl | rfl | rfl <;> first | decide +kernel | (exfalso; revert hi; decide +kernel)
theorem kind_in {h : Int} (c : 0 ≤ h ∧ h < 7) {i : Nat} (hi : i < (argsL h).length) : 1 ≤ ((argsL h).getD i Ty.nil).k ∧ ((argsL h).getD i Ty.nil).k ≤ 2 := by
  rcases lt3 (argsL_len h) hi with rfl | rfl | rfl <;> rcases helper7 c with rfl | rfl | rfl | rfl | rfl | rfl | rfl <;> first | decide +kernel | (exfalso; revert hi; decide +kernel)
theorem flatT_set : ∀ (xs : List Ty) (k : Nat) (t : Ty), k < xs.length → ((((flatT xs).set (k * 4) (.int .i64 t.k)).set (k * 4 + 1) (.int .u64 t.lo)).set (k * 4 + 2) (.int .u64 t.hi)).set (k * 4 + 3) (.int .i64 t.m) = flatT (xs.set k t)
  | [], k, t, hk => by simp at hk
  | x :: xs, 0, t, _ => by simp [flatT]
  | x :: xs, k + 1, t, hk => by
    have e : flatT (x :: xs) = .int .i64 x.k :: .int .u64 x.lo :: .int .u64 x.hi :: .int .i64 x.m :: flatT xs := rfl
    have e2 : flatT ((x :: xs).set (k + 1) t) = .int .i64 x.k :: .int .u64 x.lo :: .int .u64 x.hi :: .int .i64 x.m :: flatT (xs.set k t) := rfl
    rw [e, e2, ← flatT_set xs k t (by simpa using hk), show (k + 1) * 4 = k * 4 + 1 + 1 + 1 + 1 by omega]
    rfl
/-- A type stored into an own row. -/
theorem own_setT {w : World} {base g n cap : Nat} {e : TypeId} {xs : List Ty} (h : w.ownsRow base e 4 (.slice (some ⟨g, 0, none⟩) n cap) n (flatT xs)) (k : Nat) (hk : k < xs.length) (t : Ty) :
    (setT w g (k * 4) t).ownsRow base e 4 (.slice (some ⟨g, 0, none⟩) n cap) n (flatT (xs.set k t)) ∧ w.grownBy (setT w g (k * 4) t) (some g) := by
  have r0 := h.stored (k * 4) (.int .i64 t.k)
  have r1 := r0.1.stored (k * 4 + 1) (.int .u64 t.lo)
  have r2 := r1.1.stored (k * 4 + 2) (.int .u64 t.hi)
  have r3 := r2.1.stored (k * 4 + 3) (.int .i64 t.m)
  rw [flatT_set xs k t hk] at r3
  exact ⟨r3.1, grown_trans r0.2 (grown_trans r1.2 (grown_trans r2.2 r3.2))⟩
theorem setT_far {w : World} {n off b j : Nat} {t : Ty} (h : n ≠ b) : (setT w n off t).cell? ⟨b, j, none⟩ = w.cell? ⟨b, j, none⟩ := by
  have far : ∀ (wx : World) (i : Nat) (v : Value), (wx.setCell ⟨n, i, none⟩ v).cell? ⟨b, j, none⟩ = wx.cell? ⟨b, j, none⟩ := fun wx i v => World.cell?_setCell_other _ _ _ _ (fun e => h (by injection e with e1))
  rw [far, far, far, far]
end Go.Proofs.YtpgkjoahngfgnaaDoor
