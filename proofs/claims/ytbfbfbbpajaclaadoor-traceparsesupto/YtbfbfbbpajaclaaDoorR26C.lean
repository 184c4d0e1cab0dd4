
/-
  What the document's functions of an entry's fields do. Condition: bytes are bytes.
-/
import Derived.Test.YtbfbfbbpajaclaaDoorR26A
namespace Go.Proofs.YtbfbfbbpajaclaaDoor
open Go.RowKit
set_option linter.unusedVariables false
set_option linter.unusedSimpArgs false
set_option maxRecDepth 100000
set_option maxHeartbeats 6400000 in
theorem unsigned26 (e : En) (c : Nat) (w : World) (hc : c < 256) : Calls Tryd.prog 21 #[enV e, .int .u8 c] w fun r w' => r = .returned (.tuple #[.int .u64 (unE e c).1, .bool (unE e c).2]) ∧ Below w.heap.size w w' := by
  obtain ⟨X, HX, HP, HB⟩ := box_en w e
  obtain ⟨wh, ta, fr, cm, tg, ev, hk, pg, ve, pc, mp, op, ky, vl, er, fo, rv, ou, ok, ov, va, xe⟩ := e
  unfold enV
  have HX := HX.out
  dsimp only [enC] at HX
  have HX := keepG HX
  by_cases k0 : c = 110
  · subst k0
    have p := HP.out.cell (j := 20) rfl
    go_enter Tryd.func21, Tryd.ntmps21
    go_wp2_with (rw [HX.out])
    go_ret2
    exact ⟨rfl, HB.out⟩
  have d0 : ((c : Int) == 110) = false := by simp; omega
  by_cases k1 : c = 107
  · subst k1
    have p := HP.out.cell (j := 12) rfl
    go_enter Tryd.func21, Tryd.ntmps21
    go_wp2_with (rw [HX.out])
    go_ret2
    exact ⟨rfl, HB.out⟩
  have d1 : ((c : Int) == 107) = false := by simp; omega
  by_cases k2 : c = 119
  · subst k2
    have p := HP.out.cell (j := 13) rfl
    go_enter Tryd.func21, Tryd.ntmps21
    go_wp2_with (rw [HX.out])
    go_ret2
    exact ⟨rfl, HB.out⟩
  have d2 : ((c : Int) == 119) = false := by simp; omega
  by_cases k3 : c = 114
  · subst k3
    have p := HP.out.cell (j := 16) rfl
    go_enter Tryd.func21, Tryd.ntmps21
    go_wp2_with (rw [HX.out])
    go_ret2
    exact ⟨rfl, HB.out⟩
  have d3 : ((c : Int) == 114) = false := by simp; omega
  by_cases k4 : c = 79
  · subst k4
    have p := HP.out.cell (j := 18) rfl
    go_enter Tryd.func21, Tryd.ntmps21
    go_wp2_with (rw [HX.out])
    go_ret2
    exact ⟨rfl, HB.out⟩
  have d4 : ((c : Int) == 79) = false := by simp; omega
  by_cases k5 : c = 86
  · subst k5
    have p := HP.out.cell (j := 19) rfl
    go_enter Tryd.func21, Tryd.ntmps21
    go_wp2_with (rw [HX.out])
    go_ret2
    exact ⟨rfl, HB.out⟩
  have d5 : ((c : Int) == 86) = false := by simp; omega
  have HE : Hid (unE ⟨wh, ta, fr, cm, tg, ev, hk, pg, ve, pc, mp, op, ky, vl, er, fo, rv, ou, ok, ov, va, xe⟩ c = (0, false)) := by
    show _ = _
    unfold unE
    rw [if_neg k0, if_neg k1, if_neg k2, if_neg k3, if_neg k4, if_neg k5]
  clear k0 k1 k2 k3 k4 k5
  go_enter Tryd.func21, Tryd.ntmps21
  go_wp2_with (rw [HX.out])
  go_ret2
  exact ⟨by rw [HE.out]; rfl, HB.out⟩
set_option maxHeartbeats 6400000 in
theorem fields26 (m : Int) (o : Bool) (w : World) : Calls Tryd.prog 20 #[.int .i64 m, .bool o] w fun r w' => r = .returned (.string (str (fldL m o))) ∧ w = w' := by
  by_cases k0 : m = 1
  · subst k0
    cases o <;> (go_enter Tryd.func20, Tryd.ntmps20; go_wp2_with fail; go_ret; exact ⟨rfl, rfl⟩)
  have d0 : (m == 1) = false := by simp; omega
  by_cases k1 : m = 2
  · subst k1
    cases o <;> (go_enter Tryd.func20, Tryd.ntmps20; go_wp2_with fail; go_ret; exact ⟨rfl, rfl⟩)
  have d1 : (m == 2) = false := by simp; omega
  by_cases k2 : m = 3
  · subst k2
    cases o <;> (go_enter Tryd.func20, Tryd.ntmps20; go_wp2_with fail; go_ret; exact ⟨rfl, rfl⟩)
  have d2 : (m == 3) = false := by simp; omega
  by_cases k3 : m = 4
  · subst k3
    cases o <;> (go_enter Tryd.func20, Tryd.ntmps20; go_wp2_with fail; go_ret; exact ⟨rfl, rfl⟩)
  have d3 : (m == 4) = false := by simp; omega
  by_cases k4 : m = 5
  · subst k4
    cases o <;> (go_enter Tryd.func20, Tryd.ntmps20; go_wp2_with fail; go_ret; exact ⟨rfl, rfl⟩)
  have d4 : (m == 5) = false := by simp; omega
  by_cases k5 : m = 10
  · subst k5
    cases o <;> (go_enter Tryd.func20, Tryd.ntmps20; go_wp2_with fail; go_ret; exact ⟨rfl, rfl⟩)
  have d5 : (m == 10) = false := by simp; omega
  by_cases k6 : m = 6
  · subst k6
    cases o <;> (go_enter Tryd.func20, Tryd.ntmps20; go_wp2_with fail; go_ret; exact ⟨rfl, rfl⟩)
  have d6 : (m == 6) = false := by simp; omega
  by_cases k7 : m = 7
  · subst k7
    cases o <;> (go_enter Tryd.func20, Tryd.ntmps20; go_wp2_with fail; go_ret; exact ⟨rfl, rfl⟩)
  have d7 : (m == 7) = false := by simp; omega
  by_cases k8 : m = 8
  · subst k8
    cases o <;> (go_enter Tryd.func20, Tryd.ntmps20; go_wp2_with fail; go_ret; exact ⟨rfl, rfl⟩)
  have d8 : (m == 8) = false := by simp; omega
  by_cases k9 : m = 9
  · subst k9
    cases o <;> (go_enter Tryd.func20, Tryd.ntmps20; go_wp2_with fail; go_ret; exact ⟨rfl, rfl⟩)
  have d9 : (m == 9) = false := by simp; omega
  by_cases k10 : m = 11
  · subst k10
    cases o <;> (go_enter Tryd.func20, Tryd.ntmps20; go_wp2_with fail; go_ret; exact ⟨rfl, rfl⟩)
  have d10 : (m == 11) = false := by simp; omega
  by_cases k11 : m = 12
  · subst k11
    cases o <;> (go_enter Tryd.func20, Tryd.ntmps20; go_wp2_with fail; go_ret; exact ⟨rfl, rfl⟩)
  have d11 : (m == 12) = false := by simp; omega
  by_cases k12 : m = 13
  · subst k12
    cases o <;> (go_enter Tryd.func20, Tryd.ntmps20; go_wp2_with fail; go_ret; exact ⟨rfl, rfl⟩)
  have d12 : (m == 13) = false := by simp; omega
  by_cases k13 : m = 16
  · subst k13
    cases o <;> (go_enter Tryd.func20, Tryd.ntmps20; go_wp2_with fail; go_ret; exact ⟨rfl, rfl⟩)
  have d13 : (m == 16) = false := by simp; omega
  by_cases k14 : m = 17
  · subst k14
    cases o <;> (go_enter Tryd.func20, Tryd.ntmps20; go_wp2_with fail; go_ret; exact ⟨rfl, rfl⟩)
  have d14 : (m == 17) = false := by simp; omega
  have HE : Hid (fldL m o = [116]) := by
    show _ = _
    unfold fldL
    rw [if_neg (by omega), if_neg (by omega), if_neg (by omega), if_neg (by omega), if_neg (by omega), if_neg (by omega), if_neg (by omega), if_neg (by omega), if_neg (by omega), if_neg (by omega), if_neg (by omega), if_neg (by omega)]
  clear k0 k1 k2 k3 k4 k5 k6 k7 k8 k9 k10 k11 k12 k13 k14
  cases o <;> (go_enter Tryd.func20, Tryd.ntmps20; go_wp2_with fail; go_ret; exact ⟨by rw [HE.out]; rfl, rfl⟩)
end Go.Proofs.YtbfbfbbpajaclaaDoor
