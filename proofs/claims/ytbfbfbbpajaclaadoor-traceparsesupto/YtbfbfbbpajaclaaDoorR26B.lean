
/-
  What the document's functions of an entry's fields do. Condition: bytes are bytes.
-/
import Derived.Test.YtbfbfbbpajaclaaDoorR26A
namespace Go.Proofs.YtbfbfbbpajaclaaDoor
open Go.RowKit
set_option linter.unusedVariables false
set_option linter.unusedSimpArgs false
set_option maxRecDepth 100000
set_option maxHeartbeats 6400000 in
theorem signed26 (e : En) (c : Nat) (w : World) (hc : c < 256) : Calls Tryd.prog 23 #[enV e, .int .u8 c] w fun r w' => r = .returned (.int .i64 (sgE e c)) ∧ Below w.heap.size w w' := by
  obtain ⟨X, HX, HP, HB⟩ := box_en w e
  obtain ⟨wh, ta, fr, cm, tg, ev, hk, pg, ve, pc, mp, op, ky, vl, er, fo, rv, ou, ok, ov, va, xe⟩ := e
  unfold enV
  have HX := HX.out
  dsimp only [enC] at HX
  have HX := keepG HX
  by_cases k0 : c = 116
  · subst k0
    have p := HP.out.cell (j := 1) rfl
    go_enter Tryd.func23, Tryd.ntmps23
    go_wp2_with (rw [HX.out])
    go_ret
    exact ⟨rfl, HB.out⟩
  have d0 : ((c : Int) == 116) = false := by simp; omega
  by_cases k1 : c = 102
  · subst k1
    have p := HP.out.cell (j := 2) rfl
    go_enter Tryd.func23, Tryd.ntmps23
    go_wp2_with (rw [HX.out])
    go_ret
    exact ⟨rfl, HB.out⟩
  have d1 : ((c : Int) == 102) = false := by simp; omega
  by_cases k2 : c = 99
  · subst k2
    have p := HP.out.cell (j := 3) rfl
    go_enter Tryd.func23, Tryd.ntmps23
    go_wp2_with (rw [HX.out])
    go_ret
    exact ⟨rfl, HB.out⟩
  have d2 : ((c : Int) == 99) = false := by simp; omega
  by_cases k3 : c = 103
  · subst k3
    have p := HP.out.cell (j := 4) rfl
    go_enter Tryd.func23, Tryd.ntmps23
    go_wp2_with (rw [HX.out])
    go_ret
    exact ⟨rfl, HB.out⟩
  have d3 : ((c : Int) == 103) = false := by simp; omega
  by_cases k4 : c = 101
  · subst k4
    have p := HP.out.cell (j := 5) rfl
    go_enter Tryd.func23, Tryd.ntmps23
    go_wp2_with (rw [HX.out])
    go_ret
    exact ⟨rfl, HB.out⟩
  have d4 : ((c : Int) == 101) = false := by simp; omega
  by_cases k5 : c = 104
  · subst k5
    have p := HP.out.cell (j := 6) rfl
    go_enter Tryd.func23, Tryd.ntmps23
    go_wp2_with (rw [HX.out])
    go_ret
    exact ⟨rfl, HB.out⟩
  have d5 : ((c : Int) == 104) = false := by simp; omega
  by_cases k6 : c = 112
  · subst k6
    have p := HP.out.cell (j := 7) rfl
    go_enter Tryd.func23, Tryd.ntmps23
    go_wp2_with (rw [HX.out])
    go_ret
    exact ⟨rfl, HB.out⟩
  have d6 : ((c : Int) == 112) = false := by simp; omega
  by_cases k7 : c = 118
  · subst k7
    have p := HP.out.cell (j := 8) rfl
    go_enter Tryd.func23, Tryd.ntmps23
    go_wp2_with (rw [HX.out])
    go_ret
    exact ⟨rfl, HB.out⟩
  have d7 : ((c : Int) == 118) = false := by simp; omega
  by_cases k8 : c = 97
  · subst k8
    have p := HP.out.cell (j := 9) rfl
    go_enter Tryd.func23, Tryd.ntmps23
    go_wp2_with (rw [HX.out])
    go_ret
    exact ⟨rfl, HB.out⟩
  have d8 : ((c : Int) == 97) = false := by simp; omega
  by_cases k9 : c = 120
  · subst k9
    have p := HP.out.cell (j := 21) rfl
    go_enter Tryd.func23, Tryd.ntmps23
    go_wp2_with (rw [HX.out])
    go_ret
    exact ⟨rfl, HB.out⟩
  have d9 : ((c : Int) == 120) = false := by simp; omega
  by_cases k10 : c = 109
  · subst k10
    have p := HP.out.cell (j := 10) rfl
    go_enter Tryd.func23, Tryd.ntmps23
    go_wp2_with (rw [HX.out])
    go_ret
    exact ⟨rfl, HB.out⟩
  have d10 : ((c : Int) == 109) = false := by simp; omega
  by_cases k11 : c = 111
  · subst k11
    have p := HP.out.cell (j := 11) rfl
    go_enter Tryd.func23, Tryd.ntmps23
    go_wp2_with (rw [HX.out])
    go_ret
    exact ⟨rfl, HB.out⟩
  have d11 : ((c : Int) == 111) = false := by simp; omega
  by_cases k12 : c = 121
  · subst k12
    have p := HP.out.cell (j := 14) rfl
    go_enter Tryd.func23, Tryd.ntmps23
    go_wp2_with (rw [HX.out])
    go_ret
    exact ⟨rfl, HB.out⟩
  have d12 : ((c : Int) == 121) = false := by simp; omega
  have HE : Hid (sgE ⟨wh, ta, fr, cm, tg, ev, hk, pg, ve, pc, mp, op, ky, vl, er, fo, rv, ou, ok, ov, va, xe⟩ c = if fo = true then 1 else 0) := by
    show _ = _
    unfold sgE
    rw [if_neg k0, if_neg k1, if_neg k2, if_neg k3, if_neg k4, if_neg k5, if_neg k6, if_neg k7, if_neg k8, if_neg k9, if_neg k10, if_neg k11, if_neg k12]
  have p := HP.out.cell (j := 15) rfl
  clear k0 k1 k2 k3 k4 k5 k6 k7 k8 k9 k10 k11 k12
  cases fo
  · go_enter Tryd.func23, Tryd.ntmps23
    go_wp2_with (rw [HX.out])
    go_ret
    exact ⟨by rw [HE.out]; rfl, HB.out⟩
  · go_enter Tryd.func23, Tryd.ntmps23
    go_wp2_with (rw [HX.out])
    go_ret
    exact ⟨by rw [HE.out]; rfl, HB.out⟩
end Go.Proofs.YtbfbfbbpajaclaaDoor
