/-
  The law SigsValues, walked: it answers true. Condition: the package-level variable 'names' reads as it is laid.
-/
import Derived.Test.YtpgkjoahngfgnaaDoorT8Alike
import Derived.Test.YtpgkjoahngfgnaaDoorW8Names
namespace Go.Proofs.YtpgkjoahngfgnaaDoor
open Go.RowKit
set_option linter.unusedVariables false
set_option maxRecDepth 100000

/-- The six cells of a map's answer that is boxed. -/
def BxR (w : World) (n : Nat) (E : Int) (f : Bool) (v : Int) (o : Bool) (k u : Int) : Prop := w.cell? ⟨n, 0, none⟩ = some (.int .i64 E) ∧ w.cell? ⟨n, 1, none⟩ = some (.bool f) ∧ w.cell? ⟨n, 2, none⟩ = some (.int .u64 v) ∧ w.cell? ⟨n, 3, none⟩ = some (.bool o) ∧ w.cell? ⟨n, 4, none⟩ = some (.int .u64 k) ∧ w.cell? ⟨n, 5, none⟩ = some (.int .u64 u)
theorem BxR.below {w w' : World} {n B : Nat} {E : Int} {f : Bool} {v : Int} {o : Bool} {k u : Int} (h : BxR w n E f v o k u) (hb : Below B w w') (hB : n < B) : BxR w' n E f v o k u := by
  unfold BxR
  rw [hb.cell (p := ⟨n, 0, none⟩) hB, hb.cell (p := ⟨n, 1, none⟩) hB, hb.cell (p := ⟨n, 2, none⟩) hB, hb.cell (p := ⟨n, 3, none⟩) hB, hb.cell (p := ⟨n, 4, none⟩) hB, hb.cell (p := ⟨n, 5, none⟩) hB]
  exact h
/-- What comes into r0 lies in what Result tells. -/
theorem val_within (h E : Int) (f : Bool) (v : Int) (hv : 0 ≤ v ∧ v ≤ 18446744073709551615) (hr : (resL h).2 = true) : valL h E f v ≤ (resL h).1.hi := by
  rcases helper_cases h with rfl | rfl | rfl | rfl | rfl | rfl | rfl | c
  rotate_right
  · rw [res_none c] at hr; simp at hr
  all_goals
    simp [valL, resL, numT, topN]
    try split
    all_goals omega
theorem value_as {h E : Int} {f : Bool} {v : Int} {o : Bool} {k u r : Int} (hr : Hid (r = valL h E f v)) (w : World) : Calls Tryd.prog 22 #[.int .i64 h, resV E f v o k u] w fun e w' => e = .returned (.int .u64 r) ∧ Below w.heap.size w w' := by
  rw [hr.out]; exact value_any h E f v o k u w
theorem rvalue_as {h E : Int} {f : Bool} {v : Int} {o : Bool} {k u r : Int} (hr : Hid (r = valL h E f v)) (w : World) : Calls Tryd.prog 23 #[.int .i64 h, resV E f v o k u] w fun e w' => e = .returned (.int .u64 r) ∧ Below w.heap.size w w' := by
  rw [hr.out]; exact rvalue_any h E f v o k u w

set_option maxHeartbeats 1600000 in
theorem values_walk (h E : Int) (f : Bool) (v : Int) (o : Bool) (kk u : Int) (w : World) (_ : -9223372036854775808 ≤ h ∧ h ≤ 9223372036854775807) (hv : 0 ≤ v ∧ v ≤ 18446744073709551615) (hn : Named w) : Calls Tryd.prog 7 #[.int .i64 h, resV E f v o kk u] w fun e w' => e = .returned (.bool true) ∧ Below w.heap.size w w' := by
  have HN : Hid (Named w) := hn
  have h0 := hn.1
  have HV : Hid (0 ≤ v ∧ v ≤ 18446744073709551615) := hv
  obtain ⟨Z, HZ, hX, hBZ, hzz⟩ : ∃ Z, Hid (Z = w.alloc (.cells #[.int .i64 E, .bool f, .int .u64 v, .bool o, .int .u64 kk, .int .u64 u] 49)) ∧ BxR Z w.heap.size E f v o kk u ∧ Below w.heap.size w Z ∧ w.heap.size < Z.heap.size :=
    ⟨_, rfl, ⟨by go_cell, by go_cell, by go_cell, by go_cell, by go_cell, by go_cell⟩, (Below.refl _ _).alloc (Nat.le_refl _) _, by simp⟩
  clear hn hv
  go_enter Tryd.func7, Tryd.ntmps7
  go_wp2_with (first
    | (go_at_call 8; rw [← HZ.out]; go_must (refine (awake_any _ (HN.out.below hBZ h0)).mono ?_); rintro e w1 ⟨rfl, hB1⟩))
--B
  have hzw := hB1.size
  go_loopw [5] (fun i wr => ∃ k : Int, -1 ≤ k ∧ k ≤ 8 ∧ i = .int .i64 k ∧ Below Z.heap.size Z wr) (fun i _ => (8 - intOf i).toNat)
  case atStart => exact ⟨-1, by omega, by omega, rfl, hB1⟩
  case round =>
    obtain ⟨k, hk0, hk8, rfl, hbr⟩ := hrel
    have hzr := hbr.size
    have hXr := BxR.below hX hbr hzz
    by_cases hlt : k < 8
    · obtain ⟨r, HR⟩ : ∃ r, Hid (r = valL k E f v) := ⟨_, rfl⟩
      obtain ⟨rk, rl, rh, rm, rbb, HQ⟩ : ∃ tk lo hi m b, Hid (resL k = (⟨tk, lo, hi, m⟩, b)) := ⟨_, _, _, _, _, rfl⟩
      go_wp2
      go_region_held3 (fun w' => w'.cell? ⟨w.heap.size, 0, none⟩ = some (.int .i64 E) ∧ w'.cell? ⟨w.heap.size, 1, none⟩ = some (.bool f) ∧ w'.cell? ⟨w.heap.size, 2, none⟩ = some (.int .u64 v) ∧ w'.cell? ⟨w.heap.size, 3, none⟩ = some (.bool o) ∧ w'.cell? ⟨w.heap.size, 4, none⟩ = some (.int .u64 kk) ∧ w'.cell? ⟨w.heap.size, 5, none⟩ = some (.int .u64 u))
        (first | exact hX4 | exact hX3 | exact hXr)
        (first
          | (go_at_call 22; go_must (refine (value_as HR _).mono ?_); rintro e w3 ⟨rfl, hb3'⟩; go_must (have hb3 : Below wr.heap.size wr w3 := below_undrew hb3'; have hX3 := BxR.below hXr hb3 (by omega); have hz3 := hb3.size; clear hb3'))
          | (go_at_call 23; go_must (refine (rvalue_as HR _).mono ?_); rintro e w4 ⟨rfl, hb4⟩; go_must (have hX4 := BxR.below hX3 hb4 (by omega); have hB4 : Below wr.heap.size wr w4 := hb3.trans (hb4.mono hz3); have hz4 := hb4.size; clear hb4)))
      cases rbb
      · go_wp2_with (go_at_call 11; go_must (refine (result_as HQ _).mono ?_); rintro e w5 ⟨rfl, hb5⟩)
        go_region
        go_wp2
        go_roundw
        case rel => exact ⟨k + 1, by omega, by omega, by go_num, below_drewN ((hbr.trans ((hB4.trans (hb5.mono (by omega))).mono hzr)).alloc (by have := hb5.size; omega) _) 1⟩
        case measure => simp [intOf]; omega
      · have hle : ¬ rh < r := by
          have := val_within k E f v HV.out (by rw [HQ.out])
          rw [HQ.out, ← HR.out] at this
          simpa using this
        go_wp2_with (go_at_call 11; go_must (refine (result_as HQ _).mono ?_); rintro e w5 ⟨rfl, hb5⟩)
        obtain ⟨Y, HY⟩ : ∃ Y, Hid (Y = w5.alloc (tyO ⟨rk, rl, rh, rm⟩)) := ⟨_, rfl⟩
        have hz5 := hb5.size
        have hbY : Below w4.heap.size w4 Y := by rw [HY.out]; exact hb5.alloc hz5 _
        have hXY := BxR.below hX4 hbY (by omega)
        have hzY : w5.heap.size < Y.heap.size := by rw [HY.out]; simp
        have hcY : Y.cell? ⟨w5.heap.size, 2, none⟩ = some (.int .u64 rh) := by rw [HY.out]; go_cell
        rw [← HY.out]
        go_region_held3 (fun w' => (w'.cell? ⟨w.heap.size, 0, none⟩ = some (.int .i64 E) ∧ w'.cell? ⟨w.heap.size, 1, none⟩ = some (.bool f) ∧ w'.cell? ⟨w.heap.size, 2, none⟩ = some (.int .u64 v) ∧ w'.cell? ⟨w.heap.size, 3, none⟩ = some (.bool o) ∧ w'.cell? ⟨w.heap.size, 4, none⟩ = some (.int .u64 kk) ∧ w'.cell? ⟨w.heap.size, 5, none⟩ = some (.int .u64 u)) ∧ w'.cell? ⟨w5.heap.size, 2, none⟩ = some (.int .u64 rh))
          (first | exact ⟨hX6, hc6⟩ | exact ⟨hXY, hcY⟩)
          (first
            | (go_at_call 22; go_must (refine (value_as HR _).mono ?_); rintro e w6 ⟨rfl, hb6'⟩; go_must (have hb6 : Below Y.heap.size Y w6 := below_undrew hb6'; have hX6 := BxR.below hXY hb6 (by omega); have hc6 := (hb6.cell (p := ⟨w5.heap.size, 2, none⟩) hzY).trans hcY; clear hb6')))
        go_wp2
        go_roundw
        case rel => exact ⟨k + 1, by omega, by omega, by go_num, hbr.trans ((hB4.trans ((hbY.trans (hb6.mono (by omega))).mono (by omega))).mono hzr)⟩
        case measure => simp [intOf]; omega
    · obtain rfl : k = 8 := by omega
      obtain ⟨r, HR⟩ : ∃ r, Hid (r = valL h E f v) := ⟨_, rfl⟩
      go_wp2
      go_region_held3 (fun w' => w'.cell? ⟨w.heap.size, 0, none⟩ = some (.int .i64 E) ∧ w'.cell? ⟨w.heap.size, 1, none⟩ = some (.bool f) ∧ w'.cell? ⟨w.heap.size, 2, none⟩ = some (.int .u64 v) ∧ w'.cell? ⟨w.heap.size, 3, none⟩ = some (.bool o) ∧ w'.cell? ⟨w.heap.size, 4, none⟩ = some (.int .u64 kk) ∧ w'.cell? ⟨w.heap.size, 5, none⟩ = some (.int .u64 u))
        (first | exact hX4 | exact hX3 | exact hXr)
        (first
          | (go_at_call 22; go_must (refine (value_as HR _).mono ?_); rintro e w3 ⟨rfl, hb3'⟩; go_must (have hb3 : Below wr.heap.size wr w3 := below_undrew hb3'; have hX3 := BxR.below hXr hb3 (by omega); have hz3 := hb3.size; clear hb3'))
          | (go_at_call 23; go_must (refine (rvalue_as HR _).mono ?_); rintro e w4 ⟨rfl, hb4⟩; go_must (have hX4 := BxR.below hX3 hb4 (by omega); have hB4 : Below wr.heap.size wr w4 := hb3.trans (hb4.mono hz3); have hz4 := hb4.size; clear hb4)))
      go_wp2
      go_ret
      exact ⟨retb (by simp), hBZ.trans ((hbr.trans (hB4.mono hzr)).mono (by omega))⟩
end Go.Proofs.YtpgkjoahngfgnaaDoor
