/-
  What the document's Join and Meet answer. Condition: the slice reads as spans of numbers of 64 bits.
-/
import Derived.Test.YtammakfpmimljaaS6RJoin
namespace Go.Proofs.Ytammakfpmimljaa
open Go.RowKit
set_option linter.unusedVariables false
set_option maxRecDepth 20000

set_option maxHeartbeats 1600000 in
theorem rmeet_some (bk off cap : Nat) (ss : List (Int × Int)) (w : World) (hpos : 0 < ss.length) (hc : ss.length ≤ cap) (hm : cap ≤ 9223372036854775807) (hbk : bk < w.heap.size) (hwf : ∀ s ∈ ss, wfS s)
    (hat : ∀ k, k < ss.length → AtS w bk (off + k * 2) (ss.getD k (0, 0))) :
    Calls Try.prog 21 #[.slice (some ⟨bk, off, none⟩) ss.length cap] w fun e w' => e = .returned (optV (if meetB ss = true then some (meetL ss) else none)) ∧ Below w.heap.size w w' := by
  have HA : Hid (∀ k, k < ss.length → AtS w bk (off + k * 2) (ss.getD k (0, 0))) := hat
  have HW : Hid (∀ s ∈ ss, wfS s) := hwf
  clear hat hwf
  obtain ⟨n, HN⟩ : ∃ n, Hid (n = ss.length) := ⟨_, rfl⟩
  rw [← HN.out] at hc hpos ⊢
  obtain ⟨R, HR⟩ : ∃ R, Hid (R = if meetB ss = true then some (meetL ss) else none) := ⟨_, rfl⟩
  rw [← HR.out]
  go_enter Try.func21, Try.ntmps21
  go_wp2
  go_loopw [5] (fun i wr => ∃ (k : Nat) (x X : Int), k ≤ n ∧ i = .int .i64 k ∧ Hid ((ss.take k).all okS = true ∧ (k ≠ 0 → x = loM (ss.take k) ∧ X = hiM (ss.take k))) ∧ Bx wr w.heap.size 0 0 ∧ Bx wr (w.heap.size + 1) x X ∧ Below w.heap.size w wr ∧ w.heap.size + 1 < wr.heap.size) (fun i _ => n - (intOf i).toNat)
  case atStart => exact ⟨0, 0, 0, by omega, rfl, ⟨rfl, fun h => absurd rfl h⟩, ⟨⟨by go_cell, by go_cell⟩, by go_simp, by go_simp⟩, ⟨⟨by go_cell, by go_cell⟩, by go_simp, by go_simp⟩, by go_grown, by simp⟩
  case round =>
    obtain ⟨k, x, X, hk, rfl, HI, hB0, hB1, hbe, m1⟩ := hrel
    have m0 : w.heap.size < wr.heap.size := by omega
    have mb : bk < wr.heap.size := by omega
    obtain ⟨⟨c0, c1⟩, f0, f1⟩ := id hB0
    obtain ⟨⟨d0, d1⟩, g0, g1⟩ := id hB1
    have HB0 : Hid (Bx wr w.heap.size 0 0) := hB0
    have HB1 : Hid (Bx wr (w.heap.size + 1) x X) := hB1
    have hsz := hbe.size
    clear hB0 hB1
    by_cases hlt : k < n
    · obtain ⟨y, Y, HS⟩ : ∃ y Y, Hid (ss.getD k (0, 0) = (y, Y)) := ⟨_, _, rfl⟩
      have hcell := (HA.out k (by have := HN.out; omega)).below hbe hbk
      rw [HS.out] at hcell
      obtain ⟨e0, e1⟩ := hcell
      simp only at e0 e1
      cases hr : decide (y ≤ Y)
      · have HF : Hid (joinB ss = false) := okS_false (k := k) (by have := HN.out; omega) (by rw [HS.out]; exact hr)
        have HT : Hid _ := set_two (x := .int .u64 0) (y := .int .u64 0) c0 c1
        have HE : Hid (R = none) := by rw [HR.out]; unfold meetB; rw [HF.out]; rfl
        go_wp2_with (go_at_call 11; go_must (refine (rright_any _ _ _).mono ?_); rintro e w' ⟨rfl, rfl⟩)
        refine bodyPost_ret (v := optV none) ?_ rfl ⟨by rw [HE.out], (below_set (below_set hbe (by omega)) (by omega)).alloc (by simp [World.setCell]; omega) _⟩
        rw [results_cell_tmp rfl]
        simp [asAddr, Result.andThen]
        rw [run_boxS (a := 0) (A := 0)]
        · rfl
        · refine (World.cell?_alloc_past _ _ _ ?_).trans HT.out.1; simp [World.setCell]; omega
        · refine (World.cell?_alloc_past _ _ _ ?_).trans HT.out.2; simp [World.setCell]; omega
      · have HOK : Hid ((ss.take (k + 1)).all okS = true) := by
          show _ = _
          rw [okS_all_take (by have := HN.out; omega), HI.out.1, HS.out]; exact hr
        by_cases hk0 : k = 0
        · have hk1 : ((k : Int) == 0) = true := by simp [hk0]
          have e0' : wr.cell? ⟨bk, off, none⟩ = some (.int .u64 y) := by simpa [hk0] using e0
          have e1' : wr.cell? ⟨bk, off + 1, none⟩ = some (.int .u64 Y) := by simpa [hk0] using e1
          have HL : Hid (loM (ss.take (k + 1)) = y ∧ hiM (ss.take (k + 1)) = Y) := by
            have h := ends_one (ss := ss) (by have := HN.out; omega)
            have e := HS.out
            rw [hk0] at e ⊢
            rw [e] at h
            exact ⟨h.2.2.1, h.2.2.2⟩
          go_wp2_with (go_at_call 11; go_must (refine (rright_any _ _ _).mono ?_); rintro e w' ⟨rfl, rfl⟩)
          go_region
          all_goals go_wp2
          all_goals go_region
          all_goals go_wp2
          · go_roundw
            case rel => exact ⟨k + 1, y, Y, by omega, by first | go_num | exact congrArg _ (by omega), ⟨HOK.out, fun _ => ⟨by rw [HL.out.1], by rw [HL.out.2]⟩⟩, Bx.drew2 ((HB0.out.far (m := w.heap.size + 1) (by omega)).far (m := w.heap.size + 1) (by omega)) (by first | omega | (simp only [size_set]; omega)), Bx.drew2 ((HB1.out.set0 y).set1 Y) (by first | omega | (simp only [size_set]; omega)), below_dr2 (below_set (below_set hbe (by omega)) (by omega)) (by first | omega | (simp only [size_set]; omega)), by first | (simp; omega) | (simp [World.setCell]; omega)⟩
            case measure => simp [intOf]; omega
        · have hk1 : ((k : Int) == 0) = false := by simp; omega
          have HL : Hid (loM (ss.take (k + 1)) = max (loM (ss.take k)) y ∧ hiM (ss.take (k + 1)) = min (hiM (ss.take k)) Y) := by
            have h := loF_step (ss := ss) (k := k) (by have := HN.out; omega) hk0
            rw [HS.out] at h
            exact ⟨h.2.2.1, h.2.2.2⟩
          go_wp2_with (go_at_call 11; go_must (refine (rright_any _ _ _).mono ?_); rintro e w' ⟨rfl, rfl⟩)
          by_cases hy : x < y <;> by_cases hY : Y < X
          all_goals go_region
          all_goals go_wp2
          all_goals go_region
          all_goals go_wp2
          · go_roundw
            case rel => exact ⟨k + 1, y, Y, by omega, by go_num, ⟨HOK.out, fun _ => ⟨by rw [HL.out.1, ← (HI.out.2 hk0).1]; omega, by rw [HL.out.2, ← (HI.out.2 hk0).2]; omega⟩⟩, Bx.drew2 ((HB0.out.far (m := w.heap.size + 1) (by omega)).far (m := w.heap.size + 1) (by omega)) (by first | omega | (simp only [size_set]; omega)), Bx.drew2 ((HB1.out.set0 y).set1 Y) (by first | omega | (simp only [size_set]; omega)), below_dr2 (below_set (below_set hbe (by omega)) (by omega)) (by first | omega | (simp only [size_set]; omega)), by first | (simp; omega) | (simp [World.setCell]; omega)⟩
            case measure => simp [intOf]; omega
          · go_roundw
            case rel => exact ⟨k + 1, y, X, by omega, by go_num, ⟨HOK.out, fun _ => ⟨by rw [HL.out.1, ← (HI.out.2 hk0).1]; omega, by rw [HL.out.2, ← (HI.out.2 hk0).2]; omega⟩⟩, Bx.drew2 (HB0.out.far (m := w.heap.size + 1) (by omega)) (by first | omega | (simp only [size_set]; omega)), Bx.drew2 (HB1.out.set0 y) (by first | omega | (simp only [size_set]; omega)), below_dr2 (below_set hbe (by omega)) (by first | omega | (simp only [size_set]; omega)), by first | (simp; omega) | (simp [World.setCell]; omega)⟩
            case measure => simp [intOf]; omega
          · go_roundw
            case rel => exact ⟨k + 1, x, Y, by omega, by go_num, ⟨HOK.out, fun _ => ⟨by rw [HL.out.1, ← (HI.out.2 hk0).1]; omega, by rw [HL.out.2, ← (HI.out.2 hk0).2]; omega⟩⟩, Bx.drew2 (HB0.out.far (m := w.heap.size + 1) (by omega)) (by first | omega | (simp only [size_set]; omega)), Bx.drew2 (HB1.out.set1 Y) (by first | omega | (simp only [size_set]; omega)), below_dr2 (below_set hbe (by omega)) (by first | omega | (simp only [size_set]; omega)), by first | (simp; omega) | (simp [World.setCell]; omega)⟩
            case measure => simp [intOf]; omega
          · go_roundw
            case rel => exact ⟨k + 1, x, X, by omega, by go_num, ⟨HOK.out, fun _ => ⟨by rw [HL.out.1, ← (HI.out.2 hk0).1]; omega, by rw [HL.out.2, ← (HI.out.2 hk0).2]; omega⟩⟩, Bx.drew2 HB0.out (by first | omega | (simp only [size_set]; omega)), Bx.drew2 HB1.out (by first | omega | (simp only [size_set]; omega)), below_dr2 hbe (by first | omega | (simp only [size_set]; omega)), by first | (simp; omega) | (simp [World.setCell]; omega)⟩
            case measure => simp [intOf]; omega
    · obtain rfl : k = n := by omega
      have HJ : Hid (joinB ss = true ∧ x = loM ss ∧ X = hiM ss) := by
        have hall := HI.out.1
        have h2 := HI.out.2 (by omega)
        rw [show ss.take k = ss by rw [HN.out]; exact List.take_length] at hall h2
        refine ⟨?_, h2.1, h2.2⟩
        unfold joinB
        rw [hall, Bool.and_true]
        cases ss with
        | nil => have := HN.out; simp at this; omega
        | cons s r => rfl
      have hz : ((k : Int) == 0) = false := by simp; omega
      cases hr : decide (x ≤ X)
      · have HE : Hid (R = none) := by
          show _ = _
          rw [HR.out, if_neg]
          unfold meetB
          rw [HJ.out.1, ← HJ.out.2.1, ← HJ.out.2.2, hr]
          simp
        have HT : Hid _ := set_two (x := .int .u64 0) (y := .int .u64 0) c0 c1
        go_wp2_with (go_at_call 11; go_must (refine (rright_any _ _ _).mono ?_); rintro e w' ⟨rfl, rfl⟩)
        refine bodyPost_ret (v := optV none) ?_ rfl ⟨by rw [HE.out], (below_set (below_set hbe (by omega)) (by omega)).alloc (by simp [World.setCell]; omega) _⟩
        rw [results_cell_tmp rfl]
        simp [asAddr, Result.andThen]
        rw [run_boxS (a := 0) (A := 0)]
        · rfl
        · refine (World.cell?_alloc_past _ _ _ ?_).trans HT.out.1; simp [World.setCell]; omega
        · refine (World.cell?_alloc_past _ _ _ ?_).trans HT.out.2; simp [World.setCell]; omega
      · have HE : Hid (R = some (x, X)) := by
          have hm : meetB ss = true := by unfold meetB; rw [HJ.out.1, ← HJ.out.2.1, ← HJ.out.2.2, hr]; rfl
          show _ = _
          rw [HR.out, if_pos hm]
          unfold meetL
          rw [if_pos hm, ← HJ.out.2.1, ← HJ.out.2.2]
        have HT : Hid _ := set_two (x := .int .u64 x) (y := .int .u64 X) c0 c1
        go_wp2_with (go_at_call 11; go_must (refine (rright_any _ _ _).mono ?_); rintro e w' ⟨rfl, rfl⟩)
        refine bodyPost_ret (v := optV (some (x, X))) ?_ rfl ⟨by rw [HE.out], (below_set (below_set hbe (by omega)) (by omega)).alloc (by simp [World.setCell]; omega) _⟩
        rw [results_cell_tmp rfl]
        simp [asAddr, Result.andThen]
        rw [run_boxS (a := x) (A := X)]
        · rfl
        · refine (World.cell?_alloc_past _ _ _ ?_).trans HT.out.1; simp [World.setCell]; omega
        · refine (World.cell?_alloc_past _ _ _ ?_).trans HT.out.2; simp [World.setCell]; omega
theorem rjoin_none (a : Option Addr) (cap : Nat) (w : World) : Calls Try.prog 19 #[.slice a 0 cap] w fun e w' => e = .returned (optV none) ∧ Below w.heap.size w w' := by
  go_enter Try.func19, Try.ntmps19
  go_wp2
  refine wp_loop_rounds 1 ?_
  rw [rounds_succ]
  go_wp2
  refine bodyPost_ret (v := optV none) ?_ rfl ⟨rfl, by go_grown⟩
  rw [results_cell_tmp rfl]
  simp [asAddr, Result.andThen]
  rw [run_boxS (a := 0) (A := 0)]
  · rfl
  all_goals go_cell
/-- The document's Join. -/
theorem rjoin_any (v : Value) (ss : List (Int × Int)) (w : World) (hs : SeesS w v ss) (hwf : ∀ s ∈ ss, wfS s) :
    Calls Try.prog 19 #[v] w fun e w' => e = .returned (optV (if joinB ss = true then some (joinL ss) else none)) ∧ Below w.heap.size w w' := by
  obtain ⟨a, cap, rfl, hl, hm, hn, hc⟩ := hs
  by_cases hne : ss = []
  · subst hne
    exact rjoin_none a cap w
  · obtain ⟨b, off, rfl, hb, hat⟩ := hc hne
    exact rjoin_some b off cap ss w (List.length_pos_iff.2 hne) hl (by unfold maxLen at hm; omega) hb hwf hat
theorem rmeet_none (a : Option Addr) (cap : Nat) (w : World) : Calls Try.prog 21 #[.slice a 0 cap] w fun e w' => e = .returned (optV none) ∧ Below w.heap.size w w' := by
  go_enter Try.func21, Try.ntmps21
  go_wp2
  refine wp_loop_rounds 1 ?_
  rw [rounds_succ]
  go_wp2
  refine bodyPost_ret (v := optV none) ?_ rfl ⟨rfl, by go_grown⟩
  rw [results_cell_tmp rfl]
  simp [asAddr, Result.andThen]
  rw [run_boxS (a := 0) (A := 0)]
  · rfl
  all_goals go_cell
/-- The document's Meet. -/
theorem rmeet_any (v : Value) (ss : List (Int × Int)) (w : World) (hs : SeesS w v ss) (hwf : ∀ s ∈ ss, wfS s) :
    Calls Try.prog 21 #[v] w fun e w' => e = .returned (optV (if meetB ss = true then some (meetL ss) else none)) ∧ Below w.heap.size w w' := by
  obtain ⟨a, cap, rfl, hl, hm, hn, hc⟩ := hs
  by_cases hne : ss = []
  · subst hne
    exact rmeet_none a cap w
  · obtain ⟨b, off, rfl, hb, hat⟩ := hc hne
    exact rmeet_some b off cap ss w (List.length_pos_iff.2 hne) hl (by unfold maxLen at hm; omega) hb hwf hat
end Go.Proofs.Ytammakfpmimljaa
