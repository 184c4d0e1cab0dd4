/-
  What the landed Meet answers. Condition: the slice reads as spans of numbers of 64 bits.
-/
import Derived.Test.YtammakfpmimljaaS6LJoin
namespace Go.Proofs.Ytammakfpmimljaa
open Go.RowKit
set_option linter.unusedVariables false
set_option maxRecDepth 20000

/-- Ends that have crossed in one span stay crossed in what is met with it. -/
theorem meet_cross {ss : List (Int × Int)} (hne : ss ≠ []) : meetB ss = decide (loM ss ≤ hiM ss) := by
  unfold meetB
  by_cases h : loM ss ≤ hiM ss
  · have hj : joinB ss = true := by
      unfold joinB
      have h1 : ss.isEmpty = false := by cases ss with
        | nil => exact absurd rfl hne
        | cons s r => rfl
      have h2 : ss.all okS = true := by
        rw [List.all_eq_true]
        intro s hs
        have a1 : s.1 ≤ loM ss := le_maxF (List.mem_map_of_mem hs)
        have a2 : hiM ss ≤ s.2 := minF_le (List.mem_map_of_mem hs)
        exact decide_eq_true (by omega)
      rw [h1, h2]; rfl
    rw [hj, Bool.true_and]
  · rw [decide_eq_false h, Bool.and_false]
set_option maxHeartbeats 1600000 in
theorem lmeet_any (v : Value) (ss : List (Int × Int)) (w : World) (hs : SeesS w v ss) (hwf : ∀ s ∈ ss, wfS s) :
    Calls Try.prog 20 #[v] w fun e w' => e = .returned (optV (if meetB ss = true then some (meetL ss) else none)) ∧ Below w.heap.size w w' := by
  obtain ⟨a, cap, rfl, hc, hm, -, hat⟩ := hs
  unfold maxLen at hm
  have HA : Hid (ss ≠ [] → ∃ b off, a = some ⟨b, off, none⟩ ∧ b < w.heap.size ∧ ∀ k, k < ss.length → AtS w b (off + k * 2) (ss.getD k (0, 0))) := hat
  have HW : Hid (∀ s ∈ ss, wfS s) := hwf
  clear hat hwf
  obtain ⟨n, HN⟩ : ∃ n, Hid (n = ss.length) := ⟨_, rfl⟩
  rw [← HN.out] at hc ⊢
  obtain ⟨R, HR⟩ : ∃ R, Hid (R = if meetB ss = true then some (meetL ss) else none) := ⟨_, rfl⟩
  rw [← HR.out]
  go_enter Try.func20, Try.ntmps20
  go_wp2_with (go_at_call 13; go_must (refine (lfull_any _).mono ?_); rintro e w1 ⟨rfl, hb1⟩; go_must (have hB0 : Hid (Bx w1 w.heap.size 0 0) := Bx.below ⟨⟨by go_cell, by go_cell⟩, by go_simp, by go_simp⟩ hb1 (by simp); have hbe : Below w.heap.size w w1 := boxS_below hb1; have hz : w.heap.size < w1.heap.size := Nat.lt_of_lt_of_le (by simp) hb1.size; clear hb1))
  go_loopw [10] (fun i wr => ∃ (k : Nat) (x X : Int), k ≤ n ∧ i = .int .i64 k ∧ Hid ((k = 0 → x = 0 ∧ X = 18446744073709551615) ∧ (k ≠ 0 → x = loM (ss.take k) ∧ X = hiM (ss.take k))) ∧ Bx wr w.heap.size 0 0 ∧ Bx wr w1.heap.size x X ∧ Below w.heap.size w wr ∧ w1.heap.size < wr.heap.size) (fun i _ => n - (intOf i).toNat)
  case atStart => exact ⟨0, 0, 18446744073709551615, by omega, rfl, ⟨fun _ => ⟨rfl, rfl⟩, fun h => absurd rfl h⟩, hB0.out.al hz, ⟨⟨by go_cell, by go_cell⟩, by go_simp, by go_simp⟩, hbe.alloc (by omega) _, by simp⟩
  case round =>
    clear hB0 hbe
    obtain ⟨k, x, X, hk, rfl, HI, hB0, hB1, hbe, m1⟩ := hrel
    have m0 : w.heap.size < wr.heap.size := by omega
    obtain ⟨⟨c0, c1⟩, f0, f1⟩ := id hB0
    obtain ⟨⟨d0, d1⟩, g0, g1⟩ := id hB1
    have HB0 : Hid (Bx wr w.heap.size 0 0) := hB0
    have HB1 : Hid (Bx wr w1.heap.size x X) := hB1
    have hsz := hbe.size
    clear hB0 hB1
    by_cases hlt : k < n
    · obtain ⟨bk, off, rfl, hbk, hat⟩ := HA.out (fun h => by have := HN.out; rw [h] at this; simp at this; omega)
      have mb : bk < wr.heap.size := by omega
      obtain ⟨y, Y, HS⟩ : ∃ y Y, Hid (ss.getD k (0, 0) = (y, Y)) := ⟨_, _, rfl⟩
      have hcell := (hat k (by have := HN.out; omega)).below hbe hbk
      clear hat
      rw [HS.out] at hcell
      obtain ⟨e0, e1⟩ := hcell
      simp only at e0 e1
      have HL : Hid (max x y = loM (ss.take (k + 1)) ∧ min X Y = hiM (ss.take (k + 1))) := by
        by_cases hk0 : k = 0
        · subst hk0
          have h := ends_one (ss := ss) (by have := HN.out; omega)
          obtain ⟨q1, q2⟩ := HI.out.1 rfl
          have hl : 0 < ss.length := by have := HN.out; omega
          have hg : ss.getD 0 (0, 0) ∈ ss := by
            have e : ss.getD 0 (0, 0) = ss[0] := by simp [hl]
            rw [e]; exact List.getElem_mem hl
          have hw := HW.out _ hg
          rw [HS.out] at h hw
          unfold wfS W64 at hw
          show _ ∧ _
          rw [Nat.zero_add, h.2.2.1, h.2.2.2, q1, q2]
          simp only at hw ⊢
          omega
        · have h := loF_step (ss := ss) (k := k) (by have := HN.out; omega) hk0
          rw [HS.out] at h
          obtain ⟨q1, q2⟩ := HI.out.2 hk0
          exact ⟨by rw [h.2.2.1, q1], by rw [h.2.2.2, q2]⟩
      go_wp2
      go_region
      go_wp2
      go_roundw
      case rel => exact ⟨k + 1, max x y, min X Y, by omega, by go_num, ⟨fun h => absurd h (by omega), fun _ => HL.out⟩, Bx.dr (Bx.al ((HB0.out.far (m := w1.heap.size) (by omega)).far (m := w1.heap.size) (by omega)) (by simp only [size_set]; omega)), Bx.dr (Bx.al (HB1.out.set (max x y) (min X Y)) (by simp only [size_set]; omega)), below_dr ((below_set (below_set hbe (by omega)) (by omega)).alloc (by simp only [size_set]; omega) _), by simp [World.setCell]; omega⟩
      case measure => simp [intOf]; omega
    · obtain rfl : k = n := by omega
      by_cases hz0 : k = 0
      · subst hz0
        have HE : Hid (R = none) := by
          have : ss = [] := List.eq_nil_of_length_eq_zero HN.out.symm
          show _ = _
          rw [HR.out, this]
          rfl
        have HT : Hid _ := set_two (x := .int .u64 0) (y := .int .u64 0) c0 c1
        go_wp2
        refine bodyPost_ret (v := optV none) ?_ rfl ⟨by rw [HE.out], below_set (below_set hbe (by omega)) (by omega)⟩
        rw [results_cell_tmp rfl]
        simp [asAddr, Result.andThen]
        rw [run_boxS HT.out.1 HT.out.2]
        rfl
      · have hzk : ((k : Int) == 0) = false := by simpa using hz0
        have HNE : Hid (ss ≠ []) := fun h => by have := HN.out; rw [h] at this; simp at this; omega
        have HJ : Hid (meetB ss = decide (x ≤ X) ∧ x = loM ss ∧ X = hiM ss) := by
          obtain ⟨q1, q2⟩ := HI.out.2 hz0
          rw [show ss.take k = ss by rw [HN.out]; exact List.take_length] at q1 q2
          refine ⟨?_, q1, q2⟩
          rw [meet_cross HNE.out, q1, q2]
        cases hr : decide (x ≤ X)
        · have HE : Hid (R = none) := by
            show _ = _
            rw [HR.out, HJ.out.1, hr]
            rfl
          have HT : Hid _ := set_two (x := .int .u64 0) (y := .int .u64 0) c0 c1
          go_wp2_with (go_at_call 10; go_must (refine (lright_any x X _).mono ?_); rintro e w' ⟨rfl, rfl⟩)
          refine bodyPost_ret (v := optV none) ?_ rfl ⟨by rw [HE.out], (below_set (below_set hbe (by omega)) (by omega)).alloc (by simp [World.setCell]; omega) _⟩
          rw [results_cell_tmp rfl]
          simp [asAddr, Result.andThen]
          rw [run_boxS (a := 0) (A := 0)]
          · rfl
          · refine (World.cell?_alloc_past _ _ _ ?_).trans HT.out.1; simp [World.setCell]; omega
          · refine (World.cell?_alloc_past _ _ _ ?_).trans HT.out.2; simp [World.setCell]; omega
        · have HE : Hid (R = some (x, X)) := by
            show _ = _
            have hmt : meetB ss = true := by rw [HJ.out.1, hr]
            rw [HR.out, if_pos hmt]
            unfold meetL
            rw [if_pos hmt, ← HJ.out.2.1, ← HJ.out.2.2]
          have HT : Hid _ := set_two (x := .int .u64 x) (y := .int .u64 X) c0 c1
          go_wp2_with (go_at_call 10; go_must (refine (lright_any x X _).mono ?_); rintro e w' ⟨rfl, rfl⟩)
          refine bodyPost_ret (v := optV (some (x, X))) ?_ rfl ⟨by rw [HE.out], (below_set (below_set hbe (by omega)) (by omega)).alloc (by simp [World.setCell]; omega) _⟩
          rw [results_cell_tmp rfl]
          simp [asAddr, Result.andThen]
          rw [run_boxS (a := x) (A := X)]
          · rfl
          · refine (World.cell?_alloc_past _ _ _ ?_).trans HT.out.1; simp [World.setCell]; omega
          · refine (World.cell?_alloc_past _ _ _ ?_).trans HT.out.2; simp [World.setCell]; omega
end Go.Proofs.Ytammakfpmimljaa
