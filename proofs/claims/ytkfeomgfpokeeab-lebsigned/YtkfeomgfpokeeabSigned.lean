/-
  The law LebSigned's walk. Condition: two signed numbers of 64 bits.
-/
import Derived.Test.YtkfeomgfpokeeabKit
import Derived.Test.YtkfeomgfpokeeabFold
import Derived.Test.YtkfeomgfpokeeabPlainBack
namespace Go.Proofs.Ytkfeomgfpokeeab
open Go.RowKit
set_option linter.unusedVariables false

theorem fold_inj {a b : Int} (h : foldI a = foldI b) : a = b := by have := congrArg unfoldI h; rwa [unfold_fold, unfold_fold] at this
theorem wrap_low : wrap64 (wrap64 9223372036854775808 - 1) = 9223372036854775807 := by unfold wrap64; omega

set_option maxRecDepth 100000 in
set_option maxHeartbeats 2000000 in
theorem signed_walk (a b : Int) (w : World) (ha : -9223372036854775808 ≤ a ∧ a ≤ 9223372036854775807) (hb : -9223372036854775808 ≤ b ∧ b ≤ 9223372036854775807) :
    Calls Try.prog 3 #[.int .i64 a, .int .i64 b] w fun e w' => e = .returned (.bool true) ∧ Below w.heap.size w w' := by
  obtain ⟨i5, hi5, hz50, hz51, hz52⟩ := info_parts Try.info5
  have fa := fold_bd ha.1 ha.2
  have fb := fold_bd hb.1 hb.2
  have hba := enc_byte fa.1 fa.2
  have hbb := enc_byte fb.1 fb.2
  have hbab : ∀ x ∈ enc (foldI a) ++ enc (foldI b), 0 ≤ x ∧ x ≤ 255 := by
    intro x hx
    rcases List.mem_append.1 hx with hx | hx
    · exact hba x hx
    · exact hbb x hx
  have La := enc_len (foldI a)
  have Lb := enc_len (foldI b)
  have HEQ : Hid (eqB (enc (foldI (a))) (enc (foldI b)) = (a == b)) := by
    by_cases e : (a) = b
    · subst e; show _ = _; rw [eqB_true rfl]; simp
    · show _ = _; rw [eqB_false (fun h => e (fold_inj (enc_inj fa.1 fa.2 fb.1 fb.2 h)))]; simp [e]
  by_cases hp : 0 ≤ a
  · skip
    have hn1 : foldI (a) + 1 = foldI (-a - 1) := by unfold foldI; (repeat' split) <;> omega
    have hn2 : foldI (a) % 2 = 0 := by unfold foldI; (repeat' split) <;> omega
    have hm0 := fold_bd (n := a) (by omega) (by omega)
    have hm1 := fold_bd (n := -a - 1) (by omega) (by omega)
    have hl1 := enc_mono (Int.le_of_lt (show foldI (a) < foldI (-a - 1) by omega))
    have hl2 := enc_step hm0.1
    rw [hn1] at hl2
    have L1 := enc_len (foldI (a))
    have hm2 : foldI (a) + 1 < 18446744073709551616 := by omega
    have t1 : (foldI (-a - 1) == foldI (a) + 1) = true := by simp; omega
    have t2 : (foldI (a) % 2 == 0) = true := by simp; omega
    have t3 : decide ((enc (foldI (a))).length ≤ (enc (foldI (-a - 1))).length) = true := decide_eq_true hl1
    have t3' : decide (((enc (foldI (a))).length : Int) ≤ ((enc (foldI (-a - 1))).length : Int)) = true := decide_eq_true (by omega)
    have t4 : decide (((enc (foldI (-a - 1))).length : Int) ≤ ((enc (foldI (a))).length : Int) + 1) = true := decide_eq_true (by omega)
    have HG1 : Hid (getL 0 0 (enc (foldI (a))) = (foldI (a), ((enc (foldI (a))).length : Int), 0)) := by have h := getL_enc hm0.1 hm0.2 []; rw [List.append_nil] at h; exact h
    have HG2 : Hid (getL 0 0 (enc (foldI (-a - 1))) = (foldI (-a - 1), ((enc (foldI (-a - 1))).length : Int), 0)) := by have h := getL_enc hm1.1 hm1.2 []; rw [List.append_nil] at h; exact h
    have hbm := enc_byte hm0.1 hm0.2
    have hbn := enc_byte hm1.1 hm1.2
    clear hn1 hn2 hl1 hl2
    go_enter Try.func3, Try.ntmps3
    go_wp2_with (first
      | (go_at_call 4; go_must (refine (awake_any _).mono ?_); rintro e w1 ⟨rfl, hB1⟩; have hz1 := hB1.size; have P1 : Hid True := trivial)
      | (go_at_call 5; have hq := P1; clear hq; go_must (refine (putint_one (a) _ _ (by simp) (by omega)).mono ?_); rintro e w2 ⟨v2, rfl, hown2, hbe2⟩; go_must (have hz2 := hbe2.size; have hB2 := hB1.trans (hbe2.mono (by omega)); clear P1 hB1 hbe2; have P2 : Hid True := trivial))
      | (go_at_call 5; have hq := P2; clear hq; go_must (refine (putint_one b _ _ (by simp) hb).mono ?_); rintro e w3 ⟨v3, rfl, hown3, hbe3⟩; go_must (have hz3 := hbe3.size; have hB3 := hB2.trans (hbe3.mono (by omega)); have hsee2 := Sees.own (own_below hown2 hbe3 (Nat.le_refl _)) (wf_bytes hba); have hsee3 := Sees.own hown3 (wf_bytes hbb); clear P2 hB2 hbe3 hown2 hown3; have P3 : Hid True := trivial))
      | (go_at_call 6; have hq := P3; clear hq; go_must (refine (same_any v2 v3 _ _ _ hsee2 hsee3).mono ?_); rintro e w4 ⟨rfl, n4, rfl⟩; go_must (rw [HEQ.out]; have hB4 := below_drewN hB3 n4; have hz4 : w.heap.size ≤ (w3.drewN n4).heap.size := hB4.size; clear P3 hB3 hsee2 hsee3; generalize w3.drewN n4 = w4 at hB4 hz4 ⊢; have P4 : Hid True := trivial))
      | (go_at_call 5; have hq := P4; clear hq; go_must (refine (putint_one (a) _ _ (by simp) (by omega)).mono ?_); rintro e w5 ⟨v5, rfl, hown5, hbe5⟩; go_must (have hz5 := hbe5.size; have hB5 := hB4.trans (hbe5.mono (by omega)); have hsee5 := Sees.own hown5 (wf_bytes hbm); clear P4 hB4 hbe5 hown5; have P5 : Hid True := trivial))
      | (go_at_call 7; have hq := P5; clear hq; go_must (refine (get_eq hsee5 HG1.out).mono ?_); rintro e w5 ⟨rfl, rfl⟩; go_must (clear P5 hsee5; have P6 : Hid True := trivial))
      | (go_at_call 5; have hq := P6; clear hq; go_must (refine (putint_one (-a - 1) _ _ (by simp) (by omega)).mono ?_); rintro e w6 ⟨v6, rfl, hown6, hbe6⟩; go_must (have hz6 := hbe6.size; have hB6 := hB5.trans (hbe6.mono (by omega)); have hsee6 := Sees.own hown6 (wf_bytes hbn); clear P6 hB5 hbe6 hown6; have P7 : Hid True := trivial))
      | (go_at_call 7; have hq := P7; clear hq; go_must (refine (get_eq hsee6 HG2.out).mono ?_); rintro e w6 ⟨rfl, rfl⟩; go_must (clear P7 hsee6; have P8 : Hid True := trivial))
      | (go_at_call 5; have hq := P8; clear hq; go_must (refine (putint_one (a) _ _ (by simp) (by omega)).mono ?_); rintro e w7 ⟨v7, rfl, hown7, hbe7⟩; go_must (have hz7 := hbe7.size; have hB7 := hB6.trans (hbe7.mono (by omega)); clear P8 hB6 hbe7; have P9 : Hid True := trivial))
      | (go_at_call 5; have hq := P9; clear hq; go_must (refine (putint_one b _ _ (by simp) hb).mono ?_); rintro e w8 ⟨v8, rfl, hown8, hbe8⟩; go_must (have hz8 := hbe8.size; have hB8 := hB7.trans (hbe8.mono (by omega)); have hown7' := own_below hown7 hbe8 (Nat.le_refl _); have hsee8 := Sees.own hown8 (wf_bytes hbb); clear P9 hB7 hbe8 hown7 hown8; have PA : Hid True := trivial))
      | (at_builtin; have hq := PA; clear hq; go_must (refine wpList_append_sees_if rfl (.tmp 83) (.tmp 86) 23 rfl _ 5 i5 (.int .u8 0) 1 Try.underlying23 hi5 hz50 hz51 hz52 rfl .u8 _ _ rfl hown7' _ _ rfl hsee8 (by unfold maxLen; omega) (by omega) (by omega) ?_); intro v9 w9 hown9 hg9; go_must (have hb9 := below_grown hown7' hg9 (by omega); have hz9 := hb9.size; have hB9 := hB8.trans (hb9.mono (by omega)); clear PA hB8 hown7' hsee8 hg9 hb9; have PB : Hid True := trivial))
      | (go_at_call 5; have hq := PB; clear hq; go_must (refine (putint_two (a) b _ _ (by simp) (by omega) hb).mono ?_); rintro e wA ⟨vA, rfl, hownA, hbeA⟩; go_must (have hBA := hB9.trans (hbeA.mono (by omega)); have hsee9 := Sees.own (own_below hown9 hbeA (Nat.le_refl _)) (wf_bytes hbab); have hseeA := Sees.own hownA (wf_bytes hbab); clear PB hB9 hown9 hownA hbeA; have PC : Hid True := trivial))
      | (go_at_call 6; have hq := PC; clear hq; go_must (refine (same_any v9 vA _ _ _ hsee9 hseeA).mono ?_); rintro e wB ⟨rfl, nB, rfl⟩; go_must (rw [eqB_true (rfl : enc (foldI (a)) ++ enc (foldI b) = enc (foldI (a)) ++ enc (foldI b))]; have hBB := below_drewN hBA nB)))
    go_ret
    exact ⟨rfl, hBB⟩
  by_cases hl : a = -9223372036854775808
  · subst hl
    have HW : Hid (wrap64 (wrap64 9223372036854775808 - 1) = 9223372036854775807) := wrap_low
    have hn1 : foldI (9223372036854775807) + 1 = foldI (-9223372036854775808) := by unfold foldI; (repeat' split) <;> omega
    have hn2 : foldI (9223372036854775807) % 2 = 0 := by unfold foldI; (repeat' split) <;> omega
    have hm0 := fold_bd (n := 9223372036854775807) (by omega) (by omega)
    have hm1 := fold_bd (n := -9223372036854775808) (by omega) (by omega)
    have hl1 := enc_mono (Int.le_of_lt (show foldI (9223372036854775807) < foldI (-9223372036854775808) by omega))
    have hl2 := enc_step hm0.1
    rw [hn1] at hl2
    have L1 := enc_len (foldI (9223372036854775807))
    have hm2 : foldI (9223372036854775807) + 1 < 18446744073709551616 := by omega
    have t1 : (foldI (-9223372036854775808) == foldI (9223372036854775807) + 1) = true := by simp; omega
    have t2 : (foldI (9223372036854775807) % 2 == 0) = true := by simp; omega
    have t3 : decide ((enc (foldI (9223372036854775807))).length ≤ (enc (foldI (-9223372036854775808))).length) = true := decide_eq_true hl1
    have t3' : decide (((enc (foldI (9223372036854775807))).length : Int) ≤ ((enc (foldI (-9223372036854775808))).length : Int)) = true := decide_eq_true (by omega)
    have t4 : decide (((enc (foldI (-9223372036854775808))).length : Int) ≤ ((enc (foldI (9223372036854775807))).length : Int) + 1) = true := decide_eq_true (by omega)
    have HG1 : Hid (getL 0 0 (enc (foldI (9223372036854775807))) = (foldI (9223372036854775807), ((enc (foldI (9223372036854775807))).length : Int), 0)) := by have h := getL_enc hm0.1 hm0.2 []; rw [List.append_nil] at h; exact h
    have HG2 : Hid (getL 0 0 (enc (foldI (-9223372036854775808))) = (foldI (-9223372036854775808), ((enc (foldI (-9223372036854775808))).length : Int), 0)) := by have h := getL_enc hm1.1 hm1.2 []; rw [List.append_nil] at h; exact h
    have hbm := enc_byte hm0.1 hm0.2
    have hbn := enc_byte hm1.1 hm1.2
    clear hn1 hn2 hl1 hl2
    go_enter Try.func3, Try.ntmps3
    go_wp2_with (first
      | (go_at_call 4; go_must (refine (awake_any _).mono ?_); rintro e w1 ⟨rfl, hB1⟩; have hz1 := hB1.size; have P1 : Hid True := trivial)
      | (go_at_call 5; have hq := P1; clear hq; go_must (refine (putint_one (-9223372036854775808) _ _ (by simp) (by omega)).mono ?_); rintro e w2 ⟨v2, rfl, hown2, hbe2⟩; go_must (have hz2 := hbe2.size; have hB2 := hB1.trans (hbe2.mono (by omega)); clear P1 hB1 hbe2; have P2 : Hid True := trivial))
      | (go_at_call 5; have hq := P2; clear hq; go_must (refine (putint_one b _ _ (by simp) hb).mono ?_); rintro e w3 ⟨v3, rfl, hown3, hbe3⟩; go_must (have hz3 := hbe3.size; have hB3 := hB2.trans (hbe3.mono (by omega)); have hsee2 := Sees.own (own_below hown2 hbe3 (Nat.le_refl _)) (wf_bytes hba); have hsee3 := Sees.own hown3 (wf_bytes hbb); clear P2 hB2 hbe3 hown2 hown3; have P3 : Hid True := trivial))
      | (go_at_call 6; have hq := P3; clear hq; go_must (refine (same_any v2 v3 _ _ _ hsee2 hsee3).mono ?_); rintro e w4 ⟨rfl, n4, rfl⟩; go_must (rw [HEQ.out]; have hB4 := below_drewN hB3 n4; have hz4 : w.heap.size ≤ (w3.drewN n4).heap.size := hB4.size; clear P3 hB3 hsee2 hsee3; generalize w3.drewN n4 = w4 at hB4 hz4 ⊢; have P4 : Hid True := trivial))
      | (go_at_call 5; have hq := P4; clear hq; rw [HW.out, if_pos (by omega)]; go_must (refine (putint_one (9223372036854775807) _ _ (by simp) (by omega)).mono ?_); rintro e w5 ⟨v5, rfl, hown5, hbe5⟩; go_must (have hz5 := hbe5.size; have hB5 := hB4.trans (hbe5.mono (by omega)); have hsee5 := Sees.own hown5 (wf_bytes hbm); clear P4 hB4 hbe5 hown5; have P5 : Hid True := trivial))
      | (go_at_call 7; have hq := P5; clear hq; go_must (refine (get_eq hsee5 HG1.out).mono ?_); rintro e w5 ⟨rfl, rfl⟩; go_must (clear P5 hsee5; have P6 : Hid True := trivial))
      | (go_at_call 5; have hq := P6; clear hq; rw [HW.out]; (first | rw [if_pos (by omega)] | rw [if_neg (by omega)]); go_must (refine (putint_one (-9223372036854775808) _ _ (by simp) (by omega)).mono ?_); rintro e w6 ⟨v6, rfl, hown6, hbe6⟩; go_must (have hz6 := hbe6.size; have hB6 := hB5.trans (hbe6.mono (by omega)); have hsee6 := Sees.own hown6 (wf_bytes hbn); clear P6 hB5 hbe6 hown6; have P7 : Hid True := trivial))
      | (go_at_call 7; have hq := P7; clear hq; go_must (refine (get_eq hsee6 HG2.out).mono ?_); rintro e w6 ⟨rfl, rfl⟩; go_must (clear P7 hsee6; have P8 : Hid True := trivial))
      | (go_at_call 5; have hq := P8; clear hq; go_must (refine (putint_one (-9223372036854775808) _ _ (by simp) (by omega)).mono ?_); rintro e w7 ⟨v7, rfl, hown7, hbe7⟩; go_must (have hz7 := hbe7.size; have hB7 := hB6.trans (hbe7.mono (by omega)); clear P8 hB6 hbe7; have P9 : Hid True := trivial))
      | (go_at_call 5; have hq := P9; clear hq; go_must (refine (putint_one b _ _ (by simp) hb).mono ?_); rintro e w8 ⟨v8, rfl, hown8, hbe8⟩; go_must (have hz8 := hbe8.size; have hB8 := hB7.trans (hbe8.mono (by omega)); have hown7' := own_below hown7 hbe8 (Nat.le_refl _); have hsee8 := Sees.own hown8 (wf_bytes hbb); clear P9 hB7 hbe8 hown7 hown8; have PA : Hid True := trivial))
      | (at_builtin; have hq := PA; clear hq; go_must (refine wpList_append_sees_if rfl (.tmp 83) (.tmp 86) 23 rfl _ 5 i5 (.int .u8 0) 1 Try.underlying23 hi5 hz50 hz51 hz52 rfl .u8 _ _ rfl hown7' _ _ rfl hsee8 (by unfold maxLen; omega) (by omega) (by omega) ?_); intro v9 w9 hown9 hg9; go_must (have hb9 := below_grown hown7' hg9 (by omega); have hz9 := hb9.size; have hB9 := hB8.trans (hb9.mono (by omega)); clear PA hB8 hown7' hsee8 hg9 hb9; have PB : Hid True := trivial))
      | (go_at_call 5; have hq := PB; clear hq; go_must (refine (putint_two (-9223372036854775808) b _ _ (by simp) (by omega) hb).mono ?_); rintro e wA ⟨vA, rfl, hownA, hbeA⟩; go_must (have hBA := hB9.trans (hbeA.mono (by omega)); have hsee9 := Sees.own (own_below hown9 hbeA (Nat.le_refl _)) (wf_bytes hbab); have hseeA := Sees.own hownA (wf_bytes hbab); clear PB hB9 hown9 hownA hbeA; have PC : Hid True := trivial))
      | (go_at_call 6; have hq := PC; clear hq; go_must (refine (same_any v9 vA _ _ _ hsee9 hseeA).mono ?_); rintro e wB ⟨rfl, nB, rfl⟩; go_must (rw [eqB_true (rfl : enc (foldI (-9223372036854775808)) ++ enc (foldI b) = enc (foldI (-9223372036854775808)) ++ enc (foldI b))]; have hBB := below_drewN hBA nB)))
    go_ret
    exact ⟨rfl, hBB⟩
  · have hlo : -9223372036854775808 < a := by omega
    have hpn : a < 0 := by omega
    clear hp hl
    have hn1 : foldI (-a - 1) + 1 = foldI (a) := by unfold foldI; (repeat' split) <;> omega
    have hn2 : foldI (-a - 1) % 2 = 0 := by unfold foldI; (repeat' split) <;> omega
    have hm0 := fold_bd (n := -a - 1) (by omega) (by omega)
    have hm1 := fold_bd (n := a) (by omega) (by omega)
    have hl1 := enc_mono (Int.le_of_lt (show foldI (-a - 1) < foldI (a) by omega))
    have hl2 := enc_step hm0.1
    rw [hn1] at hl2
    have L1 := enc_len (foldI (-a - 1))
    have hm2 : foldI (-a - 1) + 1 < 18446744073709551616 := by omega
    have t1 : (foldI (a) == foldI (-a - 1) + 1) = true := by simp; omega
    have t2 : (foldI (-a - 1) % 2 == 0) = true := by simp; omega
    have t3 : decide ((enc (foldI (-a - 1))).length ≤ (enc (foldI (a))).length) = true := decide_eq_true hl1
    have t3' : decide (((enc (foldI (-a - 1))).length : Int) ≤ ((enc (foldI (a))).length : Int)) = true := decide_eq_true (by omega)
    have t4 : decide (((enc (foldI (a))).length : Int) ≤ ((enc (foldI (-a - 1))).length : Int) + 1) = true := decide_eq_true (by omega)
    have HG1 : Hid (getL 0 0 (enc (foldI (-a - 1))) = (foldI (-a - 1), ((enc (foldI (-a - 1))).length : Int), 0)) := by have h := getL_enc hm0.1 hm0.2 []; rw [List.append_nil] at h; exact h
    have HG2 : Hid (getL 0 0 (enc (foldI (a))) = (foldI (a), ((enc (foldI (a))).length : Int), 0)) := by have h := getL_enc hm1.1 hm1.2 []; rw [List.append_nil] at h; exact h
    have hbm := enc_byte hm0.1 hm0.2
    have hbn := enc_byte hm1.1 hm1.2
    clear hn1 hn2 hl1 hl2
    go_enter Try.func3, Try.ntmps3
    go_wp2_with (first
      | (go_at_call 4; go_must (refine (awake_any _).mono ?_); rintro e w1 ⟨rfl, hB1⟩; have hz1 := hB1.size; have P1 : Hid True := trivial)
      | (go_at_call 5; have hq := P1; clear hq; go_must (refine (putint_one (a) _ _ (by simp) (by omega)).mono ?_); rintro e w2 ⟨v2, rfl, hown2, hbe2⟩; go_must (have hz2 := hbe2.size; have hB2 := hB1.trans (hbe2.mono (by omega)); clear P1 hB1 hbe2; have P2 : Hid True := trivial))
      | (go_at_call 5; have hq := P2; clear hq; go_must (refine (putint_one b _ _ (by simp) hb).mono ?_); rintro e w3 ⟨v3, rfl, hown3, hbe3⟩; go_must (have hz3 := hbe3.size; have hB3 := hB2.trans (hbe3.mono (by omega)); have hsee2 := Sees.own (own_below hown2 hbe3 (Nat.le_refl _)) (wf_bytes hba); have hsee3 := Sees.own hown3 (wf_bytes hbb); clear P2 hB2 hbe3 hown2 hown3; have P3 : Hid True := trivial))
      | (go_at_call 6; have hq := P3; clear hq; go_must (refine (same_any v2 v3 _ _ _ hsee2 hsee3).mono ?_); rintro e w4 ⟨rfl, n4, rfl⟩; go_must (rw [HEQ.out]; have hB4 := below_drewN hB3 n4; have hz4 : w.heap.size ≤ (w3.drewN n4).heap.size := hB4.size; clear P3 hB3 hsee2 hsee3; generalize w3.drewN n4 = w4 at hB4 hz4 ⊢; have P4 : Hid True := trivial))
      | (go_at_call 5; have hq := P4; clear hq; go_must (refine (putint_one (-a - 1) _ _ (by simp) (by omega)).mono ?_); rintro e w5 ⟨v5, rfl, hown5, hbe5⟩; go_must (have hz5 := hbe5.size; have hB5 := hB4.trans (hbe5.mono (by omega)); have hsee5 := Sees.own hown5 (wf_bytes hbm); clear P4 hB4 hbe5 hown5; have P5 : Hid True := trivial))
      | (go_at_call 7; have hq := P5; clear hq; go_must (refine (get_eq hsee5 HG1.out).mono ?_); rintro e w5 ⟨rfl, rfl⟩; go_must (clear P5 hsee5; have P6 : Hid True := trivial))
      | (go_at_call 5; have hq := P6; clear hq; go_must (refine (putint_one (a) _ _ (by simp) (by omega)).mono ?_); rintro e w6 ⟨v6, rfl, hown6, hbe6⟩; go_must (have hz6 := hbe6.size; have hB6 := hB5.trans (hbe6.mono (by omega)); have hsee6 := Sees.own hown6 (wf_bytes hbn); clear P6 hB5 hbe6 hown6; have P7 : Hid True := trivial))
      | (go_at_call 7; have hq := P7; clear hq; go_must (refine (get_eq hsee6 HG2.out).mono ?_); rintro e w6 ⟨rfl, rfl⟩; go_must (clear P7 hsee6; have P8 : Hid True := trivial))
      | (go_at_call 5; have hq := P8; clear hq; go_must (refine (putint_one (a) _ _ (by simp) (by omega)).mono ?_); rintro e w7 ⟨v7, rfl, hown7, hbe7⟩; go_must (have hz7 := hbe7.size; have hB7 := hB6.trans (hbe7.mono (by omega)); clear P8 hB6 hbe7; have P9 : Hid True := trivial))
      | (go_at_call 5; have hq := P9; clear hq; go_must (refine (putint_one b _ _ (by simp) hb).mono ?_); rintro e w8 ⟨v8, rfl, hown8, hbe8⟩; go_must (have hz8 := hbe8.size; have hB8 := hB7.trans (hbe8.mono (by omega)); have hown7' := own_below hown7 hbe8 (Nat.le_refl _); have hsee8 := Sees.own hown8 (wf_bytes hbb); clear P9 hB7 hbe8 hown7 hown8; have PA : Hid True := trivial))
      | (at_builtin; have hq := PA; clear hq; go_must (refine wpList_append_sees_if rfl (.tmp 83) (.tmp 86) 23 rfl _ 5 i5 (.int .u8 0) 1 Try.underlying23 hi5 hz50 hz51 hz52 rfl .u8 _ _ rfl hown7' _ _ rfl hsee8 (by unfold maxLen; omega) (by omega) (by omega) ?_); intro v9 w9 hown9 hg9; go_must (have hb9 := below_grown hown7' hg9 (by omega); have hz9 := hb9.size; have hB9 := hB8.trans (hb9.mono (by omega)); clear PA hB8 hown7' hsee8 hg9 hb9; have PB : Hid True := trivial))
      | (go_at_call 5; have hq := PB; clear hq; go_must (refine (putint_two (a) b _ _ (by simp) (by omega) hb).mono ?_); rintro e wA ⟨vA, rfl, hownA, hbeA⟩; go_must (have hBA := hB9.trans (hbeA.mono (by omega)); have hsee9 := Sees.own (own_below hown9 hbeA (Nat.le_refl _)) (wf_bytes hbab); have hseeA := Sees.own hownA (wf_bytes hbab); clear PB hB9 hown9 hownA hbeA; have PC : Hid True := trivial))
      | (go_at_call 6; have hq := PC; clear hq; go_must (refine (same_any v9 vA _ _ _ hsee9 hseeA).mono ?_); rintro e wB ⟨rfl, nB, rfl⟩; go_must (rw [eqB_true (rfl : enc (foldI (a)) ++ enc (foldI b) = enc (foldI (a)) ++ enc (foldI b))]; have hBB := below_drewN hBA nB)))
    go_ret
    exact ⟨rfl, hBB⟩
end Go.Proofs.Ytkfeomgfpokeeab
