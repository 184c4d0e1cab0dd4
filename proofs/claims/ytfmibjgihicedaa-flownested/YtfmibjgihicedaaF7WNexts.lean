/-
  FlowNexts, walked: it answers true. Condition: the code takes up no more bytes than an argument may.
-/
import Derived.Test.YtfmibjgihicedaaF7WKit
namespace Go.Proofs.Ytfmibjgihicedaa
open Go.RowKit Go.Deep
set_option linter.unusedVariables false
set_option maxRecDepth 20000

theorem nextA_ok {xs : List In} {k : Int} : (∀ x ∈ nextA xs k, (Lit.int .i64 x).wf = true) ∧ (nextA xs k).length ≤ 64 := by
  unfold nextA
  by_cases h : askL xs k = 0
  · rw [if_pos h]
    obtain ⟨T, n, rfl, hn⟩ := ask_ok h
    have hf := far_bd (nth xs n)
    have ht := T.top
    have e : ((n : Int)).toNat = n := by omega
    rw [e]
    have hw : ∀ x : Int, -63 ≤ x → x ≤ 130 → (Lit.int .i64 x).wf = true := fun x h1 h2 => WalkArith.wf_i64 (by omega)
    generalize nth xs n = i at hf
    unfold nextL
    constructor
    · intro x hx
      refine hw x ?_ ?_ <;> (split at hx <;> (try split at hx) <;> (try split at hx) <;> simp at hx <;> omega)
    · split <;> (try split) <;> (try split) <;> simp
  · rw [if_neg h]; simp
theorem aroundA_ok {xs : List In} {k : Int} : (∀ x ∈ aroundA xs k, (Lit.int .i64 x).wf = true) ∧ (aroundA xs k).length ≤ 64 := by
  unfold aroundA
  by_cases h : askL xs k = 0
  · rw [if_pos h]
    obtain ⟨T, _⟩ := ask_ok h
    refine ⟨wf_ats T.top k, ?_⟩
    have h1 := around_len (loopsL xs) k
    have h2 := loopsU_len xs xs.length
    have h3 := T.top
    unfold loopsL at *
    omega
  · rw [if_neg h]; simp
set_option maxHeartbeats 3200000 in
theorem nexts_walk (v : Value) (xs : List In) (at_ : Int) (w : World) (hs : SeesI w v xs) (hz : xs.length * 40 ≤ 140737488355328) (hat : -9223372036854775808 ≤ at_ ∧ at_ ≤ 9223372036854775807) :
    Calls Try.prog 4 #[v, .int .i64 at_] w fun e w' => e = .returned (.bool true) ∧ Below w.heap.size w w' := by
  have HS : Hid (SeesI w v xs) := hs
  obtain ⟨a, cap, rfl⟩ := hs.shape
  clear hs
  have HZ : Hid (xs.length * 40 ≤ 140737488355328) := hz
  clear hz
  go_enter Try.func4, Try.ntmps4
  go_wp2_with (go_at_call 8; go_must (refine (awake_any _).mono ?_); rintro e w1 ⟨rfl, hb1⟩)
  go_loopw [5] (fun i wr => ∃ p : Int, -2 ≤ p ∧ p ≤ 68 ∧ i = .int .i64 p ∧ Below w.heap.size w wr) (fun i _ => (68 - intOf i).toNat)
  case atStart => exact ⟨-2, by omega, by omega, rfl, hb1⟩
  case round =>
    clear hb1
    obtain ⟨p, hp0, hp1, rfl, hbe⟩ := hrel
    have K1 : Hid True := trivial
    have K2 : Hid True := trivial
    by_cases hlt : p < 68
    · by_cases h2 : p = -2
      · subst h2
        obtain ⟨A, HA⟩ : ∃ A, Hid (A = askL xs at_) := ⟨_, rfl⟩
        obtain ⟨N, HN⟩ : ∃ N, Hid (N = nextA xs at_) := ⟨_, rfl⟩
        obtain ⟨M, HM⟩ : ∃ M, Hid (M = aroundA xs at_) := ⟨_, rfl⟩
        have HNw : Hid (∀ x ∈ N, (Lit.int .i64 x).wf = true) := by rw [HN.out]; exact nextA_ok.1
        have HNl : Hid (N.length ≤ 64) := by rw [HN.out]; exact nextA_ok.2
        have HMw : Hid (∀ x ∈ M, (Lit.int .i64 x).wf = true) := by rw [HM.out]; exact aroundA_ok.1
        have HMl : Hid (M.length ≤ 64) := by rw [HM.out]; exact aroundA_ok.2
        go_wp2_with (first
          | (go_at_call 9; (have hq := K1; clear hq); go_must (refine (copied_any _ xs _ (HS.out.below hbe) HZ.out).mono ?_); rintro e w2 ⟨u, rfl, hown, hb2⟩; go_must (have HU : Hid (SeesI w2 u xs) := own_seesI hown; have hB2 := hbe.trans (hb2.mono hbe.size); obtain ⟨au, cu, rfl⟩ := HU.out.shape; clear hb2 hown K1))
          | (go_at_call 12; go_must (refine (lnext_any _ xs _ _ HU.out HA).mono ?_); rintro e w3 ⟨x1, rfl, ho, hb3⟩; go_must (have hB3 := hB2.trans (hb3.mono hB2.size); have S1 : Hid (Sees .i64 w3 x1 N) := by (rw [← HN.out] at ho; exact Sees.own ho HNw.out)))
          | (go_at_call 13; go_must (refine (rnext_any _ xs _ _ (HS.out.below hB3) HA).mono ?_); rintro e w4 ⟨x2, rfl, ho4, hb4⟩; go_must (have hB4 := hB3.trans (hb4.mono hB3.size); have S2 : Hid (Sees .i64 w4 x2 N ∧ Sees .i64 w4 x1 N) := by (rw [← HN.out] at ho4; exact ⟨Sees.own ho4 HNw.out, S1.out.below hb4 (Nat.le_refl _)⟩)))
          | (go_at_call 9; go_must (refine (copied_any _ xs _ (HS.out.below hB4) HZ.out).mono ?_); rintro e w5 ⟨u5, rfl, hown5, hb5⟩; go_must (have HU5 : Hid (SeesI w5 u5 xs) := own_seesI hown5; have hB5 := hB4.trans (hb5.mono hB4.size); have S3 : Hid (Sees .i64 w5 x2 N ∧ Sees .i64 w5 x1 N) := ⟨S2.out.1.below hb5 (Nat.le_refl _), S2.out.2.below hb5 (Nat.le_refl _)⟩; obtain ⟨au5, cu5, rfl⟩ := HU5.out.shape; clear hb5 hown5))
          | (go_at_call 14; go_must (refine (laround_any _ xs _ _ HU5.out HA).mono ?_); rintro e w6 ⟨y1, rfl, ho6, hb6⟩; go_must (have hB6 := hB5.trans (hb6.mono hB5.size); have S4 : Hid (Sees .i64 w6 x2 N ∧ Sees .i64 w6 x1 N ∧ Sees .i64 w6 y1 M) := by (rw [← HM.out] at ho6; exact ⟨S3.out.1.below hb6 (Nat.le_refl _), S3.out.2.below hb6 (Nat.le_refl _), Sees.own ho6 HMw.out⟩)))
          | (go_at_call 15; go_must (refine (raround_any _ xs _ _ (HS.out.below hB6) HA).mono ?_); rintro e w7 ⟨y2, rfl, ho7, hb7⟩; go_must (have hB7 := hB6.trans (hb7.mono hB6.size); have S5 : Hid (Sees .i64 w7 x2 N ∧ Sees .i64 w7 x1 N ∧ Sees .i64 w7 y1 M ∧ Sees .i64 w7 y2 M) := by (rw [← HM.out] at ho7; exact ⟨S4.out.1.below hb7 (Nat.le_refl _), S4.out.2.1.below hb7 (Nat.le_refl _), S4.out.2.2.below hb7 (Nat.le_refl _), Sees.own ho7 HMw.out⟩)))
          | (go_at_call 16; (have hq := K2; clear hq); go_must (refine (ints_as S5.out.2.1 S5.out.1 HNl.out HNl.out (eqB_true rfl).symm).mono ?_); rintro e w8 ⟨rfl, n8, rfl⟩; go_must (clear K2))
          | (go_at_call 16; go_must (refine (ints_as (S5.out.2.2.1.drewN n8) (S5.out.2.2.2.drewN n8) HMl.out HMl.out (eqB_true rfl).symm).mono ?_); rintro e w9 ⟨rfl, n9, rfl⟩))
        go_roundw
        case rel => exact ⟨-1, by omega, by omega, rfl, below_drewN hB7 _⟩
        case measure => simp [intOf]
      · have h2b : (p == -2) = false := by simpa using h2
        obtain ⟨A, HA⟩ : ∃ A, Hid (A = askL xs p) := ⟨_, rfl⟩
        obtain ⟨N, HN⟩ : ∃ N, Hid (N = nextA xs p) := ⟨_, rfl⟩
        obtain ⟨M, HM⟩ : ∃ M, Hid (M = aroundA xs p) := ⟨_, rfl⟩
        have HNw : Hid (∀ x ∈ N, (Lit.int .i64 x).wf = true) := by rw [HN.out]; exact nextA_ok.1
        have HNl : Hid (N.length ≤ 64) := by rw [HN.out]; exact nextA_ok.2
        have HMw : Hid (∀ x ∈ M, (Lit.int .i64 x).wf = true) := by rw [HM.out]; exact aroundA_ok.1
        have HMl : Hid (M.length ≤ 64) := by rw [HM.out]; exact aroundA_ok.2
        go_wp2_with (first
          | (go_at_call 9; (have hq := K1; clear hq); go_must (refine (copied_any _ xs _ (HS.out.below hbe) HZ.out).mono ?_); rintro e w2 ⟨u, rfl, hown, hb2⟩; go_must (have HU : Hid (SeesI w2 u xs) := own_seesI hown; have hB2 := hbe.trans (hb2.mono hbe.size); obtain ⟨au, cu, rfl⟩ := HU.out.shape; clear hb2 hown K1))
          | (go_at_call 12; go_must (refine (lnext_any _ xs _ _ HU.out HA).mono ?_); rintro e w3 ⟨x1, rfl, ho, hb3⟩; go_must (have hB3 := hB2.trans (hb3.mono hB2.size); have S1 : Hid (Sees .i64 w3 x1 N) := by (rw [← HN.out] at ho; exact Sees.own ho HNw.out)))
          | (go_at_call 13; go_must (refine (rnext_any _ xs _ _ (HS.out.below hB3) HA).mono ?_); rintro e w4 ⟨x2, rfl, ho4, hb4⟩; go_must (have hB4 := hB3.trans (hb4.mono hB3.size); have S2 : Hid (Sees .i64 w4 x2 N ∧ Sees .i64 w4 x1 N) := by (rw [← HN.out] at ho4; exact ⟨Sees.own ho4 HNw.out, S1.out.below hb4 (Nat.le_refl _)⟩)))
          | (go_at_call 9; go_must (refine (copied_any _ xs _ (HS.out.below hB4) HZ.out).mono ?_); rintro e w5 ⟨u5, rfl, hown5, hb5⟩; go_must (have HU5 : Hid (SeesI w5 u5 xs) := own_seesI hown5; have hB5 := hB4.trans (hb5.mono hB4.size); have S3 : Hid (Sees .i64 w5 x2 N ∧ Sees .i64 w5 x1 N) := ⟨S2.out.1.below hb5 (Nat.le_refl _), S2.out.2.below hb5 (Nat.le_refl _)⟩; obtain ⟨au5, cu5, rfl⟩ := HU5.out.shape; clear hb5 hown5))
          | (go_at_call 14; go_must (refine (laround_any _ xs _ _ HU5.out HA).mono ?_); rintro e w6 ⟨y1, rfl, ho6, hb6⟩; go_must (have hB6 := hB5.trans (hb6.mono hB5.size); have S4 : Hid (Sees .i64 w6 x2 N ∧ Sees .i64 w6 x1 N ∧ Sees .i64 w6 y1 M) := by (rw [← HM.out] at ho6; exact ⟨S3.out.1.below hb6 (Nat.le_refl _), S3.out.2.below hb6 (Nat.le_refl _), Sees.own ho6 HMw.out⟩)))
          | (go_at_call 15; go_must (refine (raround_any _ xs _ _ (HS.out.below hB6) HA).mono ?_); rintro e w7 ⟨y2, rfl, ho7, hb7⟩; go_must (have hB7 := hB6.trans (hb7.mono hB6.size); have S5 : Hid (Sees .i64 w7 x2 N ∧ Sees .i64 w7 x1 N ∧ Sees .i64 w7 y1 M ∧ Sees .i64 w7 y2 M) := by (rw [← HM.out] at ho7; exact ⟨S4.out.1.below hb7 (Nat.le_refl _), S4.out.2.1.below hb7 (Nat.le_refl _), S4.out.2.2.below hb7 (Nat.le_refl _), Sees.own ho7 HMw.out⟩)))
          | (go_at_call 16; (have hq := K2; clear hq); go_must (refine (ints_as S5.out.2.1 S5.out.1 HNl.out HNl.out (eqB_true rfl).symm).mono ?_); rintro e w8 ⟨rfl, n8, rfl⟩; go_must (clear K2))
          | (go_at_call 16; go_must (refine (ints_as (S5.out.2.2.1.drewN n8) (S5.out.2.2.2.drewN n8) HMl.out HMl.out (eqB_true rfl).symm).mono ?_); rintro e w9 ⟨rfl, n9, rfl⟩))
        · go_ret
          exact ⟨rfl, below_drewN hB7 _⟩
        · go_roundw
          case rel => exact ⟨p + 1, by omega, by omega, by go_num, below_drewN hB7 _⟩
          case measure => simp [intOf]; omega
    · go_wp2
      go_ret
      exact ⟨rfl, hbe⟩
end Go.Proofs.Ytfmibjgihicedaa
