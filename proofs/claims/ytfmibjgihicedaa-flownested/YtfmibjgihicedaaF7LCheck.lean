/-
  What the landed Check, checkAsked, Cost and Loops answer. No condition.
-/
import Derived.Test.YtfmibjgihicedaaF7LFind
namespace Go.Proofs.Ytfmibjgihicedaa
open Go.RowKit
set_option linter.unusedVariables false
set_option maxRecDepth 20000

theorem keepH {p : Prop} (h : p) : Hid p := h
theorem r2i {a a' b b' : Int} (h1 : a = a') (h2 : b = b') : Ending.returned (.tuple #[.int .i64 a, .int .i64 b]) = .returned (.tuple #[.int .i64 a', .int .i64 b']) := by rw [h1, h2]
theorem SeesI.shape {w : World} {v : Value} {xs : List In} (h : SeesI w v xs) : ∃ a cap, v = .slice a xs.length cap := by
  obtain ⟨a, cap, rfl, _⟩ := h
  exact ⟨a, cap, rfl⟩
set_option maxHeartbeats 3200000 in
theorem check_any (v : Value) (xs : List In) (w : World) (hs : SeesI w v xs) {P E : Int} (hP : Hid (checkL xs = (P, E))) :
    Calls Try.prog 10 #[v] w fun e w' => e = .returned (.tuple #[.int .i64 P, .int .i64 E]) ∧ Below w.heap.size w w' := by
  have HS := keepH hs
  obtain ⟨a, cap, rfl, hc, hm, hn0, hcell⟩ := hs
  have HC : Hid (xs ≠ [] → ∃ b off, a = some ⟨b, off, none⟩ ∧ b < w.heap.size ∧ ∀ k, k < xs.length → At w b (off + k * 5) (xs.getD k In.nil)) := hcell
  clear hcell hn0
  by_cases h0 : xs.length = 0
  · have HE : Hid (P = 0 ∧ E = 10) := by have := hP.out; unfold checkL at this; rw [if_pos h0] at this; injection this with a b; exact ⟨a.symm, b.symm⟩
    rw [h0]
    go_enter Try.func10, Try.ntmps10
    go_wp2
    go_ret2
    exact ⟨r2i HE.out.1.symm HE.out.2.symm, Below.refl _ _⟩
  have h0b : ((xs.length : Int) == 0) = false := by simp; exact fun h => h0 (by rw [h]; rfl)
  by_cases h64 : 64 < xs.length
  · have HE : Hid (P = 0 ∧ E = 11) := by have := hP.out; unfold checkL at this; rw [if_neg h0, if_pos h64] at this; injection this with a b; exact ⟨a.symm, b.symm⟩
    go_enter Try.func10, Try.ntmps10
    go_wp2
    go_ret2
    exact ⟨r2i HE.out.1.symm HE.out.2.symm, Below.refl _ _⟩
  have HP : Hid ((P, E) = match first (placeB xs) xs.length with
      | some k => ((k : Int), placeE xs k)
      | none => match crossF [] (loopsL xs) with
        | some t => (t, 31)
        | none => match first (intrB xs (loopsL xs)) xs.length with
          | some p => ((p : Int), 31)
          | none => if 256 < costC (loopsL xs) xs.length then (0, 32) else (0, 0)) := by
    have h := hP.out
    unfold checkL at h
    rw [if_neg h0, if_neg h64] at h
    exact h.symm
  clear hP
  obtain ⟨b, off, rfl, hb, hat⟩ := HC.out (fun h => by rw [h] at h0; simp at h0)
  have HA : Hid (∀ w1, Below w.heap.size w w1 → ∀ k, k < xs.length → At w1 b (off + k * 5) (xs.getD k In.nil)) := fun w1 h1 k hk => (hat k hk).below h1 hb
  clear hat HC
  go_enter Try.func10, Try.ntmps10
  go_wp2
  go_loopw [21] (fun i wr => ∃ k : Nat, k ≤ xs.length ∧ i = .int .i64 k ∧ Hid (∀ j, j < k → placeB xs j = false) ∧ Below w.heap.size w wr) (fun i _ => xs.length - (intOf i).toNat)
  case atStart => exact ⟨0, by omega, rfl, fun j hj => by omega, Below.refl _ _⟩
  case round =>
    obtain ⟨k, hk, rfl, HK, hbe⟩ := hrel
    have hsz := hbe.size
    by_cases hlt : k < xs.length
    · obtain ⟨q, HQ⟩ : ∃ q, Hid (q = placeE xs k) := ⟨_, rfl⟩
      by_cases hq : q = 0
      · subst hq
        have HB : Hid (placeB xs k = false) := by show _ = _; unfold placeB; rw [← HQ.out]; rfl
        go_wp2_with (go_at_call 22; go_must (refine (place_any b off cap xs k _ hlt (by omega) (by omega) (HA.out _ hbe)).mono ?_); rintro e w1 ⟨he, hb1⟩; go_must (rw [← HQ.out] at he; subst he; have hbe1 := hbe.trans (hb1.mono hsz); clear hb1))
        go_roundw
        case rel => exact ⟨k + 1, by omega, by go_num, fun j hj => by
          by_cases e : j = k
          · rw [e]; exact HB.out
          · exact HK.out j (by omega), hbe1⟩
        case measure => simp [intOf]; omega
      · have hqb : (q != 0) = true := by simpa using hq
        have HB : Hid (P = (k : Int) ∧ E = q) := by
          have h := HP.out
          rw [first_some HK.out hlt (by unfold placeB; rw [← HQ.out]; simpa using hq)] at h
          dsimp only at h
          injection h with h1 h2
          exact ⟨h1, by rw [h2, HQ.out]⟩
        go_wp2_with (go_at_call 22; go_must (refine (place_any b off cap xs k _ hlt (by omega) (by omega) (HA.out _ hbe)).mono ?_); rintro e w1 ⟨he, hb1⟩; go_must (rw [← HQ.out] at he; subst he; have hbe1 := hbe.trans (hb1.mono hsz); clear hb1))
        go_ret2
        exact ⟨r2i HB.out.1.symm HB.out.2.symm, hbe1⟩
    · obtain rfl : k = xs.length := by omega
      have HPl : Hid (Placed xs) := HK.out
      have HLn : Hid ((loopsL xs).length ≤ 64) := by have := loopsU_len xs xs.length; show _ ≤ _; unfold loopsL; omega
      have HBn : Hid (Bnd (loopsL xs)) := bnd_ok HPl.out
      have HP2 : Hid ((P, E) = match crossF [] (loopsL xs) with
        | some t => (t, 31)
        | none => match first (intrB xs (loopsL xs)) xs.length with
          | some p => ((p : Int), 31)
          | none => if 256 < costC (loopsL xs) xs.length then (0, 32) else (0, 0)) := by
        have h := HP.out
        rw [first_none HK.out] at h
        exact h
      clear HP
      have HSr := HS.out.below hbe
      obtain ⟨R, HR⟩ : ∃ R, Hid (R = crossF [] (loopsL xs)) := ⟨_, rfl⟩
      rw [← HR.out] at HP2
      obtain ⟨I, HI⟩ : ∃ I, Hid (I = first (intrB xs (loopsL xs)) xs.length) := ⟨_, rfl⟩
      rw [← HI.out] at HP2
      have HI2 : Hid (optN I = optN (first (intrB xs (loopsL xs)) xs.length)) := by show _ = _; rw [HI.out]
      obtain ⟨C, HCo⟩ : ∃ C, Hid (C = costC (loopsL xs) xs.length) := ⟨_, rfl⟩
      rw [← HCo.out] at HP2
      have HSr : Hid (SeesI wr (.slice (some ⟨b, off, none⟩) xs.length cap) xs) := HSr
      have hx64 : xs.length ≤ 64 := by omega
      cases R with
      | some t =>
        have HB : Hid (P = t ∧ E = 31) := by have h := HP2.out; dsimp only at h; injection h with h1 h2; exact ⟨h1, h2⟩
        go_wp2_with (first
          | (go_at_call 23; go_must (refine (loops_any _ xs _ HSr.out hx64).mono ?_); rintro e w1 ⟨v1, rfl, hown, hb1⟩; go_must (have hL : Hid (SeesL w1 v1 (loopsL xs)) := own_seesL hown; have hbe1 := hbe.trans (hb1.mono hsz); clear hb1 hown))
          | (go_at_call 24; go_must (refine (crossing_any _ (loopsL xs) _ HLn.out hL.out HR).mono ?_); rintro e w2 ⟨he, hb2⟩; go_must (simp only [optI] at he; subst he; have hbe2 := hbe1.trans (hb2.mono hbe1.size); clear hb2)))
        go_ret2
        exact ⟨r2i HB.out.1.symm HB.out.2.symm, hbe2⟩
      | none =>
        cases I with
        | some p =>
          have HB : Hid (P = (p : Int) ∧ E = 31) := by have h := HP2.out; dsimp only at h; injection h with h1 h2; exact ⟨h1, h2⟩
          go_wp2_with (first
            | (go_at_call 23; go_must (refine (loops_any _ xs _ HSr.out hx64).mono ?_); rintro e w1 ⟨v1, rfl, hown, hb1⟩; go_must (have hL : Hid (SeesL w1 v1 (loopsL xs)) := own_seesL hown; have hbe1 := hbe.trans (hb1.mono hsz); clear hb1 hown))
            | (go_at_call 24; go_must (refine (crossing_any _ (loopsL xs) _ HLn.out hL.out HR).mono ?_); rintro e w2 ⟨he, hb2⟩; go_must (simp only [optI] at he; subst he; have hbe2 := hbe1.trans (hb2.mono hbe1.size); have hL2 : Hid (SeesL w2 v1 (loopsL xs)) := SeesL.below hL.out hb2; clear hb2 hL))
            | (go_at_call 25; go_must (refine (intruder_any _ _ xs (loopsL xs) _ (HS.out.below hbe2) hL2.out hx64 HLn.out HI2).mono ?_); rintro e w3 ⟨he, hb3⟩; go_must (simp only [optI, optN] at he; subst he; have hbe3 := hbe2.trans (hb3.mono hbe2.size); clear hb3)))
          go_ret2
          exact ⟨r2i HB.out.1.symm HB.out.2.symm, hbe3⟩
        | none =>
          by_cases hC : 256 < C
          · have HB : Hid (P = 0 ∧ E = 32) := by have h := HP2.out; dsimp only at h; rw [if_pos hC] at h; injection h with h1 h2; exact ⟨h1, h2⟩
            go_wp2_with (first
              | (go_at_call 23; go_must (refine (loops_any _ xs _ HSr.out hx64).mono ?_); rintro e w1 ⟨v1, rfl, hown, hb1⟩; go_must (have hL : Hid (SeesL w1 v1 (loopsL xs)) := own_seesL hown; have hbe1 := hbe.trans (hb1.mono hsz); clear hb1 hown))
              | (go_at_call 24; go_must (refine (crossing_any _ (loopsL xs) _ HLn.out hL.out HR).mono ?_); rintro e w2 ⟨he, hb2⟩; go_must (simp only [optI] at he; subst he; have hbe2 := hbe1.trans (hb2.mono hbe1.size); have hL2 : Hid (SeesL w2 v1 (loopsL xs)) := SeesL.below hL.out hb2; clear hb2 hL))
              | (go_at_call 25; go_must (refine (intruder_any _ _ xs (loopsL xs) _ (HS.out.below hbe2) hL2.out hx64 HLn.out HI2).mono ?_); rintro e w3 ⟨he, hb3⟩; go_must (simp only [optI, optN] at he; subst he; have hbe3 := hbe2.trans (hb3.mono hbe2.size); have hL3 : Hid (SeesL w3 v1 (loopsL xs)) := SeesL.below hL2.out hb3; clear hb3 hL2))
              | (go_at_call 26; go_must (refine (cost_any _ _ xs (loopsL xs) _ (HS.out.below hbe3) hL3.out hx64 HLn.out HBn.out HCo).mono ?_); rintro e w4 ⟨he, hb4⟩; go_must (subst he; have hbe4 := hbe3.trans (hb4.mono hbe3.size); clear hb4)))
            go_ret2
            exact ⟨r2i HB.out.1.symm HB.out.2.symm, hbe4⟩
          · have HB : Hid (P = 0 ∧ E = 0) := by have h := HP2.out; dsimp only at h; rw [if_neg hC] at h; injection h with h1 h2; exact ⟨h1, h2⟩
            go_wp2_with (first
              | (go_at_call 23; go_must (refine (loops_any _ xs _ HSr.out hx64).mono ?_); rintro e w1 ⟨v1, rfl, hown, hb1⟩; go_must (have hL : Hid (SeesL w1 v1 (loopsL xs)) := own_seesL hown; have hbe1 := hbe.trans (hb1.mono hsz); clear hb1 hown))
              | (go_at_call 24; go_must (refine (crossing_any _ (loopsL xs) _ HLn.out hL.out HR).mono ?_); rintro e w2 ⟨he, hb2⟩; go_must (simp only [optI] at he; subst he; have hbe2 := hbe1.trans (hb2.mono hbe1.size); have hL2 : Hid (SeesL w2 v1 (loopsL xs)) := SeesL.below hL.out hb2; clear hb2 hL))
              | (go_at_call 25; go_must (refine (intruder_any _ _ xs (loopsL xs) _ (HS.out.below hbe2) hL2.out hx64 HLn.out HI2).mono ?_); rintro e w3 ⟨he, hb3⟩; go_must (simp only [optI, optN] at he; subst he; have hbe3 := hbe2.trans (hb3.mono hbe2.size); have hL3 : Hid (SeesL w3 v1 (loopsL xs)) := SeesL.below hL2.out hb3; clear hb3 hL2))
              | (go_at_call 26; go_must (refine (cost_any _ _ xs (loopsL xs) _ (HS.out.below hbe3) hL3.out hx64 HLn.out HBn.out HCo).mono ?_); rintro e w4 ⟨he, hb4⟩; go_must (subst he; have hbe4 := hbe3.trans (hb4.mono hbe3.size); clear hb4)))
            go_ret2
            exact ⟨r2i HB.out.1.symm HB.out.2.symm, hbe4⟩
end Go.Proofs.Ytfmibjgihicedaa
