/-
  F7LCheck
  F7LRest
-/
import Derived.Test.YtkcofelpndlplaaML38
/-
  What the landed Check, checkAsked, Cost and Loops answer. No condition.
-/
namespace Go.Proofs.Ytkcofelpndlplaa
open Go.RowKit
set_option linter.unusedVariables false
set_option maxRecDepth 20000

theorem keepH {p : Prop} (h : p) : Hid p := h
theorem r2i {a a' b b' : Int} (h1 : a = a') (h2 : b = b') : Ending.returned (.tuple #[.int .i64 a, .int .i64 b]) = .returned (.tuple #[.int .i64 a', .int .i64 b']) := by rw [h1, h2]
theorem SeesI.shape {w : World} {v : Value} {xs : List In} (h : SeesI w v xs) : ∃ a cap, v = .slice a xs.length cap := by
  obtain ⟨a, cap, rfl, _⟩ := h
  exact ⟨a, cap, rfl⟩
set_option maxHeartbeats 3200000 in
theorem check_any (v : Value) (xs : List In) (w : World) (hs : SeesI w v xs) {P E : Int} (hP : Hid (checkL xs = (P, E))) :
    Calls Try.prog 16 #[v] w fun e w' => e = .returned (.tuple #[.int .i64 P, .int .i64 E]) ∧ Below w.heap.size w w' := by
  have HS := keepH hs
  obtain ⟨a, cap, rfl, hc, hm, hn0, hcell⟩ := hs
  have HC : Hid (xs ≠ [] → ∃ b off, a = some ⟨b, off, none⟩ ∧ b < w.heap.size ∧ ∀ k, k < xs.length → At w b (off + k * 5) (xs.getD k In.nil)) := hcell
  clear hcell hn0
  by_cases h0 : xs.length = 0
  · have HE : Hid (P = 0 ∧ E = 10) := by have := hP.out; unfold checkL at this; rw [if_pos h0] at this; injection this with a b; exact ⟨a.symm, b.symm⟩
    rw [h0]
    go_enter Try.func16, Try.ntmps16
    go_wp2
    go_ret2
    exact ⟨r2i HE.out.1.symm HE.out.2.symm, Below.refl _ _⟩
  have h0b : ((xs.length : Int) == 0) = false := by simp; exact fun h => h0 (by rw [h]; rfl)
  by_cases h64 : 64 < xs.length
  · have HE : Hid (P = 0 ∧ E = 11) := by have := hP.out; unfold checkL at this; rw [if_neg h0, if_pos h64] at this; injection this with a b; exact ⟨a.symm, b.symm⟩
    go_enter Try.func16, Try.ntmps16
    go_wp2
    go_ret2
    exact ⟨r2i HE.out.1.symm HE.out.2.symm, Below.refl _ _⟩
  have HP : Hid ((P, E) = match first (placeB xs) xs.length with
      | some k => ((k : Int), placeE xs k)
      | none => match crossF [] (loopsL xs) with
        | some t => (t, 31)
        | none => match first (intrB xs (loopsL xs)) xs.length with
          | some p => ((p : Int), 31)
          | none => if 256 < costC (loopsL xs) xs.length then (0, 32) else (0, 0)) := by
    have h := hP.out
    unfold checkL at h
    rw [if_neg h0, if_neg h64] at h
    exact h.symm
  clear hP
  obtain ⟨b, off, rfl, hb, hat⟩ := HC.out (fun h => by rw [h] at h0; simp at h0)
  have HA : Hid (∀ w1, Below w.heap.size w w1 → ∀ k, k < xs.length → At w1 b (off + k * 5) (xs.getD k In.nil)) := fun w1 h1 k hk => (hat k hk).below h1 hb
  clear hat HC
  go_enter Try.func16, Try.ntmps16
  go_wp2
  go_loopw [21] (fun i wr => ∃ k : Nat, k ≤ xs.length ∧ i = .int .i64 k ∧ Hid (∀ j, j < k → placeB xs j = false) ∧ Below w.heap.size w wr) (fun i _ => xs.length - (intOf i).toNat)
  case atStart => exact ⟨0, by omega, rfl, fun j hj => by omega, Below.refl _ _⟩
  case round =>
    obtain ⟨k, hk, rfl, HK, hbe⟩ := hrel
    have hsz := hbe.size
    by_cases hlt : k < xs.length
    · obtain ⟨q, HQ⟩ : ∃ q, Hid (q = placeE xs k) := ⟨_, rfl⟩
      by_cases hq : q = 0
      · subst hq
        have HB : Hid (placeB xs k = false) := by show _ = _; unfold placeB; rw [← HQ.out]; rfl
        go_wp2_with (go_at_call 24; go_must (refine (place_any b off cap xs k _ hlt (by omega) (by omega) (HA.out _ hbe)).mono ?_); rintro e w1 ⟨he, hb1⟩; go_must (rw [← HQ.out] at he; subst he; have hbe1 := hbe.trans (hb1.mono hsz); clear hb1))
        go_roundw
        case rel => exact ⟨k + 1, by omega, by go_num, fun j hj => by
          by_cases e : j = k
          · rw [e]; exact HB.out
          · exact HK.out j (by omega), hbe1⟩
        case measure => simp [intOf]; omega
      · have hqb : (q != 0) = true := by simpa using hq
        have HB : Hid (P = (k : Int) ∧ E = q) := by
          have h := HP.out
          rw [first_some HK.out hlt (by unfold placeB; rw [← HQ.out]; simpa using hq)] at h
          dsimp only at h
          injection h with h1 h2
          exact ⟨h1, by rw [h2, HQ.out]⟩
        go_wp2_with (go_at_call 24; go_must (refine (place_any b off cap xs k _ hlt (by omega) (by omega) (HA.out _ hbe)).mono ?_); rintro e w1 ⟨he, hb1⟩; go_must (rw [← HQ.out] at he; subst he; have hbe1 := hbe.trans (hb1.mono hsz); clear hb1))
        go_ret2
        exact ⟨r2i HB.out.1.symm HB.out.2.symm, hbe1⟩
    · obtain rfl : k = xs.length := by omega
      have HPl : Hid (Placed xs) := HK.out
      have HLn : Hid ((loopsL xs).length ≤ 64) := by have := loopsU_len xs xs.length; show _ ≤ _; unfold loopsL; omega
      have HBn : Hid (Bnd (loopsL xs)) := bnd_ok HPl.out
      have HP2 : Hid ((P, E) = match crossF [] (loopsL xs) with
        | some t => (t, 31)
        | none => match first (intrB xs (loopsL xs)) xs.length with
          | some p => ((p : Int), 31)
          | none => if 256 < costC (loopsL xs) xs.length then (0, 32) else (0, 0)) := by
        have h := HP.out
        rw [first_none HK.out] at h
        exact h
      clear HP
      have HSr := HS.out.below hbe
      obtain ⟨R, HR⟩ : ∃ R, Hid (R = crossF [] (loopsL xs)) := ⟨_, rfl⟩
      rw [← HR.out] at HP2
      obtain ⟨I, HI⟩ : ∃ I, Hid (I = first (intrB xs (loopsL xs)) xs.length) := ⟨_, rfl⟩
      rw [← HI.out] at HP2
      have HI2 : Hid (optN I = optN (first (intrB xs (loopsL xs)) xs.length)) := by show _ = _; rw [HI.out]
      obtain ⟨C, HCo⟩ : ∃ C, Hid (C = costC (loopsL xs) xs.length) := ⟨_, rfl⟩
      rw [← HCo.out] at HP2
      have HSr : Hid (SeesI wr (.slice (some ⟨b, off, none⟩) xs.length cap) xs) := HSr
      have hx64 : xs.length ≤ 64 := by omega
      cases R with
      | some t =>
        have HB : Hid (P = t ∧ E = 31) := by have h := HP2.out; dsimp only at h; injection h with h1 h2; exact ⟨h1, h2⟩
        go_wp2_with (first
          | (go_at_call 25; go_must (refine (loops_any _ xs _ HSr.out hx64).mono ?_); rintro e w1 ⟨v1, rfl, hown, hb1⟩; go_must (have hL : Hid (SeesL w1 v1 (loopsL xs)) := own_seesL hown; have hbe1 := hbe.trans (hb1.mono hsz); clear hb1 hown))
          | (go_at_call 26; go_must (refine (crossing_any _ (loopsL xs) _ HLn.out hL.out HR).mono ?_); rintro e w2 ⟨he, hb2⟩; go_must (simp only [optI] at he; subst he; have hbe2 := hbe1.trans (hb2.mono hbe1.size); clear hb2)))
        go_ret2
        exact ⟨r2i HB.out.1.symm HB.out.2.symm, hbe2⟩
      | none =>
        cases I with
        | some p =>
          have HB : Hid (P = (p : Int) ∧ E = 31) := by have h := HP2.out; dsimp only at h; injection h with h1 h2; exact ⟨h1, h2⟩
          go_wp2_with (first
            | (go_at_call 25; go_must (refine (loops_any _ xs _ HSr.out hx64).mono ?_); rintro e w1 ⟨v1, rfl, hown, hb1⟩; go_must (have hL : Hid (SeesL w1 v1 (loopsL xs)) := own_seesL hown; have hbe1 := hbe.trans (hb1.mono hsz); clear hb1 hown))
            | (go_at_call 26; go_must (refine (crossing_any _ (loopsL xs) _ HLn.out hL.out HR).mono ?_); rintro e w2 ⟨he, hb2⟩; go_must (simp only [optI] at he; subst he; have hbe2 := hbe1.trans (hb2.mono hbe1.size); have hL2 : Hid (SeesL w2 v1 (loopsL xs)) := SeesL.below hL.out hb2; clear hb2 hL))
            | (go_at_call 27; go_must (refine (intruder_any _ _ xs (loopsL xs) _ (HS.out.below hbe2) hL2.out hx64 HLn.out HI2).mono ?_); rintro e w3 ⟨he, hb3⟩; go_must (simp only [optI, optN] at he; subst he; have hbe3 := hbe2.trans (hb3.mono hbe2.size); clear hb3)))
          go_ret2
          exact ⟨r2i HB.out.1.symm HB.out.2.symm, hbe3⟩
        | none =>
          by_cases hC : 256 < C
          · have HB : Hid (P = 0 ∧ E = 32) := by have h := HP2.out; dsimp only at h; rw [if_pos hC] at h; injection h with h1 h2; exact ⟨h1, h2⟩
            go_wp2_with (first
              | (go_at_call 25; go_must (refine (loops_any _ xs _ HSr.out hx64).mono ?_); rintro e w1 ⟨v1, rfl, hown, hb1⟩; go_must (have hL : Hid (SeesL w1 v1 (loopsL xs)) := own_seesL hown; have hbe1 := hbe.trans (hb1.mono hsz); clear hb1 hown))
              | (go_at_call 26; go_must (refine (crossing_any _ (loopsL xs) _ HLn.out hL.out HR).mono ?_); rintro e w2 ⟨he, hb2⟩; go_must (simp only [optI] at he; subst he; have hbe2 := hbe1.trans (hb2.mono hbe1.size); have hL2 : Hid (SeesL w2 v1 (loopsL xs)) := SeesL.below hL.out hb2; clear hb2 hL))
              | (go_at_call 27; go_must (refine (intruder_any _ _ xs (loopsL xs) _ (HS.out.below hbe2) hL2.out hx64 HLn.out HI2).mono ?_); rintro e w3 ⟨he, hb3⟩; go_must (simp only [optI, optN] at he; subst he; have hbe3 := hbe2.trans (hb3.mono hbe2.size); have hL3 : Hid (SeesL w3 v1 (loopsL xs)) := SeesL.below hL2.out hb3; clear hb3 hL2))
              | (go_at_call 28; go_must (refine (cost_any _ _ xs (loopsL xs) _ (HS.out.below hbe3) hL3.out hx64 HLn.out HBn.out HCo).mono ?_); rintro e w4 ⟨he, hb4⟩; go_must (subst he; have hbe4 := hbe3.trans (hb4.mono hbe3.size); clear hb4)))
            go_ret2
            exact ⟨r2i HB.out.1.symm HB.out.2.symm, hbe4⟩
          · have HB : Hid (P = 0 ∧ E = 0) := by have h := HP2.out; dsimp only at h; rw [if_neg hC] at h; injection h with h1 h2; exact ⟨h1, h2⟩
            go_wp2_with (first
              | (go_at_call 25; go_must (refine (loops_any _ xs _ HSr.out hx64).mono ?_); rintro e w1 ⟨v1, rfl, hown, hb1⟩; go_must (have hL : Hid (SeesL w1 v1 (loopsL xs)) := own_seesL hown; have hbe1 := hbe.trans (hb1.mono hsz); clear hb1 hown))
              | (go_at_call 26; go_must (refine (crossing_any _ (loopsL xs) _ HLn.out hL.out HR).mono ?_); rintro e w2 ⟨he, hb2⟩; go_must (simp only [optI] at he; subst he; have hbe2 := hbe1.trans (hb2.mono hbe1.size); have hL2 : Hid (SeesL w2 v1 (loopsL xs)) := SeesL.below hL.out hb2; clear hb2 hL))
              | (go_at_call 27; go_must (refine (intruder_any _ _ xs (loopsL xs) _ (HS.out.below hbe2) hL2.out hx64 HLn.out HI2).mono ?_); rintro e w3 ⟨he, hb3⟩; go_must (simp only [optI, optN] at he; subst he; have hbe3 := hbe2.trans (hb3.mono hbe2.size); have hL3 : Hid (SeesL w3 v1 (loopsL xs)) := SeesL.below hL2.out hb3; clear hb3 hL2))
              | (go_at_call 28; go_must (refine (cost_any _ _ xs (loopsL xs) _ (HS.out.below hbe3) hL3.out hx64 HLn.out HBn.out HCo).mono ?_); rintro e w4 ⟨he, hb4⟩; go_must (subst he; have hbe4 := hbe3.trans (hb4.mono hbe3.size); clear hb4)))
            go_ret2
            exact ⟨r2i HB.out.1.symm HB.out.2.symm, hbe4⟩
end Go.Proofs.Ytkcofelpndlplaa
/-
  What the landed checkAsked, Cost, Loops, Next and Around answer. No condition.
-/
namespace Go.Proofs.Ytkcofelpndlplaa
open Go.RowKit
set_option linter.unusedVariables false
set_option maxRecDepth 20000

theorem own_base {w : World} {base base' : Nat} {e : TypeId} {size : Nat} {v : Value} {n : Nat} {xs : List Value} (h : w.ownsRow base' e size v n xs) (hb : base ≤ base') : w.ownsRow base e size v n xs := by
  rcases h with ⟨h1, h2 | ⟨g, cap, cur, hv, hg, r⟩⟩
  · exact ⟨h1, .inl h2⟩
  · exact ⟨h1, .inr ⟨g, cap, cur, hv, by omega, r⟩⟩
def errL (xs : List In) : Int := (checkL xs).2
/-- The error of a call that asks of a place. -/
def askL (xs : List In) (k : Int) : Int := if errL xs ≠ 0 then errL xs else if k < 0 ∨ (xs.length : Int) ≤ k then 2 else 0
def costA (xs : List In) : Int := if errL xs = 0 then costC (loopsL xs) xs.length else 0
def loopsA (xs : List In) : List Lp := if errL xs = 0 then loopsL xs else []
def nextA (xs : List In) (k : Int) : List Int := if askL xs k = 0 then nextL (nth xs k.toNat) k else []
def aroundA (xs : List In) (k : Int) : List Int := if askL xs k = 0 then aroundL (loopsL xs) k else []
theorem ask_ok {xs : List In} {k : Int} (h : askL xs k = 0) : Taken xs ∧ ∃ n : Nat, k = n ∧ n < xs.length := by
  unfold askL at h
  by_cases h1 : errL xs = 0
  · rw [if_neg (by simp [h1])] at h
    refine ⟨check_ok.1 h1, k.toNat, ?_, ?_⟩ <;> split at h <;> omega
  · rw [if_pos h1] at h
    exact absurd h h1
theorem check_as {v : Value} {xs : List In} {w : World} (hs : SeesI w v xs) {P E : Int} (hP : Hid (P = (checkL xs).1)) (hE : Hid (E = errL xs)) : Calls Try.prog 16 #[v] w fun e w' => e = .returned (.tuple #[.int .i64 P, .int .i64 E]) ∧ Below w.heap.size w w' :=
  check_any v xs w hs (show checkL xs = (P, E) by rw [hP.out, hE.out]; rfl)
set_option maxHeartbeats 800000 in
theorem lloops_any (v : Value) (xs : List In) (w : World) (hs : SeesI w v xs) {E : Int} (hE : Hid (E = errL xs)) : Calls Try.prog 17 #[v] w fun e w' => ∃ u, e = .returned (.tuple #[u, .int .i64 E]) ∧ w'.ownsRow w.heap.size 78 3 u (loopsA xs).length (flatL (loopsA xs)) ∧ Below w.heap.size w w' := by
  have HS : Hid (SeesI w v xs) := hs
  obtain ⟨a, cap, rfl⟩ := hs.shape
  clear hs
  obtain ⟨P, HP⟩ : ∃ P, Hid (P = (checkL xs).1) := ⟨_, rfl⟩
  by_cases hE0 : E = 0
  · subst hE0
    have HT : Hid (Taken xs) := check_ok.1 (show errL xs = 0 from hE.out.symm)
    have HX : Hid (loopsA xs = loopsL xs) := by show _ = _; unfold loopsA; rw [if_pos hE.out.symm]
    rw [HX.out]
    go_enter Try.func17, Try.ntmps17
    go_wp2_with (first
      | (go_at_call 16; go_must (refine (check_as HS.out HP hE).mono ?_); rintro e w1 ⟨rfl, hb1⟩)
      | (go_at_call 25; go_must (refine (loops_any _ xs _ (HS.out.below hb1) HT.out.top).mono ?_); rintro e w2 ⟨v1, rfl, hown, hb2⟩; go_must (have hbe2 := hb1.trans (hb2.mono hb1.size); have hO : Hid _ := hown; have hz := hb1.size; clear hb2 hown)))
    go_ret2
    refine ⟨_, rfl, ?_, hbe2⟩
    exact own_base hO.out hz
  · have hb : (E != 0) = true := by simpa using hE0
    have HX : Hid (loopsA xs = []) := by show _ = _; unfold loopsA; rw [if_neg (by rw [← hE.out]; exact hE0)]
    rw [HX.out]
    go_enter Try.func17, Try.ntmps17
    go_wp2_with (go_at_call 16; go_must (refine (check_as HS.out HP hE).mono ?_); rintro e w1 ⟨rfl, hb1⟩)
    go_ret2
    exact ⟨_, rfl, World.ownsRow_nil _ _ _ _, hb1⟩
theorem Try.infoInt7 : (Try.prog.info? 3).map (fun i => (i.zero, i.size, i.bytes)) = some (some (.int .i64 0), 1, 8) := by kernel_rfl
theorem next_two {w : World} {base : Nat} {x y : Int} (hb : base ≤ w.heap.size) : (w.alloc (.cells #[.int .i64 x, .int .i64 y] 3)).ownsRow base 3 1 (.slice (some ⟨w.heap.size, 0, none⟩) 2 2) ([x, y] : List Int).length (([x, y] : List Int).map (Value.int .i64)) :=
  own_lit w base 3 [.int .i64 x, .int .i64 y] _ rfl hb (by simp [maxLen])
theorem next_one {w : World} {base : Nat} {x : Int} (hb : base ≤ w.heap.size) : (w.alloc (.cells #[.int .i64 x] 3)).ownsRow base 3 1 (.slice (some ⟨w.heap.size, 0, none⟩) 1 1) ([x] : List Int).length (([x] : List Int).map (Value.int .i64)) :=
  own_lit w base 3 [.int .i64 x] _ rfl hb (by simp [maxLen])
theorem around_step {ls : List Lp} {p : Int} {j : Nat} (h : j < ls.length) : aroundL (ls.take (j + 1)) p = aroundL (ls.take j) p ++ if inLpB (ls.getD j Lp.nil) p then [(ls.getD j Lp.nil).t] else [] := by
  rw [take_at' h]
  unfold aroundL
  rw [List.filter_append, List.map_append]
  congr 1
  cases hw : inLpB (ls.getD j Lp.nil) p
  · rw [List.filter_cons_of_neg (by rw [hw]; simp)]; rfl
  · rw [List.filter_cons_of_pos (by rw [hw])]; rfl
end Go.Proofs.Ytkcofelpndlplaa
