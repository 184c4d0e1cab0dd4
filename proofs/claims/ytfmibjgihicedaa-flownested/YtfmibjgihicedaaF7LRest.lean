/-
  What the landed checkAsked, Cost, Loops, Next and Around answer. No condition.
-/
import Derived.Test.YtfmibjgihicedaaF7LCheck
namespace Go.Proofs.Ytfmibjgihicedaa
open Go.RowKit
set_option linter.unusedVariables false
set_option maxRecDepth 20000

theorem own_base {w : World} {base base' : Nat} {e : TypeId} {size : Nat} {v : Value} {n : Nat} {xs : List Value} (h : w.ownsRow base' e size v n xs) (hb : base ≤ base') : w.ownsRow base e size v n xs := by
  rcases h with ⟨h1, h2 | ⟨g, cap, cur, hv, hg, r⟩⟩
  · exact ⟨h1, .inl h2⟩
  · exact ⟨h1, .inr ⟨g, cap, cur, hv, by omega, r⟩⟩
def errL (xs : List In) : Int := (checkL xs).2
/-- The error of a call that asks of a place. -/
def askL (xs : List In) (k : Int) : Int := if errL xs ≠ 0 then errL xs else if k < 0 ∨ (xs.length : Int) ≤ k then 2 else 0
def costA (xs : List In) : Int := if errL xs = 0 then costC (loopsL xs) xs.length else 0
def loopsA (xs : List In) : List Lp := if errL xs = 0 then loopsL xs else []
def nextA (xs : List In) (k : Int) : List Int := if askL xs k = 0 then nextL (nth xs k.toNat) k else []
def aroundA (xs : List In) (k : Int) : List Int := if askL xs k = 0 then aroundL (loopsL xs) k else []
theorem ask_ok {xs : List In} {k : Int} (h : askL xs k = 0) : Taken xs ∧ ∃ n : Nat, k = n ∧ n < xs.length := by
  unfold askL at h
  by_cases h1 : errL xs = 0
  · rw [if_neg (by simp [h1])] at h
    refine ⟨check_ok.1 h1, k.toNat, ?_, ?_⟩ <;> split at h <;> omega
  · rw [if_pos h1] at h
    exact absurd h h1
theorem check_as {v : Value} {xs : List In} {w : World} (hs : SeesI w v xs) {P E : Int} (hP : Hid (P = (checkL xs).1)) (hE : Hid (E = errL xs)) : Calls Try.prog 10 #[v] w fun e w' => e = .returned (.tuple #[.int .i64 P, .int .i64 E]) ∧ Below w.heap.size w w' :=
  check_any v xs w hs (show checkL xs = (P, E) by rw [hP.out, hE.out]; rfl)
set_option maxHeartbeats 800000 in
theorem asked_any (v : Value) (xs : List In) (k : Int) (w : World) (hs : SeesI w v xs) {A : Int} (hA : Hid (A = askL xs k)) : Calls Try.prog 33 #[v, .int .i64 k] w fun e w' => e = .returned (.int .i64 A) ∧ Below w.heap.size w w' := by
  have HS : Hid (SeesI w v xs) := hs
  obtain ⟨a, cap, rfl⟩ := hs.shape
  clear hs
  obtain ⟨P, HP⟩ : ∃ P, Hid (P = (checkL xs).1) := ⟨_, rfl⟩
  obtain ⟨E, HE⟩ : ∃ E, Hid (E = errL xs) := ⟨_, rfl⟩
  have HX : Hid (A = if E ≠ 0 then E else if k < 0 ∨ (xs.length : Int) ≤ k then 2 else 0) := by show _ = _; rw [hA.out, HE.out]; rfl
  go_enter Try.func33, Try.ntmps33
  go_wp2_with (go_at_call 10; go_must (refine (check_as HS.out HP HE).mono ?_); rintro e w1 ⟨rfl, hb1⟩)
  all_goals
    go_ret
    refine ⟨ri ?_, hb1⟩
    have hx := HX.out
    rw [hx]
    clear HX HE HP HS hA
    simp_all <;> omega
set_option maxHeartbeats 800000 in
theorem lcost_any (v : Value) (xs : List In) (w : World) (hs : SeesI w v xs) {C E : Int} (hC : Hid (C = costA xs)) (hE : Hid (E = errL xs)) : Calls Try.prog 19 #[v] w fun e w' => e = .returned (.tuple #[.int .i64 C, .int .i64 E]) ∧ Below w.heap.size w w' := by
  have HS : Hid (SeesI w v xs) := hs
  obtain ⟨a, cap, rfl⟩ := hs.shape
  clear hs
  obtain ⟨P, HP⟩ : ∃ P, Hid (P = (checkL xs).1) := ⟨_, rfl⟩
  by_cases hE0 : E = 0
  · subst hE0
    have HT : Hid (Taken xs) := check_ok.1 (show errL xs = 0 from hE.out.symm)
    have HX : Hid (C = costC (loopsL xs) xs.length) := by show _ = _; rw [hC.out]; unfold costA; rw [if_pos hE.out.symm]
    have HLn : Hid ((loopsL xs).length ≤ 64) := by have := loopsU_len xs xs.length; have := HT.out.top; show _ ≤ _; unfold loopsL; omega
    go_enter Try.func19, Try.ntmps19
    go_wp2_with (first
      | (go_at_call 10; go_must (refine (check_as HS.out HP hE).mono ?_); rintro e w1 ⟨rfl, hb1⟩)
      | (go_at_call 23; go_must (refine (loops_any _ xs _ (HS.out.below hb1) HT.out.top).mono ?_); rintro e w2 ⟨v1, rfl, hown, hb2⟩; go_must (have hL : Hid (SeesL w2 v1 (loopsL xs)) := own_seesL hown; have hbe2 := hb1.trans (hb2.mono hb1.size); clear hb2 hown))
      | (go_at_call 26; go_must (refine (cost_any _ _ xs (loopsL xs) _ (HS.out.below hbe2) hL.out HT.out.top HLn.out (bnd_ok HT.out.place) HX).mono ?_); rintro e w4 ⟨he, hb4⟩; go_must (subst he; have hbe4 := hbe2.trans (hb4.mono hbe2.size); clear hb4)))
    go_ret2
    exact ⟨rfl, hbe4⟩
  · have hb : (E != 0) = true := by simpa using hE0
    have HX : Hid (C = 0) := by show _ = _; rw [hC.out]; unfold costA; rw [if_neg (by rw [← hE.out]; exact hE0)]
    go_enter Try.func19, Try.ntmps19
    go_wp2_with (go_at_call 10; go_must (refine (check_as HS.out HP hE).mono ?_); rintro e w1 ⟨rfl, hb1⟩)
    go_ret2
    exact ⟨r2i HX.out.symm rfl, hb1⟩
set_option maxHeartbeats 800000 in
theorem lloops_any (v : Value) (xs : List In) (w : World) (hs : SeesI w v xs) {E : Int} (hE : Hid (E = errL xs)) : Calls Try.prog 17 #[v] w fun e w' => ∃ u, e = .returned (.tuple #[u, .int .i64 E]) ∧ w'.ownsRow w.heap.size 47 3 u (loopsA xs).length (flatL (loopsA xs)) ∧ Below w.heap.size w w' := by
  have HS : Hid (SeesI w v xs) := hs
  obtain ⟨a, cap, rfl⟩ := hs.shape
  clear hs
  obtain ⟨P, HP⟩ : ∃ P, Hid (P = (checkL xs).1) := ⟨_, rfl⟩
  by_cases hE0 : E = 0
  · subst hE0
    have HT : Hid (Taken xs) := check_ok.1 (show errL xs = 0 from hE.out.symm)
    have HX : Hid (loopsA xs = loopsL xs) := by show _ = _; unfold loopsA; rw [if_pos hE.out.symm]
    rw [HX.out]
    go_enter Try.func17, Try.ntmps17
    go_wp2_with (first
      | (go_at_call 10; go_must (refine (check_as HS.out HP hE).mono ?_); rintro e w1 ⟨rfl, hb1⟩)
      | (go_at_call 23; go_must (refine (loops_any _ xs _ (HS.out.below hb1) HT.out.top).mono ?_); rintro e w2 ⟨v1, rfl, hown, hb2⟩; go_must (have hbe2 := hb1.trans (hb2.mono hb1.size); have hO : Hid _ := hown; have hz := hb1.size; clear hb2 hown)))
    go_ret2
    refine ⟨_, rfl, ?_, hbe2⟩
    exact own_base hO.out hz
  · have hb : (E != 0) = true := by simpa using hE0
    have HX : Hid (loopsA xs = []) := by show _ = _; unfold loopsA; rw [if_neg (by rw [← hE.out]; exact hE0)]
    rw [HX.out]
    go_enter Try.func17, Try.ntmps17
    go_wp2_with (go_at_call 10; go_must (refine (check_as HS.out HP hE).mono ?_); rintro e w1 ⟨rfl, hb1⟩)
    go_ret2
    exact ⟨_, rfl, World.ownsRow_nil _ _ _ _, hb1⟩
theorem Try.infoInt7 : (Try.prog.info? 3).map (fun i => (i.zero, i.size, i.bytes)) = some (some (.int .i64 0), 1, 8) := by kernel_rfl
theorem next_two {w : World} {base : Nat} {x y : Int} (hb : base ≤ w.heap.size) : (w.alloc (.cells #[.int .i64 x, .int .i64 y] 3)).ownsRow base 3 1 (.slice (some ⟨w.heap.size, 0, none⟩) 2 2) ([x, y] : List Int).length (([x, y] : List Int).map (Value.int .i64)) :=
  own_lit w base 3 [.int .i64 x, .int .i64 y] _ rfl hb (by simp [maxLen])
theorem next_one {w : World} {base : Nat} {x : Int} (hb : base ≤ w.heap.size) : (w.alloc (.cells #[.int .i64 x] 3)).ownsRow base 3 1 (.slice (some ⟨w.heap.size, 0, none⟩) 1 1) ([x] : List Int).length (([x] : List Int).map (Value.int .i64)) :=
  own_lit w base 3 [.int .i64 x] _ rfl hb (by simp [maxLen])
set_option maxHeartbeats 1600000 in
theorem lnext_any (v : Value) (xs : List In) (k : Int) (w : World) (hs : SeesI w v xs) {A : Int} (hA : Hid (A = askL xs k)) : Calls Try.prog 12 #[v, .int .i64 k] w fun e w' => ∃ u, e = .returned (.tuple #[u, .int .i64 A]) ∧ w'.ownsRow w.heap.size 3 1 u (nextA xs k).length ((nextA xs k).map (Value.int .i64)) ∧ Below w.heap.size w w' := by
  have HS : Hid (SeesI w v xs) := hs
  by_cases hA0 : A = 0
  · subst hA0
    obtain ⟨T, n, rfl, hn⟩ := ask_ok hA.out.symm
    have htop := T.top
    have HX : Hid (nextA xs n = nextL (nth xs n) n) := by show _ = _; unfold nextA; rw [if_pos hA.out.symm]; rfl
    rw [HX.out]
    obtain ⟨a, cap, rfl, hc, hm, hn0, hcell⟩ := hs
    obtain ⟨b, off, rfl, hb, hat⟩ := hcell (fun h => by rw [h] at hn; simp at hn)
    have HA : Hid (∀ w1, Below w.heap.size w w1 → At w1 b (off + n * 5) (nth xs n)) := fun w1 h1 => (hat n hn).below h1 hb
    clear hat hcell
    obtain ⟨f, HF⟩ : ∃ f, Hid (f = (nth xs n).far) := ⟨_, rfl⟩
    obtain ⟨l, HL⟩ : ∃ l, Hid (l = (nth xs n).leads) := ⟨_, rfl⟩
    obtain ⟨o, HO⟩ : ∃ o, Hid (o = (nth xs n).on) := ⟨_, rfl⟩
    have hfb := far_bd (nth xs n)
    rw [← HF.out] at hfb
    obtain ⟨N, HN⟩ : ∃ N, Hid (N = nextL (nth xs n) n) := ⟨_, rfl⟩
    have HN2 : Hid (N = if l = false then (if o = false then [] else [(n : Int) + 1]) else if o = true then (if f = 1 then [(n : Int) + 1] else [min ((n : Int) + f) (n + 1), max ((n : Int) + f) (n + 1)]) else [(n : Int) + f]) := by
      show _ = _; rw [HN.out, HF.out, HL.out, HO.out]; rfl
    rw [← HN.out]
    clear T HX
    generalize nth xs n = i at HF HL HO HN HA
    obtain ⟨op, d, aa, bb, imm⟩ := i
    have hzz := hb
    cases l <;> cases o
    · go_enter Try.func12, Try.ntmps12
      go_wp2_with (first
        | (go_at_call 33; go_must (refine (asked_any _ xs _ _ HS.out hA).mono ?_); rintro e w1 ⟨rfl, hb1⟩; go_must (obtain ⟨c0, c1, c2, c3, c4⟩ := HA.out w1 hb1; have hz1 := hb1.size))
        | (go_at_call 34; go_must (refine (goes_as HF HL HO _).mono ?_); rintro e w2 ⟨rfl, hb2⟩; go_must (have hB := hb1.trans (hb2.mono hb1.size); have hz2 := hB.size; clear hb2 c0 c1 c2 c3 c4)))
      go_ret2
      have e : N = [] := HN2.out
      rw [e]
      exact ⟨_, rfl, World.ownsRow_nil _ _ _ _, hB⟩
    · go_enter Try.func12, Try.ntmps12
      go_wp2_with (first
        | (go_at_call 33; go_must (refine (asked_any _ xs _ _ HS.out hA).mono ?_); rintro e w1 ⟨rfl, hb1⟩; go_must (obtain ⟨c0, c1, c2, c3, c4⟩ := HA.out w1 hb1; have hz1 := hb1.size))
        | (go_at_call 34; go_must (refine (goes_as HF HL HO _).mono ?_); rintro e w2 ⟨rfl, hb2⟩; go_must (have hB := hb1.trans (hb2.mono hb1.size); have hz2 := hB.size; clear hb2 c0 c1 c2 c3 c4)))
      go_ret2
      have e : N = [(n : Int) + 1] := HN2.out
      rw [e]
      exact ⟨_, rfl, next_one hz2, hB.alloc hz2 _⟩
    · go_enter Try.func12, Try.ntmps12
      go_wp2_with (first
        | (go_at_call 33; go_must (refine (asked_any _ xs _ _ HS.out hA).mono ?_); rintro e w1 ⟨rfl, hb1⟩; go_must (obtain ⟨c0, c1, c2, c3, c4⟩ := HA.out w1 hb1; have hz1 := hb1.size))
        | (go_at_call 34; go_must (refine (goes_as HF HL HO _).mono ?_); rintro e w2 ⟨rfl, hb2⟩; go_must (have hB := hb1.trans (hb2.mono hb1.size); have hz2 := hB.size; clear hb2 c0 c1 c2 c3 c4)))
      go_ret2
      have e : N = [(n : Int) + f] := HN2.out
      rw [e]
      exact ⟨_, rfl, next_one hz2, hB.alloc hz2 _⟩
    · by_cases hf1 : f = 1
      · subst hf1
        go_enter Try.func12, Try.ntmps12
        go_wp2_with (first
          | (go_at_call 33; go_must (refine (asked_any _ xs _ _ HS.out hA).mono ?_); rintro e w1 ⟨rfl, hb1⟩; go_must (obtain ⟨c0, c1, c2, c3, c4⟩ := HA.out w1 hb1; have hz1 := hb1.size))
          | (go_at_call 34; go_must (refine (goes_as HF HL HO _).mono ?_); rintro e w2 ⟨rfl, hb2⟩; go_must (have hB := hb1.trans (hb2.mono hb1.size); have hz2 := hB.size; clear hb2 c0 c1 c2 c3 c4)))
        go_ret2
        have e : N = [(n : Int) + 1] := HN2.out
        rw [e]
        exact ⟨_, rfl, next_one hz2, hB.alloc hz2 _⟩
      · have hfb1 : (f == 1) = false := by simpa using hf1
        go_enter Try.func12, Try.ntmps12
        go_wp2_with (first
          | (go_at_call 33; go_must (refine (asked_any _ xs _ _ HS.out hA).mono ?_); rintro e w1 ⟨rfl, hb1⟩; go_must (obtain ⟨c0, c1, c2, c3, c4⟩ := HA.out w1 hb1; have hz1 := hb1.size))
          | (go_at_call 34; go_must (refine (goes_as HF HL HO _).mono ?_); rintro e w2 ⟨rfl, hb2⟩; go_must (have hB := hb1.trans (hb2.mono hb1.size); have hz2 := hB.size; clear hb2 c0 c1 c2 c3 c4)))
        go_ret2
        have e : N = [(n : Int) + min f 1, (n : Int) + max f 1] := by have h := HN2.out; simp [hf1] at h; rw [h]
        rw [e]
        exact ⟨_, rfl, next_two hz2, hB.alloc hz2 _⟩
  · have hAb : (A != 0) = true := by simpa using hA0
    have HX : Hid (nextA xs k = []) := by show _ = _; unfold nextA; rw [if_neg (by rw [← hA.out]; exact hA0)]
    rw [HX.out]
    obtain ⟨a, cap, rfl⟩ := hs.shape
    clear hs
    go_enter Try.func12, Try.ntmps12
    go_wp2_with (go_at_call 33; go_must (refine (asked_any _ xs _ _ HS.out hA).mono ?_); rintro e w1 ⟨rfl, hb1⟩)
    go_ret2
    exact ⟨_, rfl, World.ownsRow_nil _ _ _ _, hb1⟩
theorem around_step {ls : List Lp} {p : Int} {j : Nat} (h : j < ls.length) : aroundL (ls.take (j + 1)) p = aroundL (ls.take j) p ++ if withinB (ls.getD j Lp.nil) p then [(ls.getD j Lp.nil).t] else [] := by
  rw [take_at' h]
  unfold aroundL
  rw [List.filter_append, List.map_append]
  congr 1
  cases hw : withinB (ls.getD j Lp.nil) p
  · rw [List.filter_cons_of_neg (by rw [hw]; simp)]; rfl
  · rw [List.filter_cons_of_pos (by rw [hw])]; rfl
set_option maxHeartbeats 1600000 in
theorem laround_any (v : Value) (xs : List In) (k : Int) (w : World) (hs : SeesI w v xs) {A : Int} (hA : Hid (A = askL xs k)) : Calls Try.prog 14 #[v, .int .i64 k] w fun e w' => ∃ u, e = .returned (.tuple #[u, .int .i64 A]) ∧ w'.ownsRow w.heap.size 3 1 u (aroundA xs k).length ((aroundA xs k).map (Value.int .i64)) ∧ Below w.heap.size w w' := by
  obtain ⟨i0, hi, hz0, hz1, hz2⟩ := info_parts Try.infoInt7
  have HS : Hid (SeesI w v xs) := hs
  by_cases hA0 : A = 0
  · subst hA0
    obtain ⟨T, n, rfl, hn⟩ := ask_ok hA.out.symm
    have HT : Hid (xs.length ≤ 64) := T.top
    have HX : Hid (aroundA xs n = aroundL (loopsL xs) n) := by show _ = _; unfold aroundA; rw [if_pos hA.out.symm]
    rw [HX.out]
    obtain ⟨ls, HLs⟩ : ∃ ls, Hid (ls = loopsL xs) := ⟨_, rfl⟩
    have hln : ls.length ≤ 64 := by have := loopsU_len xs xs.length; have := HT.out; rw [HLs.out]; unfold loopsL; omega
    rw [← HLs.out]
    obtain ⟨a, cap, rfl⟩ := hs.shape
    clear hs HX T
    go_enter Try.func14, Try.ntmps14
    go_wp2_with (first
      | (go_at_call 33; go_must (refine (asked_any _ xs _ _ HS.out hA).mono ?_); rintro e w1 ⟨rfl, hb1⟩)
      | (go_at_call 23; go_must (refine (loops_any _ xs _ (HS.out.below hb1) HT.out).mono ?_); rintro e w2 ⟨v1, rfl, hown, hb2⟩; go_must (rw [← HLs.out] at hown; obtain ⟨a2, cap2, ev, hc2, hm2, hn2, hcell2⟩ := own_seesL hown; have HC2 : Hid (ls ≠ [] → ∃ b off, a2 = some ⟨b, off, none⟩ ∧ b < w2.heap.size ∧ ∀ k, k < ls.length → AtL w2 b (off + k * 3) (ls.getD k Lp.nil)) := hcell2; subst ev; have hbe2 := hb1.trans (hb2.mono hb1.size); clear hb2 hown hcell2 hb1)))
    have hsz2 := hbe2.size
    go_loopw [19, 7] (fun i u wr => ∃ (j : Nat) (ys : List Int), j ≤ ls.length ∧ i = .int .i64 j ∧ Hid (ys = aroundL (ls.take j) n) ∧ ys.length ≤ j ∧ wr.ownsRow w2.heap.size 3 1 u ys.length (ys.map (Value.int .i64)) ∧ Below w2.heap.size w2 wr) (fun i _ _ => ls.length - (intOf i).toNat)
    case atStart => exact ⟨0, [], by omega, rfl, rfl, by simp, World.ownsRow_nil _ _ _ _, Below.refl _ _⟩
    case round =>
      obtain ⟨j, ys, hj, rfl, HY, hyl, hown, hbe⟩ := hrel
      have hsz := hbe.size
      by_cases hjn : j < ls.length
      · obtain ⟨b2, off2, rfl, hb2, hat2⟩ := HC2.out (fun h => by rw [h] at hjn; simp at hjn)
        obtain ⟨⟨eh, et, eb⟩, HE⟩ : ∃ l, Hid (ls.getD j Lp.nil = l) := ⟨_, rfl⟩
        have hcell := (hat2 j hjn).below hbe hb2
        rw [HE.out] at hcell
        obtain ⟨d0, d1, d2⟩ := hcell
        simp only at d0 d1 d2
        have hbq2 : b2 < wr.heap.size := by omega
        clear hat2
        obtain ⟨r, Hr⟩ : ∃ r, Hid (r = withinB ⟨eh, et, eb⟩ n) := ⟨_, rfl⟩
        have HN : Hid (aroundL (ls.take (j + 1)) n = ys ++ if r then [et] else []) := by
          show _ = _
          rw [around_step hjn, HE.out, ← HY.out, ← Hr.out]
        cases r
        · go_wp2_with (go_at_call 35; go_must (refine (within_as Hr _).mono ?_); rintro e w3 ⟨rfl, hb3⟩; go_must (have hB := hbe.trans ((box_below hb3).mono hsz); have hown3 := own_below (own_below hown ((Below.refl _ _).alloc (Nat.le_refl _) _) (Nat.le_refl _)) hb3 (Nat.le_refl _); clear hb3 d0 d1 d2))
          go_roundw
          case rel => exact ⟨j + 1, ys, by omega, by go_num, by show _ = _; rw [HN.out]; simp, by omega, hown3, hB⟩
          case measure => simp [intOf]; omega
        · go_wp2_with (first
            | (go_at_call 35; go_must (refine (within_as Hr _).mono ?_); rintro e w3 ⟨rfl, hb3⟩; go_must (have hB := hbe.trans ((box_below hb3).mono hsz); have hown3 := own_below (own_below hown ((Below.refl _ _).alloc (Nat.le_refl _) _) (Nat.le_refl _)) hb3 (Nat.le_refl _); obtain ⟨g0, g1, g2⟩ := boxL_cell (l := ⟨eh, et, eb⟩) hb3; have hsz3 := hB.size; clear hb3 d0 d1 d2))
            | (at_builtin; go_must (refine wpList_append_own _ rfl _ _ 34 rfl w2.heap.size 3 i0 (.int .i64 0) 1 8 Try.underlying34 hi hz0 hz1 hz2 rfl (by decide) _ _ _ rfl (hown3.alloc _) ⟨_, 0, none⟩ 1 1 [.int .i64 et] rfl rfl (cell_one_new _ _ _) (one_cell _ _) (by unfold maxLen; omega) (by omega) (by simp; omega) ?_); intro v' w4 hown' hgrow _; have R := step_append hown3 hB (Nat.le_refl _) hown' hgrow; clear hown' hgrow))
          go_roundw
          case rel => exact ⟨j + 1, ys ++ [et], by omega, by go_num, by show _ = _; rw [HN.out]; simp, by simp; omega, R.1, R.2⟩
          case measure => simp [intOf]; omega
      · obtain rfl : j = ls.length := by omega
        go_wp2
        go_ret2
        refine ⟨_, rfl, ?_, hbe2.trans (hbe.mono hsz2)⟩
        have e := HY.out
        rw [List.take_length] at e
        rw [← e]
        exact own_base hown hsz2
  · have hAb : (A != 0) = true := by simpa using hA0
    have HX : Hid (aroundA xs k = []) := by show _ = _; unfold aroundA; rw [if_neg (by rw [← hA.out]; exact hA0)]
    rw [HX.out]
    obtain ⟨a, cap, rfl⟩ := hs.shape
    clear hs
    go_enter Try.func14, Try.ntmps14
    go_wp2_with (go_at_call 33; go_must (refine (asked_any _ xs _ _ HS.out hA).mono ?_); rintro e w1 ⟨rfl, hb1⟩)
    go_ret2
    exact ⟨_, rfl, World.ownsRow_nil _ _ _ _, hb1⟩
end Go.Proofs.Ytfmibjgihicedaa
