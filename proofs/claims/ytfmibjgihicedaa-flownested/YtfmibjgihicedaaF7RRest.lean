/-
  What the document's Cost, Around, Next and Loops answer. No condition.
-/
import Derived.Test.YtfmibjgihicedaaF7RCheck
import Derived.Deep.RegionHeldLaw
import Derived.Deep.RegionWith
namespace Go.Proofs.Ytfmibjgihicedaa
open Go.RowKit Go.Deep
set_option linter.unusedVariables false
set_option maxRecDepth 20000

theorem rcheck_as {v : Value} {xs : List In} {w : World} (hs : SeesI w v xs) {P E : Int} (hP : Hid (P = (checkL xs).1)) (hE : Hid (E = errL xs)) : Calls Try.prog 11 #[v] w fun e w' => e = .returned (.tuple #[.int .i64 P, .int .i64 E]) ∧ Below w.heap.size w w' :=
  rcheck_any v xs w hs (show checkL xs = (P, E) by rw [hP.out, hE.out]; rfl)
set_option maxHeartbeats 800000 in
theorem rcostf_any (v : Value) (xs : List In) (w : World) (hs : SeesI w v xs) {C E : Int} (hC : Hid (C = costA xs)) (hE : Hid (E = errL xs)) : Calls Try.prog 20 #[v] w fun e w' => e = .returned (.tuple #[.int .i64 C, .int .i64 E]) ∧ Below w.heap.size w w' := by
  have HS : Hid (SeesI w v xs) := hs
  obtain ⟨a, cap, rfl⟩ := hs.shape
  clear hs
  obtain ⟨P, HP⟩ : ∃ P, Hid (P = (checkL xs).1) := ⟨_, rfl⟩
  by_cases hE0 : E = 0
  · subst hE0
    have HT : Hid (Taken xs) := check_ok.1 (show errL xs = 0 from hE.out.symm)
    have HX : Hid (C = costR xs (bodyL xs) xs.length) := by show _ = _; rw [hC.out, (cost_eq HT.out).1]; unfold costA; rw [if_pos hE.out.symm]
    go_enter Try.func20, Try.ntmps20
    go_wp2_with (first
      | (go_at_call 11; go_must (refine (rcheck_as HS.out HP hE).mono ?_); rintro e w1 ⟨rfl, hb1⟩)
      | (go_at_call 29; go_must (refine (bodies_any _ xs _ (HS.out.below hb1) HT.out.place HT.out.top).mono ?_); rintro e w2 ⟨V, rfl, hBd⟩; go_must (have hL : Hid (SeesB w2 w1.heap.size xs.length V (bodyL xs)) := Bd.sees HT.out.top hBd; have hbe2 := hb1.trans (hBd.g.mono hb1.size); clear hBd))
      | (go_at_call 32; go_must (refine (rcost_any _ xs _ (HS.out.below hbe2) HT.out.top HT.out.place _ V hL.out HX).mono ?_); rintro e w4 ⟨he, hb4⟩; go_must (subst he hb4)))
    go_ret2
    exact ⟨rfl, hbe2⟩
  · have hb : (E != 0) = true := by simpa using hE0
    have HX : Hid (C = 0) := by show _ = _; rw [hC.out]; unfold costA; rw [if_neg (by rw [← hE.out]; exact hE0)]
    go_enter Try.func20, Try.ntmps20
    go_wp2_with (go_at_call 11; go_must (refine (rcheck_as HS.out HP hE).mono ?_); rintro e w1 ⟨rfl, hb1⟩)
    go_ret2
    exact ⟨r2i HX.out.symm rfl, hb1⟩
theorem ask_no {xs : List In} {k : Int} {E : Int} (hE : E = errL xs) (h0 : E ≠ 0) : askL xs k = E := by unfold askL; rw [← hE, if_pos h0]
theorem ask_out {xs : List In} {k : Int} (hE : errL xs = 0) (h : k < 0 ∨ (xs.length : Int) ≤ k) : askL xs k = 2 := by unfold askL; rw [hE, if_neg (by simp), if_pos h]
set_option maxHeartbeats 800000 in
theorem raround_any (v : Value) (xs : List In) (k : Int) (w : World) (hs : SeesI w v xs) {A : Int} (hA : Hid (A = askL xs k)) : Calls Try.prog 15 #[v, .int .i64 k] w fun e w' => ∃ u, e = .returned (.tuple #[u, .int .i64 A]) ∧ w'.ownsRow w.heap.size 3 1 u (aroundA xs k).length ((aroundA xs k).map (Value.int .i64)) ∧ Below w.heap.size w w' := by
  have HS : Hid (SeesI w v xs) := hs
  obtain ⟨a, cap, rfl⟩ := hs.shape
  clear hs
  obtain ⟨P, HP⟩ : ∃ P, Hid (P = (checkL xs).1) := ⟨_, rfl⟩
  obtain ⟨E, HE⟩ : ∃ E, Hid (E = errL xs) := ⟨_, rfl⟩
  by_cases hE0 : E = 0
  · subst hE0
    have HT : Hid (Taken xs) := check_ok.1 (show errL xs = 0 from HE.out.symm)
    by_cases hk : k < 0 ∨ (xs.length : Int) ≤ k
    · have HX : Hid (A = 2 ∧ aroundA xs k = []) := by
        have h := ask_out HE.out.symm hk
        refine ⟨by rw [hA.out, h], ?_⟩
        unfold aroundA
        rw [h]; rfl
      rw [HX.out.1, HX.out.2]
      by_cases hk0 : k < 0
      · go_enter Try.func15, Try.ntmps15
        go_wp2_with (go_at_call 11; go_must (refine (rcheck_as HS.out HP HE).mono ?_); rintro e w1 ⟨rfl, hb1⟩)
        go_ret2
        exact ⟨_, rfl, World.ownsRow_nil _ _ _ _, hb1⟩
      · have hk1 : (xs.length : Int) ≤ k := by omega
        clear hk
        go_enter Try.func15, Try.ntmps15
        go_wp2_with (go_at_call 11; go_must (refine (rcheck_as HS.out HP HE).mono ?_); rintro e w1 ⟨rfl, hb1⟩)
        go_ret2
        exact ⟨_, rfl, World.ownsRow_nil _ _ _ _, hb1⟩
    · obtain ⟨n, rfl⟩ : ∃ n : Nat, k = n := ⟨k.toNat, by omega⟩
      have hn : n < xs.length := by omega
      have HX : Hid (A = 0 ∧ aroundA xs n = aroundL (loopsL xs) n) := by
        have h : askL xs n = 0 := by unfold askL; rw [← HE.out, if_neg (by simp), if_neg hk]
        refine ⟨by rw [hA.out, h], ?_⟩
        unfold aroundA
        rw [if_pos h]
      rw [HX.out.1, HX.out.2]
      clear hk
      go_enter Try.func15, Try.ntmps15
      go_wp2_with (first
        | (go_at_call 11; go_must (refine (rcheck_as HS.out HP HE).mono ?_); rintro e w1 ⟨rfl, hb1⟩)
        | (go_at_call 29; go_must (refine (bodies_any _ xs _ (HS.out.below hb1) HT.out.place HT.out.top).mono ?_); rintro e w2 ⟨V, rfl, hBd⟩; go_must (have hcv := hBd.out.cell (i := n) hn; have hlt := hBd.out.lt; have HBd : Hid _ := hBd; clear hBd)))
      go_ret2
      have hz := hb1.size
      refine ⟨_, rfl, own_base (HBd.out.own n hn) (by omega), hb1.trans (HBd.out.g.mono hz)⟩
  · have hb : (E != 0) = true := by simpa using hE0
    have HX : Hid (A = E ∧ aroundA xs k = []) := by
      have h := ask_no (k := k) HE.out hE0
      refine ⟨by rw [hA.out, h], ?_⟩
      unfold aroundA
      rw [h, if_neg hE0]
    rw [HX.out.1, HX.out.2]
    go_enter Try.func15, Try.ntmps15
    go_wp2_with (go_at_call 11; go_must (refine (rcheck_as HS.out HP HE).mono ?_); rintro e w1 ⟨rfl, hb1⟩)
    go_ret2
    exact ⟨_, rfl, World.ownsRow_nil _ _ _ _, hb1⟩
set_option maxHeartbeats 1600000 in
theorem rnext_any (v : Value) (xs : List In) (k : Int) (w : World) (hs : SeesI w v xs) {A : Int} (hA : Hid (A = askL xs k)) : Calls Try.prog 13 #[v, .int .i64 k] w fun e w' => ∃ u, e = .returned (.tuple #[u, .int .i64 A]) ∧ w'.ownsRow w.heap.size 3 1 u (nextA xs k).length ((nextA xs k).map (Value.int .i64)) ∧ Below w.heap.size w w' := by
  obtain ⟨i0, hi, hz0, hz1, hz2⟩ := info_parts Try.infoInt7
  have HS : Hid (SeesI w v xs) := hs
  obtain ⟨P, HP⟩ : ∃ P, Hid (P = (checkL xs).1) := ⟨_, rfl⟩
  obtain ⟨E, HE⟩ : ∃ E, Hid (E = errL xs) := ⟨_, rfl⟩
  by_cases hE0 : E = 0
  · subst hE0
    have HT : Hid (Taken xs) := check_ok.1 (show errL xs = 0 from HE.out.symm)
    by_cases hk : k < 0 ∨ (xs.length : Int) ≤ k
    · have HX : Hid (A = 2 ∧ nextA xs k = []) := by
        have h := ask_out HE.out.symm hk
        refine ⟨by rw [hA.out, h], ?_⟩
        unfold nextA
        rw [h]; rfl
      rw [HX.out.1, HX.out.2]
      obtain ⟨a, cap, rfl⟩ := hs.shape
      clear hs
      by_cases hk0 : k < 0
      · go_enter Try.func13, Try.ntmps13
        go_wp2_with (go_at_call 11; go_must (refine (rcheck_as HS.out HP HE).mono ?_); rintro e w1 ⟨rfl, hb1⟩)
        go_ret2
        exact ⟨_, rfl, World.ownsRow_nil _ _ _ _, hb1⟩
      · have hk1 : (xs.length : Int) ≤ k := by omega
        clear hk
        go_enter Try.func13, Try.ntmps13
        go_wp2_with (go_at_call 11; go_must (refine (rcheck_as HS.out HP HE).mono ?_); rintro e w1 ⟨rfl, hb1⟩)
        go_ret2
        exact ⟨_, rfl, World.ownsRow_nil _ _ _ _, hb1⟩
    · obtain ⟨n, rfl⟩ : ∃ n : Nat, k = n := ⟨k.toNat, by omega⟩
      have hn : n < xs.length := by omega
      have htop := HT.out.top
      have HX : Hid (A = 0 ∧ nextA xs n = nextU (nth xs n) n xs.length) := by
        have h : askL xs n = 0 := by unfold askL; rw [← HE.out, if_neg (by simp), if_neg hk]
        refine ⟨by rw [hA.out, h], ?_⟩
        unfold nextA
        rw [if_pos h, next_eq hn (HT.out.place n hn)]; rfl
      rw [HX.out.1, HX.out.2]
      clear hk
      obtain ⟨a, cap, rfl, hc, hm, hn0, hcell⟩ := hs
      obtain ⟨b, off, rfl, hb, hat⟩ := hcell (fun h => by rw [h] at hn; simp at hn)
      obtain ⟨⟨op, d, aa, bb, imm⟩, HI⟩ : ∃ i, Hid (nth xs n = i) := ⟨_, rfl⟩
      have HA2 : Hid (∀ w1, Below w.heap.size w w1 → At w1 b (off + n * 5) ⟨op, d, aa, bb, imm⟩) := fun w1 h1 => by have := (hat n hn).below h1 hb; rw [show xs.getD n In.nil = _ from HI.out] at this; exact this
      clear hat hcell
      obtain ⟨f, HF⟩ : ∃ f, Hid (f = (nth xs n).far) := ⟨_, rfl⟩
      obtain ⟨l, HL⟩ : ∃ l, Hid (l = (nth xs n).leads) := ⟨_, rfl⟩
      obtain ⟨o, HO⟩ : ∃ o, Hid (o = (nth xs n).on) := ⟨_, rfl⟩
      have hfb := far_bd (nth xs n)
      rw [← HF.out] at hfb
      have HN : Hid (∀ q : Nat, nextU (nth xs n) n (q + 1) = nextU (nth xs n) n q ++ if (l && decide ((q : Int) = n + f)) || (o && decide ((q : Int) = n + 1)) then [(q : Int)] else []) := fun q => by rw [nextU, HF.out, HL.out, HO.out]
      go_enter Try.func13, Try.ntmps13
      go_wp2_with (first
        | (go_at_call 11; go_must (refine (rcheck_as HS.out HP HE).mono ?_); rintro e w1 ⟨rfl, hb1⟩; go_must (obtain ⟨c0, c1, c2, c3, c4⟩ := HA2.out w1 hb1; have hsz1 := hb1.size; have hbr1 : b < w1.heap.size := by omega))
        | (go_at_call 28; go_must (refine (rgoes_one HI HF HL HO _).mono ?_); rintro e w2 ⟨rfl, hb2⟩; go_must (have hbe2 := hb1.trans (hb2.mono hb1.size); clear hb2 c0 c1 c2 c3 c4)))
      have hsz2 := hbe2.size
      go_loopw [12, 11] (fun i u wr => ∃ (q : Nat) (ys : List Int), q ≤ xs.length ∧ i = .int .i64 q ∧ Hid (ys = nextU (nth xs n) n q) ∧ ys.length ≤ q ∧ wr.ownsRow w2.heap.size 3 1 u ys.length (ys.map (Value.int .i64)) ∧ Below w2.heap.size w2 wr) (fun i _ _ => xs.length - (intOf i).toNat)
      case atStart => exact ⟨0, [], by omega, rfl, rfl, by simp, World.ownsRow_nil _ _ _ _, Below.refl _ _⟩
      case round =>
        obtain ⟨q, ys, hq, rfl, HY, hyl, hown, hbe⟩ := hrel
        have hsz := hbe.size
        by_cases hqn : q < xs.length
        · obtain ⟨c1, HC1⟩ : ∃ c, Hid (c = ((q : Int) == n + f)) := ⟨_, rfl⟩
          obtain ⟨c2, HC2⟩ : ∃ c, Hid (c = ((q : Int) == n + 1)) := ⟨_, rfl⟩
          have hc1 : ((q : Int) == n + f) = c1 := HC1.out.symm
          have hc2 : ((q : Int) == n + 1) = c2 := HC2.out.symm
          have HM : Hid (nextU (nth xs n) n (q + 1) = ys ++ if (l && c1) || (o && c2) then [(q : Int)] else []) := by
            show _ = _
            rw [HN.out, HY.out, HC1.out, HC2.out]
            rfl
          clear HC1 HC2
          cases l <;> cases o <;> cases c1 <;> cases c2
          all_goals
            go_wp2_with (at_builtin; go_must (refine wpList_append_own _ rfl _ _ 34 rfl w2.heap.size 3 i0 (.int .i64 0) 1 8 Try.underlying34 hi hz0 hz1 hz2 rfl (by decide) _ _ _ rfl (hown.alloc _) ⟨_, 0, none⟩ 1 1 [.int .i64 q] rfl rfl (cell_one_new _ _ _) (one_cell _ _) (by unfold maxLen; omega) (by omega) (by simp; omega) ?_); intro v' w4 hown' hgrow _; have R := step_append hown hbe (Nat.le_refl _) hown' hgrow; clear hown' hgrow)
            go_roundw
            case rel =>
              first
              | exact ⟨q + 1, ys ++ [(q : Int)], by omega, by go_num, by show _ = _; rw [HM.out]; rfl, by simp; omega, R.1, R.2⟩
              | exact ⟨q + 1, ys, by omega, by go_num, by show _ = _; rw [HM.out]; simp, by omega, hown, hbe⟩
            case measure => simp [intOf]; omega
        · obtain rfl : q = xs.length := by omega
          go_wp2
          go_ret2
          refine ⟨_, rfl, ?_, hbe2.trans (hbe.mono hsz2)⟩
          rw [← HY.out]
          exact own_base hown hsz2
  · have hb : (E != 0) = true := by simpa using hE0
    have HX : Hid (A = E ∧ nextA xs k = []) := by
      have h := ask_no (k := k) HE.out hE0
      refine ⟨by rw [hA.out, h], ?_⟩
      unfold nextA
      rw [h, if_neg hE0]
    rw [HX.out.1, HX.out.2]
    obtain ⟨a, cap, rfl⟩ := hs.shape
    clear hs
    go_enter Try.func13, Try.ntmps13
    go_wp2_with (go_at_call 11; go_must (refine (rcheck_as HS.out HP HE).mono ?_); rintro e w1 ⟨rfl, hb1⟩)
    go_ret2
    exact ⟨_, rfl, World.ownsRow_nil _ _ _ _, hb1⟩
end Go.Proofs.Ytfmibjgihicedaa
