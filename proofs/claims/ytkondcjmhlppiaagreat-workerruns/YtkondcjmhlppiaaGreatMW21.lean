/-
  KS20LA
  KS20LB
  KS20LM
  KS20LE
-/
import Derived.Test.YtkondcjmhlppiaaGreatMW10
import Derived.Test.YtkondcjmhlppiaaGreatMW0
namespace Go.Proofs.YtkondcjmhlppiaaGreat
open Go.RowKit
set_option linter.unusedVariables false
set_option linter.unusedSimpArgs false
set_option maxRecDepth 100000
theorem results_cellS {fn : Func} {p : Tmp} {ty : TypeId} (h : fn.results = #[.cell p ty]) (tmps : Array Value) (P : Program) (w : World) :
  (results fn tmps).run P w = ((asAddr (tmps.getD p undef)).run P w).andThen fun a w₁ => (loadVar ty a).run P w₁ := by
 simp only [results, h]
 simp [Sem.run_bind, Result.andThen]
theorem ta_ret1 {fn : Func} {p : Tmp} {w2 : World} {n : Nat} {tmps : Array Value} {t : Ta} {Q : Ending -> World -> Prop} (hr : fn.results = #[.cell p 37]) (hp : tmps.getD p undef = .pointer (some ⟨n, 0, none⟩)) (hx : Hp w2 n 37 (taC t)) (hQ : Q (.returned (taV t)) w2) : bodyPost Tryz.prog fn Q .ret ⟨tmps, []⟩ w2 := by
 refine bodyPost_ret (v := taV t) ?_ rfl hQ
 rw [results_cellS hr, hp]
 simp only [asAddr, Sem.run_pure, Result.andThen]
 rw [run_boxTa hx]
abbrev nC (x : Int) : List Value := [.int .i64 x]
theorem nC_len (x : Int) : (nC x).length = 1 := rfl
theorem Sees.asN {w : World} {v : Value} {hs : List Int} (h : Sees .i64 w v hs) : SeesG nC 1 0 w v hs := by
 obtain ⟨a, cap, rfl, h1, h2, h3, _, h5⟩ := h
 refine ⟨a, cap, rfl, h1, h2, h3, fun hne => ?_⟩
 obtain ⟨b, off, rfl, hlt, hat⟩ := h5 hne
 refine ⟨b, off, rfl, hlt, fun k hk j hj => ?_⟩
 obtain rfl : j = 0 := by omega
 rw [Nat.mul_one, Nat.add_zero]
 exact hat k hk
theorem lareHooks {w : World} {vh : Value} {hs : List Int} (hsee : SeesG nC 1 0 w vh hs) {r : Bool} (HR : Hid (hs.all isH = r)) : Calls Tryz.prog 19 #[vh] w fun e w' => e = .returned (.bool r) /\ w = w' := by
 have HS := keepG hsee
 obtain ⟨ha, hcap, rfl, hlc, hmx, _⟩ := hsee
 unfold maxLen at hmx
 go_enter Tryz.func19, Tryz.ntmps19
 go_wp2
 go_loopw [7] (fun i wr => ∃ j : Nat, j <= hs.length /\ i = .int .i64 j /\ Hid ((hs.take j).all isH = true) /\ w = wr) (fun i _ => hs.length - (intOf i).toNat)
 case atStart => exact ⟨0, by omega, rfl, rfl, rfl⟩
 case round =>
  obtain ⟨j, hj, rfl, HA, rfl⟩ := hrel
  by_cases hlt : j < hs.length
  ·have hltI : (j : Int) < hs.length := by omega
   obtain ⟨a', cap', ev, _, _, _, hc⟩ := HS.out
   simp only [Value.slice.injEq] at ev
   obtain ⟨rfl, -, rfl⟩ := ev
   obtain ⟨p, off, rfl, _, hat⟩ := hc (fun e => by rw [e] at hlt; simp at hlt)
   have d0 : w.cell? ⟨p, off + j, none⟩ = some (.int .i64 (hs.getD j 0)) := by have := hat j hlt 0 (by omega); rw [Nat.mul_one, Nat.add_zero] at this; exact this
   have hT := take_at hs j hlt
   have hmem := getD_mem hs j hlt
   obtain ⟨x, HX⟩ : ∃ x, Hid (hs.getD j 0 = x) := ⟨_, rfl⟩
   rw [HX.out] at d0 hT hmem
   have HT : Hid ((hs.take (j + 1)).all isH = isH x) := by show _ = _; rw [hT, List.all_append, HA.out]; simp
   clear hat hT
   cases hh : isH x with
   | false =>
    have hf : hs.all isH = false := by
     cases he : hs.all isH with
     | false => rfl
     | true => rw [List.all_eq_true.1 he x hmem] at hh; cases hh
    have hr := HR.out
    rw [hf] at hr
    subst hr
    clear hf hmem HR
    rcases isH_no hh with h0 | h0
    ·clear hh
     have hd0 : decide (x < 0) = true := by simpa using h0
     go_wp2
     go_ret
     exact ⟨rfl, rfl⟩
    ·have h1 : ¬ x < 0 := by omega
     have h2 : 4 <= x := by omega
     have hd0 : decide (x < 0) = false := by simpa using h1
     have hd1 : decide (4 <= x) = true := by simpa using h2
     clear hh
     go_wp2
     go_ret
     exact ⟨rfl, rfl⟩
   | true =>
    have HT2 : Hid ((hs.take (j + 1)).all isH = true) := by show _ = _; rw [HT.out]; exact hh
    obtain ⟨k, HK, hk⟩ := isH_nat hh
    have h0 : ¬ x < 0 := by omega
    have h1 : ¬ (4 : Int) <= x := by omega
    have hd0 : decide (x < 0) = false := by simpa using h0
    have hd1 : decide (4 <= x) = false := by simpa using h1
    have HK2 := keepG HK
    clear hh HK hmem
    go_wp2
    go_roundw
    case rel => exact ⟨j + 1, by omega, by go_num, HT2.out, by first | rfl | trivial⟩
    case measure => simp [intOf]; omega
  ·have hltI : ¬ (j : Int) < hs.length := by omega
   have hf : hs.all isH = true := by
    have := HA.out
    rw [List.take_of_length_le (by omega)] at this
    exact this
   have hr := HR.out
   rw [hf] at hr
   subst hr
   clear HR hf HA
   go_wp2
   go_ret
   exact ⟨rfl, rfl⟩
theorem take_atTa (xs : List Ta) (k : Nat) (h : k < xs.length) : xs.take (k + 1) = xs.take k ++ [xs.getD k Ta.nil] := by
 rw [List.take_succ_eq_append_getElem h]; simp [List.getD, h]
set_option maxHeartbeats 6400000 in
theorem ladd {w : World} {v : Value} {ts : List Ta} (hs : SeesG taC 5 Ta.nil w v ts) {T : Ta} (HT : Hid (sumT ts = T)) : Calls Tryz.prog 64 #[v] w fun e w' => e = .returned (taV T) /\ Below w.heap.size w w' := by
 obtain ⟨X, HX, HPX, hbX, hzX⟩ : ∃ X, Hid (w.alloc (.cells #[.int .u64 0, .int .u64 0, .int .u64 0, .int .u64 0, .int .u64 0] 37) = X) /\ Hid (Hp X w.heap.size 37 (taC Ta.nil)) /\ Below w.heap.size w X /\ Hid (X.heap.size = w.heap.size + 1) := ⟨_, rfl, Hp.new w _ _, below_allocG _ _, by show _ = _; simp⟩
 obtain ⟨Y, HY, HPY, hbY⟩ : ∃ Y, Hid (X.alloc (.cells #[.int .u64 0, .int .u64 0, .int .u64 0, .int .u64 0, .int .u64 0] 37) = Y) /\ Hid (Hp Y X.heap.size 37 (taC Ta.nil)) /\ Below X.heap.size X Y := ⟨_, rfl, Hp.new X _ _, below_allocG _ _⟩
 have HPX2 := keepG (HPX.out.below hbY HPX.out.lt)
 have HBY : Hid (Below w.heap.size w Y) := hbX.trans (hbY.mono hbX.size)
 obtain ⟨n1, HN1⟩ : ∃ n1, Hid (X.heap.size = n1) := ⟨_, rfl⟩
 have hn1 : w.heap.size < n1 := by have := hzX.out; have := HN1.out; omega
 have hn1a : ¬ w.heap.size = n1 := by omega
 have hn1b : ¬ n1 = w.heap.size := by omega
 rw [HN1.out] at HPY
 have HSB := keepG (fun (wr : World) (hb : Below w.heap.size w wr) => hs.below hb (Nat.le_refl _))
 obtain ⟨a, cap, ev, hlc, hmx⟩ := hs.shape
 subst ev
 clear hs
 go_enter Tryz.func64, Tryz.ntmps64
 go_wp2_with (first | (rw [HX.out]; rw [HY.out]; rw [HN1.out]) | (rw [HX.out]) | (rw [HY.out]; rw [HN1.out]))
 go_loopw [8] (fun i wr => ∃ j : Nat, j <= ts.length /\ i = .int .i64 j /\ Hid (Hp wr n1 37 (taC (sumT (ts.take j)))) /\ Hid (Hp wr w.heap.size 37 (taC Ta.nil)) /\ Hid (Below w.heap.size w wr)) (fun i _ => ts.length - (intOf i).toNat)
 case atStart => exact ⟨0, by omega, rfl, HPY.out, HPX2.out, HBY.out⟩
 case round =>
  obtain ⟨j, hj, rfl, HP, HR, HB⟩ := hrel
  rename World => wr
  by_cases hlt : j < ts.length
  ·have hltI : (j : Int) < ts.length := by omega
   obtain ⟨p, off, ev, hat⟩ := taAt (HSB.out wr HB.out) hlt
   subst ev
   obtain ⟨x, HX'⟩ : ∃ x, Hid (ts.getD j Ta.nil = x) := ⟨_, rfl⟩
   obtain ⟨d0, d1, d2, d3, d4⟩ := hat j hlt x HX'.out
   have HSM : Hid (sumT (ts.take (j + 1)) = (sumT (ts.take j)).add x) := by show _ = _; rw [take_atTa ts j hlt, sumT_more, HX'.out]
   obtain ⟨A, HA⟩ : ∃ A, Hid (sumT (ts.take j) = A) := ⟨_, rfl⟩
   rw [HA.out] at HSM HP
   clear hat
   obtain ⟨xr, xm, xs, xc, xu⟩ := x
   obtain ⟨r, m, s, c, u⟩ := A
   simp only at d0 d1 d2 d3 d4
   have hlt1 := HP.out.lt
   have hlt0 := HR.out.lt
   have hq1 : ¬ n1 = wr.heap.size := by omega
   have hq0 : ¬ w.heap.size = wr.heap.size := by omega
   obtain ⟨W0, HW0, HT0, HP0, HR0, HB0⟩ : ∃ W0, Hid (wr.alloc (.cells #[.int .u64 xr, .int .u64 xm, .int .u64 xs, .int .u64 xc, .int .u64 xu] 37) = W0) /\ Hid (Hp W0 wr.heap.size 37 (taC ⟨xr, xm, xs, xc, xu⟩)) /\ Hid (Hp W0 n1 37 (taC ⟨r, m, s, c, u⟩)) /\ Hid (Hp W0 w.heap.size 37 (taC Ta.nil)) /\ Hid (Below w.heap.size w W0) := ⟨_, rfl, Hp.new wr (taC ⟨xr, xm, xs, xc, xu⟩) _, HP.out.alloc _, HR.out.alloc _, HB.out.alloc HB.out.size _⟩
   obtain ⟨⟨t0, t1, t2, t3, t4⟩, _⟩ := ta_cells HT0.out
   have k0 : W0.cell? ⟨n1, 0, none⟩ = some (.int .u64 r) := HP0.out.cell (j := 0) rfl
   have g0 : W0.frozen? ⟨n1, 0, none⟩ = false := HP0.out.frozen 0
   have hw0 := wrap_u64 r xr
   obtain ⟨r', HV0⟩ : ∃ r', Hid (ad r xr = r') := ⟨_, rfl⟩
   rw [HV0.out] at hw0
   have hv0 : (r + xr) % 18446744073709551616 = r' := HV0.out
   have hw1 := wrap_u64 m xm
   obtain ⟨m', HV1⟩ : ∃ m', Hid (ad m xm = m') := ⟨_, rfl⟩
   rw [HV1.out] at hw1
   have hv1 : (m + xm) % 18446744073709551616 = m' := HV1.out
   have hw2 := wrap_u64 s xs
   obtain ⟨s', HV2⟩ : ∃ s', Hid (ad s xs = s') := ⟨_, rfl⟩
   rw [HV2.out] at hw2
   have hv2 : (s + xs) % 18446744073709551616 = s' := HV2.out
   have hw3 := wrap_u64 c xc
   obtain ⟨c', HV3⟩ : ∃ c', Hid (ad c xc = c') := ⟨_, rfl⟩
   rw [HV3.out] at hw3
   have hv3 : (c + xc) % 18446744073709551616 = c' := HV3.out
   have hw4 := wrap_u64 u xu
   obtain ⟨u', HV4⟩ : ∃ u', Hid (ad u xu = u') := ⟨_, rfl⟩
   rw [HV4.out] at hw4
   have hv4 : (u + xu) % 18446744073709551616 = u' := HV4.out
   have HE : Hid (sumT (ts.take (j + 1)) = ⟨r', m', s', c', u'⟩) := by show _ = _; rw [HSM.out]; unfold Ta.add; rw [HV0.out, HV1.out, HV2.out, HV3.out, HV4.out]
   obtain ⟨W1, HW1, HT1, HP1, HR1, HB1⟩ : ∃ W1, Hid (W0.setCell ⟨n1, 0, none⟩ (.int .u64 r') = W1) /\ Hid (Hp W1 wr.heap.size 37 (taC ⟨xr, xm, xs, xc, xu⟩)) /\ Hid (Hp W1 n1 37 (taC ⟨r', m, s, c, u⟩)) /\ Hid (Hp W1 w.heap.size 37 (taC Ta.nil)) /\ Hid (Below w.heap.size w W1) := ⟨_, rfl, HT0.out.far (fun e => hq1 e.symm), HP0.out.set 0 _, HR0.out.far hn1a, HB0.out.trans (grown_to_below (grown_set W0 n1 0 _) (by omega) HB0.out.size)⟩
   have k1 : W1.cell? ⟨n1, 1, none⟩ = some (.int .u64 m) := HP1.out.cell (j := 1) rfl
   have g1 : W1.frozen? ⟨n1, 1, none⟩ = false := HP1.out.frozen 1
   have y1 : W1.cell? ⟨wr.heap.size, 1, none⟩ = some (.int .u64 xm) := HT1.out.cell (j := 1) rfl
   obtain ⟨W2, HW2, HT2, HP2, HR2, HB2⟩ : ∃ W2, Hid (W1.setCell ⟨n1, 1, none⟩ (.int .u64 m') = W2) /\ Hid (Hp W2 wr.heap.size 37 (taC ⟨xr, xm, xs, xc, xu⟩)) /\ Hid (Hp W2 n1 37 (taC ⟨r', m', s, c, u⟩)) /\ Hid (Hp W2 w.heap.size 37 (taC Ta.nil)) /\ Hid (Below w.heap.size w W2) := ⟨_, rfl, HT1.out.far (fun e => hq1 e.symm), HP1.out.set 1 _, HR1.out.far hn1a, HB1.out.trans (grown_to_below (grown_set W1 n1 1 _) (by omega) HB1.out.size)⟩
   have k2 : W2.cell? ⟨n1, 2, none⟩ = some (.int .u64 s) := HP2.out.cell (j := 2) rfl
   have g2 : W2.frozen? ⟨n1, 2, none⟩ = false := HP2.out.frozen 2
   have y2 : W2.cell? ⟨wr.heap.size, 2, none⟩ = some (.int .u64 xs) := HT2.out.cell (j := 2) rfl
   obtain ⟨W3, HW3, HT3, HP3, HR3, HB3⟩ : ∃ W3, Hid (W2.setCell ⟨n1, 2, none⟩ (.int .u64 s') = W3) /\ Hid (Hp W3 wr.heap.size 37 (taC ⟨xr, xm, xs, xc, xu⟩)) /\ Hid (Hp W3 n1 37 (taC ⟨r', m', s', c, u⟩)) /\ Hid (Hp W3 w.heap.size 37 (taC Ta.nil)) /\ Hid (Below w.heap.size w W3) := ⟨_, rfl, HT2.out.far (fun e => hq1 e.symm), HP2.out.set 2 _, HR2.out.far hn1a, HB2.out.trans (grown_to_below (grown_set W2 n1 2 _) (by omega) HB2.out.size)⟩
   have k3 : W3.cell? ⟨n1, 3, none⟩ = some (.int .u64 c) := HP3.out.cell (j := 3) rfl
   have g3 : W3.frozen? ⟨n1, 3, none⟩ = false := HP3.out.frozen 3
   have y3 : W3.cell? ⟨wr.heap.size, 3, none⟩ = some (.int .u64 xc) := HT3.out.cell (j := 3) rfl
   obtain ⟨W4, HW4, HT4, HP4, HR4, HB4⟩ : ∃ W4, Hid (W3.setCell ⟨n1, 3, none⟩ (.int .u64 c') = W4) /\ Hid (Hp W4 wr.heap.size 37 (taC ⟨xr, xm, xs, xc, xu⟩)) /\ Hid (Hp W4 n1 37 (taC ⟨r', m', s', c', u⟩)) /\ Hid (Hp W4 w.heap.size 37 (taC Ta.nil)) /\ Hid (Below w.heap.size w W4) := ⟨_, rfl, HT3.out.far (fun e => hq1 e.symm), HP3.out.set 3 _, HR3.out.far hn1a, HB3.out.trans (grown_to_below (grown_set W3 n1 3 _) (by omega) HB3.out.size)⟩
   have k4 : W4.cell? ⟨n1, 4, none⟩ = some (.int .u64 u) := HP4.out.cell (j := 4) rfl
   have g4 : W4.frozen? ⟨n1, 4, none⟩ = false := HP4.out.frozen 4
   have y4 : W4.cell? ⟨wr.heap.size, 4, none⟩ = some (.int .u64 xu) := HT4.out.cell (j := 4) rfl
   obtain ⟨W5, HW5, HT5, HP5, HR5, HB5⟩ : ∃ W5, Hid (W4.setCell ⟨n1, 4, none⟩ (.int .u64 u') = W5) /\ Hid (Hp W5 wr.heap.size 37 (taC ⟨xr, xm, xs, xc, xu⟩)) /\ Hid (Hp W5 n1 37 (taC ⟨r', m', s', c', u'⟩)) /\ Hid (Hp W5 w.heap.size 37 (taC Ta.nil)) /\ Hid (Below w.heap.size w W5) := ⟨_, rfl, HT4.out.far (fun e => hq1 e.symm), HP4.out.set 4 _, HR4.out.far hn1a, HB4.out.trans (grown_to_below (grown_set W4 n1 4 _) (by omega) HB4.out.size)⟩
   go_wp2_with (first | rw [HW0.out] | rw [HW1.out] | rw [HW2.out] | rw [HW3.out] | rw [HW4.out] | rw [HW5.out])
   go_roundw
   case rel => exact ⟨j + 1, by omega, by go_num, by rw [HE.out]; exact HP5.out, HR5.out, HB5.out⟩
   case measure => simp [intOf]; omega
  ·have hltI : ¬ (j : Int) < ts.length := by omega
   have HE : Hid (sumT (ts.take j) = T) := by show _ = _; rw [List.take_of_length_le (by omega)]; exact HT.out
   rw [HE.out] at HP
   obtain ⟨r, m, s, c, u⟩ := T
   obtain ⟨⟨c0, c1, c2, c3, c4⟩, _⟩ := ta_cells HP.out
   obtain ⟨⟨a0, a1, a2, a3, a4⟩, b0, b1, b2, b3, b4⟩ := ta_cells HR.out
   go_wp2
   exact ta_ret1 rfl rfl (HR.out.sets (taC ⟨r, m, s, c, u⟩) 0) ⟨rfl, HB.out.trans (grown_to_below (grown_sets w.heap.size (taC ⟨r, m, s, c, u⟩) wr 0) (Nat.le_refl _) HB.out.size)⟩
theorem four_of {A : List Ta} (hA : A.length = 4) : ∃ a b c d, A = [a, b, c, d] := by
 rcases A with _ | ⟨a, _ | ⟨b, _ | ⟨c, _ | ⟨d, _ | ⟨e, l⟩⟩⟩⟩⟩ <;> simp at hA
 exact ⟨a, b, c, d, rfl⟩
theorem splice_ta {A : List Ta} (hA : A.length = 4) {k : Nat} (hk : k < 4) (R : Ta) : splice (flatG taC A) (k * 5) (taC R) = flatG taC (A.set k R) := by
 obtain ⟨a, b, c, d, rfl⟩ := four_of hA
 have h5 : k = 0 ∨ k = 1 ∨ k = 2 ∨ k = 3 := by omega
 rcases h5 with rfl | rfl | rfl | rfl <;> rfl
theorem sum_two {a t : Ta} (h : a.Ok) : sumT [a, t] = a.add t := by
 show (Ta.nil.add a).add t = _
 rw [Ta.nil_add h]
section
variable {w w' : World} {b : Nat} {A : List Ta}
theorem hp_ta {ty : TypeId} (h : Hp w b ty (flatG taC A)) {k : Nat} (hk : k < A.length) {r m s c u : Int} (hx : A.getD k Ta.nil = ⟨r, m, s, c, u⟩) : (w.cell? ⟨b, k * 5, none⟩ = some (.int .u64 r) /\ w.cell? ⟨b, k * 5 + 1, none⟩ = some (.int .u64 m) /\ w.cell? ⟨b, k * 5 + 2, none⟩ = some (.int .u64 s) /\ w.cell? ⟨b, k * 5 + 3, none⟩ = some (.int .u64 c) /\ w.cell? ⟨b, k * 5 + 4, none⟩ = some (.int .u64 u)) /\ (w.frozen? ⟨b, k * 5, none⟩ = false /\ w.frozen? ⟨b, k * 5 + 1, none⟩ = false /\ w.frozen? ⟨b, k * 5 + 2, none⟩ = false /\ w.frozen? ⟨b, k * 5 + 3, none⟩ = false /\ w.frozen? ⟨b, k * 5 + 4, none⟩ = false) := by
 have g : ∀ j, j < 5 -> (flatG taC A)[k * 5 + j]? = (taC ⟨r, m, s, c, u⟩)[j]? := fun j hj => by rw [flatG_at taC_len Ta.nil A hk hj, hx]
 exact ⟨⟨h.cell (g 0 (by omega)), h.cell (g 1 (by omega)), h.cell (g 2 (by omega)), h.cell (g 3 (by omega)), h.cell (g 4 (by omega))⟩, h.frozen _, h.frozen _, h.frozen _, h.frozen _, h.frozen _⟩
set_option maxHeartbeats 6400000 in
theorem ltell (h : Hp w b 83 (flatG taC A)) (hA : A.length = 4) {k : Nat} (hk : k < 4) (hO : (A.getD k Ta.nil).Ok) (t : Ta) {R : Ta} (HR : Hid ((A.getD k Ta.nil).add t = R)) : Calls Tryz.prog 37 #[.pointer (some ⟨b, 0, none⟩), .int .i64 k, taV t] w fun e w' => e = .returned (.tuple #[]) /\ Hp w' b 83 (flatG taC (A.set k R)) /\ Chg w w' (fun i => i = b) := by
 have HH := keepG h
 have hkI : (k : Int) < 4 := by omega
 obtain ⟨x, HX⟩ : ∃ x, Hid (A.getD k Ta.nil = x) := ⟨_, rfl⟩
 rw [HX.out] at hO HR
 have HS := keepG (sum_two (t := t) hO)
 rw [HR.out] at HS
 obtain ⟨xr, xm, xs, xc, xu⟩ := x
 obtain ⟨tr, tm, ts, tc, tu⟩ := t
 obtain ⟨W0, HW0, HT0, HP0, HB0, HZ0⟩ : ∃ W0, Hid (w.alloc (.cells #[.int .u64 tr, .int .u64 tm, .int .u64 ts, .int .u64 tc, .int .u64 tu] 37) = W0) /\ Hid (Hp W0 w.heap.size 37 (taC ⟨tr, tm, ts, tc, tu⟩)) /\ Hid (Hp W0 b 83 (flatG taC A)) /\ Hid (Below w.heap.size w W0) /\ Hid (W0.heap.size = w.heap.size + 1) := ⟨_, rfl, Hp.new w (taC ⟨tr, tm, ts, tc, tu⟩) _, HH.out.alloc _, below_allocG _ _, by show _ = _; simp⟩
 obtain ⟨⟨t0, t1, t2, t3, t4⟩, _⟩ := ta_cells HT0.out
 obtain ⟨⟨d0, d1, d2, d3, d4⟩, _⟩ := hp_ta HP0.out (by omega) HX.out
 unfold taV
 clear h hO
 go_enter Tryz.func37, Tryz.ntmps37
 go_wp2_with (rw [HW0.out])
 have HBX : Hid (∀ wx : World, Hp wx w.heap.size 37 (taC ⟨tr, tm, ts, tc, tu⟩) -> wx.cell? ⟨w.heap.size, 0, none⟩ = some (.int .u64 tr) /\ wx.cell? ⟨w.heap.size, 1, none⟩ = some (.int .u64 tm) /\ wx.cell? ⟨w.heap.size, 2, none⟩ = some (.int .u64 ts) /\ wx.cell? ⟨w.heap.size, 3, none⟩ = some (.int .u64 tc) /\ wx.cell? ⟨w.heap.size, 4, none⟩ = some (.int .u64 tu)) := fun wx hx => (ta_cells hx).1
 have HSL : Hid (SeesG taC 5 Ta.nil (W0.drew.alloc (.cells #[.int .u64 xr, .int .u64 xm, .int .u64 xs, .int .u64 xc, .int .u64 xu, .int .u64 tr, .int .u64 tm, .int .u64 ts, .int .u64 tc, .int .u64 tu] 37)) (.slice (some ⟨W0.drew.heap.size, 0, none⟩) 2 2) [⟨xr, xm, xs, xc, xu⟩, ⟨tr, tm, ts, tc, tu⟩]) := SeesG.lit taC_len Ta.nil W0.drew 37 _ _ _ rfl rfl (by simp)
 have hbl : b < w.heap.size := HH.out.lt
 have hbn : ¬ b = w.heap.size := by omega
 have hbn2 : ¬ w.heap.size = b := by omega
 have HBD := keepG (below_drG (Below.refl W0.heap.size W0))
 have HBA : Hid (Below W0.heap.size W0 (W0.drew.alloc (.cells #[.int .u64 xr, .int .u64 xm, .int .u64 xs, .int .u64 xc, .int .u64 xu, .int .u64 tr, .int .u64 tm, .int .u64 ts, .int .u64 tc, .int .u64 tu] 37))) := HBD.out.trans (show Below W0.drew.heap.size W0.drew _ from below_allocG _ _)
 refine wp_region_held_drew (S := fun w' => w'.cell? ⟨w.heap.size, 0, none⟩ = some (.int .u64 tr) /\ w'.cell? ⟨w.heap.size, 1, none⟩ = some (.int .u64 tm) /\ w'.cell? ⟨w.heap.size, 2, none⟩ = some (.int .u64 ts) /\ w'.cell? ⟨w.heap.size, 3, none⟩ = some (.int .u64 tc) /\ w'.cell? ⟨w.heap.size, 4, none⟩ = some (.int .u64 tu)) (by kernel_rfl) (HBX.out W0 HT0.out) (fun hHeld => ?_)
 refine tkGo [0, 1, 2, 3, 4, 5, 6, 8, 11, 12] ?_
 repeat (refine tkO (v := ?_) rfl ?_ ?_; rotate_left; (intro wy hSw; (try dsimp only at hSw); go_simp; (first | done | with_reducible rfl)); try simp only [Act.put, p1q, p2q, p3q, p4q, p5q, p6q])
 refine tkEnd ?_
 refine runO 7 (by kernel_rfl) rfl (by rfl) (fun KK hK => ?_)
 go_simp
 refine hK.out _ _ (HBX.out _ HT0.out.drew) (fun hHeld => ?_)
 clear hK KK
 try simp only [Act.put, p1q, p2q, p3q, p4q, p5q, p6q]
 refine runO 9 (by kernel_rfl) rfl (by rfl) (fun KK hK => ?_)
 go_simp
 refine hK.out _ _ (HBX.out _ (HT0.out.below HBA.out HT0.out.lt)) (fun hHeld => ?_)
 clear hK KK
 try simp only [Act.put, p1q, p2q, p3q, p4q, p5q, p6q]
 refine runO 10 (by kernel_rfl) rfl (by rfl) (fun KK hK => ?_)
 go_simp
 go_at_call 64
 refine (ladd HSL.out HS).mono ?_
 rintro e w1 ⟨rfl, hb1⟩
 have HB1 := keepG (HBA.out.trans (hb1.mono HBA.out.size))
 have HP1 := keepG (HP0.out.below HB1.out HP0.out.lt)
 have HT1 := keepG (HT0.out.below HB1.out HT0.out.lt)
 clear hb1
 obtain ⟨Rr, Rm, Rs, Rc, Ru⟩ := R
 unfold taV
 go_simp
 refine hK.out _ _ (HBX.out _ HT1.out) (fun hHeld => ?_)
 clear hK KK
 try simp only [Act.put, p1q, p2q, p3q, p4q, p5q, p6q]
 refine tkGo [13] ?_
 repeat (refine tkO (v := ?_) rfl ?_ ?_; rotate_left; (intro wy hSw; (try dsimp only at hSw); go_simp; (first | done | with_reducible rfl)); try simp only [Act.put, p1q, p2q, p3q, p4q, p5q, p6q])
 refine tkEnd ?_
 obtain ⟨⟨e0, e1, e2, e3, e4⟩, g0, g1, g2, g3, g4⟩ := hp_ta HP1.out (by omega) HX.out
 have HP2 := keepG (HP1.out.sets (taC ⟨Rr, Rm, Rs, Rc, Ru⟩) (k * 5))
 have HT2 := keepG (HT1.out.fars hbn2 (taC ⟨Rr, Rm, Rs, Rc, Ru⟩) (k * 5))
 rw [splice_ta hA hk] at HP2
 refine runO 14 (by kernel_rfl) rfl (by rfl) (fun KK hK => ?_)
 go_simp
 refine hK.out _ _ (HBX.out _ HT2.out) (fun hHeld => ?_)
 clear hK KK
 try simp only [Act.put, p1q, p2q, p3q, p4q, p5q, p6q]
 refine wpAnyH_done (by kernel_rfl) ?_ _
 clear hHeld
 go_wp2
 exact bodyPost_end (results_none rfl _ _ _) rfl ⟨rfl, HP2.out, (Chg.of_below (HB0.out.trans (HB1.out.mono HB0.out.size))).trans (Chg.sets w1 b (k * 5) (taC ⟨Rr, Rm, Rs, Rc, Ru⟩)) (fun _ _ e => e)⟩
def Lq (w : World) (b : Nat) (l : List To) : Prop := Hp w b 83 (flatG taC (four l))
theorem Lq.tell {l : List To} (h : Lq w b l) {k : Nat} (hk : k < 4) (x : To) (hx : x.h = k) {t : Ta} (ht : x.ta = t) : Calls Tryz.prog 37 #[.pointer (some ⟨b, 0, none⟩), .int .i64 k, taV t] w fun e w' => e = .returned (.tuple #[]) /\ Lq w' b (l ++ [x]) /\ Chg w w' (fun i => i = b) := by
 have e := four_more l x hk hx
 have ho : ((four l).getD k Ta.nil).Ok := by rw [four_at l hk]; exact ofL_ok _ _
 refine (ltell h (four_len l) hk ho t (R := (ofL k l).add t) (by show _ = _; rw [four_at l hk])).mono ?_
 rintro e' w' ⟨rfl, g1, g2⟩
 refine ⟨rfl, ?_, g2⟩
 unfold Lq
 rw [e, ht]
 exact g1
theorem one_hook (w : World) (x : Int) : SeesG nC 1 0 (w.alloc (.cells #[.int .i64 x] 3)) (.slice (some ⟨w.heap.size, 0, none⟩) 1 1) [x] := SeesG.lit nC_len 0 w 3 [x] _ _ rfl rfl (by simp)
theorem all_one (x : Int) : [x].all isH = isH x := by simp
set_option maxHeartbeats 1600000 in
theorem Lq.ran {l L : List To} (h : Lq w b l) (x s c u : Int) {E : Int} (HQ : Hid (ranL l x s c u = (E, L))) : Calls Tryz.prog 25 #[.pointer (some ⟨b, 0, none⟩), .int .i64 x, .int .u64 s, .int .u64 c, .int .u64 u] w fun e w' => e = .returned (.int .i64 E) /\ Lq w' b L /\ Chg w w' (fun i => i = b) := by
 have HS := keepG (one_hook w x)
 obtain ⟨W0, HW0, HL0, HB0⟩ : ∃ W0, Hid (w.alloc (.cells #[.int .i64 x] 3) = W0) /\ Hid (Lq W0 b l) /\ Hid (Below w.heap.size w W0) := ⟨_, rfl, Hp.alloc h _, below_allocG _ _⟩
 rw [HW0.out] at HS
 have hq := HQ.out
 unfold ranL at hq
 clear h HQ
 go_enter Tryz.func25, Tryz.ntmps25
 cases hh : isH x with
 | false =>
  rw [if_neg (by rw [hh]; decide)] at hq
  injection hq with e1 e2
  subst e1 e2
  have HR : Hid ([x].all isH = false) := (all_one x).trans hh
  clear hh
  go_wp2_with (first
   | (go_at_call 19; (try rw [HW0.out]); go_must (refine (lareHooks HS.out HR).mono ?_); rintro e w1 ⟨rfl, rfl⟩)
   | (rw [HW0.out]))
  go_ret
  exact ⟨rfl, HL0.out, Chg.of_below HB0.out⟩
 | true =>
  rw [if_pos hh] at hq
  injection hq with e1 e2
  subst e1
  have HLL : Hid (l ++ [⟨x, false, s, c, u⟩] = L) := e2
  have HR : Hid ([x].all isH = true) := (all_one x).trans hh
  obtain ⟨k, rfl, hk⟩ := isH_nat hh
  clear hh e2
  go_wp2_with (first
   | (go_at_call 19; (try rw [HW0.out]); go_must (refine (lareHooks HS.out HR).mono ?_); rintro e w1 ⟨rfl, rfl⟩)
   | (go_at_call 37; go_must (refine (HL0.out.tell hk ⟨k, false, s, c, u⟩ rfl (t := ⟨1, 0, s, c, u⟩) rfl).mono ?_); rintro e w2 ⟨rfl, h2, hc2⟩; go_must (have HL2 := keepG h2; have HC2 := keepG hc2; clear h2 hc2))
   | (rw [HW0.out]))
  go_ret
  rw [HLL.out] at HL2
  exact ⟨rfl, HL2.out, (Chg.of_below HB0.out).trans HC2.out (fun _ _ e => e)⟩
set_option maxHeartbeats 3200000 in
theorem Lq.missed {l L : List To} (h : Lq w b l) {vh : Value} {hs : List Int} (hse : Sees .i64 w vh hs) (hap : hs ≠ [] -> Apt (fun i => i = b) (ftV vh)) {E : Int} (HQ : Hid (missedL l hs = (E, L))) : Calls Tryz.prog 22 #[.pointer (some ⟨b, 0, none⟩), vh] w fun e w' => e = .returned (.int .i64 E) /\ Lq w' b L /\ Chg w w' (fun i => i = b) := by
 have HS := keepG hse.asN
 have HSC : Hid (∀ wr, Chg w wr (fun i => i = b) -> SeesG nC 1 0 wr vh hs) := by
  intro wr hc
  by_cases hne : hs = []
  ·subst hne
   obtain ⟨a, cap, e, h1, h2, h3, h4⟩ := HS.out
   exact ⟨a, cap, e, h1, h2, h3, fun h => absurd rfl h⟩
  ·exact HS.out.keeps hc (hap hne)
 have HL := keepG h
 have hq := HQ.out
 unfold missedL at hq
 have HQ2 := keepG hq
 obtain ⟨a, cap, ev, hlc, hmx⟩ := HS.out.shape
 subst ev
 clear h hse hap HQ hq
 go_enter Tryz.func22, Tryz.ntmps22
 cases hh : hs.all isH with
 | false =>
  have hq2 := HQ2.out
  rw [if_neg (by rw [hh]; decide)] at hq2
  injection hq2 with e1 e2
  subst e1 e2
  have HR : Hid (hs.all isH = false) := hh
  clear hh HQ2
  go_wp2_with (go_at_call 19; go_must (refine (lareHooks HS.out HR).mono ?_); rintro e w1 ⟨rfl, rfl⟩)
  go_ret
  exact ⟨rfl, HL.out, Chg.refl _ _⟩
 | true =>
  have hq2 := HQ2.out
  rw [if_pos hh] at hq2
  injection hq2 with e1 e2
  subst e1
  have HLL : Hid (l ++ hs.map (fun h => (⟨h, true, 0, 0, 0⟩ : To)) = L) := e2
  have HR : Hid (hs.all isH = true) := hh
  clear hh HQ2 e2
  go_wp2_with (go_at_call 19; go_must (refine (lareHooks HS.out HR).mono ?_); rintro e w1 ⟨rfl, rfl⟩)
  go_loopw [12] (fun i wz => ∃ z : Nat, z <= hs.length /\ i = .int .i64 z /\ Hid (Lq wz b (l ++ (hs.take z).map (fun h => (⟨h, true, 0, 0, 0⟩ : To))) /\ Chg w wz (fun i => i = b))) (fun i _ => hs.length - (intOf i).toNat)
  case atStart => exact ⟨0, by omega, rfl, by simpa using HL.out, Chg.refl _ _⟩
  case round =>
   obtain ⟨z, hz, rfl, HI⟩ := hrel
   rename World => wz
   by_cases hlt : z < hs.length
   ·have hltI : (z : Int) < hs.length := by omega
    obtain ⟨a', cap', ev, _, _, _, hc⟩ := HSC.out wz HI.out.2
    simp only [Value.slice.injEq] at ev
    obtain ⟨rfl, -, rfl⟩ := ev
    obtain ⟨p, off, rfl, _, hat⟩ := hc (fun e => by rw [e] at hlt; simp at hlt)
    have d0 : wz.cell? ⟨p, off + z, none⟩ = some (.int .i64 (hs.getD z 0)) := by have := hat z hlt 0 (by omega); rw [Nat.mul_one, Nat.add_zero] at this; exact this
    have hT := take_at hs z hlt
    have hxh := List.all_eq_true.1 HR.out _ (getD_mem hs z hlt)
    obtain ⟨k, hkk, hk⟩ := isH_nat hxh
    rw [hkk] at hT d0
    have HN : Hid (l ++ (hs.take (z + 1)).map (fun h => (⟨h, true, 0, 0, 0⟩ : To)) = (l ++ (hs.take z).map (fun h => (⟨h, true, 0, 0, 0⟩ : To))) ++ [⟨k, true, 0, 0, 0⟩]) := by show _ = _; rw [hT]; simp
    clear hat hT hxh hkk
    go_wp2_with (go_at_call 37; go_must (refine (HI.out.1.tell hk ⟨k, true, 0, 0, 0⟩ rfl (t := ⟨0, 1, 0, 0, 0⟩) rfl).mono ?_); rintro e w2 ⟨rfl, h2, hc2⟩; go_must (have HL2 := keepG h2; have HC2 := keepG hc2; clear h2 hc2))
    go_roundw
    case rel => exact ⟨z + 1, by omega, by go_num, by rw [HN.out]; exact HL2.out, HI.out.2.trans HC2.out (fun _ _ e => e)⟩
    case measure => simp [intOf]; omega
   ·have hltI : ¬ (z : Int) < hs.length := by omega
    have h5 := HI.out
    rw [List.take_of_length_le (by omega), HLL.out] at h5
    have H5 := keepG h5
    clear h5
    go_wp2
    go_ret
    exact ⟨rfl, H5.out.1, H5.out.2⟩
set_option maxHeartbeats 1600000 in
theorem Lq.of {l : List To} (h : Lq w b l) (x : Int) {E : Int} {T : Ta} (HQ : Hid ((if isH x = true then (ofL x l, (0 : Int)) else (Ta.nil, 2)) = (T, E))) : Calls Tryz.prog 6 #[.pointer (some ⟨b, 0, none⟩), .int .i64 x] w fun e w' => e = .returned (.tuple #[taV T, .int .i64 E]) /\ Below w.heap.size w w' := by
 obtain ⟨X, HX, HPX, HBX, HLX⟩ : ∃ X, Hid (w.alloc (.cells #[.int .u64 0, .int .u64 0, .int .u64 0, .int .u64 0, .int .u64 0] 37) = X) /\ Hid (Hp X w.heap.size 37 (taC Ta.nil)) /\ Hid (Below w.heap.size w X) /\ Hid (Lq X b l) := ⟨_, rfl, Hp.new w _ _, below_allocG _ _, Hp.alloc h _⟩
 have HS := keepG (one_hook X x)
 obtain ⟨Y, HY, HPY, HBY, HLY⟩ : ∃ Y, Hid (X.alloc (.cells #[.int .i64 x] 3) = Y) /\ Hid (Hp Y w.heap.size 37 (taC Ta.nil)) /\ Hid (Below w.heap.size w Y) /\ Hid (Lq Y b l) := ⟨_, rfl, HPX.out.alloc _, HBX.out.alloc HBX.out.size _, Hp.alloc HLX.out _⟩
 rw [HY.out] at HS
 obtain ⟨⟨a0, a1, a2, a3, a4⟩, b0, b1, b2, b3, b4⟩ := ta_cells HPY.out
 have hq := HQ.out
 clear h HQ
 go_enter Tryz.func6, Tryz.ntmps6
 cases hh : isH x with
 | false =>
  rw [if_neg (by rw [hh]; decide)] at hq
  injection hq with e1 e2
  subst e1 e2
  have HR : Hid ([x].all isH = false) := (all_one x).trans hh
  clear hh
  go_wp2_with (first
   | (go_at_call 19; (try rw [HX.out]); (try rw [HY.out]); go_must (refine (lareHooks HS.out HR).mono ?_); rintro e w1 ⟨rfl, rfl⟩)
   | (rw [HX.out])
   | (rw [HY.out]))
  exact ta_ret rfl rfl rfl (HPY.out.sets (taC Ta.nil) 0) ⟨rfl, HBY.out.trans (grown_to_below (grown_sets w.heap.size (taC Ta.nil) Y 0) (Nat.le_refl _) HBY.out.size)⟩
 | true =>
  rw [if_pos hh] at hq
  injection hq with e1 e2
  subst e2
  have HR : Hid ([x].all isH = true) := (all_one x).trans hh
  obtain ⟨k, rfl, hk⟩ := isH_nat hh
  have hkI : (k : Int) < 4 := by omega
  have HT : Hid ((four l).getD k Ta.nil = T) := (four_at l hk).trans e1
  obtain ⟨r, m, s, c, u⟩ := T
  obtain ⟨⟨d0, d1, d2, d3, d4⟩, _⟩ := hp_ta HLY.out (by rw [four_len]; exact hk) HT.out
  clear hh e1
  go_wp2_with (first
   | (go_at_call 19; (try rw [HX.out]); (try rw [HY.out]); go_must (refine (lareHooks HS.out HR).mono ?_); rintro e w1 ⟨rfl, rfl⟩)
   | (rw [HX.out])
   | (rw [HY.out]))
  exact ta_ret rfl rfl rfl (HPY.out.sets (taC ⟨r, m, s, c, u⟩) 0) ⟨rfl, HBY.out.trans (grown_to_below (grown_sets w.heap.size (taC ⟨r, m, s, c, u⟩) Y 0) (Nat.le_refl _) HBY.out.size)⟩
end
def Lx (w : World) (B b : Nat) (F : Ft) (l : List To) : Prop := Lq w b l /\ F = (fun k => k = b)
section
variable {w w' : World} {B b : Nat} {F G : Ft} {l L : List To}
theorem Lx.here (h : Lx w B b F l) : F b := by rw [h.2]
theorem lxnew (w : World) : Calls Tryz.prog 18 #[] w fun e w' => ∃ b F, e = .returned (.pointer (some ⟨b, 0, none⟩)) /\ Lx w' w.heap.size b F [] /\ Since w F /\ Below w.heap.size w w' := by
 obtain ⟨X, HX, HPX, HBX⟩ : ∃ X, Hid (w.alloc (.cells (flatG taC zeroF).toArray 83) = X) /\ Hid (Hp X w.heap.size 83 (flatG taC (four []))) /\ Hid (Below w.heap.size w X) := ⟨_, rfl, Hp.new w _ _, below_allocG _ _⟩
 go_enter Tryz.func18, Tryz.ntmps18
 go_wp2
 go_ret
 have e : w.alloc (.cells #[.int .u64 0, .int .u64 0, .int .u64 0, .int .u64 0, .int .u64 0, .int .u64 0, .int .u64 0, .int .u64 0, .int .u64 0, .int .u64 0, .int .u64 0, .int .u64 0, .int .u64 0, .int .u64 0, .int .u64 0, .int .u64 0, .int .u64 0, .int .u64 0, .int .u64 0, .int .u64 0] 83) = X := HX.out
 rw [e]
 exact ⟨_, _, rfl, ⟨HPX.out, rfl⟩, fun k hk => Nat.le_of_eq hk.symm, HBX.out⟩
end
end Go.Proofs.YtkondcjmhlppiaaGreat
