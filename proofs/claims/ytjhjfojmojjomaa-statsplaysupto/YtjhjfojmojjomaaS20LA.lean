
/-
  The landed stats of layer 20: areHooks, Add. Condition: what is handed over is read where the slice says.
-/
import Derived.Test.YtjhjfojmojjomaaW20Ta
import Derived.Test.YtjhjfojmojjomaaTk
namespace Go.Proofs.Ytjhjfojmojjomaa
open Go.RowKit
set_option linter.unusedVariables false
set_option linter.unusedSimpArgs false
set_option maxRecDepth 100000
theorem results_cellS {fn : Func} {p : Tmp} {ty : TypeId} (h : fn.results = #[.cell p ty]) (tmps : Array Value) (P : Program) (w : World) :
    (results fn tmps).run P w = ((asAddr (tmps.getD p undef)).run P w).andThen fun a w₁ => (loadVar ty a).run P w₁ := by
  simp only [results, h]
  simp [Sem.run_bind, Result.andThen]
theorem ta_ret1 {fn : Func} {p : Tmp} {w2 : World} {n : Nat} {tmps : Array Value} {t : Ta} {Q : Ending → World → Prop} (hr : fn.results = #[.cell p 40]) (hp : tmps.getD p undef = .pointer (some ⟨n, 0, none⟩)) (hx : Hp w2 n 40 (taC t)) (hQ : Q (.returned (taV t)) w2) : bodyPost Try.prog fn Q .ret ⟨tmps, []⟩ w2 := by
  refine bodyPost_ret (v := taV t) ?_ rfl hQ
  rw [results_cellS hr, hp]
  simp only [asAddr, Sem.run_pure, Result.andThen]
  rw [run_boxTa hx]
abbrev nC (x : Int) : List Value := [.int .i64 x]
theorem nC_len (x : Int) : (nC x).length = 1 := rfl
theorem Sees.asN {w : World} {v : Value} {hs : List Int} (h : Sees .i64 w v hs) : SeesG nC 1 0 w v hs := by
  obtain ⟨a, cap, rfl, h1, h2, h3, _, h5⟩ := h
  refine ⟨a, cap, rfl, h1, h2, h3, fun hne => ?_⟩
  obtain ⟨b, off, rfl, hlt, hat⟩ := h5 hne
  refine ⟨b, off, rfl, hlt, fun k hk j hj => ?_⟩
  obtain rfl : j = 0 := by omega
  rw [Nat.mul_one, Nat.add_zero]
  exact hat k hk
theorem lareHooks {w : World} {vh : Value} {hs : List Int} (hsee : SeesG nC 1 0 w vh hs) {r : Bool} (HR : Hid (hs.all isH = r)) : Calls Try.prog 18 #[vh] w fun e w' => e = .returned (.bool r) ∧ w = w' := by
  have HS := keepG hsee
  obtain ⟨ha, hcap, rfl, hlc, hmx, _⟩ := hsee
  unfold maxLen at hmx
  go_enter Try.func18, Try.ntmps18
  go_wp2
  go_loopw [7] (fun i wr => ∃ j : Nat, j ≤ hs.length ∧ i = .int .i64 j ∧ Hid ((hs.take j).all isH = true) ∧ w = wr) (fun i _ => hs.length - (intOf i).toNat)
  case atStart => exact ⟨0, by omega, rfl, rfl, rfl⟩
  case round =>
    obtain ⟨j, hj, rfl, HA, rfl⟩ := hrel
    by_cases hlt : j < hs.length
    · have hltI : (j : Int) < hs.length := by omega
      obtain ⟨a', cap', ev, _, _, _, hc⟩ := HS.out
      simp only [Value.slice.injEq] at ev
      obtain ⟨rfl, -, rfl⟩ := ev
      obtain ⟨p, off, rfl, _, hat⟩ := hc (fun e => by rw [e] at hlt; simp at hlt)
      have d0 : w.cell? ⟨p, off + j, none⟩ = some (.int .i64 (hs.getD j 0)) := by have := hat j hlt 0 (by omega); rw [Nat.mul_one, Nat.add_zero] at this; exact this
      have hT := take_at hs j hlt
      have hmem := getD_mem hs j hlt
      obtain ⟨x, HX⟩ : ∃ x, Hid (hs.getD j 0 = x) := ⟨_, rfl⟩
      rw [HX.out] at d0 hT hmem
      have HT : Hid ((hs.take (j + 1)).all isH = isH x) := by show _ = _; rw [hT, List.all_append, HA.out]; simp
      clear hat hT
      cases hh : isH x with
      | false =>
        have hf : hs.all isH = false := by
          cases he : hs.all isH with
          | false => rfl
          | true => rw [List.all_eq_true.1 he x hmem] at hh; cases hh
        have hr := HR.out
        rw [hf] at hr
        subst hr
        clear hf hmem HR
        rcases isH_no hh with h0 | h0
        · clear hh
          have hd0 : decide (x < 0) = true := by simpa using h0
          go_wp2
          go_ret
          exact ⟨rfl, rfl⟩
        · have h1 : ¬ x < 0 := by omega
          have h2 : 4 ≤ x := by omega
          have hd0 : decide (x < 0) = false := by simpa using h1
          have hd1 : decide (4 ≤ x) = true := by simpa using h2
          clear hh
          go_wp2
          go_ret
          exact ⟨rfl, rfl⟩
      | true =>
        have HT2 : Hid ((hs.take (j + 1)).all isH = true) := by show _ = _; rw [HT.out]; exact hh
        obtain ⟨k, HK, hk⟩ := isH_nat hh
        have h0 : ¬ x < 0 := by omega
        have h1 : ¬ (4 : Int) ≤ x := by omega
        have hd0 : decide (x < 0) = false := by simpa using h0
        have hd1 : decide (4 ≤ x) = false := by simpa using h1
        have HK2 := keepG HK
        clear hh HK hmem
        go_wp2
        go_roundw
        case rel => exact ⟨j + 1, by omega, by go_num, HT2.out, by first | rfl | trivial⟩
        case measure => simp [intOf]; omega
    · have hltI : ¬ (j : Int) < hs.length := by omega
      have hf : hs.all isH = true := by
        have := HA.out
        rw [List.take_of_length_le (by omega)] at this
        exact this
      have hr := HR.out
      rw [hf] at hr
      subst hr
      clear HR hf HA
      go_wp2
      go_ret
      exact ⟨rfl, rfl⟩
theorem take_atTa (xs : List Ta) (k : Nat) (h : k < xs.length) : xs.take (k + 1) = xs.take k ++ [xs.getD k Ta.nil] := by
  rw [List.take_succ_eq_append_getElem h]; simp [List.getD, h]
set_option maxHeartbeats 6400000 in
theorem ladd {w : World} {v : Value} {ts : List Ta} (hs : SeesG taC 5 Ta.nil w v ts) {T : Ta} (HT : Hid (sumT ts = T)) : Calls Try.prog 15 #[v] w fun e w' => e = .returned (taV T) ∧ Below w.heap.size w w' := by
  obtain ⟨X, HX, HPX, hbX, hzX⟩ : ∃ X, Hid (w.alloc (.cells #[.int .u64 0, .int .u64 0, .int .u64 0, .int .u64 0, .int .u64 0] 40) = X) ∧ Hid (Hp X w.heap.size 40 (taC Ta.nil)) ∧ Below w.heap.size w X ∧ Hid (X.heap.size = w.heap.size + 1) := ⟨_, rfl, Hp.new w _ _, below_allocG _ _, by show _ = _; simp⟩
  obtain ⟨Y, HY, HPY, hbY⟩ : ∃ Y, Hid (X.alloc (.cells #[.int .u64 0, .int .u64 0, .int .u64 0, .int .u64 0, .int .u64 0] 40) = Y) ∧ Hid (Hp Y X.heap.size 40 (taC Ta.nil)) ∧ Below X.heap.size X Y := ⟨_, rfl, Hp.new X _ _, below_allocG _ _⟩
  have HPX2 := keepG (HPX.out.below hbY HPX.out.lt)
  have HBY : Hid (Below w.heap.size w Y) := hbX.trans (hbY.mono hbX.size)
  obtain ⟨n1, HN1⟩ : ∃ n1, Hid (X.heap.size = n1) := ⟨_, rfl⟩
  have hn1 : w.heap.size < n1 := by have := hzX.out; have := HN1.out; omega
  have hn1a : ¬ w.heap.size = n1 := by omega
  have hn1b : ¬ n1 = w.heap.size := by omega
  rw [HN1.out] at HPY
  have HSB := keepG (fun (wr : World) (hb : Below w.heap.size w wr) => hs.below hb (Nat.le_refl _))
  obtain ⟨a, cap, ev, hlc, hmx⟩ := hs.shape
  subst ev
  clear hs
  go_enter Try.func15, Try.ntmps15
  go_wp2_with (first | (rw [HX.out]; rw [HY.out]; rw [HN1.out]) | (rw [HX.out]) | (rw [HY.out]; rw [HN1.out]))
  go_loopw [8] (fun i wr => ∃ j : Nat, j ≤ ts.length ∧ i = .int .i64 j ∧ Hid (Hp wr n1 40 (taC (sumT (ts.take j)))) ∧ Hid (Hp wr w.heap.size 40 (taC Ta.nil)) ∧ Hid (Below w.heap.size w wr)) (fun i _ => ts.length - (intOf i).toNat)
  case atStart => exact ⟨0, by omega, rfl, HPY.out, HPX2.out, HBY.out⟩
  case round =>
    obtain ⟨j, hj, rfl, HP, HR, HB⟩ := hrel
    rename World => wr
    by_cases hlt : j < ts.length
    · have hltI : (j : Int) < ts.length := by omega
      obtain ⟨p, off, ev, hat⟩ := taAt (HSB.out wr HB.out) hlt
      subst ev
      obtain ⟨x, HX'⟩ : ∃ x, Hid (ts.getD j Ta.nil = x) := ⟨_, rfl⟩
      obtain ⟨d0, d1, d2, d3, d4⟩ := hat j hlt x HX'.out
      have HSM : Hid (sumT (ts.take (j + 1)) = (sumT (ts.take j)).add x) := by show _ = _; rw [take_atTa ts j hlt, sumT_more, HX'.out]
      obtain ⟨A, HA⟩ : ∃ A, Hid (sumT (ts.take j) = A) := ⟨_, rfl⟩
      rw [HA.out] at HSM HP
      clear hat
      obtain ⟨xr, xm, xs, xc, xu⟩ := x
      obtain ⟨r, m, s, c, u⟩ := A
      simp only at d0 d1 d2 d3 d4
      have hlt1 := HP.out.lt
      have hlt0 := HR.out.lt
      have hq1 : ¬ n1 = wr.heap.size := by omega
      have hq0 : ¬ w.heap.size = wr.heap.size := by omega
      obtain ⟨W0, HW0, HT0, HP0, HR0, HB0⟩ : ∃ W0, Hid (wr.alloc (.cells #[.int .u64 xr, .int .u64 xm, .int .u64 xs, .int .u64 xc, .int .u64 xu] 40) = W0) ∧ Hid (Hp W0 wr.heap.size 40 (taC ⟨xr, xm, xs, xc, xu⟩)) ∧ Hid (Hp W0 n1 40 (taC ⟨r, m, s, c, u⟩)) ∧ Hid (Hp W0 w.heap.size 40 (taC Ta.nil)) ∧ Hid (Below w.heap.size w W0) := ⟨_, rfl, Hp.new wr (taC ⟨xr, xm, xs, xc, xu⟩) _, HP.out.alloc _, HR.out.alloc _, HB.out.alloc HB.out.size _⟩
      obtain ⟨⟨t0, t1, t2, t3, t4⟩, _⟩ := ta_cells HT0.out
      have k0 : W0.cell? ⟨n1, 0, none⟩ = some (.int .u64 r) := HP0.out.cell (j := 0) rfl
      have g0 : W0.frozen? ⟨n1, 0, none⟩ = false := HP0.out.frozen 0
      have hw0 := wrap_u64 r xr
      obtain ⟨r', HV0⟩ : ∃ r', Hid (ad r xr = r') := ⟨_, rfl⟩
      rw [HV0.out] at hw0
      have hv0 : (r + xr) % 18446744073709551616 = r' := HV0.out
      have hw1 := wrap_u64 m xm
      obtain ⟨m', HV1⟩ : ∃ m', Hid (ad m xm = m') := ⟨_, rfl⟩
      rw [HV1.out] at hw1
      have hv1 : (m + xm) % 18446744073709551616 = m' := HV1.out
      have hw2 := wrap_u64 s xs
      obtain ⟨s', HV2⟩ : ∃ s', Hid (ad s xs = s') := ⟨_, rfl⟩
      rw [HV2.out] at hw2
      have hv2 : (s + xs) % 18446744073709551616 = s' := HV2.out
      have hw3 := wrap_u64 c xc
      obtain ⟨c', HV3⟩ : ∃ c', Hid (ad c xc = c') := ⟨_, rfl⟩
      rw [HV3.out] at hw3
      have hv3 : (c + xc) % 18446744073709551616 = c' := HV3.out
      have hw4 := wrap_u64 u xu
      obtain ⟨u', HV4⟩ : ∃ u', Hid (ad u xu = u') := ⟨_, rfl⟩
      rw [HV4.out] at hw4
      have hv4 : (u + xu) % 18446744073709551616 = u' := HV4.out
      have HE : Hid (sumT (ts.take (j + 1)) = ⟨r', m', s', c', u'⟩) := by show _ = _; rw [HSM.out]; unfold Ta.add; rw [HV0.out, HV1.out, HV2.out, HV3.out, HV4.out]
      obtain ⟨W1, HW1, HT1, HP1, HR1, HB1⟩ : ∃ W1, Hid (W0.setCell ⟨n1, 0, none⟩ (.int .u64 r') = W1) ∧ Hid (Hp W1 wr.heap.size 40 (taC ⟨xr, xm, xs, xc, xu⟩)) ∧ Hid (Hp W1 n1 40 (taC ⟨r', m, s, c, u⟩)) ∧ Hid (Hp W1 w.heap.size 40 (taC Ta.nil)) ∧ Hid (Below w.heap.size w W1) := ⟨_, rfl, HT0.out.far (fun e => hq1 e.symm), HP0.out.set 0 _, HR0.out.far hn1a, HB0.out.trans (grown_to_below (grown_set W0 n1 0 _) (by omega) HB0.out.size)⟩
      have k1 : W1.cell? ⟨n1, 1, none⟩ = some (.int .u64 m) := HP1.out.cell (j := 1) rfl
      have g1 : W1.frozen? ⟨n1, 1, none⟩ = false := HP1.out.frozen 1
      have y1 : W1.cell? ⟨wr.heap.size, 1, none⟩ = some (.int .u64 xm) := HT1.out.cell (j := 1) rfl
      obtain ⟨W2, HW2, HT2, HP2, HR2, HB2⟩ : ∃ W2, Hid (W1.setCell ⟨n1, 1, none⟩ (.int .u64 m') = W2) ∧ Hid (Hp W2 wr.heap.size 40 (taC ⟨xr, xm, xs, xc, xu⟩)) ∧ Hid (Hp W2 n1 40 (taC ⟨r', m', s, c, u⟩)) ∧ Hid (Hp W2 w.heap.size 40 (taC Ta.nil)) ∧ Hid (Below w.heap.size w W2) := ⟨_, rfl, HT1.out.far (fun e => hq1 e.symm), HP1.out.set 1 _, HR1.out.far hn1a, HB1.out.trans (grown_to_below (grown_set W1 n1 1 _) (by omega) HB1.out.size)⟩
      have k2 : W2.cell? ⟨n1, 2, none⟩ = some (.int .u64 s) := HP2.out.cell (j := 2) rfl
      have g2 : W2.frozen? ⟨n1, 2, none⟩ = false := HP2.out.frozen 2
      have y2 : W2.cell? ⟨wr.heap.size, 2, none⟩ = some (.int .u64 xs) := HT2.out.cell (j := 2) rfl
      obtain ⟨W3, HW3, HT3, HP3, HR3, HB3⟩ : ∃ W3, Hid (W2.setCell ⟨n1, 2, none⟩ (.int .u64 s') = W3) ∧ Hid (Hp W3 wr.heap.size 40 (taC ⟨xr, xm, xs, xc, xu⟩)) ∧ Hid (Hp W3 n1 40 (taC ⟨r', m', s', c, u⟩)) ∧ Hid (Hp W3 w.heap.size 40 (taC Ta.nil)) ∧ Hid (Below w.heap.size w W3) := ⟨_, rfl, HT2.out.far (fun e => hq1 e.symm), HP2.out.set 2 _, HR2.out.far hn1a, HB2.out.trans (grown_to_below (grown_set W2 n1 2 _) (by omega) HB2.out.size)⟩
      have k3 : W3.cell? ⟨n1, 3, none⟩ = some (.int .u64 c) := HP3.out.cell (j := 3) rfl
      have g3 : W3.frozen? ⟨n1, 3, none⟩ = false := HP3.out.frozen 3
      have y3 : W3.cell? ⟨wr.heap.size, 3, none⟩ = some (.int .u64 xc) := HT3.out.cell (j := 3) rfl
      obtain ⟨W4, HW4, HT4, HP4, HR4, HB4⟩ : ∃ W4, Hid (W3.setCell ⟨n1, 3, none⟩ (.int .u64 c') = W4) ∧ Hid (Hp W4 wr.heap.size 40 (taC ⟨xr, xm, xs, xc, xu⟩)) ∧ Hid (Hp W4 n1 40 (taC ⟨r', m', s', c', u⟩)) ∧ Hid (Hp W4 w.heap.size 40 (taC Ta.nil)) ∧ Hid (Below w.heap.size w W4) := ⟨_, rfl, HT3.out.far (fun e => hq1 e.symm), HP3.out.set 3 _, HR3.out.far hn1a, HB3.out.trans (grown_to_below (grown_set W3 n1 3 _) (by omega) HB3.out.size)⟩
      have k4 : W4.cell? ⟨n1, 4, none⟩ = some (.int .u64 u) := HP4.out.cell (j := 4) rfl
      have g4 : W4.frozen? ⟨n1, 4, none⟩ = false := HP4.out.frozen 4
      have y4 : W4.cell? ⟨wr.heap.size, 4, none⟩ = some (.int .u64 xu) := HT4.out.cell (j := 4) rfl
      obtain ⟨W5, HW5, HT5, HP5, HR5, HB5⟩ : ∃ W5, Hid (W4.setCell ⟨n1, 4, none⟩ (.int .u64 u') = W5) ∧ Hid (Hp W5 wr.heap.size 40 (taC ⟨xr, xm, xs, xc, xu⟩)) ∧ Hid (Hp W5 n1 40 (taC ⟨r', m', s', c', u'⟩)) ∧ Hid (Hp W5 w.heap.size 40 (taC Ta.nil)) ∧ Hid (Below w.heap.size w W5) := ⟨_, rfl, HT4.out.far (fun e => hq1 e.symm), HP4.out.set 4 _, HR4.out.far hn1a, HB4.out.trans (grown_to_below (grown_set W4 n1 4 _) (by omega) HB4.out.size)⟩
      go_wp2_with (first | rw [HW0.out] | rw [HW1.out] | rw [HW2.out] | rw [HW3.out] | rw [HW4.out] | rw [HW5.out])
      go_roundw
      case rel => exact ⟨j + 1, by omega, by go_num, by rw [HE.out]; exact HP5.out, HR5.out, HB5.out⟩
      case measure => simp [intOf]; omega
    · have hltI : ¬ (j : Int) < ts.length := by omega
      have HE : Hid (sumT (ts.take j) = T) := by show _ = _; rw [List.take_of_length_le (by omega)]; exact HT.out
      rw [HE.out] at HP
      obtain ⟨r, m, s, c, u⟩ := T
      obtain ⟨⟨c0, c1, c2, c3, c4⟩, _⟩ := ta_cells HP.out
      obtain ⟨⟨a0, a1, a2, a3, a4⟩, b0, b1, b2, b3, b4⟩ := ta_cells HR.out
      go_wp2
      exact ta_ret1 rfl rfl (HR.out.sets (taC ⟨r, m, s, c, u⟩) 0) ⟨rfl, HB.out.trans (grown_to_below (grown_sets w.heap.size (taC ⟨r, m, s, c, u⟩) wr 0) (Nat.le_refl _) HB.out.size)⟩
end Go.Proofs.Ytjhjfojmojjomaa
