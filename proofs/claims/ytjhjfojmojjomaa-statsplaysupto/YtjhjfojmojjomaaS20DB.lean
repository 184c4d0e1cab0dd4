
/-
  The document's Of of layer 20; a tally as a result in its box. Condition: what was told lies where the slice says.
-/
import Derived.Test.YtjhjfojmojjomaaTk
import Derived.Test.YtjhjfojmojjomaaS20DA
import Derived.Deep.MidRow
namespace Go.Proofs.Ytjhjfojmojjomaa
open Go.RowKit
set_option linter.unusedVariables false
set_option linter.unusedSimpArgs false
set_option maxRecDepth 100000
theorem run_boxTa {w : World} {n : Nat} {t : Ta} (h : Hp w n 40 (taC t)) : (loadVar 40 ⟨n, 0, none⟩).run Try.prog w = .ok (taV t) w := by
  refine run_loadVar_mid w n 0 40 (taC t) _ ?_ Try.underlying40 rfl (by kernel_rfl)
  intro j x hx
  rw [Nat.zero_add]
  exact h.cell hx
theorem ta_ret {fn : Func} {p u : Tmp} {w2 : World} {n : Nat} {tmps : Array Value} {t : Ta} {E : Int} {Q : Ending → World → Prop} (hr : fn.results = #[.cell p 40, .tmp u]) (hp : tmps.getD p undef = .pointer (some ⟨n, 0, none⟩)) (hu : tmps.getD u undef = .int .i64 E) (hx : Hp w2 n 40 (taC t)) (hQ : Q (.returned (.tuple #[taV t, .int .i64 E])) w2) : bodyPost Try.prog fn Q .ret ⟨tmps, []⟩ w2 := by
  refine bodyPost_ret (v := .tuple #[taV t, .int .i64 E]) ?_ rfl hQ
  rw [results_cell_tmpS hr, hp, hu]
  simp only [asAddr, Sem.run_pure, Result.andThen]
  rw [run_boxTa hx]
theorem ta_cells {w : World} {n : Nat} {r m s c u : Int} (h : Hp w n 40 (taC ⟨r, m, s, c, u⟩)) : (w.cell? ⟨n, 0, none⟩ = some (.int .u64 r) ∧ w.cell? ⟨n, 1, none⟩ = some (.int .u64 m) ∧ w.cell? ⟨n, 2, none⟩ = some (.int .u64 s) ∧ w.cell? ⟨n, 3, none⟩ = some (.int .u64 c) ∧ w.cell? ⟨n, 4, none⟩ = some (.int .u64 u)) ∧ (w.frozen? ⟨n, 0, none⟩ = false ∧ w.frozen? ⟨n, 1, none⟩ = false ∧ w.frozen? ⟨n, 2, none⟩ = false ∧ w.frozen? ⟨n, 3, none⟩ = false ∧ w.frozen? ⟨n, 4, none⟩ = false) :=
  ⟨⟨h.cell (j := 0) rfl, h.cell (j := 1) rfl, h.cell (j := 2) rfl, h.cell (j := 3) rfl, h.cell (j := 4) rfl⟩, h.frozen 0, h.frozen 1, h.frozen 2, h.frozen 3, h.frozen 4⟩
theorem wrap_u64 (a b : Int) : IntKind.u64.wrap (a + b) = ad a b := by rw [IntKind.wrap_u64]; rfl
section
variable {w w' : World} {B : Nat} {v : Value} {l : List To}
theorem take_atTo (xs : List To) (k : Nat) (h : k < xs.length) : xs.take (k + 1) = xs.take k ++ [xs.getD k To.nil] := by
  rw [List.take_succ_eq_append_getElem h]; simp [List.getD, h]
set_option maxHeartbeats 6400000 in
theorem dof (hs : SeesG toC 5 To.nil w v l) (h : Int) {E : Int} {T : Ta} (HQ : Hid ((if isH h = true then (ofL h l, (0 : Int)) else (Ta.nil, 2)) = (T, E))) : Calls Try.prog 12 #[v, .int .i64 h] w fun e w' => e = .returned (.tuple #[taV T, .int .i64 E]) ∧ Below w.heap.size w w' := by
  obtain ⟨X, HX, HPX, hbX, hzX⟩ : ∃ X, Hid (w.alloc (.cells #[.int .u64 0, .int .u64 0, .int .u64 0, .int .u64 0, .int .u64 0] 40) = X) ∧ Hid (Hp X w.heap.size 40 (taC Ta.nil)) ∧ Below w.heap.size w X ∧ Hid (X.heap.size = w.heap.size + 1) := ⟨_, rfl, Hp.new w _ _, below_allocG _ _, by show _ = _; simp⟩
  obtain ⟨Y, HY, HPY, hbY⟩ : ∃ Y, Hid (X.alloc (.cells #[.int .u64 0, .int .u64 0, .int .u64 0, .int .u64 0, .int .u64 0] 40) = Y) ∧ Hid (Hp Y X.heap.size 40 (taC Ta.nil)) ∧ Below X.heap.size X Y := ⟨_, rfl, Hp.new X _ _, below_allocG _ _⟩
  have HPX2 := keepG (HPX.out.below hbY HPX.out.lt)
  have HBY : Hid (Below w.heap.size w Y) := hbX.trans (hbY.mono hbX.size)
  obtain ⟨n1, HN1⟩ : ∃ n1, Hid (X.heap.size = n1) := ⟨_, rfl⟩
  have hn1 : w.heap.size < n1 := by have := hzX.out; have := HN1.out; omega
  have hn1a : ¬ w.heap.size = n1 := by omega
  have hn1b : ¬ n1 = w.heap.size := by omega
  rw [HN1.out] at HPY
  have HSB := keepG (fun (wr : World) (hb : Below w.heap.size w wr) => hs.below hb (Nat.le_refl _))
  obtain ⟨a, cap, ev, hlc, hmx⟩ := hs.shape
  subst ev
  have hq := HQ.out
  clear hs HQ
  go_enter Try.func12, Try.ntmps12
  obtain ⟨⟨a0, a1, a2, a3, a4⟩, b0, b1, b2, b3, b4⟩ := ta_cells HPX2.out
  obtain ⟨⟨c0, c1, c2, c3, c4⟩, _⟩ := ta_cells HPY.out
  cases hh : isH h with
  | false =>
    rw [if_neg (by rw [hh]; decide)] at hq
    injection hq with e1 e2
    subst e1 e2
    rcases isH_no hh with h0 | h0
    · clear hh
      go_wp2_with (first | (rw [HX.out]; rw [HY.out]; rw [HN1.out]) | (rw [HX.out]) | (rw [HY.out]; rw [HN1.out]))
      exact ta_ret rfl rfl rfl (HPX2.out.sets (taC Ta.nil) 0) ⟨rfl, HBY.out.trans (grown_to_below (grown_sets w.heap.size (taC Ta.nil) Y 0) (Nat.le_refl _) HBY.out.size)⟩
    · have h1 : ¬ h < 0 := by omega
      clear hh
      go_wp2_with (first | (rw [HX.out]; rw [HY.out]; rw [HN1.out]) | (rw [HX.out]) | (rw [HY.out]; rw [HN1.out]))
      exact ta_ret rfl rfl rfl (HPX2.out.sets (taC Ta.nil) 0) ⟨rfl, HBY.out.trans (grown_to_below (grown_sets w.heap.size (taC Ta.nil) Y 0) (Nat.le_refl _) HBY.out.size)⟩
  | true =>
    rw [if_pos hh] at hq
    injection hq with e1 e2
    subst e2
    have HT : Hid (ofL h l = T) := e1
    obtain ⟨k, hkk, hk⟩ := isH_nat hh
    have h0 : ¬ h < 0 := by omega
    have h1 : ¬ (3 : Int) < h := by omega
    clear hh e1 hkk
    go_wp2_with (first | (rw [HX.out]; rw [HY.out]; rw [HN1.out]) | (rw [HX.out]) | (rw [HY.out]; rw [HN1.out]))
    clear a0 a1 a2 a3 a4 b0 b1 b2 b3 b4 c0 c1 c2 c3 c4
    go_loopw [7] (fun i wr => ∃ j : Nat, j ≤ l.length ∧ i = .int .i64 j ∧ Hid (Hp wr n1 40 (taC (ofL h (l.take j)))) ∧ Hid (Hp wr w.heap.size 40 (taC Ta.nil)) ∧ Hid (Below w.heap.size w wr)) (fun i _ => l.length - (intOf i).toNat)
    case atStart => exact ⟨0, by omega, rfl, HPY.out, HPX2.out, HBY.out⟩
    case round =>
      obtain ⟨j, hj, rfl, HP, HR, HB⟩ := hrel
      rename World => wr
      by_cases hlt : j < l.length
      · have hltI : (j : Int) < l.length := by omega
        obtain ⟨a', cap', ev, -, -, -, hat⟩ := HSB.out wr HB.out
        simp only [Value.slice.injEq, true_and] at ev
        obtain ⟨rfl, rfl⟩ := ev
        obtain ⟨p, off, rfl, hpl, -⟩ := hat (fun e => by rw [e] at hlt; simp at hlt)
        have hplw : p < w.heap.size := by
          obtain ⟨a2, cap2, ev2, _, _, _, hat2⟩ := HSB.out w (Below.refl _ _)
          simp only [Value.slice.injEq] at ev2
          obtain ⟨e3, _, _⟩ := ev2
          obtain ⟨p2, off2, e4, hp2, _⟩ := hat2 (fun e => by rw [e] at hlt; simp at hlt)
          rw [← e3] at e4
          simp only [Option.some.injEq, Addr.mk.injEq] at e4
          omega
        have hT := take_atTo l j hlt
        obtain ⟨x, HX'⟩ : ∃ x, Hid (l.getD j To.nil = x) := ⟨_, rfl⟩
        have HLC : Hid (∀ wx : World, Below w.heap.size w wx → wx.cell? ⟨p, off + j * 5, none⟩ = some (.int .i64 x.h) ∧ wx.cell? ⟨p, off + j * 5 + 1, none⟩ = some (.bool x.m) ∧ wx.cell? ⟨p, off + j * 5 + 2, none⟩ = some (.int .u64 x.s) ∧ wx.cell? ⟨p, off + j * 5 + 3, none⟩ = some (.int .u64 x.c) ∧ wx.cell? ⟨p, off + j * 5 + 4, none⟩ = some (.int .u64 x.u)) := by
          intro wx hb
          obtain ⟨a2, cap2, ev2, _, _, _, hat2⟩ := HSB.out wx hb
          simp only [Value.slice.injEq] at ev2
          obtain ⟨e3, _, _⟩ := ev2
          obtain ⟨p2, off2, e4, hp2, hc2⟩ := hat2 (fun e => by rw [e] at hlt; simp at hlt)
          rw [← e3] at e4
          simp only [Option.some.injEq, Addr.mk.injEq, and_true] at e4
          obtain ⟨rfl, rfl⟩ := e4
          have g0 := hc2 j hlt 0 (by omega)
          have g1 := hc2 j hlt 1 (by omega)
          have g2 := hc2 j hlt 2 (by omega)
          have g3 := hc2 j hlt 3 (by omega)
          have g4 := hc2 j hlt 4 (by omega)
          rw [HX'.out] at g0 g1 g2 g3 g4
          exact ⟨g0, g1, g2, g3, g4⟩
        obtain ⟨d0, d1, d2, d3, d4⟩ := HLC.out wr HB.out
        have HOF : Hid (ofL h (l.take (j + 1)) = if x.h = h then (ofL h (l.take j)).add x.ta else ofL h (l.take j)) := by show _ = _; rw [hT, ofL_more, HX'.out]
        have HOK := keepG (ofL_ok h (l.take j))
        obtain ⟨A, HA⟩ : ∃ A, Hid (ofL h (l.take j) = A) := ⟨_, rfl⟩
        rw [HA.out] at HOF HP HOK
        clear hT hat
        obtain ⟨xh, xm, xs, xc, xu⟩ := x
        obtain ⟨r, m, s, c, u⟩ := A
        simp only at d0 d1 d2 d3 d4
        obtain ⟨⟨c0, c1, c2, c3, c4⟩, f0, f1, f2, f3, f4⟩ := ta_cells HP.out
        by_cases hx : xh = h
        · subst hx
          have hxb : (xh != xh) = false := by simp
          rw [if_pos rfl] at HOF
          cases xm with
          | true =>
            have hw1 := wrap_u64 m 1
            have HE : Hid (ofL xh (l.take (j + 1)) = ⟨r, ad m 1, s, c, u⟩) := by
              show _ = _
              rw [HOF.out]
              unfold To.ta Ta.add
              simp only [if_true, ad_zero HOK.out.r, ad_zero HOK.out.s, ad_zero HOK.out.c, ad_zero HOK.out.u]
            obtain ⟨m', HM'⟩ : ∃ m', Hid (ad m 1 = m') := ⟨_, rfl⟩
            rw [HM'.out] at HE hw1
            have hw1' : (m + 1) % 18446744073709551616 = m' := HM'.out
            have HPw := keepG (HP.out.set 1 (.int .u64 m'))
            have HRw := keepG (HR.out.far (b' := n1) (i := 1) (v := .int .u64 m') hn1a)
            have HBw : Hid (Below w.heap.size w (wr.setCell ⟨n1, 1, none⟩ (.int .u64 m'))) := HB.out.trans (grown_to_below (grown_set wr n1 1 _) (by omega) HB.out.size)
            go_wp2
            go_roundw
            case rel => exact ⟨j + 1, by omega, by go_num, by rw [HE.out]; exact HPw.out, HRw.out, HBw.out⟩
            case measure => simp [intOf]; omega
          | false =>
            have hw0 := wrap_u64 r 1
            have hw2 := wrap_u64 s xs
            have hw3 := wrap_u64 c xc
            have hw4 := wrap_u64 u xu
            have HE : Hid (ofL xh (l.take (j + 1)) = ⟨ad r 1, m, ad s xs, ad c xc, ad u xu⟩) := by
              show _ = _
              rw [HOF.out]
              unfold To.ta Ta.add
              simp only [Bool.false_eq_true, if_false, ad_zero HOK.out.m]
            obtain ⟨r', HR'⟩ : ∃ r', Hid (ad r 1 = r') := ⟨_, rfl⟩
            obtain ⟨s', HS'⟩ : ∃ s', Hid (ad s xs = s') := ⟨_, rfl⟩
            obtain ⟨c', HC'⟩ : ∃ c', Hid (ad c xc = c') := ⟨_, rfl⟩
            obtain ⟨u', HU'⟩ : ∃ u', Hid (ad u xu = u') := ⟨_, rfl⟩
            rw [HR'.out, HS'.out, HC'.out, HU'.out] at HE
            rw [HR'.out] at hw0
            rw [HS'.out] at hw2
            rw [HC'.out] at hw3
            rw [HU'.out] at hw4
            have hv0 : (r + 1) % 18446744073709551616 = r' := HR'.out
            have hv2 : (s + xs) % 18446744073709551616 = s' := HS'.out
            have hv3 : (c + xc) % 18446744073709551616 = c' := HC'.out
            have hv4 : (u + xu) % 18446744073709551616 = u' := HU'.out
            obtain ⟨W1, HW1, HP1, HR1, HB1⟩ : ∃ W1, Hid (wr.setCell ⟨n1, 0, none⟩ (.int .u64 r') = W1) ∧ Hid (Hp W1 n1 40 (taC ⟨r', m, s, c, u⟩)) ∧ Hid (Hp W1 w.heap.size 40 (taC Ta.nil)) ∧ Hid (Below w.heap.size w W1) := ⟨_, rfl, HP.out.set 0 _, HR.out.far hn1a, HB.out.trans (grown_to_below (grown_set wr n1 0 _) (by omega) HB.out.size)⟩
            go_wp2_with (rw [HW1.out])
            have e2 := (ta_cells HP1.out).1
            have k2 : W1.cell? ⟨n1, 2, none⟩ = some (.int .u64 s) := HP1.out.cell (j := 2) rfl
            have g2 : W1.frozen? ⟨n1, 2, none⟩ = false := HP1.out.frozen 2
            have q2 : W1.cell? ⟨p, off + j * 5 + 2, none⟩ = some (.int .u64 xs) := (HLC.out W1 HB1.out).2.2.1
            obtain ⟨W2, HW2, HP2, HR2, HB2⟩ : ∃ W2, Hid ((W1.setCell ⟨n1, 2, none⟩ (.int .u64 s')).drew = W2) ∧ Hid (Hp W2 n1 40 (taC ⟨r', m, s', c, u⟩)) ∧ Hid (Hp W2 w.heap.size 40 (taC Ta.nil)) ∧ Hid (Below w.heap.size w W2) := ⟨_, rfl, HP1.out.set 2 _, HR1.out.far hn1a, below_drG (HB1.out.trans (grown_to_below (grown_set W1 n1 2 _) (by omega) HB1.out.size))⟩
            clear e2
            refine wp_region_held_drew (S := fun w' => w'.cell? ⟨p, off + j * 5 + 2, none⟩ = some (.int .u64 xs)) (by kernel_rfl) q2 (fun hHeld => ?_)
            refine tkGo [0, 2, 3, 4, 5, 6] ?_
            repeat (refine tkOne (v := ?_) rfl (by kernel_rfl) (by kernel_rfl) (by kernel_rfl) (fun _ _ _ h => h) (by assumption) (by rfl) ?_ ?_; rotate_left; (intro wy hSw; (try dsimp only at hSw); go_simp; (first | done | with_reducible rfl)); try simp only [Act.put, List.getElem_toArray, List.getElem_cons_zero, List.getElem_cons_succ, List.setIfInBounds_toArray, List.set_cons_zero, List.set_cons_succ])
            refine tkEnd ?_
            refine wpAnyH_ready (rs := [1]) (by kernel_rfl) (by simp) ?_
            refine AllReadyH.cons rfl (fun KK hK => ?_) AllReadyH.nil
            rw [if_pos (by rfl)]
            go_simp
            refine hK.out _ _ q2 (fun hHeld => ?_)
            clear hK KK
            try simp only [Act.put, List.getElem_toArray, List.getElem_cons_zero, List.getElem_cons_succ, List.setIfInBounds_toArray, List.set_cons_zero, List.set_cons_succ]
            refine tkGo [7, 8] ?_
            repeat (refine tkOne (v := ?_) rfl (by kernel_rfl) (by kernel_rfl) (by kernel_rfl) (fun _ _ _ h => h) (by assumption) (by rfl) ?_ ?_; rotate_left; (intro wy hSw; (try dsimp only at hSw); go_simp; (first | done | with_reducible rfl)); try simp only [Act.put, List.getElem_toArray, List.getElem_cons_zero, List.getElem_cons_succ, List.setIfInBounds_toArray, List.set_cons_zero, List.set_cons_succ])
            refine tkEnd ?_
            refine wpAnyH_ready (rs := [9]) (by kernel_rfl) (by simp) ?_
            refine AllReadyH.cons rfl (fun KK hK => ?_) AllReadyH.nil
            rw [if_pos (by rfl)]
            go_simp
            rw [HW2.out]
            refine hK.out _ _ ((HLC.out W2 HB2.out).2.2.1) (fun hHeld => ?_)
            clear hK KK
            try simp only [Act.put, List.getElem_toArray, List.getElem_cons_zero, List.getElem_cons_succ, List.setIfInBounds_toArray, List.set_cons_zero, List.set_cons_succ]
            refine wpAnyH_done (by kernel_rfl) ?_ _
            clear hHeld
            go_wp2
            have e3 := (ta_cells HP2.out).1
            have k3 : W2.cell? ⟨n1, 3, none⟩ = some (.int .u64 c) := HP2.out.cell (j := 3) rfl
            have g3 : W2.frozen? ⟨n1, 3, none⟩ = false := HP2.out.frozen 3
            have q3 : W2.cell? ⟨p, off + j * 5 + 3, none⟩ = some (.int .u64 xc) := (HLC.out W2 HB2.out).2.2.2.1
            obtain ⟨W3, HW3, HP3, HR3, HB3⟩ : ∃ W3, Hid ((W2.setCell ⟨n1, 3, none⟩ (.int .u64 c')).drew = W3) ∧ Hid (Hp W3 n1 40 (taC ⟨r', m, s', c', u⟩)) ∧ Hid (Hp W3 w.heap.size 40 (taC Ta.nil)) ∧ Hid (Below w.heap.size w W3) := ⟨_, rfl, HP2.out.set 3 _, HR2.out.far hn1a, below_drG (HB2.out.trans (grown_to_below (grown_set W2 n1 3 _) (by omega) HB2.out.size))⟩
            clear e3
            refine wp_region_held_drew (S := fun w' => w'.cell? ⟨p, off + j * 5 + 3, none⟩ = some (.int .u64 xc)) (by kernel_rfl) q3 (fun hHeld => ?_)
            refine tkGo [0, 2, 3, 4, 5, 6] ?_
            repeat (refine tkOne (v := ?_) rfl (by kernel_rfl) (by kernel_rfl) (by kernel_rfl) (fun _ _ _ h => h) (by assumption) (by rfl) ?_ ?_; rotate_left; (intro wy hSw; (try dsimp only at hSw); go_simp; (first | done | with_reducible rfl)); try simp only [Act.put, List.getElem_toArray, List.getElem_cons_zero, List.getElem_cons_succ, List.setIfInBounds_toArray, List.set_cons_zero, List.set_cons_succ])
            refine tkEnd ?_
            refine wpAnyH_ready (rs := [1]) (by kernel_rfl) (by simp) ?_
            refine AllReadyH.cons rfl (fun KK hK => ?_) AllReadyH.nil
            rw [if_pos (by rfl)]
            go_simp
            refine hK.out _ _ q3 (fun hHeld => ?_)
            clear hK KK
            try simp only [Act.put, List.getElem_toArray, List.getElem_cons_zero, List.getElem_cons_succ, List.setIfInBounds_toArray, List.set_cons_zero, List.set_cons_succ]
            refine tkGo [7, 8] ?_
            repeat (refine tkOne (v := ?_) rfl (by kernel_rfl) (by kernel_rfl) (by kernel_rfl) (fun _ _ _ h => h) (by assumption) (by rfl) ?_ ?_; rotate_left; (intro wy hSw; (try dsimp only at hSw); go_simp; (first | done | with_reducible rfl)); try simp only [Act.put, List.getElem_toArray, List.getElem_cons_zero, List.getElem_cons_succ, List.setIfInBounds_toArray, List.set_cons_zero, List.set_cons_succ])
            refine tkEnd ?_
            refine wpAnyH_ready (rs := [9]) (by kernel_rfl) (by simp) ?_
            refine AllReadyH.cons rfl (fun KK hK => ?_) AllReadyH.nil
            rw [if_pos (by rfl)]
            go_simp
            rw [HW3.out]
            refine hK.out _ _ ((HLC.out W3 HB3.out).2.2.2.1) (fun hHeld => ?_)
            clear hK KK
            try simp only [Act.put, List.getElem_toArray, List.getElem_cons_zero, List.getElem_cons_succ, List.setIfInBounds_toArray, List.set_cons_zero, List.set_cons_succ]
            refine wpAnyH_done (by kernel_rfl) ?_ _
            clear hHeld
            go_wp2
            have e4 := (ta_cells HP3.out).1
            have k4 : W3.cell? ⟨n1, 4, none⟩ = some (.int .u64 u) := HP3.out.cell (j := 4) rfl
            have g4 : W3.frozen? ⟨n1, 4, none⟩ = false := HP3.out.frozen 4
            have q4 : W3.cell? ⟨p, off + j * 5 + 4, none⟩ = some (.int .u64 xu) := (HLC.out W3 HB3.out).2.2.2.2
            obtain ⟨W4, HW4, HP4, HR4, HB4⟩ : ∃ W4, Hid ((W3.setCell ⟨n1, 4, none⟩ (.int .u64 u')).drew = W4) ∧ Hid (Hp W4 n1 40 (taC ⟨r', m, s', c', u'⟩)) ∧ Hid (Hp W4 w.heap.size 40 (taC Ta.nil)) ∧ Hid (Below w.heap.size w W4) := ⟨_, rfl, HP3.out.set 4 _, HR3.out.far hn1a, below_drG (HB3.out.trans (grown_to_below (grown_set W3 n1 4 _) (by omega) HB3.out.size))⟩
            clear e4
            refine wp_region_held_drew (S := fun w' => w'.cell? ⟨p, off + j * 5 + 4, none⟩ = some (.int .u64 xu)) (by kernel_rfl) q4 (fun hHeld => ?_)
            refine tkGo [0, 2, 3, 4, 5, 6] ?_
            repeat (refine tkOne (v := ?_) rfl (by kernel_rfl) (by kernel_rfl) (by kernel_rfl) (fun _ _ _ h => h) (by assumption) (by rfl) ?_ ?_; rotate_left; (intro wy hSw; (try dsimp only at hSw); go_simp; (first | done | with_reducible rfl)); try simp only [Act.put, List.getElem_toArray, List.getElem_cons_zero, List.getElem_cons_succ, List.setIfInBounds_toArray, List.set_cons_zero, List.set_cons_succ])
            refine tkEnd ?_
            refine wpAnyH_ready (rs := [1]) (by kernel_rfl) (by simp) ?_
            refine AllReadyH.cons rfl (fun KK hK => ?_) AllReadyH.nil
            rw [if_pos (by rfl)]
            go_simp
            refine hK.out _ _ q4 (fun hHeld => ?_)
            clear hK KK
            try simp only [Act.put, List.getElem_toArray, List.getElem_cons_zero, List.getElem_cons_succ, List.setIfInBounds_toArray, List.set_cons_zero, List.set_cons_succ]
            refine tkGo [7, 8] ?_
            repeat (refine tkOne (v := ?_) rfl (by kernel_rfl) (by kernel_rfl) (by kernel_rfl) (fun _ _ _ h => h) (by assumption) (by rfl) ?_ ?_; rotate_left; (intro wy hSw; (try dsimp only at hSw); go_simp; (first | done | with_reducible rfl)); try simp only [Act.put, List.getElem_toArray, List.getElem_cons_zero, List.getElem_cons_succ, List.setIfInBounds_toArray, List.set_cons_zero, List.set_cons_succ])
            refine tkEnd ?_
            refine wpAnyH_ready (rs := [9]) (by kernel_rfl) (by simp) ?_
            refine AllReadyH.cons rfl (fun KK hK => ?_) AllReadyH.nil
            rw [if_pos (by rfl)]
            go_simp
            rw [HW4.out]
            refine hK.out _ _ ((HLC.out W4 HB4.out).2.2.2.2) (fun hHeld => ?_)
            clear hK KK
            try simp only [Act.put, List.getElem_toArray, List.getElem_cons_zero, List.getElem_cons_succ, List.setIfInBounds_toArray, List.set_cons_zero, List.set_cons_succ]
            refine wpAnyH_done (by kernel_rfl) ?_ _
            clear hHeld
            go_wp2
            go_roundw
            case rel => exact ⟨j + 1, by omega, by go_num, by rw [HE.out]; exact HP4.out, HR4.out, HB4.out⟩
            case measure => simp [intOf]; omega
        · have hxb : (xh != h) = true := by simpa using hx
          rw [if_neg hx] at HOF
          go_wp2
          go_roundw
          case rel => exact ⟨j + 1, by omega, by go_num, by rw [HOF.out]; exact HP.out, HR.out, HB.out⟩
          case measure => simp [intOf]; omega
      · have hltI : ¬ (j : Int) < l.length := by omega
        have HE : Hid (ofL h (l.take j) = T) := by show _ = _; rw [List.take_of_length_le (by omega)]; exact HT.out
        rw [HE.out] at HP
        obtain ⟨r, m, s, c, u⟩ := T
        obtain ⟨⟨c0, c1, c2, c3, c4⟩, _⟩ := ta_cells HP.out
        obtain ⟨⟨a0, a1, a2, a3, a4⟩, b0, b1, b2, b3, b4⟩ := ta_cells HR.out
        go_wp2
        exact ta_ret rfl rfl rfl (HR.out.sets (taC ⟨r, m, s, c, u⟩) 0) ⟨rfl, HB.out.trans (grown_to_below (grown_sets w.heap.size (taC ⟨r, m, s, c, u⟩) wr 0) (Nat.le_refl _) HB.out.size)⟩
end
end Go.Proofs.Ytjhjfojmojjomaa
