
/-
  StatsAdds, walked. Condition: none but the arguments' reading.
-/
import Derived.Test.YtjhjfojmojjomaaTk
import Derived.Test.YtjhjfojmojjomaaW20Kit
namespace Go.Proofs.Ytjhjfojmojjomaa
open Go.RowKit
set_option linter.unusedVariables false
set_option linter.unusedSimpArgs false
set_option maxRecDepth 100000
theorem ta_flat (ts : List Ta) : ∀ u ∈ flatG taC ts, u.oneCell' = true := by
  induction ts with
  | nil => intro u hu; cases hu
  | cons t ts ih =>
    intro u hu
    have hu' : u ∈ taC t ++ flatG taC ts := hu
    rcases List.mem_append.1 hu' with e | e
    · simp only [taC, List.mem_cons, List.not_mem_nil, or_false] at e
      rcases e with rfl | rfl | rfl | rfl | rfl <;> rfl
    · exact ih u e
/-- Tallies that were handed in. -/
structure ScrT (w0 : World) (v : Value) (xs : List Ta) : Prop where
  sees : SeesG taC 5 Ta.nil w0 v xs
  each : ∀ x ∈ xs, True
set_option maxHeartbeats 12800000 in
theorem statsAdds_ok (tv : Value) (ts : List Ta) (w : World) (hs : SeesG taC 5 Ta.nil w tv ts) (hlen : ts.length * 40 ≤ 140737488351232) :
    Calls Try.prog 5 #[tv] w fun e w' => e = .returned (.bool true) ∧ Below w.heap.size w w' := by
  obtain ⟨i0, hi0, hz0, hzs, hzb⟩ := info_parts infoTa
  have HSB := keepG (fun (wr : World) (hb : Below w.heap.size w wr) => hs.below hb (Nat.le_refl _))
  obtain ⟨a, cap, ev, hlc, hmx⟩ := hs.shape
  subst ev
  clear hs
  go_enter Try.func5, Try.ntmps5
  go_wp2_with (first
    | (go_at_call 6; go_must (refine (awake20_any w).mono ?_); rintro e w1 ⟨rfl, hb1⟩; go_must (obtain ⟨Z, HZ, hbZ, hoZ⟩ : ∃ Z, Hid (w1.alloc (.cells #[] 40) = Z) ∧ Below w1.heap.size w1 Z ∧ Hid (Z.ownsRow w1.heap.size 40 5 (.slice (some ⟨w1.heap.size, 0, none⟩) 0 0) 0 []) := ⟨_, rfl, below_allocG _ _, ⟨by simp, .inr ⟨w1.heap.size, 0, #[], rfl, Nat.le_refl _, heap_alloc_new w1 _, Nat.le_refl _, by simp [maxLen], by simp, by simp⟩⟩⟩; have hbZ1 : Below w.heap.size w Z := hb1.trans (hbZ.mono hb1.size); obtain ⟨v8, w8, hrun, hown, hgr, _⟩ := run_append_seesG (P := Try.prog) (w1.alloc (.cells #[] 40)) w1.heap.size 38 38 40 i0 _ 5 40 Try.underlying38 hi0 hz0 hzs hzb rfl (by decide) (.slice (some ⟨w1.heap.size, 0, none⟩) 0 0) 0 [] (by rw [HZ.out]; exact hoZ.out) taC_len (by rw [HZ.out]; exact HSB.out Z hbZ1) (ta_flat ts) (by unfold maxLen; omega) (by omega) (by rw [HZ.out]; exact hbZ.size); have hgr' := hgr; rw [HZ.out] at hgr'; have hb8 : Below w1.heap.size w1 w8 := hbZ.trans ((Below.refl _ _).grown hgr' hbZ.size (fun k hk => by have : w1.heap.size = k := Option.some.inj hk; omega)); have HB8 : Hid (Below w.heap.size w w8) := hb1.trans (hb8.mono hb1.size); have HO8 : Hid (RoTa w8 w1.heap.size v8 ts) := (by show World.ownsRow _ _ _ _ _ _ _; simpa using hown); obtain ⟨va8, vc8, ev8⟩ := own_shape hown; rw [Nat.zero_add] at ev8; subst ev8; have HZB := keepG hb1.size; obtain ⟨X, HX, hbX, HPX⟩ : ∃ X, Hid (w8.alloc (.cells #[.int .u64 0, .int .u64 0, .int .u64 0, .int .u64 0, .int .u64 0] 40) = X) ∧ Below w8.heap.size w8 X ∧ Hid (Hp X w8.heap.size 40 (taC Ta.nil)) := ⟨_, rfl, below_allocG _ _, Hp.new w8 _ _⟩; have HBX : Hid (Below w.heap.size w X) := HB8.out.trans (hbX.mono HB8.out.size); have HOX := keepG (HO8.out.below hbX); clear hown hgr hgr' hb8 hb1))
    | (at_builtin; go_must (refine wpList_appG _ rfl (.tmp 8) (.tmp 9) 38 38 rfl _ _ rfl rfl hrun ?_))
    | (rw [HX.out]))
  obtain ⟨n1, HN1⟩ : ∃ n1, Hid (w8.heap.size = n1) := ⟨_, rfl⟩
  have HL8 : Hid (∀ k, ftV (.slice va8 ts.length vc8) k → k < n1 ∧ w.heap.size ≤ k) := by
    intro k hk
    have := HO8.out.lt k hk
    have := HN1.out
    have := HZB.out
    exact ⟨by omega, by omega⟩
  have hn1 : w.heap.size ≤ n1 := by rw [← HN1.out]; exact HB8.out.size
  rw [HN1.out] at HPX
  rw [HN1.out]
  clear hrun HZ hbZ hoZ hbZ1 HX hbX
  go_loopw [5] (fun i wr => ∃ j : Nat, j ≤ ts.length ∧ i = .int .i64 j ∧ Hid (Hp wr n1 40 (taC (sumT (ts.take j)))) ∧ Hid (RoTa wr w1.heap.size (.slice va8 ts.length vc8) ts) ∧ Hid (Below w.heap.size w wr)) (fun i _ => ts.length - (intOf i).toNat)
  case atStart => exact ⟨0, by omega, rfl, HPX.out, HOX.out, HBX.out⟩
  case round =>
    obtain ⟨j, hj, rfl, HP0, HO0, HB0⟩ := hrel
    rename World => W0
    by_cases hlt : j < ts.length
    · have hltI : (j : Int) < ts.length := by omega
      obtain ⟨p, off, ev, _⟩ := taAt (HSB.out W0 HB0.out) hlt
      subst ev
      have hT := take_atTa ts j hlt
      obtain ⟨x, HX'⟩ : ∃ x, Hid (ts.getD j Ta.nil = x) := ⟨_, rfl⟩
      have HLC : Hid (∀ wx : World, Below w.heap.size w wx → wx.cell? ⟨p, off + j * 5, none⟩ = some (.int .u64 x.r) ∧ wx.cell? ⟨p, off + j * 5 + 1, none⟩ = some (.int .u64 x.m) ∧ wx.cell? ⟨p, off + j * 5 + 2, none⟩ = some (.int .u64 x.s) ∧ wx.cell? ⟨p, off + j * 5 + 3, none⟩ = some (.int .u64 x.c) ∧ wx.cell? ⟨p, off + j * 5 + 4, none⟩ = some (.int .u64 x.u)) := by
        intro wx hb
        obtain ⟨p2, off2, ev2, hat2⟩ := taAt (HSB.out wx hb) hlt
        simp only [Option.some.injEq, Addr.mk.injEq, and_true] at ev2
        obtain ⟨rfl, rfl⟩ := ev2
        exact hat2 j hlt x HX'.out
      have HOF : Hid (sumT (ts.take (j + 1)) = (sumT (ts.take j)).add x) := by show _ = _; rw [hT, sumT_more, HX'.out]
      obtain ⟨A, HA⟩ : ∃ A, Hid (sumT (ts.take j) = A) := ⟨_, rfl⟩
      rw [HA.out] at HOF HP0
      clear hT
      obtain ⟨xr, xm, xs, xc, xu⟩ := x
      obtain ⟨r, m, s, c, u⟩ := A
      simp only at HLC
      obtain ⟨r', HR'⟩ : ∃ r', Hid (ad r xr = r') := ⟨_, rfl⟩
      obtain ⟨m', HM'⟩ : ∃ m', Hid (ad m xm = m') := ⟨_, rfl⟩
      obtain ⟨s', HS'⟩ : ∃ s', Hid (ad s xs = s') := ⟨_, rfl⟩
      obtain ⟨c', HC'⟩ : ∃ c', Hid (ad c xc = c') := ⟨_, rfl⟩
      obtain ⟨u', HU'⟩ : ∃ u', Hid (ad u xu = u') := ⟨_, rfl⟩
      have HE : Hid (sumT (ts.take (j + 1)) = ⟨r', m', s', c', u'⟩) := by
        show _ = _
        rw [HOF.out, ← HR'.out, ← HM'.out, ← HS'.out, ← HC'.out, ← HU'.out]
        rfl
      have hw0 : IntKind.u64.wrap (r + xr) = r' := (wrap_u64 r xr).trans HR'.out
      have hw1 : IntKind.u64.wrap (m + xm) = m' := (wrap_u64 m xm).trans HM'.out
      have hw2 : IntKind.u64.wrap (s + xs) = s' := (wrap_u64 s xs).trans HS'.out
      have hw3 : IntKind.u64.wrap (c + xc) = c' := (wrap_u64 c xc).trans HC'.out
      have hw4 : IntKind.u64.wrap (u + xu) = u' := (wrap_u64 u xu).trans HU'.out
      have HNR : Hid (∀ k, ftV (.slice va8 ts.length vc8) k → ¬ k = n1) := fun k hk e => by have := (HL8.out k hk).1; omega
      have k0 : W0.cell? ⟨n1, 0, none⟩ = some (.int .u64 r) := HP0.out.cell (j := 0) rfl
      have g0 : W0.frozen? ⟨n1, 0, none⟩ = false := HP0.out.frozen 0
      have q0 := (HLC.out W0 HB0.out).1
      obtain ⟨W1, HW1, HP1, HO1, HB1⟩ : ∃ W1, Hid ((W0.setCell ⟨n1, 0, none⟩ (.int .u64 r')).drew = W1) ∧ Hid (Hp W1 n1 40 (taC ⟨r', m, s, c, u⟩)) ∧ Hid (RoTa W1 w1.heap.size (.slice va8 ts.length vc8) ts) ∧ Hid (Below w.heap.size w W1) := ⟨_, rfl, HP0.out.set 0 _, own_keeps HO0.out ((Chg.set W0 n1 0 _).drewN 1) (fun k e1 e2 => HNR.out k e2 e1), below_drG (HB0.out.trans (grown_to_below (grown_set W0 n1 0 _) hn1 HB0.out.size))⟩
      go_wp2
      refine wp_region_held_drew (S := fun w' => w'.cell? ⟨p, off + j * 5, none⟩ = some (.int .u64 xr)) (by kernel_rfl) q0 (fun hHeld => ?_)
      refine tkGo [0, 2, 3, 4, 5, 6] ?_
      repeat (refine tkOne (v := ?_) rfl (by kernel_rfl) (by kernel_rfl) (by kernel_rfl) (fun _ _ _ h => h) (by assumption) (by rfl) ?_ ?_; rotate_left; (intro wy hSw; (try dsimp only at hSw); go_simp; (first | done | with_reducible rfl)); try simp only [Act.put, List.getElem_toArray, List.getElem_cons_zero, List.getElem_cons_succ, List.setIfInBounds_toArray, List.set_cons_zero, List.set_cons_succ])
      refine tkEnd ?_
      refine wpAnyH_ready (rs := [1]) (by kernel_rfl) (by simp) ?_
      refine AllReadyH.cons rfl (fun KK hK => ?_) AllReadyH.nil
      rw [if_pos (by rfl)]
      go_simp
      refine hK.out _ _ q0 (fun hHeld => ?_)
      clear hK KK
      try simp only [Act.put, List.getElem_toArray, List.getElem_cons_zero, List.getElem_cons_succ, List.setIfInBounds_toArray, List.set_cons_zero, List.set_cons_succ]
      refine tkGo [7, 8] ?_
      repeat (refine tkOne (v := ?_) rfl (by kernel_rfl) (by kernel_rfl) (by kernel_rfl) (fun _ _ _ h => h) (by assumption) (by rfl) ?_ ?_; rotate_left; (intro wy hSw; (try dsimp only at hSw); go_simp; (first | done | with_reducible rfl)); try simp only [Act.put, List.getElem_toArray, List.getElem_cons_zero, List.getElem_cons_succ, List.setIfInBounds_toArray, List.set_cons_zero, List.set_cons_succ])
      refine tkEnd ?_
      refine wpAnyH_ready (rs := [9]) (by kernel_rfl) (by simp) ?_
      refine AllReadyH.cons rfl (fun KK hK => ?_) AllReadyH.nil
      rw [if_pos (by rfl)]
      go_simp
      rw [HW1.out]
      refine hK.out _ _ ((HLC.out W1 HB1.out).1) (fun hHeld => ?_)
      clear hK KK
      try simp only [Act.put, List.getElem_toArray, List.getElem_cons_zero, List.getElem_cons_succ, List.setIfInBounds_toArray, List.set_cons_zero, List.set_cons_succ]
      refine wpAnyH_done (by kernel_rfl) ?_ _
      clear hHeld k0 g0 q0
      have k1 : W1.cell? ⟨n1, 1, none⟩ = some (.int .u64 m) := HP1.out.cell (j := 1) rfl
      have g1 : W1.frozen? ⟨n1, 1, none⟩ = false := HP1.out.frozen 1
      have q1 := (HLC.out W1 HB1.out).2.1
      obtain ⟨W2, HW2, HP2, HO2, HB2⟩ : ∃ W2, Hid ((W1.setCell ⟨n1, 1, none⟩ (.int .u64 m')).drew = W2) ∧ Hid (Hp W2 n1 40 (taC ⟨r', m', s, c, u⟩)) ∧ Hid (RoTa W2 w1.heap.size (.slice va8 ts.length vc8) ts) ∧ Hid (Below w.heap.size w W2) := ⟨_, rfl, HP1.out.set 1 _, own_keeps HO1.out ((Chg.set W1 n1 1 _).drewN 1) (fun k e1 e2 => HNR.out k e2 e1), below_drG (HB1.out.trans (grown_to_below (grown_set W1 n1 1 _) hn1 HB1.out.size))⟩
      go_wp2
      refine wp_region_held_drew (S := fun w' => w'.cell? ⟨p, off + j * 5 + 1, none⟩ = some (.int .u64 xm)) (by kernel_rfl) q1 (fun hHeld => ?_)
      refine tkGo [0, 2, 3, 4, 5, 6] ?_
      repeat (refine tkOne (v := ?_) rfl (by kernel_rfl) (by kernel_rfl) (by kernel_rfl) (fun _ _ _ h => h) (by assumption) (by rfl) ?_ ?_; rotate_left; (intro wy hSw; (try dsimp only at hSw); go_simp; (first | done | with_reducible rfl)); try simp only [Act.put, List.getElem_toArray, List.getElem_cons_zero, List.getElem_cons_succ, List.setIfInBounds_toArray, List.set_cons_zero, List.set_cons_succ])
      refine tkEnd ?_
      refine wpAnyH_ready (rs := [1]) (by kernel_rfl) (by simp) ?_
      refine AllReadyH.cons rfl (fun KK hK => ?_) AllReadyH.nil
      rw [if_pos (by rfl)]
      go_simp
      refine hK.out _ _ q1 (fun hHeld => ?_)
      clear hK KK
      try simp only [Act.put, List.getElem_toArray, List.getElem_cons_zero, List.getElem_cons_succ, List.setIfInBounds_toArray, List.set_cons_zero, List.set_cons_succ]
      refine tkGo [7, 8] ?_
      repeat (refine tkOne (v := ?_) rfl (by kernel_rfl) (by kernel_rfl) (by kernel_rfl) (fun _ _ _ h => h) (by assumption) (by rfl) ?_ ?_; rotate_left; (intro wy hSw; (try dsimp only at hSw); go_simp; (first | done | with_reducible rfl)); try simp only [Act.put, List.getElem_toArray, List.getElem_cons_zero, List.getElem_cons_succ, List.setIfInBounds_toArray, List.set_cons_zero, List.set_cons_succ])
      refine tkEnd ?_
      refine wpAnyH_ready (rs := [9]) (by kernel_rfl) (by simp) ?_
      refine AllReadyH.cons rfl (fun KK hK => ?_) AllReadyH.nil
      rw [if_pos (by rfl)]
      go_simp
      rw [HW2.out]
      refine hK.out _ _ ((HLC.out W2 HB2.out).2.1) (fun hHeld => ?_)
      clear hK KK
      try simp only [Act.put, List.getElem_toArray, List.getElem_cons_zero, List.getElem_cons_succ, List.setIfInBounds_toArray, List.set_cons_zero, List.set_cons_succ]
      refine wpAnyH_done (by kernel_rfl) ?_ _
      clear hHeld k1 g1 q1
      have k2 : W2.cell? ⟨n1, 2, none⟩ = some (.int .u64 s) := HP2.out.cell (j := 2) rfl
      have g2 : W2.frozen? ⟨n1, 2, none⟩ = false := HP2.out.frozen 2
      have q2 := (HLC.out W2 HB2.out).2.2.1
      obtain ⟨W3, HW3, HP3, HO3, HB3⟩ : ∃ W3, Hid ((W2.setCell ⟨n1, 2, none⟩ (.int .u64 s')).drew = W3) ∧ Hid (Hp W3 n1 40 (taC ⟨r', m', s', c, u⟩)) ∧ Hid (RoTa W3 w1.heap.size (.slice va8 ts.length vc8) ts) ∧ Hid (Below w.heap.size w W3) := ⟨_, rfl, HP2.out.set 2 _, own_keeps HO2.out ((Chg.set W2 n1 2 _).drewN 1) (fun k e1 e2 => HNR.out k e2 e1), below_drG (HB2.out.trans (grown_to_below (grown_set W2 n1 2 _) hn1 HB2.out.size))⟩
      go_wp2
      refine wp_region_held_drew (S := fun w' => w'.cell? ⟨p, off + j * 5 + 2, none⟩ = some (.int .u64 xs)) (by kernel_rfl) q2 (fun hHeld => ?_)
      refine tkGo [0, 2, 3, 4, 5, 6] ?_
      repeat (refine tkOne (v := ?_) rfl (by kernel_rfl) (by kernel_rfl) (by kernel_rfl) (fun _ _ _ h => h) (by assumption) (by rfl) ?_ ?_; rotate_left; (intro wy hSw; (try dsimp only at hSw); go_simp; (first | done | with_reducible rfl)); try simp only [Act.put, List.getElem_toArray, List.getElem_cons_zero, List.getElem_cons_succ, List.setIfInBounds_toArray, List.set_cons_zero, List.set_cons_succ])
      refine tkEnd ?_
      refine wpAnyH_ready (rs := [1]) (by kernel_rfl) (by simp) ?_
      refine AllReadyH.cons rfl (fun KK hK => ?_) AllReadyH.nil
      rw [if_pos (by rfl)]
      go_simp
      refine hK.out _ _ q2 (fun hHeld => ?_)
      clear hK KK
      try simp only [Act.put, List.getElem_toArray, List.getElem_cons_zero, List.getElem_cons_succ, List.setIfInBounds_toArray, List.set_cons_zero, List.set_cons_succ]
      refine tkGo [7, 8] ?_
      repeat (refine tkOne (v := ?_) rfl (by kernel_rfl) (by kernel_rfl) (by kernel_rfl) (fun _ _ _ h => h) (by assumption) (by rfl) ?_ ?_; rotate_left; (intro wy hSw; (try dsimp only at hSw); go_simp; (first | done | with_reducible rfl)); try simp only [Act.put, List.getElem_toArray, List.getElem_cons_zero, List.getElem_cons_succ, List.setIfInBounds_toArray, List.set_cons_zero, List.set_cons_succ])
      refine tkEnd ?_
      refine wpAnyH_ready (rs := [9]) (by kernel_rfl) (by simp) ?_
      refine AllReadyH.cons rfl (fun KK hK => ?_) AllReadyH.nil
      rw [if_pos (by rfl)]
      go_simp
      rw [HW3.out]
      refine hK.out _ _ ((HLC.out W3 HB3.out).2.2.1) (fun hHeld => ?_)
      clear hK KK
      try simp only [Act.put, List.getElem_toArray, List.getElem_cons_zero, List.getElem_cons_succ, List.setIfInBounds_toArray, List.set_cons_zero, List.set_cons_succ]
      refine wpAnyH_done (by kernel_rfl) ?_ _
      clear hHeld k2 g2 q2
      have k3 : W3.cell? ⟨n1, 3, none⟩ = some (.int .u64 c) := HP3.out.cell (j := 3) rfl
      have g3 : W3.frozen? ⟨n1, 3, none⟩ = false := HP3.out.frozen 3
      have q3 := (HLC.out W3 HB3.out).2.2.2.1
      obtain ⟨W4, HW4, HP4, HO4, HB4⟩ : ∃ W4, Hid ((W3.setCell ⟨n1, 3, none⟩ (.int .u64 c')).drew = W4) ∧ Hid (Hp W4 n1 40 (taC ⟨r', m', s', c', u⟩)) ∧ Hid (RoTa W4 w1.heap.size (.slice va8 ts.length vc8) ts) ∧ Hid (Below w.heap.size w W4) := ⟨_, rfl, HP3.out.set 3 _, own_keeps HO3.out ((Chg.set W3 n1 3 _).drewN 1) (fun k e1 e2 => HNR.out k e2 e1), below_drG (HB3.out.trans (grown_to_below (grown_set W3 n1 3 _) hn1 HB3.out.size))⟩
      go_wp2
      refine wp_region_held_drew (S := fun w' => w'.cell? ⟨p, off + j * 5 + 3, none⟩ = some (.int .u64 xc)) (by kernel_rfl) q3 (fun hHeld => ?_)
      refine tkGo [0, 2, 3, 4, 5, 6] ?_
      repeat (refine tkOne (v := ?_) rfl (by kernel_rfl) (by kernel_rfl) (by kernel_rfl) (fun _ _ _ h => h) (by assumption) (by rfl) ?_ ?_; rotate_left; (intro wy hSw; (try dsimp only at hSw); go_simp; (first | done | with_reducible rfl)); try simp only [Act.put, List.getElem_toArray, List.getElem_cons_zero, List.getElem_cons_succ, List.setIfInBounds_toArray, List.set_cons_zero, List.set_cons_succ])
      refine tkEnd ?_
      refine wpAnyH_ready (rs := [1]) (by kernel_rfl) (by simp) ?_
      refine AllReadyH.cons rfl (fun KK hK => ?_) AllReadyH.nil
      rw [if_pos (by rfl)]
      go_simp
      refine hK.out _ _ q3 (fun hHeld => ?_)
      clear hK KK
      try simp only [Act.put, List.getElem_toArray, List.getElem_cons_zero, List.getElem_cons_succ, List.setIfInBounds_toArray, List.set_cons_zero, List.set_cons_succ]
      refine tkGo [7, 8] ?_
      repeat (refine tkOne (v := ?_) rfl (by kernel_rfl) (by kernel_rfl) (by kernel_rfl) (fun _ _ _ h => h) (by assumption) (by rfl) ?_ ?_; rotate_left; (intro wy hSw; (try dsimp only at hSw); go_simp; (first | done | with_reducible rfl)); try simp only [Act.put, List.getElem_toArray, List.getElem_cons_zero, List.getElem_cons_succ, List.setIfInBounds_toArray, List.set_cons_zero, List.set_cons_succ])
      refine tkEnd ?_
      refine wpAnyH_ready (rs := [9]) (by kernel_rfl) (by simp) ?_
      refine AllReadyH.cons rfl (fun KK hK => ?_) AllReadyH.nil
      rw [if_pos (by rfl)]
      go_simp
      rw [HW4.out]
      refine hK.out _ _ ((HLC.out W4 HB4.out).2.2.2.1) (fun hHeld => ?_)
      clear hK KK
      try simp only [Act.put, List.getElem_toArray, List.getElem_cons_zero, List.getElem_cons_succ, List.setIfInBounds_toArray, List.set_cons_zero, List.set_cons_succ]
      refine wpAnyH_done (by kernel_rfl) ?_ _
      clear hHeld k3 g3 q3
      have k4 : W4.cell? ⟨n1, 4, none⟩ = some (.int .u64 u) := HP4.out.cell (j := 4) rfl
      have g4 : W4.frozen? ⟨n1, 4, none⟩ = false := HP4.out.frozen 4
      have q4 := (HLC.out W4 HB4.out).2.2.2.2
      obtain ⟨W5, HW5, HP5, HO5, HB5⟩ : ∃ W5, Hid ((W4.setCell ⟨n1, 4, none⟩ (.int .u64 u')).drew = W5) ∧ Hid (Hp W5 n1 40 (taC ⟨r', m', s', c', u'⟩)) ∧ Hid (RoTa W5 w1.heap.size (.slice va8 ts.length vc8) ts) ∧ Hid (Below w.heap.size w W5) := ⟨_, rfl, HP4.out.set 4 _, own_keeps HO4.out ((Chg.set W4 n1 4 _).drewN 1) (fun k e1 e2 => HNR.out k e2 e1), below_drG (HB4.out.trans (grown_to_below (grown_set W4 n1 4 _) hn1 HB4.out.size))⟩
      go_wp2
      refine wp_region_held_drew (S := fun w' => w'.cell? ⟨p, off + j * 5 + 4, none⟩ = some (.int .u64 xu)) (by kernel_rfl) q4 (fun hHeld => ?_)
      refine tkGo [0, 2, 3, 4, 5, 6] ?_
      repeat (refine tkOne (v := ?_) rfl (by kernel_rfl) (by kernel_rfl) (by kernel_rfl) (fun _ _ _ h => h) (by assumption) (by rfl) ?_ ?_; rotate_left; (intro wy hSw; (try dsimp only at hSw); go_simp; (first | done | with_reducible rfl)); try simp only [Act.put, List.getElem_toArray, List.getElem_cons_zero, List.getElem_cons_succ, List.setIfInBounds_toArray, List.set_cons_zero, List.set_cons_succ])
      refine tkEnd ?_
      refine wpAnyH_ready (rs := [1]) (by kernel_rfl) (by simp) ?_
      refine AllReadyH.cons rfl (fun KK hK => ?_) AllReadyH.nil
      rw [if_pos (by rfl)]
      go_simp
      refine hK.out _ _ q4 (fun hHeld => ?_)
      clear hK KK
      try simp only [Act.put, List.getElem_toArray, List.getElem_cons_zero, List.getElem_cons_succ, List.setIfInBounds_toArray, List.set_cons_zero, List.set_cons_succ]
      refine tkGo [7, 8] ?_
      repeat (refine tkOne (v := ?_) rfl (by kernel_rfl) (by kernel_rfl) (by kernel_rfl) (fun _ _ _ h => h) (by assumption) (by rfl) ?_ ?_; rotate_left; (intro wy hSw; (try dsimp only at hSw); go_simp; (first | done | with_reducible rfl)); try simp only [Act.put, List.getElem_toArray, List.getElem_cons_zero, List.getElem_cons_succ, List.setIfInBounds_toArray, List.set_cons_zero, List.set_cons_succ])
      refine tkEnd ?_
      refine wpAnyH_ready (rs := [9]) (by kernel_rfl) (by simp) ?_
      refine AllReadyH.cons rfl (fun KK hK => ?_) AllReadyH.nil
      rw [if_pos (by rfl)]
      go_simp
      rw [HW5.out]
      refine hK.out _ _ ((HLC.out W5 HB5.out).2.2.2.2) (fun hHeld => ?_)
      clear hK KK
      try simp only [Act.put, List.getElem_toArray, List.getElem_cons_zero, List.getElem_cons_succ, List.setIfInBounds_toArray, List.set_cons_zero, List.set_cons_succ]
      refine wpAnyH_done (by kernel_rfl) ?_ _
      clear hHeld k4 g4 q4
      go_wp2
      go_roundw
      case rel => exact ⟨j + 1, by omega, by go_num, by rw [HE.out]; exact HP5.out, HO5.out, HB5.out⟩
      case measure => simp [intOf]; omega
    · have hltI : ¬ (j : Int) < ts.length := by omega
      obtain ⟨T, HT⟩ : ∃ T, Hid (sumT ts = T) := ⟨_, rfl⟩
      have HE : Hid (sumT (ts.take j) = T) := by show _ = _; rw [List.take_of_length_le (by omega)]; exact HT.out
      rw [HE.out] at HP0
      have HT0 : Hid (sumT [] = Ta.nil) := rfl
      obtain ⟨r, m, s, c, u⟩ := T
      have HBd := keepG (below_drG HB0.out)
      have HPA := keepG (fun (wx : World) (hb : Below W0.heap.size W0 wx) => (ta_cells (HP0.out.below hb HP0.out.lt)).1)
      have HOA := keepG (fun (wx : World) (hb : Below W0.heap.size W0 wx) => HO0.out.below hb)
      obtain ⟨c0, c1, c2, c3, c4⟩ := HPA.out W0 (Below.refl _ _)
      go_wp2
      refine wp_region_held_drew (S := fun w' => w'.cell? ⟨n1, 0, none⟩ = some (.int .u64 r) ∧ w'.cell? ⟨n1, 1, none⟩ = some (.int .u64 m) ∧ w'.cell? ⟨n1, 2, none⟩ = some (.int .u64 s) ∧ w'.cell? ⟨n1, 3, none⟩ = some (.int .u64 c) ∧ w'.cell? ⟨n1, 4, none⟩ = some (.int .u64 u)) (by kernel_rfl) ⟨c0, c1, c2, c3, c4⟩ (fun hHeld => ?_)
      refine tkGo [0, 2] ?_
      repeat (refine tkOne (v := ?_) rfl (by kernel_rfl) (by kernel_rfl) (by kernel_rfl) (fun _ _ _ h => h) (by assumption) (by rfl) ?_ ?_; rotate_left; (intro wy hSw; (try dsimp only at hSw); go_simp; (first | done | with_reducible rfl)); try simp only [Act.put, List.getElem_toArray, List.getElem_cons_zero, List.getElem_cons_succ, List.setIfInBounds_toArray, List.set_cons_zero, List.set_cons_succ])
      refine tkEnd ?_
      refine wpAnyH_ready (rs := [1]) (by kernel_rfl) (by simp) ?_
      refine AllReadyH.cons rfl (fun KK hK => ?_) AllReadyH.nil
      rw [if_pos (by rfl)]
      go_simp
      go_at_call 15
      refine (ladd (HOA.out W0.drew (below_drG (Below.refl _ _))).sees HT).mono ?_
      rintro e w9 ⟨rfl, hb9⟩
      have HB9 : Hid (Below W0.heap.size W0 w9) := (below_drG (Below.refl _ _)).trans hb9
      unfold taV
      go_simp
      refine hK.out _ _ (HPA.out w9 HB9.out) (fun hHeld => ?_)
      clear hK KK hb9
      try simp only [Act.put, List.getElem_toArray, List.getElem_cons_zero, List.getElem_cons_succ, List.setIfInBounds_toArray, List.set_cons_zero, List.set_cons_succ]
      refine tkGo [3, 4, 5, 6] ?_
      repeat (refine tkOne (v := ?_) rfl (by kernel_rfl) (by kernel_rfl) (by kernel_rfl) (fun _ _ _ h => h) (by assumption) (by rfl) ?_ ?_; rotate_left; (intro wy hSw; (try dsimp only at hSw); go_simp; (first | done | with_reducible rfl)); try simp only [Act.put, List.getElem_toArray, List.getElem_cons_zero, List.getElem_cons_succ, List.setIfInBounds_toArray, List.set_cons_zero, List.set_cons_succ])
      refine tkEnd ?_
      refine wpAnyH_ready (rs := [7]) (by kernel_rfl) (by simp) ?_
      refine AllReadyH.cons rfl (fun KK hK => ?_) AllReadyH.nil
      rw [if_pos (by rfl)]
      go_simp
      go_at_call 13
      refine (wtallies (HOA.out w9 HB9.out).sees (HSB.out w9 (HB0.out.trans (HB9.out.mono HB0.out.size)))).mono ?_
      rintro e w10 ⟨rfl, hb10⟩
      have HB10 : Hid (Below W0.heap.size W0 w10) := HB9.out.trans (hb10.mono HB9.out.size)
      go_simp
      refine hK.out _ _ (HPA.out w10 HB10.out) (fun hHeld => ?_)
      clear hK KK hb10
      try simp only [Act.put, List.getElem_toArray, List.getElem_cons_zero, List.getElem_cons_succ, List.setIfInBounds_toArray, List.set_cons_zero, List.set_cons_succ]
      refine tkGo [8, 9, 11] ?_
      repeat (refine tkOne (v := ?_) rfl (by kernel_rfl) (by kernel_rfl) (by kernel_rfl) (fun _ _ _ h => h) (by assumption) (by rfl) ?_ ?_; rotate_left; (intro wy hSw; (try dsimp only at hSw); go_simp; (first | done | with_reducible rfl)); try simp only [Act.put, List.getElem_toArray, List.getElem_cons_zero, List.getElem_cons_succ, List.setIfInBounds_toArray, List.set_cons_zero, List.set_cons_succ])
      refine tkEnd ?_
      refine wpAnyH_ready (rs := [10]) (by kernel_rfl) (by simp) ?_
      refine AllReadyH.cons rfl (fun KK hK => ?_) AllReadyH.nil
      rw [if_pos (by rfl)]
      go_simp
      go_at_call 15
      refine (ladd (SeesG.nil Ta.nil w10) HT0).mono ?_
      rintro e w11 ⟨rfl, hb11⟩
      have HB11 : Hid (Below W0.heap.size W0 w11) := HB10.out.trans (hb11.mono HB10.out.size)
      unfold taV Ta.nil
      go_simp
      refine hK.out _ _ (HPA.out w11 HB11.out) (fun hHeld => ?_)
      clear hK KK hb11
      try simp only [Act.put, List.getElem_toArray, List.getElem_cons_zero, List.getElem_cons_succ, List.setIfInBounds_toArray, List.set_cons_zero, List.set_cons_succ]
      refine tkGo [12, 13, 14] ?_
      repeat (refine tkOne (v := ?_) rfl (by kernel_rfl) (by kernel_rfl) (by kernel_rfl) (fun _ _ _ h => h) (by assumption) (by rfl) ?_ ?_; rotate_left; (intro wy hSw; (try dsimp only at hSw); go_simp; (first | done | with_reducible rfl)); try simp only [Act.put, List.getElem_toArray, List.getElem_cons_zero, List.getElem_cons_succ, List.setIfInBounds_toArray, List.set_cons_zero, List.set_cons_succ])
      refine tkEnd ?_
      refine wpAnyH_done (by kernel_rfl) ?_ _
      clear hHeld
      go_wp2
      go_ret
      exact ⟨rfl, HB0.out.trans (HB11.out.mono HB0.out.size)⟩
/-- StatsAdds. -/
theorem statsAdds_walk (tv : Value) (ts : List Ta) (w : World) (hs : ScrT w tv ts) (hlen : ts.length * 40 ≤ 140737488351232 ∧ ∀ x ∈ ts, True) :
    Calls Try.prog 5 #[tv] w fun e w' => e = .returned (.bool true) ∧ Below w.heap.size w w' := statsAdds_ok tv ts w hs.sees hlen.1
end Go.Proofs.Ytjhjfojmojjomaa
