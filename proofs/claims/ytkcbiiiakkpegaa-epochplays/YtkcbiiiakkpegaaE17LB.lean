
/-
  The landed clock of layer 17: Enter, Safe, Oldest. Condition: it lies where the pointer says.
-/
import Derived.Test.YtkcbiiiakkpegaaTk
import Derived.Test.YtkcbiiiakkpegaaE17LA
namespace Go.Proofs.Ytkcbiiiakkpegaa
open Go.RowKit
set_option linter.unusedVariables false
set_option linter.unusedSimpArgs false
set_option maxRecDepth 100000
section
variable {w w' : World} {b g : Nat} {c : Ck}
set_option maxHeartbeats 1600000 in
theorem lenter (h : Ec w b g c) (x : Int) {n E : Int} {c' : Ck} (HQ : Hid (c.enter x = (n, E, c'))) : Calls Try.prog 9 #[.pointer (some ⟨b, 0, none⟩), .int .i64 x] w fun e w' => e = .returned (.tuple #[.int .i64 n, .int .i64 E]) ∧ Ec w' b g c' ∧ Chg w w' (ftE b g) := by
  obtain ⟨c0, c1⟩ := h.low
  have HE := keepG h
  have hq := HQ.out
  unfold Ck.enter at hq
  cases hh : c.has x with
  | false =>
    rw [if_pos hh] at hq
    injection hq with e1 hq
    injection hq with e2 e3
    subst e1 e2 e3
    have HH := keepG hh
    clear h hh HQ
    go_enter Try.func9, Try.ntmps9
    go_wp2_with (go_at_call 21; go_must (refine (lhas HE.out x HH).mono ?_); rintro e w1 ⟨rfl, rfl⟩)
    go_ret2
    exact ⟨rfl, HE.out, Chg.refl _ _⟩
  | true =>
    rw [if_neg (by rw [hh]; decide)] at hq
    obtain ⟨k, rfl, hk⟩ := Ck.has_nat hh
    have ck := h.at hk
    rw [← Ck.at_nat] at ck
    have HH := keepG hh
    have hkI : (k : Int) < c.ins.length := by omega
    have fk := h.row.frozen k
    obtain ⟨y, HY⟩ : ∃ y, Hid (c.at k = y) := ⟨_, rfl⟩
    rw [HY.out] at ck hq
    clear h hh HQ
    by_cases hy : y = 0
    · subst hy
      rw [if_pos rfl] at hq
      injection hq with e1 hq
      injection hq with e2 e3
      subst e1 e2 e3
      have hbg := HE.out.apart
      have hgb : ¬ g = b := fun e => hbg e.symm
      go_enter Try.func9, Try.ntmps9
      go_wp2_with (go_at_call 21; go_must (refine (lhas HE.out _ HH).mono ?_); rintro e w1 ⟨rfl, rfl⟩)
      refine wp_region_held_drew (S := fun w' => w'.cell? ⟨b, 0, none⟩ = some (.int .i64 c.now) ∧ w'.cell? ⟨b, 1, none⟩ = some (.slice (some ⟨g, 0, none⟩) c.ins.length c.ins.length)) (by kernel_rfl) ⟨c0, c1⟩ (fun hHeld => ?_)
      refine tkGo [0, 1, 2, 3, 4, 5, 6, 7, 8, 9] ?_
      repeat (refine tkOne (v := ?_) rfl (by kernel_rfl) (by kernel_rfl) (by kernel_rfl) (fun _ _ _ h => h) (by assumption) (by rfl) ?_ ?_; rotate_left; (intro wy hSw; (try dsimp only at hSw); go_simp; (first | done | with_reducible rfl)); try simp only [Act.put, List.getElem_toArray, List.getElem_cons_zero, List.getElem_cons_succ, List.setIfInBounds_toArray, List.set_cons_zero, List.set_cons_succ])
      refine tkEnd ?_
      refine wpAnyH_ready (rs := [10]) (by kernel_rfl) (by simp) ?_
      refine AllReadyH.cons rfl (fun KK hK => ?_) AllReadyH.nil
      rw [if_pos (by rfl)]
      go_simp
      have hE2 : Ec (w.drew.setCell ⟨g, k, none⟩ (.int .i64 c.now)) b g ⟨c.now, c.ins.set k c.now⟩ := Ec.put (w := w.drew) ⟨HE.out.hp, HE.out.row⟩ k c.now
      obtain ⟨d0, d1⟩ := hE2.low
      simp only [List.length_set] at d1
      refine hK.out _ _ ⟨d0, d1⟩ (fun hHeld => ?_)
      clear hK KK
      try simp only [Act.put, List.getElem_toArray, List.getElem_cons_zero, List.getElem_cons_succ, List.setIfInBounds_toArray, List.set_cons_zero, List.set_cons_succ]
      refine wpAnyH_done (by kernel_rfl) ?_ _
      clear hHeld
      go_wp2
      go_ret2
      refine ⟨rfl, ?_, ?_⟩
      · exact ⟨hE2.hp, hE2.row⟩
      · exact ((Chg.refl w (ftE b g)).drewN 1).trans (Chg.set _ g k _) (fun _ _ e => .inr e)
    · rw [if_neg hy] at hq
      injection hq with e1 hq
      injection hq with e2 e3
      subst e1 e2 e3
      have hyb : (y != 0) = true := by simpa using hy
      clear HY
      go_enter Try.func9, Try.ntmps9
      go_wp2_with (go_at_call 21; go_must (refine (lhas HE.out _ HH).mono ?_); rintro e w1 ⟨rfl, rfl⟩)
      go_ret2
      exact ⟨rfl, HE.out, Chg.refl _ _⟩
set_option maxHeartbeats 1600000 in
theorem lsafe (h : Ec w b g c) (hk : c.ins.length ≤ 4) (t : Int) {r : Bool} (HR : Hid (c.safe t = r)) : Calls Try.prog 15 #[.pointer (some ⟨b, 0, none⟩), .int .i64 t] w fun e w' => e = .returned (.bool r) ∧ w = w' := by
  obtain ⟨c0, c1⟩ := h.low
  have HE := keepG h
  clear h
  go_enter Try.func15, Try.ntmps15
  go_wp2
  go_loopw [12] (fun i wr => ∃ j : Nat, j ≤ c.ins.length ∧ i = .int .i64 j ∧ Hid ((c.ins.take j).all (safeB t) = true) ∧ w = wr) (fun i _ => c.ins.length - (intOf i).toNat)
  case atStart => exact ⟨0, by omega, rfl, rfl, rfl⟩
  case round =>
    obtain ⟨j, hj, rfl, HA, rfl⟩ := hrel
    by_cases hlt : j < c.ins.length
    · have hltI : (j : Int) < c.ins.length := by omega
      have ck := HE.out.at hlt
      have ht := all_take (p := safeB t) hlt
      obtain ⟨y, HY⟩ : ∃ y, Hid (c.ins.getD j 0 = y) := ⟨_, rfl⟩
      rw [HY.out] at ck ht
      rw [HA.out, Bool.true_and] at ht
      have HT := keepG ht
      clear ht
      by_cases hy : y = 0
      · subst hy
        clear HR
        go_wp2
        go_roundw
        case rel => exact ⟨j + 1, by omega, by go_num, by show _ = _; rw [HT.out]; rfl, by first | rfl | trivial⟩
        case measure => simp [intOf]; omega
      · have hyb : (y != 0) = true := by simpa using hy
        by_cases hyt : y < t
        · have hrf : r = false := by
            rw [← HR.out]
            refine all_no (j := j + 1) ?_
            rw [HT.out]
            simp [safeB, hy, hyt]
          subst hrf
          clear HR HY
          go_wp2
          go_ret
          exact ⟨rfl, rfl⟩
        · clear HR HY
          go_wp2
          go_roundw
          case rel => exact ⟨j + 1, by omega, by go_num, by show _ = _; rw [HT.out]; simp [safeB]; omega, by first | rfl | trivial⟩
          case measure => simp [intOf]; omega
    · have hltI : ¬ (j : Int) < c.ins.length := by omega
      have hrt : r = true := by
        rw [← HR.out]
        have := HA.out
        rw [List.take_of_length_le (by omega)] at this
        exact this
      subst hrt
      clear HR
      go_wp2
      go_ret
      exact ⟨rfl, rfl⟩
set_option maxHeartbeats 1600000 in
theorem loldest (h : Ec w b g c) (hk : c.ins.length ≤ 4) {r : Int} (HR : Hid (c.old = r)) : Calls Try.prog 19 #[.pointer (some ⟨b, 0, none⟩)] w fun e w' => e = .returned (.int .i64 r) ∧ w = w' := by
  obtain ⟨c0, c1⟩ := h.low
  have HE := keepG h
  clear h
  go_enter Try.func19, Try.ntmps19
  go_wp2
  go_loopw [3, 15] (fun m i wr => ∃ j : Nat, ∃ mm : Int, j ≤ c.ins.length ∧ m = .int .i64 mm ∧ i = .int .i64 j ∧ Hid ((c.ins.take j).foldl oldF c.now = mm) ∧ w = wr) (fun _ i _ => c.ins.length - (intOf i).toNat)
  case atStart => exact ⟨0, _, by omega, rfl, rfl, rfl, rfl⟩
  case round =>
    obtain ⟨j, mm, hj, rfl, rfl, HA, rfl⟩ := hrel
    by_cases hlt : j < c.ins.length
    · have hltI : (j : Int) < c.ins.length := by omega
      have ck := HE.out.at hlt
      have ht := foldl_take (f := oldF) (z := c.now) hlt
      obtain ⟨y, HY⟩ : ∃ y, Hid (c.ins.getD j 0 = y) := ⟨_, rfl⟩
      rw [HY.out] at ck ht
      rw [HA.out] at ht
      have HT := keepG ht
      clear ht HR HY
      by_cases hy : y = 0
      · subst hy
        go_wp2
        go_roundw
        case rel => exact ⟨j + 1, mm, by omega, rfl, by go_num, by show _ = _; rw [HT.out]; simp [oldF], by first | rfl | trivial⟩
        case measure => simp [intOf]; omega
      · have hyb : (y != 0) = true := by simpa using hy
        by_cases hyt : y < mm
        · go_wp2
          go_roundw
          case rel => exact ⟨j + 1, y, by omega, rfl, by go_num, by show _ = _; rw [HT.out]; simp [oldF, hy, hyt], by first | rfl | trivial⟩
          case measure => simp [intOf]; omega
        · go_wp2
          go_roundw
          case rel => exact ⟨j + 1, mm, by omega, rfl, by go_num, by show _ = _; rw [HT.out]; simp [oldF]; omega, by first | rfl | trivial⟩
          case measure => simp [intOf]; omega
    · have hltI : ¬ (j : Int) < c.ins.length := by omega
      have hrt : mm = r := by
        rw [← HR.out, ← HA.out, List.take_of_length_le (by omega)]
        rfl
      subst hrt
      clear HR
      go_wp2
      go_ret
      exact ⟨rfl, rfl⟩
end
end Go.Proofs.Ytkcbiiiakkpegaa
