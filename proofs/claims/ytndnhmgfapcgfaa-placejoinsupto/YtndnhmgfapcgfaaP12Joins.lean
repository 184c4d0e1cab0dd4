
/-
  PlaceJoins, walked: the answer is true. Condition: each list has at most 1048576 keys.
-/
import Derived.Test.YtndnhmgfapcgfaaP12Splits
import Derived.Deep.RegionHeldLaw
import Derived.Deep.MidRow
namespace Go.Proofs.Ytndnhmgfapcgfaa
open Go.RowKit Go.Deep
set_option linter.unusedVariables false
set_option linter.unusedSimpArgs false
set_option maxRecDepth 20000

theorem mine_app (d s : Int) (xs ys : List Int) : mineL d s (xs ++ ys) = mineL d s xs ++ mineL d s ys := List.filter_append ..
theorem below_drewp {B : Nat} {a w : World} (h : Below B a w) : Below B a w.drew := ⟨h.os, h.tape, h.output, h.size, h.block⟩
theorem wf_app {xs ys : List Int} (h : ∀ x ∈ xs, (Lit.int .u64 x).wf = true) (h' : ∀ x ∈ ys, (Lit.int .u64 x).wf = true) : ∀ x ∈ xs ++ ys, (Lit.int .u64 x).wf = true := fun x hx => by
  rcases List.mem_append.1 hx with e | e
  · exact h x e
  · exact h' x e
set_option maxHeartbeats 3200000 in
theorem joins_ok (N : Nat) (v : Value) (xs : List Int) (u : Value) (ys : List Int) (w : World) (hN1 : 1 ≤ N) (hN4 : N ≤ 4) (hs : Sees .u64 w v xs) (hlen : xs.length ≤ 1048576) (ht : Sees .u64 w u ys) (hlet : ys.length ≤ 1048576) :
    Calls Try.prog 6 #[.int .i64 N, v, u] w fun e w' => e = .returned (.bool true) ∧ Below w.heap.size w w' := by
  obtain ⟨i0, hi, hz0, hz1, hz2⟩ := info_parts Try.info64p
  have HS : Hid (Sees .u64 w v xs) := hs
  have HT : Hid (Sees .u64 w u ys) := ht
  have HX : Hid (∀ x ∈ xs, (Lit.int .u64 x).wf = true) := hs.wf
  have HY : Hid (∀ x ∈ ys, (Lit.int .u64 x).wf = true) := ht.wf
  have HLx : Hid (xs.length ≤ 17592186044416) := by show _ ≤ _; omega
  have HLy : Hid (ys.length ≤ 17592186044416) := by show _ ≤ _; omega
  obtain ⟨zs, HZ⟩ : ∃ zs, Hid (xs ++ ys = zs) := ⟨_, rfl⟩
  have HLz : Hid (zs.length ≤ 17592186044416) := by show _ ≤ _; rw [← HZ.out, List.length_append]; omega
  obtain ⟨a, cap, rfl⟩ := hs.shape
  obtain ⟨b, cap', rfl⟩ := ht.shape
  clear hs ht
  have P1 : Hid True := trivial
  have P2 : Hid True := trivial
  go_enter Try.func6, Try.ntmps6
  go_wp2_with (first
    | (go_at_call 7; go_must (refine (awake_any _).mono ?_); rintro e w1 ⟨rfl, hbe⟩; have hs1 := HS.out.below hbe (Nat.le_refl _); have ht1 := HT.out.below hbe (Nat.le_refl _))
    | (go_at_call 10; have hq := P1; clear hq; go_must (refine (lsplit_ok N _ xs _ hN1 hN4 hs1 HLx.out).mono ?_); rintro e w2 ⟨Vx, rfl, hRx⟩; go_must (have hs2 := hs1.below hRx.g (Nat.le_refl _); have ht2 := ht1.below hRx.g (Nat.le_refl _); have hz := hbe.size; have hbe2 := hbe.trans (hRx.g.mono hz); clear hbe hz hs1 ht1 P1))
    | (go_at_call 10; have hq := P2; clear hq; go_must (refine (lsplit_ok N _ ys _ hN1 hN4 ht2 HLy.out).mono ?_); rintro e w3 ⟨Vy, rfl, hRy⟩; go_must (have hs3 := hs2.below hRy.g (Nat.le_refl _); have ht3 := ht2.below hRy.g (Nat.le_refl _); have hz := hbe2.size; have hbe3 := hbe2.trans (hRy.g.mono hz); have hRx3 := hRx.next hRy.g; clear hbe2 hz hs2 ht2 P2 hRx))
    | (at_builtin; have hq := hs3; clear hq; go_must (refine wpList_append_sees rfl (.tmp 20) (.tmp 21) 26 rfl w3.heap.size 22 i0 (.int .u64 0) 8 Try.underlying26 hi hz0 hz1 hz2 rfl .u64 _ [] rfl (own_empty w3 _) _ _ rfl (hs3.alloc _) (by simp [maxLen]; omega) (by simp; omega) (by simp) ?_); intro v4 w4 hown hg; go_must (have hb4 := below_grown (own_empty w3 _) hg (by simp); have hb4 : Below w3.heap.size w3 w4 := ((Below.refl _ _).alloc (Nat.le_refl _) _).trans hb4; have hz := hb4.size; have ht4 := ht3.below hb4 (Nat.le_refl _); simp only [List.nil_append] at hown; clear hg hs3 ht3))
    | (at_builtin; have hq := ht4; clear hq; go_must (refine wpList_append_sees rfl (.tmp 22) (.tmp 23) 26 rfl w3.heap.size 22 i0 (.int .u64 0) 8 Try.underlying26 hi hz0 hz1 hz2 rfl .u64 _ xs rfl hown _ ys rfl ht4 (by unfold maxLen; omega) (by omega) (by omega) ?_); intro v5 w5 hown5 hg; go_must (have hb5 : Below w3.heap.size w3 w5 := hb4.trans (below_grown hown hg (by omega)); rw [HZ.out] at hown5; have h5 := Sees.own hown5 (by rw [← HZ.out]; exact wf_app HX.out HY.out); clear hg ht4 hown hown5 hb4 hz; obtain ⟨a5, c5, rfl⟩ := h5.shape))
    | (go_at_call 10; go_must (refine (lsplit_ok N _ zs _ hN1 hN4 h5 HLz.out).mono ?_); rintro e w6 ⟨Vz, rfl, hRz⟩))
  have hz5 := hb5.size
  have hbw : Below w3.heap.size w3 w6 := hb5.trans (hRz.g.mono hz5)
  have HRx := keepP (hRx3.next hbw)
  have HRy := keepP (hRy.next hbw)
  have HRz := keepP hRz
  have HB := keepP (hbe3.trans (hbw.mono hbe3.size))
  have hzz := HB.out.size
  clear hbw hb5 hz5 hRx3 hRy hRz hbe3 h5
  go_loopw [10] (fun i wr => ∃ k : Nat, k ≤ N ∧ i = .int .i64 k ∧ Hid (Below w6.heap.size w6 wr)) (fun i _ => N - (intOf i).toNat)
  case atStart => exact ⟨0, by omega, rfl, Below.refl _ _⟩
  case round =>
    obtain ⟨k, hk, rfl, HW⟩ := hrel
    by_cases hlt : k < N
    · have hltI : (k : Int) < N := by omega
      have rx := HRx.out.next HW.out
      have ry := HRy.out.next HW.out
      have rz := HRz.out.next HW.out
      have sx := rx.sees hlt (mine_wf HX.out)
      have sy := ry.sees hlt (mine_wf HY.out)
      have sz := rz.sees hlt (mine_wf (by rw [← HZ.out]; exact wf_app HX.out HY.out))
      rw [← HZ.out, mine_app] at sz
      have lx := mine_len (k : Int) N xs
      have ly := mine_len (k : Int) N ys
      have cx := rx.out.cell hlt
      have cy := ry.out.cell hlt
      have cz := rz.out.cell hlt
      obtain ⟨A, HA⟩ : ∃ A, Hid (mineL (k : Int) N xs = A) := ⟨_, rfl⟩
      obtain ⟨C, HC⟩ : ∃ C, Hid (mineL (k : Int) N ys = C) := ⟨_, rfl⟩
      rw [HA.out] at sx lx
      rw [HC.out] at sy ly
      rw [HA.out, HC.out] at sz
      obtain ⟨D, HD⟩ : ∃ D, Hid (A ++ C = D) := ⟨_, rfl⟩
      rw [HD.out] at sz
      obtain ⟨x1, x2, ex⟩ := sx.shape
      obtain ⟨y1, y2, ey⟩ := sy.shape
      obtain ⟨z1, z2, ez⟩ := sz.shape
      rw [ex] at cx sx
      rw [ey] at cy sy
      rw [ez] at cz sz
      have HSx := keepP sx
      have HSy := keepP sy
      have HSz := keepP sz
      have bx := rx.out.lt
      have bby := ry.out.lt
      have bz := rz.out.lt
      clear sx sy sz ex ey ez rx ry rz
      have HCell : Hid (∀ wx, Below wr.heap.size wr wx → wx.cell? ⟨w1.heap.size, k, none⟩ = some (.slice x1 A.length x2) ∧ wx.cell? ⟨w2.heap.size, k, none⟩ = some (.slice y1 C.length y2) ∧ wx.cell? ⟨w5.heap.size, k, none⟩ = some (.slice z1 D.length z2)) := fun wx hb =>
        ⟨(hb.cell (p := ⟨w1.heap.size, k, none⟩) bx).trans cx, (hb.cell (p := ⟨w2.heap.size, k, none⟩) bby).trans cy, (hb.cell (p := ⟨w5.heap.size, k, none⟩) bz).trans cz⟩
      go_wp2
      refine wp_region_held_drew (S := fun w' => w'.cell? ⟨w1.heap.size, k, none⟩ = some (.slice x1 A.length x2) ∧ w'.cell? ⟨w2.heap.size, k, none⟩ = some (.slice y1 C.length y2) ∧ w'.cell? ⟨w5.heap.size, k, none⟩ = some (.slice z1 D.length z2)) (by kernel_rfl) ⟨cx, cy, cz⟩ (fun hHeld => ?_)
      refine wpAnyH_take (i := 0) (v := ?v1) rfl (by kernel_rfl) (by kernel_rfl) (by kernel_rfl) (fun _ _ _ h => h) (Or.inl ⟨by rfl, ?hy1⟩) (by assumption) ?rest1
      case hy1 => (intro wy hSw; (try dsimp only at hSw); go_simp; (first | done | with_reducible rfl))
      try simp only [Act.put, List.getElem_toArray, List.getElem_cons_zero, List.getElem_cons_succ, List.setIfInBounds_toArray, List.set_cons_zero, List.set_cons_succ]
      refine wpAnyH_take (i := 1) (v := ?v2) rfl (by kernel_rfl) (by kernel_rfl) (by kernel_rfl) (fun _ _ _ h => h) (Or.inl ⟨by rfl, ?hy2⟩) (by assumption) ?rest2
      case hy2 => (intro wy hSw; (try dsimp only at hSw); go_simp; (first | done | with_reducible rfl))
      try simp only [Act.put, List.getElem_toArray, List.getElem_cons_zero, List.getElem_cons_succ, List.setIfInBounds_toArray, List.set_cons_zero, List.set_cons_succ]
      refine wpAnyH_take (i := 2) (v := ?v3) rfl (by kernel_rfl) (by kernel_rfl) (by kernel_rfl) (fun _ _ _ h => h) (Or.inl ⟨by rfl, ?hy3⟩) (by assumption) ?rest3
      case hy3 => (intro wy hSw; (try dsimp only at hSw); go_simp; (first | done | with_reducible rfl))
      try simp only [Act.put, List.getElem_toArray, List.getElem_cons_zero, List.getElem_cons_succ, List.setIfInBounds_toArray, List.set_cons_zero, List.set_cons_succ]
      refine wpAnyH_take (i := 3) (v := ?v4) rfl (by kernel_rfl) (by kernel_rfl) (by kernel_rfl) (fun _ _ _ h => h) (Or.inl ⟨by rfl, ?hy4⟩) (by assumption) ?rest4
      case hy4 => (intro wy hSw; (try dsimp only at hSw); go_simp; (first | done | with_reducible rfl))
      try simp only [Act.put, List.getElem_toArray, List.getElem_cons_zero, List.getElem_cons_succ, List.setIfInBounds_toArray, List.set_cons_zero, List.set_cons_succ]
      refine wpAnyH_take (i := 5) (v := ?v5) rfl (by kernel_rfl) (by kernel_rfl) (by kernel_rfl) (fun _ _ _ h => h) (Or.inl ⟨by rfl, ?hy5⟩) (by assumption) ?rest5
      case hy5 => (intro wy hSw; (try dsimp only at hSw); go_simp; (first | done | with_reducible rfl))
      try simp only [Act.put, List.getElem_toArray, List.getElem_cons_zero, List.getElem_cons_succ, List.setIfInBounds_toArray, List.set_cons_zero, List.set_cons_succ]
      refine wpAnyH_take (i := 6) (v := ?v6) rfl (by kernel_rfl) (by kernel_rfl) (by kernel_rfl) (fun _ _ _ h => h) (Or.inl ⟨by rfl, ?hy6⟩) (by assumption) ?rest6
      case hy6 => (intro wy hSw; (try dsimp only at hSw); go_simp; (first | done | with_reducible rfl))
      try simp only [Act.put, List.getElem_toArray, List.getElem_cons_zero, List.getElem_cons_succ, List.setIfInBounds_toArray, List.set_cons_zero, List.set_cons_succ]
      refine wpAnyH_take (i := 7) (v := ?v7) rfl (by kernel_rfl) (by kernel_rfl) (by kernel_rfl) (fun _ _ _ h => h) (Or.inl ⟨by rfl, ?hy7⟩) (by assumption) ?rest7
      case hy7 => (intro wy hSw; (try dsimp only at hSw); go_simp; (first | done | with_reducible rfl))
      try simp only [Act.put, List.getElem_toArray, List.getElem_cons_zero, List.getElem_cons_succ, List.setIfInBounds_toArray, List.set_cons_zero, List.set_cons_succ]
      refine wpAnyH_take (i := 8) (v := ?v8) rfl (by kernel_rfl) (by kernel_rfl) (by kernel_rfl) (fun _ _ _ h => h) (Or.inl ⟨by rfl, ?hy8⟩) (by assumption) ?rest8
      case hy8 => (intro wy hSw; (try dsimp only at hSw); go_simp; (first | done | with_reducible rfl))
      try simp only [Act.put, List.getElem_toArray, List.getElem_cons_zero, List.getElem_cons_succ, List.setIfInBounds_toArray, List.set_cons_zero, List.set_cons_succ]
      refine wpAnyH_take (i := 10) (v := ?v9) rfl (by kernel_rfl) (by kernel_rfl) (by kernel_rfl) (fun _ _ _ h => h) (Or.inl ⟨by rfl, ?hy9⟩) (by assumption) ?rest9
      case hy9 => (intro wy hSw; (try dsimp only at hSw); go_simp; (first | done | with_reducible rfl))
      try simp only [Act.put, List.getElem_toArray, List.getElem_cons_zero, List.getElem_cons_succ, List.setIfInBounds_toArray, List.set_cons_zero, List.set_cons_succ]
      refine wpAnyH_take (i := 11) (v := ?v10) rfl (by kernel_rfl) (by kernel_rfl) (by kernel_rfl) (fun _ _ _ h => h) (Or.inl ⟨by rfl, ?hy10⟩) (by assumption) ?rest10
      case hy10 => (intro wy hSw; (try dsimp only at hSw); go_simp; (first | done | with_reducible rfl))
      try simp only [Act.put, List.getElem_toArray, List.getElem_cons_zero, List.getElem_cons_succ, List.setIfInBounds_toArray, List.set_cons_zero, List.set_cons_succ]
      refine wpAnyH_take (i := 12) (v := ?v11) rfl (by kernel_rfl) (by kernel_rfl) (by kernel_rfl) (fun _ _ _ h => h) (Or.inl ⟨by rfl, ?hy11⟩) (by assumption) ?rest11
      case hy11 => (intro wy hSw; (try dsimp only at hSw); go_simp; (first | done | with_reducible rfl))
      try simp only [Act.put, List.getElem_toArray, List.getElem_cons_zero, List.getElem_cons_succ, List.setIfInBounds_toArray, List.set_cons_zero, List.set_cons_succ]
      refine wpAnyH_take (i := 13) (v := ?v12) rfl (by kernel_rfl) (by kernel_rfl) (by kernel_rfl) (fun _ _ _ h => h) (Or.inl ⟨by rfl, ?hy12⟩) (by assumption) ?rest12
      case hy12 => (intro wy hSw; (try dsimp only at hSw); go_simp; (first | done | with_reducible rfl))
      try simp only [Act.put, List.getElem_toArray, List.getElem_cons_zero, List.getElem_cons_succ, List.setIfInBounds_toArray, List.set_cons_zero, List.set_cons_succ]
      refine wpAnyH_ready (rs := [4]) (by kernel_rfl) (by simp) ?_
      refine AllReadyH.cons rfl (fun KK hK => ?_) AllReadyH.nil
      rw [if_pos (by rfl)]
      go_simp
      refine hK.out _ _ (HCell.out _ ((below_drewp (Below.refl _ _)).alloc (Nat.le_refl _) _)) (fun hHeld => ?_)
      clear hK KK
      try simp only [Act.put, List.getElem_toArray, List.getElem_cons_zero, List.getElem_cons_succ, List.setIfInBounds_toArray, List.set_cons_zero, List.set_cons_succ]
      refine wpAnyH_ready (rs := [9]) (by kernel_rfl) (by simp) ?_
      refine AllReadyH.cons rfl (fun KK hK => ?_) AllReadyH.nil
      rw [if_pos (by rfl)]
      refine wp_append_sees (.tmp 48) (.tmp 52) 26 rfl wr.heap.size 22 i0 (.int .u64 0) 8 Try.underlying26 hi hz0 hz1 hz2 rfl .u64 _ [] rfl (own_empty wr.drew _) _ A rfl (HSx.out.drew.alloc _) (by simp [maxLen]; omega) (by simp; omega) (by simp) ?_
      intro v7 w7 hown7 hg7
      have hb7 : Below wr.heap.size wr w7 := ((below_drewp (Below.refl _ _)).alloc (Nat.le_refl _) _).trans (below_grown (own_empty wr.drew _) hg7 (by simp))
      simp only [List.nil_append] at hown7
      refine hK.out _ _ (HCell.out _ hb7) (fun hHeld => ?_)
      clear hK KK hg7
      try simp only [Act.put, List.getElem_toArray, List.getElem_cons_zero, List.getElem_cons_succ, List.setIfInBounds_toArray, List.set_cons_zero, List.set_cons_succ]
      refine wpAnyH_ready (rs := [14]) (by kernel_rfl) (by simp) ?_
      refine AllReadyH.cons rfl (fun KK hK => ?_) AllReadyH.nil
      rw [if_pos (by rfl)]
      refine wp_append_sees (.tmp 53) (.tmp 57) 26 rfl wr.heap.size 22 i0 (.int .u64 0) 8 Try.underlying26 hi hz0 hz1 hz2 rfl .u64 _ A rfl hown7 _ C rfl (HSy.out.below hb7 (Nat.le_refl _)) (by unfold maxLen; omega) (by omega) hb7.size ?_
      intro v8 w8 hown8 hg8
      have hb8 : Below wr.heap.size wr w8 := hb7.trans (below_grown hown7 hg8 hb7.size)
      refine hK.out _ _ (HCell.out _ hb8) (fun hHeld => ?_)
      clear hK KK hg8 hown7 hb7
      have h8 := Sees.own hown8 (wf_app (by rw [← HA.out]; exact mine_wf HX.out) (by rw [← HC.out]; exact mine_wf HY.out))
      rw [HD.out] at h8
      obtain ⟨a8, c8, rfl⟩ := h8.shape
      try simp only [Act.put, List.getElem_toArray, List.getElem_cons_zero, List.getElem_cons_succ, List.setIfInBounds_toArray, List.set_cons_zero, List.set_cons_succ]
      refine wpAnyH_ready (rs := [15]) (by kernel_rfl) (by simp) ?_
      refine AllReadyH.cons rfl (fun KK hK => ?_) AllReadyH.nil
      rw [if_pos (by rfl)]
      go_simp
      go_at_call 12
      refine (numbers_any _ _ D D _ (HSz.out.below hb8 (Nat.le_refl _)) h8).mono ?_
      rintro e w9 ⟨rfl, n9, rfl⟩
      rw [eqB_true (rfl : D = D)]
      refine hK.out _ _ (HCell.out _ (below_drewN hb8 _)) (fun hHeld => ?_)
      clear hK KK
      try simp only [Act.put, List.getElem_toArray, List.getElem_cons_zero, List.getElem_cons_succ, List.setIfInBounds_toArray, List.set_cons_zero, List.set_cons_succ]
      refine wpAnyH_take (i := 16) (v := ?v13) rfl (by kernel_rfl) (by kernel_rfl) (by kernel_rfl) (fun _ _ _ h => h) (Or.inl ⟨by rfl, ?hy13⟩) (by assumption) ?rest13
      case hy13 => (intro wy hSw; (try dsimp only at hSw); go_simp; (first | done | with_reducible rfl))
      try simp only [Act.put, List.getElem_toArray, List.getElem_cons_zero, List.getElem_cons_succ, List.setIfInBounds_toArray, List.set_cons_zero, List.set_cons_succ]
      refine wpAnyH_done (by kernel_rfl) ?_ _
      go_wp2
      go_roundw
      case rel => exact ⟨k + 1, by omega, by go_num, HW.out.trans ((below_drewN hb8 _).mono HW.out.size)⟩
      case measure => simp [intOf]; omega
    · go_wp2
      go_ret
      exact ⟨rfl, HB.out.trans (HW.out.mono hzz)⟩
set_option maxHeartbeats 3200000 in
theorem joins_no (s : Int) (v : Value) (xs : List Int) (u : Value) (ys : List Int) (w : World) (hs1 : s < 1 ∨ 4 < s) (hsb : -9223372036854775808 ≤ s ∧ s ≤ 9223372036854775807) (hs : Sees .u64 w v xs) (hlen : xs.length ≤ 1048576) (ht : Sees .u64 w u ys) (hlet : ys.length ≤ 1048576) :
    Calls Try.prog 6 #[.int .i64 s, v, u] w fun e w' => e = .returned (.bool true) ∧ Below w.heap.size w w' := by
  obtain ⟨i0, hi, hz0, hz1, hz2⟩ := info_parts Try.info64p
  have HS : Hid (Sees .u64 w v xs) := hs
  have HT : Hid (Sees .u64 w u ys) := ht
  have HSB : Hid (-9223372036854775808 ≤ s ∧ s ≤ 9223372036854775807) := hsb
  have HD : Hid (s < 1 ∨ 4 < s) := hs1
  obtain ⟨zs, HZ⟩ : ∃ zs, Hid (xs ++ ys = zs) := ⟨_, rfl⟩
  have HX : Hid (∀ x ∈ xs, (Lit.int .u64 x).wf = true) := hs.wf
  have HY : Hid (∀ x ∈ ys, (Lit.int .u64 x).wf = true) := ht.wf
  obtain ⟨a, cap, rfl⟩ := hs.shape
  obtain ⟨b, cap', rfl⟩ := ht.shape
  clear hs ht hs1 hsb
  go_enter Try.func6, Try.ntmps6
  go_wp2_with (first
    | (go_at_call 7; go_must (refine (awake_any _).mono ?_); rintro e w3 ⟨rfl, hbe⟩; have hs3 := HS.out.below hbe (Nat.le_refl _); have ht3 := HT.out.below hbe (Nat.le_refl _))
    | (at_builtin; have hq := hs3; clear hq; go_must (refine wpList_append_sees rfl (.tmp 20) (.tmp 21) 26 rfl w3.heap.size 22 i0 (.int .u64 0) 8 Try.underlying26 hi hz0 hz1 hz2 rfl .u64 _ [] rfl (own_empty w3 _) _ _ rfl (hs3.alloc _) (by simp [maxLen]; omega) (by simp; omega) (by simp) ?_); intro v4 w4 hown hg; go_must (have hb4 := below_grown (own_empty w3 _) hg (by simp); have hb4 : Below w3.heap.size w3 w4 := ((Below.refl _ _).alloc (Nat.le_refl _) _).trans hb4; have hz := hb4.size; have ht4 := ht3.below hb4 (Nat.le_refl _); simp only [List.nil_append] at hown; clear hg hs3 ht3))
    | (at_builtin; have hq := ht4; clear hq; go_must (refine wpList_append_sees rfl (.tmp 22) (.tmp 23) 26 rfl w3.heap.size 22 i0 (.int .u64 0) 8 Try.underlying26 hi hz0 hz1 hz2 rfl .u64 _ xs rfl hown _ ys rfl ht4 (by unfold maxLen; omega) (by omega) (by omega) ?_); intro v5 w5 hown5 hg; go_must (have hb5 : Below w3.heap.size w3 w5 := hb4.trans (below_grown hown hg (by omega)); rw [HZ.out] at hown5; have h5 := Sees.own hown5 (by rw [← HZ.out]; exact wf_app HX.out HY.out); clear hg ht4 hown hown5 hb4 hz; obtain ⟨a5, c5, rfl⟩ := h5.shape))
    | (go_at_call 10; go_must (refine (lsplit_no s _ _ HD.out HSB.out).mono ?_); rintro e w6 ⟨rfl, rfl⟩))
  refine wp_loop_rounds 1 ?_
  rw [rounds_succ]
  go_wp2
  go_ret
  exact ⟨rfl, hbe.trans (hb5.mono hbe.size)⟩
theorem joins_walk (s : Int) (v : Value) (xs : List Int) (u : Value) (ys : List Int) (w : World) (hsb : -9223372036854775808 ≤ s ∧ s ≤ 9223372036854775807) (hs : Sees .u64 w v xs) (hlen : xs.length ≤ 1048576) (ht : Sees .u64 w u ys) (hlet : ys.length ≤ 1048576) :
    Calls Try.prog 6 #[.int .i64 s, v, u] w fun e w' => e = .returned (.bool true) ∧ Below w.heap.size w w' := by
  by_cases h : s < 1 ∨ 4 < s
  · exact joins_no s v xs u ys w h hsb hs hlen ht hlet
  · obtain ⟨N, rfl⟩ : ∃ N : Nat, s = N := ⟨s.toNat, by omega⟩
    exact joins_ok N v xs u ys w (by omega) (by omega) hs hlen ht hlet
end Go.Proofs.Ytndnhmgfapcgfaa
