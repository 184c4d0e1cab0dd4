
/-
  RefsOnce, walked. Condition: none but the arguments' reading.
-/
import Derived.Test.YtonbaklbbmmljaaTk
import Derived.Test.YtonbaklbbmmljaaW18Aw
namespace Go.Proofs.Ytonbaklbbmmljaa
open Go.RowKit
set_option linter.unusedVariables false
set_option linter.unusedSimpArgs false
set_option maxRecDepth 100000
/-- Refs and two rows of numbers, all apart. -/
structure Lw2 (w0 w : World) (b : Nat) (F : Ft) (n : Nat) (P : Rs) (m : Nat) (va : Value) (A : List Int) (vw : Value) (W : List Int) : Prop where
  lz : Lz w0 w b F n P m
  ra : RoI w w0.heap.size va A
  rw : RoI w w0.heap.size vw W
  aa : Apt F (ftV va)
  aw : Apt F (ftV vw)
  ab : Apt (ftV va) (ftV vw)
section
variable {w0 w w' : World} {b n m : Nat} {F F' G : Ft} {P P' : Rs} {va vw : Value} {A W : List Int}
theorem Lw2.nil (h : Lz w0 w b F n P m) : Lw2 w0 w b F n P m (.slice none 0 0) [] (.slice none 0 0) [] := ⟨h, World.ownsRow_nil _ _ _ _, World.ownsRow_nil _ _ _ _, (fun k _ e => by cases e), (fun k _ e => by cases e), (fun k _ e => by cases e)⟩
theorem Lw2.below (h : Lw2 w0 w b F n P m va A vw W) (hb : Below w.heap.size w w') : Lw2 w0 w' b F n P m va A vw W := ⟨h.lz.below hb, h.ra.below hb, h.rw.below hb, h.aa, h.aw, h.ab⟩
theorem Lw2.step {m' : Nat} (h : Lw2 w0 w b F n P m va A vw W) (hl : Lz w0 w' b F' n P' m') (hn : Nx w w' F F') : Lw2 w0 w' b F' n P' m' va A vw W :=
  ⟨hl, own_keeps h.ra hn.chg h.aa, own_keeps h.rw hn.chg h.aw, h.aa.next (own_lies h.ra) hn, h.aw.next (own_lies h.rw) hn, h.ab⟩
theorem Lw2.moreW {o : Obj} {v' : Value} {x : Int} (h : Lw2 w0 w b F n P m va A vw W) (ho : w'.ownsRow w0.heap.size 3 1 v' (W.length + 1) (W.map (Value.int .i64) ++ [.int .i64 x])) (hg : (w.alloc o).grownBy w' vw.ownBlock) (hn : v'.ownBlock = vw.ownBlock ∨ v'.ownBlock = some (w.alloc o).heap.size) : Lw2 w0 w' b F n P m va A v' (W ++ [x]) := by
  have hc := chg_append hg
  have hlt : w.heap.size ≤ (w.alloc o).heap.size := by simp
  refine ⟨h.lz.keeps hc (fun k e1 e2 => h.aw k e2 e1) (fun k e => (h.rw.lt k e).1), own_keeps h.ra hc (fun k e1 e2 => h.ab k e2 e1), by unfold RoI; simpa using ho, h.aa, fun k e1 e2 => ?_, fun k e1 e2 => ?_⟩
  · rcases hn with g | g
    · exact h.aw k e1 (by unfold ftV at e2 ⊢; rw [← g]; exact e2)
    · unfold ftV at e2
      rw [g] at e2
      have := Option.some.inj e2
      have := h.lz.lies k e1
      omega
  · rcases hn with g | g
    · exact h.ab k e1 (by unfold ftV at e2 ⊢; rw [← g]; exact e2)
    · unfold ftV at e2
      rw [g] at e2
      have := Option.some.inj e2
      have := (h.ra.lt k e1).2
      omega
theorem Lw2.swap (h : Lw2 w0 w b F n P m va A vw W) : Lw2 w0 w b F n P m vw W va A := ⟨h.lz, h.rw, h.ra, h.aw, h.aa, h.ab.symm⟩
end
def cN (P : Rs) (x : Int) : Int := (P.holders x).length
theorem cnt_in {n : Nat} {P : Rs} {q : Nat} (h : q < n) : cntH n P q = (cN P q, 0) := by
  unfold cntH
  rw [if_pos (by simp [inM]; omega)]
  rfl
/-- All maps but one. -/
def allR (R : Int) (q : Nat) : List Int := ((List.range q).map (fun i : Nat => (i : Int))).filter (fun x => x != R)
def wasR (P : Rs) (q : Nat) : List Int := (List.range q).map (fun i : Nat => cN P i)
theorem allR_more (R : Int) (q : Nat) : allR R (q + 1) = if (q : Int) = R then allR R q else allR R q ++ [(q : Int)] := by
  unfold allR
  rw [List.range_succ, List.map_append, List.filter_append]
  by_cases e : (q : Int) = R
  · rw [if_pos e]; simp [e]
  · rw [if_neg e]; simp [e]
theorem wasR_more (P : Rs) (q : Nat) : wasR P (q + 1) = wasR P q ++ [cN P q] := by unfold wasR; rw [List.range_succ, List.map_append]; rfl
theorem wasR_len (P : Rs) (q : Nat) : (wasR P q).length = q := by simp [wasR]
theorem wasR_at {P : Rs} {q k : Nat} (h : k < q) : (wasR P q).getD k 0 = cN P k := by simp [wasR, List.getD, h]
theorem allR_len (R : Int) (q : Nat) : (allR R q).length ≤ q := by unfold allR; have := List.length_filter_le (fun x => x != R) ((List.range q).map (fun i : Nat => (i : Int))); simpa using this
theorem allR_mem {R x : Int} {q : Nat} : x ∈ allR R q ↔ (0 ≤ x ∧ x < q) ∧ x ≠ R := by
  unfold allR
  rw [List.mem_filter]
  simp only [List.mem_map, List.mem_range, bne_iff_ne, ne_eq]
  constructor
  · rintro ⟨⟨k, hk, rfl⟩, h⟩; exact ⟨⟨by omega, by omega⟩, h⟩
  · rintro ⟨⟨h1, h2⟩, h⟩; exact ⟨⟨x.toNat, by omega, by omega⟩, h⟩
theorem allR_ok (R : Int) (n : Nat) : okM n (allR R n) = true := by
  simp only [okM, Bool.and_eq_true, decide_eq_true_eq, List.all_eq_true]
  constructor
  · unfold allR
    refine List.Pairwise.filter _ ?_
    rw [List.pairwise_map]
    exact List.nodup_range.imp (fun h e => h (by omega))
  · intro x hx
    have := allR_mem.1 hx
    simp [inM]
    omega
theorem allR_wf (R : Int) {q : Nat} (h : q ≤ 4) : ∀ x ∈ allR R q, (Lit.int .i64 x).wf = true := by
  intro x hx
  have := (allR_mem.1 hx).1
  exact WalkArith.wf_i64 (by omega)
theorem drop_gone {P P' : Rs} {p E : Int} (h : Rs.drop P [p] = (E, P')) : P'.has p = false := by
  unfold Rs.drop at h
  rw [if_neg (by simp)] at h
  cases hh : P.has p with
  | false =>
    rw [if_pos (by simp [hh])] at h
    injection h with _ e
    rw [← e]; exact hh
  | true =>
    rw [if_neg (by simp [hh])] at h
    injection h with _ e
    rw [← e]; exact filter_has P p
theorem cN_le (P : Rs) (x : Int) : 0 ≤ cN P x ∧ cN P x ≤ P.length := by
  unfold cN Rs.holders
  rw [List.length_map]
  have := List.length_filter_le (fun h : Hm => decide (x ∈ h.ms)) P
  omega
theorem refsOnce_no (n pr : Int) (sv : Value) (w : World) (h : n < 0 ∨ 4 < n) :
    Calls Try.prog 4 #[.int .i64 n, sv, .int .i64 pr] w fun e w' => e = .returned (.bool true) ∧ Below w.heap.size w w' := by
  go_enter Try.func4, Try.ntmps4
  go_wp2_with (first
    | (go_at_call 6; go_must (refine (awake18_any w).mono ?_); rintro e w1 ⟨rfl, hb1⟩)
    | (go_at_call 7; go_must (refine (lqnew_no n h _).mono ?_); rintro e w2 ⟨rfl, rfl⟩))
  go_ret
  exact ⟨rfl, hb1⟩
theorem infoIntO : (Try.prog.info? 3).map (fun i => (i.zero, i.size, i.bytes)) = some (some (.int .i64 0), 1, 8) := by kernel_rfl
set_option maxHeartbeats 25600000 in
theorem refsOnce_ok (n : Nat) (h4 : n ≤ 4) (pr : Int) (hpr : (Lit.int .i64 pr).wf = true) (sv : Value) (is : List Ow) (w : World) (hs : Scr w sv is) (hlen : is.length * 40 ≤ 140737488351232) (hsz : ∀ x ∈ is, x.ws.length * 8 ≤ 140737488351232) :
    Calls Try.prog 4 #[.int .i64 n, sv, .int .i64 pr] w fun e w' => e = .returned (.bool true) ∧ Below w.heap.size w w' := by
  have HSC := keepG hs
  obtain ⟨a, c, rfl, hc, hm, _, _⟩ := hs.sees
  have hm' : c ≤ 9223372036854775807 := by unfold maxLen at hm; omega
  obtain ⟨i0, hi0, hz0, hzs, hzb⟩ := info_parts infoIntO
  have HPR := keepG hpr
  have HSZI := keepG hsz
  clear hs hm hpr hsz
  go_enter Try.func4, Try.ntmps4
  go_wp2_with (first
    | (go_at_call 6; go_must (refine (awake18_any w).mono ?_); rintro e w1 ⟨rfl, hb1⟩)
    | (go_at_call 7; go_must (refine (lznew_ok n h4 hb1).mono ?_); rintro e w2 ⟨b, F0, rfl, hL, _, _⟩; go_must (have HL0 := keepG hL; clear hL)))
  go_loopw [9] (fun i wr => ∃ j : Nat, j ≤ is.length ∧ j ≤ 300 ∧ i = .int .i64 j ∧ ∃ F P, Hid (Lz w wr b F n P j)) (fun i _ => is.length - (intOf i).toNat)
  case atStart => exact ⟨0, by omega, by omega, rfl, F0, [], HL0.out⟩
  case round =>
    obtain ⟨j, hj, hj2, rfl, F, P, HM⟩ := hrel
    rename World => wr
    by_cases hlt : j < is.length
    · have hltI : (j : Int) < is.length := by omega
      by_cases hj3 : j < 300
      · have hj3I : (j : Int) < 300 := by omega
        obtain ⟨o, HO⟩ : ∃ o, Hid (is.getD j Ow.nil = o) := ⟨_, rfl⟩
        have hzw := HSZI.out _ (getD_memW is j hlt)
        rw [HO.out] at hzw
        obtain ⟨p, off, cap, ev, _, _, d0, d1, d2, hsu, hlu, hwf⟩ := HSC.out.at HM.out.be hlt HO.out
        simp only [Value.slice.injEq, true_and] at ev
        obtain ⟨rfl, rfl⟩ := ev
        have HAT := keepG (fun (wx : World) (hb : Below w.heap.size w wx) => HSC.out.at hb hlt HO.out)
        obtain ⟨ok, ox, ou, ow⟩ := o
        simp only at d0 d1 d2 hsu hlu hwf hzw
        have HZW : Hid (ow.length * 8 ≤ 140737488355328) := Nat.le_trans hzw (by decide)
        obtain ⟨oa, oc, ev⟩ := hsu.shape
        subst ev
        have HSU := keepG hsu
        have HLU := keepG hlu
        have HWF := keepG hwf
        have HCE : Hid (∀ wx : World, Below w.heap.size w wx → wx.cell? ⟨p, off + j * 3 + 1, none⟩ = some (.int .i64 ox) ∧ wx.cell? ⟨p, off + j * 3 + 2, none⟩ = some (.slice oa ow.length oc)) := by
          intro wx hb
          obtain ⟨p2, off2, cap2, ev2, _, _, _, e1, e2, _⟩ := HAT.out wx hb
          simp only [Value.slice.injEq, Option.some.injEq, Addr.mk.injEq, and_true, true_and] at ev2
          obtain ⟨⟨rfl, rfl⟩, rfl⟩ := ev2
          exact ⟨e1, e2⟩
        clear hsu hlu hwf HAT hzw
        by_cases hk0 : ok = 0
        · subst hk0
          obtain ⟨E, P6, HQ⟩ : ∃ E P6, Hid (Rs.hold n P ox ow = (E, P6)) := ⟨_, _, rfl⟩
          have HMd := keepG (HM.out.drewN 1)
          go_wp2
          refine wp_region_held_drew (S := fun w' => w'.cell? ⟨p, off + j * 3 + 1, none⟩ = some (.int .i64 ox) ∧ w'.cell? ⟨p, off + j * 3 + 2, none⟩ = some (.slice oa ow.length oc)) (by kernel_rfl) ⟨d1, d2⟩ (fun hHeld => ?_)
          refine tkGo [0, 1, 2, 3, 4, 5, 6, 7, 8, 9, 10] ?_
          repeat (refine tkOne (v := ?_) rfl (by kernel_rfl) (by kernel_rfl) (by kernel_rfl) (fun _ _ _ h => h) (by assumption) (by rfl) ?_ ?_; rotate_left; (intro wy hSw; (try dsimp only at hSw); go_simp; (first | done | with_reducible rfl)); try simp only [Act.put, List.getElem_toArray, List.getElem_cons_zero, List.getElem_cons_succ, List.setIfInBounds_toArray, List.set_cons_zero, List.set_cons_succ])
          refine tkEnd ?_
          refine wpAnyH_ready (rs := [11]) (by kernel_rfl) (by simp) ?_
          refine AllReadyH.cons rfl (fun KK hK => ?_) AllReadyH.nil
          rw [if_pos (by rfl)]
          go_simp
          go_at_call 8
          refine (HMd.out.hold (by omega) ox (HSU.out.drewN 1) (HMd.out.apt (fun hne k hk => HLU.out hne k hk)) HQ).mono ?_
          rintro e w6 ⟨rfl, F6, hl6, _⟩
          have HL6 := keepG hl6
          go_simp
          refine hK.out _ _ (HCE.out _ HL6.out.be) (fun hHeld => ?_)
          clear hK KK hl6
          try simp only [Act.put, List.getElem_toArray, List.getElem_cons_zero, List.getElem_cons_succ, List.setIfInBounds_toArray, List.set_cons_zero, List.set_cons_succ]
          refine wpAnyH_done (by kernel_rfl) ?_ _
          clear hHeld
          go_wp2
          go_roundw
          case rel => exact ⟨j + 1, by omega, by omega, by go_num, F6, P6, HL6.out⟩
          case measure => simp [intOf]; omega
        · have hkb : (ok == 0) = false := by simpa using hk0
          obtain ⟨E, P6, HQ⟩ : ∃ E P6, Hid (Rs.drop P [ox] = (E, P6)) := ⟨_, _, rfl⟩
          obtain ⟨Z, HZ, hbZ, HSZ⟩ := lit_one wr ox HWF.out
          have HMZ := keepG (HM.out.below hbZ)
          go_wp2_with (first
            | (rw [HZ.out])
            | (go_at_call 10; go_must (refine (HMZ.out.drop (by omega) HSZ.out (fun _ k hk e => by have h5 := HM.out.lies k hk; have h6 := ft_lit e; omega) HQ).mono ?_); rintro e w6 ⟨rfl, F6, hl6, _⟩; go_must (have HL6 := keepG (hl6.mono (m' := j + 1) (by omega)); clear hl6)))
          go_roundw
          case rel => exact ⟨j + 1, by omega, by omega, by go_num, F6, P6, HL6.out⟩
          case measure => simp [intOf]; omega
      · have hj3I : ¬ (j : Int) < 300 := by omega
        have HPn : Hid (∀ (E : Int) (P' : Rs), Rs.drop P [pr] = (E, P') → P'.has pr = false) := fun E P' h => drop_gone h
        obtain ⟨E3, P3, HQ3⟩ : ∃ E P3, Hid (Rs.drop P [pr] = (E, P3)) := ⟨_, _, rfl⟩
        have HNH := keepG (HPn.out _ _ HQ3.out)
        obtain ⟨Z, HZ, hbZ, HSZ⟩ := lit_one wr pr HPR.out
        have HMZ := keepG (HM.out.below hbZ)
        go_wp2_with (first
          | (rw [HZ.out])
          | (go_at_call 10; go_must (refine (HMZ.out.drop (by omega) HSZ.out (fun _ k hk e => by have h5 := HM.out.lies k hk; have h6 := ft_lit e; omega) HQ3).mono ?_); rintro e w3 ⟨rfl, F3, hl3, _⟩; go_must (have HL3 := keepG (hl3.mono (m' := 300) (by omega)); clear hl3)))
        obtain ⟨R, HRR⟩ : ∃ R, Hid (Int.tmod pr 4 = R) := ⟨_, rfl⟩
        go_loopw [10, 11, 12] (fun va vw i wq => ∃ q : Nat, q ≤ n ∧ i = .int .i64 q ∧ Hid (Lw2 w wq b F3 n P3 300 va (allR R q) vw (wasR P3 q))) (fun _ _ i _ => n - (intOf i).toNat)
        case atStart => exact ⟨0, by omega, rfl, Lw2.nil HL3.out⟩
        case round =>
          rename World => wq
          rename_i va vw
          obtain ⟨q, hq, rfl, HG⟩ := hrel
          obtain ⟨aa, ac, ev⟩ := own_shape HG.out.ra
          subst ev
          obtain ⟨ba, bc, ev⟩ := own_shape HG.out.rw
          subst ev
          have hal := allR_len R q
          have hwl := wasR_len P3 q
          have hzq := HG.out.lz.be.size
          by_cases hqn : q < n
          · have hqnI : (q : Int) < n := by omega
            have HC : Hid (cntH n P3 q = (cN P3 q, 0)) := cnt_in hqn
            have HWM := keepG (wasR_more P3 q)
            have HAM := keepG (allR_more R q)
            obtain ⟨cc, HCC⟩ : ∃ cc, Hid (cN P3 q = cc) := ⟨_, rfl⟩
            obtain ⟨A, HAA⟩ : ∃ A, Hid (allR R q = A) := ⟨_, rfl⟩
            obtain ⟨W, HWW⟩ : ∃ W, Hid (wasR P3 q = W) := ⟨_, rfl⟩
            rw [HCC.out] at HC HWM
            rw [HWW.out] at HWM HG hwl ⊢
            rw [HAA.out] at HAM HG hal ⊢
            have hWl : W.length ≤ 4 := by omega
            have hAl : A.length ≤ 4 := by omega
            have HWl := keepG hwl
            clear hwl hal
            by_cases hqR : (q : Int) = R
            · have hqb : ((q : Int) != pr.tmod 4) = false := by rw [HRR.out]; simpa using hqR
              rw [if_pos hqR] at HAM
              clear hqR
              go_wp2_with (first
                | (go_at_call 15; go_must (refine (HG.out.lz.count (by omega) q HC).mono ?_); rintro e w4 ⟨rfl, hb4⟩; go_must (have HG4 := keepG (HG.out.below hb4); have hz4 := HG4.out.lz.be.size; clear hb4))
                | (at_builtin; have hq := HC; clear hq; go_must (refine wpList_append_own_at _ rfl _ _ 32 rfl w.heap.size 3 i0 _ 1 8 Try.underlying32 hi0 hz0 hzs hzb rfl (by decide) _ _ _ rfl (HG4.out.rw.alloc _) ⟨_, 0, none⟩ 1 1 [.int .i64 cc] rfl rfl (cell_one_new _ _ _) (one_cell _ _) (by unfold maxLen; omega) (by omega) (by simp; omega) ?_); intro v5 w5 hown hgr _ hnew; go_must (have HG5 := keepG (HG4.out.moreW hown hgr hnew); have hz5 := HG5.out.lz.be.size; clear hgr hnew HC; obtain ⟨v5a, v5c, rfl⟩ := own_shape hown; clear hown)))
              have eW : (W ++ [cc]).length = W.length + 1 := by simp
              go_roundw
              case rel => exact ⟨q + 1, by omega, by go_num, by rw [HAM.out, HWM.out]; have := HG5.out; exact this⟩
              case measure => simp [intOf]; omega
            · have hqb : ((q : Int) != pr.tmod 4) = true := by rw [HRR.out]; simpa using hqR
              rw [if_neg hqR] at HAM
              clear hqR
              go_wp2_with (first
                | (go_at_call 15; go_must (refine (HG.out.lz.count (by omega) q HC).mono ?_); rintro e w4 ⟨rfl, hb4⟩; go_must (have HG4 := keepG (HG.out.below hb4); have hz4 := HG4.out.lz.be.size; clear hb4))
                | (at_builtin; have hq := HC; clear hq; go_must (refine wpList_append_own_at _ rfl _ _ 32 rfl w.heap.size 3 i0 _ 1 8 Try.underlying32 hi0 hz0 hzs hzb rfl (by decide) _ _ _ rfl (HG4.out.rw.alloc _) ⟨_, 0, none⟩ 1 1 [.int .i64 cc] rfl rfl (cell_one_new _ _ _) (one_cell _ _) (by unfold maxLen; omega) (by omega) (by simp; omega) ?_); intro v5 w5 hown hgr _ hnew; go_must (have HG5 := keepG (HG4.out.moreW hown hgr hnew); have hz5 := HG5.out.lz.be.size; clear hgr hnew HC; obtain ⟨v5a, v5c, rfl⟩ := own_shape hown; clear hown))
                | (at_builtin; go_must (refine wpList_append_own_at _ rfl _ _ 32 rfl w.heap.size 3 i0 _ 1 8 Try.underlying32 hi0 hz0 hzs hzb rfl (by decide) _ _ _ rfl (HG5.out.ra.alloc _) ⟨_, 0, none⟩ 1 1 [.int .i64 q] rfl rfl (cell_one_new _ _ _) (one_cell _ _) (by unfold maxLen; omega) (by omega) (by simp; omega) ?_); intro v6 w6 hown hgr _ hnew; go_must (have HG6 := keepG (HG5.out.swap.moreW hown hgr hnew).swap; clear hgr hnew; obtain ⟨v6a, v6c, rfl⟩ := own_shape hown; clear hown)))
              go_roundw
              case rel => exact ⟨q + 1, by omega, by go_num, by rw [HAM.out, HWM.out]; have := HG6.out; exact this⟩
              case measure => simp [intOf]; omega
          · have hqnI : ¬ (q : Int) < n := by omega
            obtain rfl : q = n := by omega
            have HAO := keepG (allR_ok R q)
            have HAW := keepG (allR_wf R (q := q) h4)
            have HAI := keepG (fun (x : Int) => (allR_mem (R := R) (x := x) (q := q)))
            have HWA := keepG (fun (k : Nat) (h : k < q) => wasR_at (P := P3) h)
            obtain ⟨A, HAA⟩ : ∃ A, Hid (allR R q = A) := ⟨_, rfl⟩
            obtain ⟨W, HWW⟩ : ∃ W, Hid (wasR P3 q = W) := ⟨_, rfl⟩
            rw [HAA.out] at HAO HAW HG hal ⊢
            simp only [HAA.out] at HAI
            rw [HWW.out] at HG hwl ⊢
            simp only [HWW.out] at HWA
            have HWl := keepG hwl
            obtain ⟨P4, HP4⟩ : ∃ P4 : Rs, Hid (insH ⟨pr, A⟩ P3 = P4) := ⟨_, rfl⟩
            have HQ4 : Hid (Rs.hold q P3 pr A = (0, P4)) := by
              show _ = _
              unfold Rs.hold
              rw [if_neg (by rw [HAO.out]; decide), if_neg (by rw [HNH.out]; decide), HP4.out]
            have HH4 : Hid (Rs.has P4 pr = true) := by rw [← HP4.out]; exact insH_has ⟨pr, A⟩ P3
            have HQ5 : Hid (Rs.hold q P4 pr A = (42, P4)) := by
              show _ = _
              unfold Rs.hold
              rw [if_neg (by rw [HAO.out]; decide), if_pos HH4.out]
            have HN4 : Hid (∀ k : Nat, k < q → cN P4 k = cN P3 k + if (k : Int) = R then 0 else 1) := by
              intro k hk
              rw [← HP4.out]
              unfold cN
              rw [holders_ins]
              by_cases e : (k : Int) = R
              · rw [if_pos e, if_neg (fun h => ((HAI.out k).1 h).2 e)]; simp
              · rw [if_neg e, if_pos ((HAI.out k).2 ⟨⟨by omega, by omega⟩, e⟩)]; simp
            have HQ6 : Hid (Rs.drop P4 [pr] = (0, P3)) := by
              show _ = _
              unfold Rs.drop
              rw [if_neg (by simp), if_neg (by simp [HH4.out]), ← HP4.out]
              exact congrArg (Prod.mk 0) (insH_out (h := ⟨pr, A⟩) HNH.out)
            have HQ7 : Hid (Rs.drop P3 [pr] = (41, P3)) := by
              show _ = _
              unfold Rs.drop
              rw [if_neg (by simp), if_pos (by simp [HNH.out])]
            have HQ8 : Hid (Rs.drop P3 [pr, pr] = (2, P3)) := by
              show _ = _
              unfold Rs.drop
              rw [if_pos (by simp)]
            have HQ9 : Hid (Rs.drop P3 [] = (0, P3)) := by
              show _ = _
              unfold Rs.drop
              rw [if_neg (by simp), if_neg (by simp)]
              refine congrArg (Prod.mk 0) (List.filter_eq_self.2 fun x hx => ?_)
              simp [outP]
            have HSA := keepG (Sees.own HG.out.ra HAW.out)
            have HZA : Hid (A.length * 8 ≤ 140737488355328) := (by show _ ≤ _; omega)
            clear hal hwl
            go_wp2_with (first
              | (go_at_call 8; have hq := HQ4; clear hq; go_must (refine (HG.out.lz.hold (by omega) pr HSA.out (fun _ => HG.out.aa) HQ4).mono ?_); rintro e w7 ⟨rfl, F7, hl7, hn7⟩; go_must (have HG7 := keepG (HG.out.step hl7 hn7); have HSA7 := keepG (Sees.own HG7.out.ra HAW.out); clear hl7 hn7 HQ4))
              | (go_at_call 8; go_must (refine (HG7.out.lz.hold (by omega) pr HSA7.out (fun _ => HG7.out.aa) HQ5).mono ?_); rintro e w8 ⟨rfl, F8, hl8, hn8⟩; go_must (have HG8 := keepG (HG7.out.step hl8 hn8); clear hl8 hn8)))
            go_loopw [15] (fun i wz => ∃ z : Nat, z ≤ q ∧ i = .int .i64 z ∧ Hid (Lw2 w wz b F8 q P4 302 (.slice aa A.length ac) A (.slice ba W.length bc) W)) (fun i _ => q - (intOf i).toNat)
            case atStart => exact ⟨0, by omega, rfl, HG8.out⟩
            case round =>
              rename World => wz
              obtain ⟨z, hz, rfl, HGz⟩ := hrel
              by_cases hzq2 : z < q
              · have hzqI : (z : Int) < q := by omega
                have hzW : z < W.length := by rw [HWl.out]; exact hzq2
                have hzWI : (z : Int) < W.length := by omega
                have hn4 := HN4.out z hzq2
                have hwa := HWA.out z hzq2
                have hcl0 := cN_le P3 z
                have hPl := HL3.out.len
                have HC : Hid (cntH q P4 z = (cN P4 z, 0)) := cnt_in hzq2
                obtain ⟨c4, HC4⟩ : ∃ c4, Hid (cN P4 z = c4) := ⟨_, rfl⟩
                obtain ⟨c3, HC3⟩ : ∃ c3, Hid (cN P3 z = c3) := ⟨_, rfl⟩
                rw [HC4.out] at HC hn4
                rw [HC3.out] at hn4 hwa hcl0
                obtain ⟨H4, HH⟩ : ∃ H4, Hid (Rs.holders P4 z = H4) := ⟨_, rfl⟩
                have HHl : Hid ((H4.length : Int) = c4) := by rw [← HC4.out, ← HH.out]; rfl
                have WC : Hid (∀ wx : World, Lw2 w wx b F8 q P4 302 (.slice aa A.length ac) A (.slice ba W.length bc) W → ∃ g, ba = some ⟨g, 0, none⟩ ∧ wx.cell? ⟨g, z, none⟩ = some (.int .i64 c3)) := by
                  intro wx hx
                  obtain ⟨g, cap, ev, _, _, _, _, hcl, _⟩ := hx.rw.cells (by omega)
                  simp only [Value.slice.injEq, true_and] at ev
                  refine ⟨g, ev.1, ?_⟩
                  have := (hcl z hzW).1
                  rw [hwa] at this
                  exact this
                obtain ⟨g0, hg0, _⟩ := WC.out _ HGz.out
                subst hg0
                have WC2 : Hid (∀ wx : World, Lw2 w wx b F8 q P4 302 (.slice aa A.length ac) A (.slice (some ⟨g0, 0, none⟩) W.length bc) W → wx.cell? ⟨g0, z, none⟩ = some (.int .i64 c3)) := by
                  intro wx hx
                  obtain ⟨g, e, hc⟩ := WC.out wx hx
                  simp only [Option.some.injEq, Addr.mk.injEq, and_true] at e
                  subst e
                  exact hc
                have hbc : W.length ≤ bc := by
                  obtain ⟨_, _, ev, _, _, h5, _⟩ := HGz.out.rw.cells (by omega)
                  simp only [Value.slice.injEq, true_and] at ev
                  omega
                clear WC hwa
                by_cases hzR : (z : Int) = R
                · have hzb : ((z : Int) == pr.tmod 4) = true := by rw [HRR.out]; simpa using hzR
                  rw [if_pos hzR, Int.add_zero] at hn4
                  obtain rfl : c3 = c4 := hn4.symm
                  have hw1 : IntKind.i64.wrap (c3 + 0) = c3 := by rw [IntKind.wrap_i64]; omega
                  have HHb : Hid (((H4.length : Int) != c3) = false) := by show _ = _; rw [HHl.out]; simp
                  clear hzR
                  go_wp2_with (first
                    | (go_at_call 15; go_must (refine (HGz.out.lz.count (by omega) z HC).mono ?_); rintro e w9 ⟨rfl, hb9⟩; go_must (have HG9 := keepG (HGz.out.below hb9); have x9 := WC2.out _ HG9.out; clear hb9))
                    | (go_at_call 16; go_must (refine (HG9.out.lz.holders (by omega) z HH).mono ?_); rintro e w10 ⟨u10, rfl, hu10, hb10⟩; go_must (have HG10 := keepG (HG9.out.below hb10); obtain ⟨ua10, uc10, rfl⟩ := own_shape hu10; have hhb := HHb.out; clear hb10 hu10)))
                  go_roundw
                  case rel => exact ⟨z + 1, by omega, by go_num, HG10.out⟩
                  case measure => simp [intOf]; omega
                · have hzb : ((z : Int) == pr.tmod 4) = false := by rw [HRR.out]; simpa using hzR
                  rw [if_neg hzR] at hn4
                  obtain rfl : c3 + 1 = c4 := hn4.symm
                  have hw1 : IntKind.i64.wrap (c3 + 1) = c3 + 1 := by rw [IntKind.wrap_i64]; omega
                  have HHb : Hid (((H4.length : Int) != c3 + 1) = false) := by show _ = _; rw [HHl.out]; simp
                  clear hzR
                  go_wp2_with (first
                    | (go_at_call 15; go_must (refine (HGz.out.lz.count (by omega) z HC).mono ?_); rintro e w9 ⟨rfl, hb9⟩; go_must (have HG9 := keepG (HGz.out.below hb9); have x9 := WC2.out _ HG9.out; clear hb9))
                    | (go_at_call 16; go_must (refine (HG9.out.lz.holders (by omega) z HH).mono ?_); rintro e w10 ⟨u10, rfl, hu10, hb10⟩; go_must (have HG10 := keepG (HG9.out.below hb10); obtain ⟨ua10, uc10, rfl⟩ := own_shape hu10; have hhb := HHb.out; clear hb10 hu10)))
                  go_roundw
                  case rel => exact ⟨z + 1, by omega, by go_num, HG10.out⟩
                  case measure => simp [intOf]; omega
              · have hzqI : ¬ (z : Int) < q := by omega
                obtain ⟨Z1, HZ1, hbZ1, HSZ1⟩ := lit_one wz pr HPR.out
                have HGZ1 := keepG (HGz.out.below hbZ1)
                go_wp2_with (first
                  | (rw [HZ1.out])
                  | (go_at_call 10; have hq := HQ6; clear hq; go_must (refine (HGZ1.out.lz.drop (by omega) HSZ1.out (fun _ k hk e => by have h5 := HGz.out.lz.lies k hk; have h6 := ft_lit e; omega) HQ6).mono ?_); rintro e w9 ⟨rfl, F9, hl9, hn9⟩; go_must (have HG9 := keepG (HGZ1.out.step hl9 hn9); clear hl9 hn9 HQ6; obtain ⟨Z2, HZ2, hbZ2, HSZ2⟩ := lit_one w9 pr HPR.out; have HGZ2 := keepG (HG9.out.below hbZ2)))
                  | (rw [HZ2.out])
                  | (go_at_call 10; have hq := HQ7; clear hq; go_must (refine (HGZ2.out.lz.drop (by omega) HSZ2.out (fun _ k hk e => by have h5 := HG9.out.lz.lies k hk; have h6 := ft_lit e; omega) HQ7).mono ?_); rintro e w10 ⟨rfl, F10, hl10, hn10⟩; go_must (have HG10 := keepG (HGZ2.out.step hl10 hn10); clear hl10 hn10 HQ7; obtain ⟨Z3, HZ3, hbZ3, HSZ3⟩ := lit_two w10 pr pr HPR.out HPR.out; have HGZ3 := keepG (HG10.out.below hbZ3)))
                  | (rw [HZ3.out])
                  | (go_at_call 10; have hq := HQ8; clear hq; go_must (refine (HGZ3.out.lz.drop (by omega) HSZ3.out (fun _ k hk e => by have h5 := HG10.out.lz.lies k hk; have h6 := ft_lit e; omega) HQ8).mono ?_); rintro e w11 ⟨rfl, F11, hl11, hn11⟩; go_must (have HG11 := keepG (HGZ3.out.step hl11 hn11); clear hl11 hn11 HQ8))
                  | (go_at_call 10; go_must (refine (HG11.out.lz.drop (by omega) (Sees.nil _ _) (fun hne => absurd rfl hne) HQ9).mono ?_); rintro e w12 ⟨rfl, F12, hl12, hn12⟩; go_must (have HG12 := keepG (HG11.out.step hl12 hn12); clear hl12 hn12)))
                go_loopw [19] (fun i wy => ∃ y : Nat, y ≤ q ∧ i = .int .i64 y ∧ Hid (Lw2 w wy b F12 q P3 302 (.slice aa A.length ac) A (.slice ba W.length bc) W)) (fun i _ => q - (intOf i).toNat)
                case atStart => exact ⟨0, by omega, rfl, HG12.out⟩
                case round =>
                  rename World => wy
                  obtain ⟨y, hy, rfl, HGy⟩ := hrel
                  by_cases hyq : y < q
                  · have hyqI : (y : Int) < q := by omega
                    have hyW : y < W.length := by rw [HWl.out]; exact hyq
                    have hyWI : (y : Int) < W.length := by omega
                    have hwa := HWA.out y hyq
                    have HC : Hid (cntH q P3 y = (cN P3 y, 0)) := cnt_in hyq
                    obtain ⟨c3, HC3⟩ : ∃ c3, Hid (cN P3 y = c3) := ⟨_, rfl⟩
                    rw [HC3.out] at HC hwa
                    obtain ⟨g0, cap0, ev0, _, _, h50, _, _, _⟩ := HGy.out.rw.cells (by omega)
                    simp only [Value.slice.injEq, true_and] at ev0
                    obtain ⟨hg0, hb0⟩ := ev0
                    subst hg0 hb0
                    have WC2 : Hid (∀ wx : World, Lw2 w wx b F12 q P3 302 (.slice aa A.length ac) A (.slice (some ⟨g0, 0, none⟩) W.length bc) W → wx.cell? ⟨g0, y, none⟩ = some (.int .i64 c3)) := by
                      intro wx hx
                      obtain ⟨g, cap, ev, _, _, _, _, hcl, _⟩ := hx.rw.cells (by omega)
                      simp only [Value.slice.injEq, Option.some.injEq, Addr.mk.injEq, and_true, true_and] at ev
                      obtain ⟨rfl, _⟩ := ev
                      have := (hcl y hyW).1
                      rw [hwa] at this
                      exact this
                    clear hwa
                    go_wp2_with (go_at_call 15; go_must (refine (HGy.out.lz.count (by omega) y HC).mono ?_); rintro e w13 ⟨rfl, hb13⟩; go_must (have HG13 := keepG (HGy.out.below hb13); have x13 := WC2.out _ HG13.out; clear hb13))
                    go_roundw
                    case rel => exact ⟨y + 1, by omega, by go_num, HG13.out⟩
                    case measure => simp [intOf]; omega
                  · have hyqI : ¬ (y : Int) < q := by omega
                    have HBE := keepG HGy.out.lz.be
                    go_wp2
                    go_ret
                    exact ⟨rfl, HBE.out⟩
    · have hltI : ¬ (j : Int) < is.length := by omega
      have HPn : Hid (∀ (E : Int) (P' : Rs), Rs.drop P [pr] = (E, P') → P'.has pr = false) := fun E P' h => drop_gone h
      obtain ⟨E3, P3, HQ3⟩ : ∃ E P3, Hid (Rs.drop P [pr] = (E, P3)) := ⟨_, _, rfl⟩
      have HNH := keepG (HPn.out _ _ HQ3.out)
      obtain ⟨Z, HZ, hbZ, HSZ⟩ := lit_one wr pr HPR.out
      have HMZ := keepG (HM.out.below hbZ)
      go_wp2_with (first
        | (rw [HZ.out])
        | (go_at_call 10; go_must (refine (HMZ.out.drop (by omega) HSZ.out (fun _ k hk e => by have h5 := HM.out.lies k hk; have h6 := ft_lit e; omega) HQ3).mono ?_); rintro e w3 ⟨rfl, F3, hl3, _⟩; go_must (have HL3 := keepG (hl3.mono (m' := 300) (by omega)); clear hl3)))
      obtain ⟨R, HRR⟩ : ∃ R, Hid (Int.tmod pr 4 = R) := ⟨_, rfl⟩
      go_loopw [10, 11, 12] (fun va vw i wq => ∃ q : Nat, q ≤ n ∧ i = .int .i64 q ∧ Hid (Lw2 w wq b F3 n P3 300 va (allR R q) vw (wasR P3 q))) (fun _ _ i _ => n - (intOf i).toNat)
      case atStart => exact ⟨0, by omega, rfl, Lw2.nil HL3.out⟩
      case round =>
        rename World => wq
        rename_i va vw
        obtain ⟨q, hq, rfl, HG⟩ := hrel
        obtain ⟨aa, ac, ev⟩ := own_shape HG.out.ra
        subst ev
        obtain ⟨ba, bc, ev⟩ := own_shape HG.out.rw
        subst ev
        have hal := allR_len R q
        have hwl := wasR_len P3 q
        have hzq := HG.out.lz.be.size
        by_cases hqn : q < n
        · have hqnI : (q : Int) < n := by omega
          have HC : Hid (cntH n P3 q = (cN P3 q, 0)) := cnt_in hqn
          have HWM := keepG (wasR_more P3 q)
          have HAM := keepG (allR_more R q)
          obtain ⟨cc, HCC⟩ : ∃ cc, Hid (cN P3 q = cc) := ⟨_, rfl⟩
          obtain ⟨A, HAA⟩ : ∃ A, Hid (allR R q = A) := ⟨_, rfl⟩
          obtain ⟨W, HWW⟩ : ∃ W, Hid (wasR P3 q = W) := ⟨_, rfl⟩
          rw [HCC.out] at HC HWM
          rw [HWW.out] at HWM HG hwl ⊢
          rw [HAA.out] at HAM HG hal ⊢
          have hWl : W.length ≤ 4 := by omega
          have hAl : A.length ≤ 4 := by omega
          have HWl := keepG hwl
          clear hwl hal
          by_cases hqR : (q : Int) = R
          · have hqb : ((q : Int) != pr.tmod 4) = false := by rw [HRR.out]; simpa using hqR
            rw [if_pos hqR] at HAM
            clear hqR
            go_wp2_with (first
              | (go_at_call 15; go_must (refine (HG.out.lz.count (by omega) q HC).mono ?_); rintro e w4 ⟨rfl, hb4⟩; go_must (have HG4 := keepG (HG.out.below hb4); have hz4 := HG4.out.lz.be.size; clear hb4))
              | (at_builtin; have hq := HC; clear hq; go_must (refine wpList_append_own_at _ rfl _ _ 32 rfl w.heap.size 3 i0 _ 1 8 Try.underlying32 hi0 hz0 hzs hzb rfl (by decide) _ _ _ rfl (HG4.out.rw.alloc _) ⟨_, 0, none⟩ 1 1 [.int .i64 cc] rfl rfl (cell_one_new _ _ _) (one_cell _ _) (by unfold maxLen; omega) (by omega) (by simp; omega) ?_); intro v5 w5 hown hgr _ hnew; go_must (have HG5 := keepG (HG4.out.moreW hown hgr hnew); have hz5 := HG5.out.lz.be.size; clear hgr hnew HC; obtain ⟨v5a, v5c, rfl⟩ := own_shape hown; clear hown)))
            have eW : (W ++ [cc]).length = W.length + 1 := by simp
            go_roundw
            case rel => exact ⟨q + 1, by omega, by go_num, by rw [HAM.out, HWM.out]; have := HG5.out; exact this⟩
            case measure => simp [intOf]; omega
          · have hqb : ((q : Int) != pr.tmod 4) = true := by rw [HRR.out]; simpa using hqR
            rw [if_neg hqR] at HAM
            clear hqR
            go_wp2_with (first
              | (go_at_call 15; go_must (refine (HG.out.lz.count (by omega) q HC).mono ?_); rintro e w4 ⟨rfl, hb4⟩; go_must (have HG4 := keepG (HG.out.below hb4); have hz4 := HG4.out.lz.be.size; clear hb4))
              | (at_builtin; have hq := HC; clear hq; go_must (refine wpList_append_own_at _ rfl _ _ 32 rfl w.heap.size 3 i0 _ 1 8 Try.underlying32 hi0 hz0 hzs hzb rfl (by decide) _ _ _ rfl (HG4.out.rw.alloc _) ⟨_, 0, none⟩ 1 1 [.int .i64 cc] rfl rfl (cell_one_new _ _ _) (one_cell _ _) (by unfold maxLen; omega) (by omega) (by simp; omega) ?_); intro v5 w5 hown hgr _ hnew; go_must (have HG5 := keepG (HG4.out.moreW hown hgr hnew); have hz5 := HG5.out.lz.be.size; clear hgr hnew HC; obtain ⟨v5a, v5c, rfl⟩ := own_shape hown; clear hown))
              | (at_builtin; go_must (refine wpList_append_own_at _ rfl _ _ 32 rfl w.heap.size 3 i0 _ 1 8 Try.underlying32 hi0 hz0 hzs hzb rfl (by decide) _ _ _ rfl (HG5.out.ra.alloc _) ⟨_, 0, none⟩ 1 1 [.int .i64 q] rfl rfl (cell_one_new _ _ _) (one_cell _ _) (by unfold maxLen; omega) (by omega) (by simp; omega) ?_); intro v6 w6 hown hgr _ hnew; go_must (have HG6 := keepG (HG5.out.swap.moreW hown hgr hnew).swap; clear hgr hnew; obtain ⟨v6a, v6c, rfl⟩ := own_shape hown; clear hown)))
            go_roundw
            case rel => exact ⟨q + 1, by omega, by go_num, by rw [HAM.out, HWM.out]; have := HG6.out; exact this⟩
            case measure => simp [intOf]; omega
        · have hqnI : ¬ (q : Int) < n := by omega
          obtain rfl : q = n := by omega
          have HAO := keepG (allR_ok R q)
          have HAW := keepG (allR_wf R (q := q) h4)
          have HAI := keepG (fun (x : Int) => (allR_mem (R := R) (x := x) (q := q)))
          have HWA := keepG (fun (k : Nat) (h : k < q) => wasR_at (P := P3) h)
          obtain ⟨A, HAA⟩ : ∃ A, Hid (allR R q = A) := ⟨_, rfl⟩
          obtain ⟨W, HWW⟩ : ∃ W, Hid (wasR P3 q = W) := ⟨_, rfl⟩
          rw [HAA.out] at HAO HAW HG hal ⊢
          simp only [HAA.out] at HAI
          rw [HWW.out] at HG hwl ⊢
          simp only [HWW.out] at HWA
          have HWl := keepG hwl
          obtain ⟨P4, HP4⟩ : ∃ P4 : Rs, Hid (insH ⟨pr, A⟩ P3 = P4) := ⟨_, rfl⟩
          have HQ4 : Hid (Rs.hold q P3 pr A = (0, P4)) := by
            show _ = _
            unfold Rs.hold
            rw [if_neg (by rw [HAO.out]; decide), if_neg (by rw [HNH.out]; decide), HP4.out]
          have HH4 : Hid (Rs.has P4 pr = true) := by rw [← HP4.out]; exact insH_has ⟨pr, A⟩ P3
          have HQ5 : Hid (Rs.hold q P4 pr A = (42, P4)) := by
            show _ = _
            unfold Rs.hold
            rw [if_neg (by rw [HAO.out]; decide), if_pos HH4.out]
          have HN4 : Hid (∀ k : Nat, k < q → cN P4 k = cN P3 k + if (k : Int) = R then 0 else 1) := by
            intro k hk
            rw [← HP4.out]
            unfold cN
            rw [holders_ins]
            by_cases e : (k : Int) = R
            · rw [if_pos e, if_neg (fun h => ((HAI.out k).1 h).2 e)]; simp
            · rw [if_neg e, if_pos ((HAI.out k).2 ⟨⟨by omega, by omega⟩, e⟩)]; simp
          have HQ6 : Hid (Rs.drop P4 [pr] = (0, P3)) := by
            show _ = _
            unfold Rs.drop
            rw [if_neg (by simp), if_neg (by simp [HH4.out]), ← HP4.out]
            exact congrArg (Prod.mk 0) (insH_out (h := ⟨pr, A⟩) HNH.out)
          have HQ7 : Hid (Rs.drop P3 [pr] = (41, P3)) := by
            show _ = _
            unfold Rs.drop
            rw [if_neg (by simp), if_pos (by simp [HNH.out])]
          have HQ8 : Hid (Rs.drop P3 [pr, pr] = (2, P3)) := by
            show _ = _
            unfold Rs.drop
            rw [if_pos (by simp)]
          have HQ9 : Hid (Rs.drop P3 [] = (0, P3)) := by
            show _ = _
            unfold Rs.drop
            rw [if_neg (by simp), if_neg (by simp)]
            refine congrArg (Prod.mk 0) (List.filter_eq_self.2 fun x hx => ?_)
            simp [outP]
          have HSA := keepG (Sees.own HG.out.ra HAW.out)
          have HZA : Hid (A.length * 8 ≤ 140737488355328) := (by show _ ≤ _; omega)
          clear hal hwl
          go_wp2_with (first
            | (go_at_call 8; have hq := HQ4; clear hq; go_must (refine (HG.out.lz.hold (by omega) pr HSA.out (fun _ => HG.out.aa) HQ4).mono ?_); rintro e w7 ⟨rfl, F7, hl7, hn7⟩; go_must (have HG7 := keepG (HG.out.step hl7 hn7); have HSA7 := keepG (Sees.own HG7.out.ra HAW.out); clear hl7 hn7 HQ4))
            | (go_at_call 8; go_must (refine (HG7.out.lz.hold (by omega) pr HSA7.out (fun _ => HG7.out.aa) HQ5).mono ?_); rintro e w8 ⟨rfl, F8, hl8, hn8⟩; go_must (have HG8 := keepG (HG7.out.step hl8 hn8); clear hl8 hn8)))
          go_loopw [15] (fun i wz => ∃ z : Nat, z ≤ q ∧ i = .int .i64 z ∧ Hid (Lw2 w wz b F8 q P4 302 (.slice aa A.length ac) A (.slice ba W.length bc) W)) (fun i _ => q - (intOf i).toNat)
          case atStart => exact ⟨0, by omega, rfl, HG8.out⟩
          case round =>
            rename World => wz
            obtain ⟨z, hz, rfl, HGz⟩ := hrel
            by_cases hzq2 : z < q
            · have hzqI : (z : Int) < q := by omega
              have hzW : z < W.length := by rw [HWl.out]; exact hzq2
              have hzWI : (z : Int) < W.length := by omega
              have hn4 := HN4.out z hzq2
              have hwa := HWA.out z hzq2
              have hcl0 := cN_le P3 z
              have hPl := HL3.out.len
              have HC : Hid (cntH q P4 z = (cN P4 z, 0)) := cnt_in hzq2
              obtain ⟨c4, HC4⟩ : ∃ c4, Hid (cN P4 z = c4) := ⟨_, rfl⟩
              obtain ⟨c3, HC3⟩ : ∃ c3, Hid (cN P3 z = c3) := ⟨_, rfl⟩
              rw [HC4.out] at HC hn4
              rw [HC3.out] at hn4 hwa hcl0
              obtain ⟨H4, HH⟩ : ∃ H4, Hid (Rs.holders P4 z = H4) := ⟨_, rfl⟩
              have HHl : Hid ((H4.length : Int) = c4) := by rw [← HC4.out, ← HH.out]; rfl
              have WC : Hid (∀ wx : World, Lw2 w wx b F8 q P4 302 (.slice aa A.length ac) A (.slice ba W.length bc) W → ∃ g, ba = some ⟨g, 0, none⟩ ∧ wx.cell? ⟨g, z, none⟩ = some (.int .i64 c3)) := by
                intro wx hx
                obtain ⟨g, cap, ev, _, _, _, _, hcl, _⟩ := hx.rw.cells (by omega)
                simp only [Value.slice.injEq, true_and] at ev
                refine ⟨g, ev.1, ?_⟩
                have := (hcl z hzW).1
                rw [hwa] at this
                exact this
              obtain ⟨g0, hg0, _⟩ := WC.out _ HGz.out
              subst hg0
              have WC2 : Hid (∀ wx : World, Lw2 w wx b F8 q P4 302 (.slice aa A.length ac) A (.slice (some ⟨g0, 0, none⟩) W.length bc) W → wx.cell? ⟨g0, z, none⟩ = some (.int .i64 c3)) := by
                intro wx hx
                obtain ⟨g, e, hc⟩ := WC.out wx hx
                simp only [Option.some.injEq, Addr.mk.injEq, and_true] at e
                subst e
                exact hc
              have hbc : W.length ≤ bc := by
                obtain ⟨_, _, ev, _, _, h5, _⟩ := HGz.out.rw.cells (by omega)
                simp only [Value.slice.injEq, true_and] at ev
                omega
              clear WC hwa
              by_cases hzR : (z : Int) = R
              · have hzb : ((z : Int) == pr.tmod 4) = true := by rw [HRR.out]; simpa using hzR
                rw [if_pos hzR, Int.add_zero] at hn4
                obtain rfl : c3 = c4 := hn4.symm
                have hw1 : IntKind.i64.wrap (c3 + 0) = c3 := by rw [IntKind.wrap_i64]; omega
                have HHb : Hid (((H4.length : Int) != c3) = false) := by show _ = _; rw [HHl.out]; simp
                clear hzR
                go_wp2_with (first
                  | (go_at_call 15; go_must (refine (HGz.out.lz.count (by omega) z HC).mono ?_); rintro e w9 ⟨rfl, hb9⟩; go_must (have HG9 := keepG (HGz.out.below hb9); have x9 := WC2.out _ HG9.out; clear hb9))
                  | (go_at_call 16; go_must (refine (HG9.out.lz.holders (by omega) z HH).mono ?_); rintro e w10 ⟨u10, rfl, hu10, hb10⟩; go_must (have HG10 := keepG (HG9.out.below hb10); obtain ⟨ua10, uc10, rfl⟩ := own_shape hu10; have hhb := HHb.out; clear hb10 hu10)))
                go_roundw
                case rel => exact ⟨z + 1, by omega, by go_num, HG10.out⟩
                case measure => simp [intOf]; omega
              · have hzb : ((z : Int) == pr.tmod 4) = false := by rw [HRR.out]; simpa using hzR
                rw [if_neg hzR] at hn4
                obtain rfl : c3 + 1 = c4 := hn4.symm
                have hw1 : IntKind.i64.wrap (c3 + 1) = c3 + 1 := by rw [IntKind.wrap_i64]; omega
                have HHb : Hid (((H4.length : Int) != c3 + 1) = false) := by show _ = _; rw [HHl.out]; simp
                clear hzR
                go_wp2_with (first
                  | (go_at_call 15; go_must (refine (HGz.out.lz.count (by omega) z HC).mono ?_); rintro e w9 ⟨rfl, hb9⟩; go_must (have HG9 := keepG (HGz.out.below hb9); have x9 := WC2.out _ HG9.out; clear hb9))
                  | (go_at_call 16; go_must (refine (HG9.out.lz.holders (by omega) z HH).mono ?_); rintro e w10 ⟨u10, rfl, hu10, hb10⟩; go_must (have HG10 := keepG (HG9.out.below hb10); obtain ⟨ua10, uc10, rfl⟩ := own_shape hu10; have hhb := HHb.out; clear hb10 hu10)))
                go_roundw
                case rel => exact ⟨z + 1, by omega, by go_num, HG10.out⟩
                case measure => simp [intOf]; omega
            · have hzqI : ¬ (z : Int) < q := by omega
              obtain ⟨Z1, HZ1, hbZ1, HSZ1⟩ := lit_one wz pr HPR.out
              have HGZ1 := keepG (HGz.out.below hbZ1)
              go_wp2_with (first
                | (rw [HZ1.out])
                | (go_at_call 10; have hq := HQ6; clear hq; go_must (refine (HGZ1.out.lz.drop (by omega) HSZ1.out (fun _ k hk e => by have h5 := HGz.out.lz.lies k hk; have h6 := ft_lit e; omega) HQ6).mono ?_); rintro e w9 ⟨rfl, F9, hl9, hn9⟩; go_must (have HG9 := keepG (HGZ1.out.step hl9 hn9); clear hl9 hn9 HQ6; obtain ⟨Z2, HZ2, hbZ2, HSZ2⟩ := lit_one w9 pr HPR.out; have HGZ2 := keepG (HG9.out.below hbZ2)))
                | (rw [HZ2.out])
                | (go_at_call 10; have hq := HQ7; clear hq; go_must (refine (HGZ2.out.lz.drop (by omega) HSZ2.out (fun _ k hk e => by have h5 := HG9.out.lz.lies k hk; have h6 := ft_lit e; omega) HQ7).mono ?_); rintro e w10 ⟨rfl, F10, hl10, hn10⟩; go_must (have HG10 := keepG (HGZ2.out.step hl10 hn10); clear hl10 hn10 HQ7; obtain ⟨Z3, HZ3, hbZ3, HSZ3⟩ := lit_two w10 pr pr HPR.out HPR.out; have HGZ3 := keepG (HG10.out.below hbZ3)))
                | (rw [HZ3.out])
                | (go_at_call 10; have hq := HQ8; clear hq; go_must (refine (HGZ3.out.lz.drop (by omega) HSZ3.out (fun _ k hk e => by have h5 := HG10.out.lz.lies k hk; have h6 := ft_lit e; omega) HQ8).mono ?_); rintro e w11 ⟨rfl, F11, hl11, hn11⟩; go_must (have HG11 := keepG (HGZ3.out.step hl11 hn11); clear hl11 hn11 HQ8))
                | (go_at_call 10; go_must (refine (HG11.out.lz.drop (by omega) (Sees.nil _ _) (fun hne => absurd rfl hne) HQ9).mono ?_); rintro e w12 ⟨rfl, F12, hl12, hn12⟩; go_must (have HG12 := keepG (HG11.out.step hl12 hn12); clear hl12 hn12)))
              go_loopw [19] (fun i wy => ∃ y : Nat, y ≤ q ∧ i = .int .i64 y ∧ Hid (Lw2 w wy b F12 q P3 302 (.slice aa A.length ac) A (.slice ba W.length bc) W)) (fun i _ => q - (intOf i).toNat)
              case atStart => exact ⟨0, by omega, rfl, HG12.out⟩
              case round =>
                rename World => wy
                obtain ⟨y, hy, rfl, HGy⟩ := hrel
                by_cases hyq : y < q
                · have hyqI : (y : Int) < q := by omega
                  have hyW : y < W.length := by rw [HWl.out]; exact hyq
                  have hyWI : (y : Int) < W.length := by omega
                  have hwa := HWA.out y hyq
                  have HC : Hid (cntH q P3 y = (cN P3 y, 0)) := cnt_in hyq
                  obtain ⟨c3, HC3⟩ : ∃ c3, Hid (cN P3 y = c3) := ⟨_, rfl⟩
                  rw [HC3.out] at HC hwa
                  obtain ⟨g0, cap0, ev0, _, _, h50, _, _, _⟩ := HGy.out.rw.cells (by omega)
                  simp only [Value.slice.injEq, true_and] at ev0
                  obtain ⟨hg0, hb0⟩ := ev0
                  subst hg0 hb0
                  have WC2 : Hid (∀ wx : World, Lw2 w wx b F12 q P3 302 (.slice aa A.length ac) A (.slice (some ⟨g0, 0, none⟩) W.length bc) W → wx.cell? ⟨g0, y, none⟩ = some (.int .i64 c3)) := by
                    intro wx hx
                    obtain ⟨g, cap, ev, _, _, _, _, hcl, _⟩ := hx.rw.cells (by omega)
                    simp only [Value.slice.injEq, Option.some.injEq, Addr.mk.injEq, and_true, true_and] at ev
                    obtain ⟨rfl, _⟩ := ev
                    have := (hcl y hyW).1
                    rw [hwa] at this
                    exact this
                  clear hwa
                  go_wp2_with (go_at_call 15; go_must (refine (HGy.out.lz.count (by omega) y HC).mono ?_); rintro e w13 ⟨rfl, hb13⟩; go_must (have HG13 := keepG (HGy.out.below hb13); have x13 := WC2.out _ HG13.out; clear hb13))
                  go_roundw
                  case rel => exact ⟨y + 1, by omega, by go_num, HG13.out⟩
                  case measure => simp [intOf]; omega
                · have hyqI : ¬ (y : Int) < q := by omega
                  have HBE := keepG HGy.out.lz.be
                  go_wp2
                  go_ret
                  exact ⟨rfl, HBE.out⟩
/-- RefsOnce. -/
theorem refsOnce_walk (n : Int) (sv : Value) (is : List Ow) (pr : Int) (w : World) {P0 : Prop} (_ : P0) (hs : Scr w sv is) (hlen : is.length * 40 ≤ 140737488351232 ∧ ∀ x ∈ is, x.ws.length * 8 ≤ 140737488351232) (hpr : -9223372036854775808 ≤ pr ∧ pr ≤ 9223372036854775807) :
    Calls Try.prog 4 #[.int .i64 n, sv, .int .i64 pr] w fun e w' => e = .returned (.bool true) ∧ Below w.heap.size w w' := by
  by_cases h : n < 0 ∨ 4 < n
  · exact refsOnce_no n pr sv w h
  · obtain ⟨m, rfl⟩ : ∃ m : Nat, n = m := ⟨n.toNat, by omega⟩
    exact refsOnce_ok m (by omega) pr (WalkArith.wf_i64 hpr) sv is w hs hlen.1 hlen.2
end Go.Proofs.Ytonbaklbbmmljaa
