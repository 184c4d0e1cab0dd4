
/-
  Layer 26: TraceOnly walked. Conditions: the listed variables read as they are laid; the slices are no greater than a slice may be.
-/
import Derived.Test.YtbfbfbbpajaclaaDoorMB0
import Derived.Test.YtbfbfbbpajaclaaDoorMB41
import Derived.Test.YtbfbfbbpajaclaaDoorMB42
import Derived.Test.YtbfbfbbpajaclaaDoorT26ApJ
import Derived.Test.YtbfbfbbpajaclaaDoorMB32
namespace Go.Proofs.YtbfbfbbpajaclaaDoor
open Go.RowKit
set_option linter.unusedVariables false
set_option linter.unusedSimpArgs false
set_option maxRecDepth 100000
theorem nbL (x : Int) : (nbC x).length = 1 := rfl
theorem infoMark27 : (Tryd.prog.info? 25).map (fun i => (i.zero, i.size, i.bytes)) = some (some (.int .i64 0), 1, 8) := by kernel_rfl
theorem infoInt27 : (Tryd.prog.info? 3).map (fun i => (i.zero, i.size, i.bytes)) = some (some (.int .i64 0), 1, 8) := by kernel_rfl
theorem one_nb27 (x : Int) : ∀ u ∈ [Value.int .i64 x], u.oneCell' = true := by intro u hu; simp at hu; subst hu; rfl
theorem flat_nb27 (xs : List Int) : ∀ u ∈ flatG nbC xs, u.oneCell' = true := by
  intro u hu
  unfold flatG at hu
  obtain ⟨e, _, he⟩ := List.mem_flatMap.1 hu
  exact one_nb27 e u he
/-- A number of a slice. -/
theorem nbAt26 {w : World} {a : Option Addr} {n cap : Nat} {l : List Int} (h : SeesG nbC 1 0 w (.slice a n cap) l) {k : Nat} (hk : k < l.length) : ∃ p off, a = some ⟨p, off, none⟩ ∧ ∀ w', Below w.heap.size w w' → w'.cell? ⟨p, off + k, none⟩ = some (.int .i64 (l.getD k 0)) := by
  obtain ⟨a', cap', ev, _, _, _, hat⟩ := h
  simp only [Value.slice.injEq] at ev
  obtain ⟨rfl, _, rfl⟩ := ev
  obtain ⟨p, off, rfl, hlt, hc⟩ := hat (fun e => by rw [e] at hk; simp at hk)
  refine ⟨p, off, rfl, fun w' hb => ?_⟩
  have h0 := hc k hk 0 (by omega)
  simp only [List.getElem?_cons_zero, Nat.add_zero, Nat.mul_one] at h0
  exact (hb.cell (p := ⟨p, off + k, none⟩) hlt).trans h0
theorem there_sub {w : World} {g n o m : Nat} (h : w.there g 0 n) (hm : o + m ≤ n) : w.there g o m := fun j hj => by
  have := h (o + j) (by omega)
  rw [Nat.zero_add] at this
  exact this
/-- An own row of entries, as far as stores into it ask. -/
theorem own_there26 {w : World} {base : Nat} {u : Value} {xs : List En} (h : w.ownsRow base 36 22 u xs.length (flatG enC xs)) : ∃ a c, u = .slice a xs.length c ∧ xs.length ≤ c ∧ c ≤ 9223372036854775807 ∧ (0 < xs.length → ∃ g, a = some ⟨g, 0, none⟩ ∧ base ≤ g ∧ g < w.heap.size ∧ w.there g 0 (xs.length * 22)) := by
  have hs := own_seesG enC_len En.nil h
  obtain ⟨a, c, rfl, hc, hm⟩ := hs.shape
  refine ⟨a, c, rfl, hc, hm, fun hp => ?_⟩
  obtain ⟨g, c', ev, hb, hl, _, _, hat⟩ := own_atG enC_len En.nil h hp
  simp only [Value.slice.injEq] at ev
  obtain ⟨rfl, _, rfl⟩ := ev
  refine ⟨g, rfl, hb, hl, fun j hj => ?_⟩
  rw [Nat.zero_add]
  have hk : j / 22 < xs.length := (Nat.div_lt_iff_lt_mul (by omega)).2 hj
  have hr : j % 22 < 22 := Nat.mod_lt _ (by omega)
  have e : j / 22 * 22 + j % 22 = j := by omega
  have h1 := hat (j / 22) hk (j % 22) hr
  rw [e] at h1
  refine ⟨?_, h1.2⟩
  rw [h1.1, List.getElem?_eq_getElem (by rw [enC_len]; exact hr)]
  rfl
theorem filt_at {p : En → Bool} {xs : List En} {k : Nat} (hk : k < xs.length) (h : p xs[k] = true) : ((xs.take k).filter p).length < (xs.filter p).length ∧ (xs.filter p).getD ((xs.take k).filter p).length En.nil = xs[k] := by
  have e : xs.filter p = (xs.take k).filter p ++ (xs[k] :: (xs.drop (k + 1)).filter p) := by
    have h1 : xs = xs.take k ++ (xs[k] :: xs.drop (k + 1)) := by
      rw [← List.drop_eq_getElem_cons hk, List.take_append_drop]
    conv => lhs; rw [h1, List.filter_append, List.filter_cons_of_pos h]
  rw [e]
  refine ⟨by simp, ?_⟩
  rw [List.getD_eq_getElem?_getD, List.getElem?_append_right (Nat.le_refl _)]
  simp
theorem filt_more {p : En → Bool} {xs : List En} {k : Nat} (hk : k < xs.length) : ((xs.take (k + 1)).filter p).length = ((xs.take k).filter p).length + (if p xs[k] = true then 1 else 0) := by
  rw [filter_more26 hk rfl, List.length_append]
  split <;> rfl
theorem mem_more {A : List Int} {j : Nat} (hj : j < A.length) (x : Int) : decide (x ∈ A.take (j + 1)) = (decide (x ∈ A.take j) || (A.getD j 0 == x)) := by
  have e : A.take (j + 1) = A.take j ++ [A.getD j 0] := by
    rw [List.take_add_one, List.getD_eq_getElem?_getD, List.getElem?_eq_getElem hj]; rfl
  rw [e, Bool.eq_iff_iff]
  simp only [decide_eq_true_eq, Bool.or_eq_true, List.mem_append, List.mem_singleton, beq_iff_eq]
  exact or_congr Iff.rfl eq_comm
theorem none_filt {f : En → Int} (xs : List En) : xs.filter (fun e => decide (f e ∈ ([] : List Int))) = [] := List.filter_eq_nil_iff.2 (fun e _ h => absurd (of_decide_eq_true h) List.not_mem_nil)
theorem sees_chg26 {w w' : World} {v : Value} {xs : List En} {S : Nat → Prop} (h : SeesG enC 22 En.nil w v xs) (hc : Chg w w' S) (hS : ∀ k, v.ownBlock = some k → ¬ S k) : SeesG enC 22 En.nil w' v xs := h.chg hc hS
def enM (m : Int) : En := ⟨m, 0, 0, 0, 0, 0, 0, 0, 0, 0, 0, 0, 0, 0, 0, false, 0, false, 0, 0, 0, 0⟩
set_option maxHeartbeats 25600000 in
theorem only26 (v : Value) (xs : List En) (vm : Value) (MS : List Int) (vt : Value) (TS : List Int) (w : World) (hs : SeesG enC 22 En.nil w v xs) (hx : xs.length * 176 ≤ 140737488351232) (hsm : SeesG nbC 1 0 w vm MS) (hm8 : MS.length * 8 ≤ 140737488351232) (hst : SeesG nbC 1 0 w vt TS) (ht8 : TS.length * 8 ≤ 140737488351232) (h : Laid w) : Calls Tryd.prog 6 #[v, vm, vt] w fun r w' => r = .returned (.bool true) ∧ Below w.heap.size w w' := by
  obtain ⟨i0, hi, hz0, hz1, hz2⟩ := info_parts infoEn26
  obtain ⟨j0, hj, hy0, hy1, hy2⟩ := info_parts infoMark27
  obtain ⟨l0, hl0, hl1, hl2, hl3⟩ := info_parts infoInt27
  have HS := keepG hs
  have HSM := keepG hsm
  have HST := keepG hst
  have HL : Hid (Laid w) := h
  have hxl : xs.length ≤ 799644820178 := by omega
  have hml : MS.length ≤ 17592186043904 := by omega
  have htl : TS.length ≤ 17592186043904 := by omega
  obtain ⟨a, cap, rfl, hlc, hmx⟩ := hs.shape
  obtain ⟨am, cm, rfl, hmc, hmm⟩ := hsm.shape
  obtain ⟨at', ct, rfl, htc, htm⟩ := hst.shape
  clear hs hsm hst h
  go_enter Tryd.func6, Tryd.ntmps6
  go_wp2_with (first
    | (go_at_call 8; go_must (refine (awake26 _ HL.out).mono ?_); rintro x1 w1 ⟨rfl, hb1⟩; go_must (have HB1 := keepG hb1; clear hb1; obtain ⟨Z, HZ, HOZ, HBZ, hzZ⟩ := own_zero26 w1 22 36; have HSZ := keepG ((HS.out.below HB1.out (Nat.le_refl _)).below HBZ.out (Nat.le_refl _))))
    | (rw [HZ.out])
    | (at_builtin; go_must (refine wpList_append26 (by rfl) (.tmp 23) (.tmp 24) 22 rfl w1.heap.size 36 i0 (.agg (enC En.nil).toArray) 22 176 Tryd.underlying22 hi hz0 hz1 hz2 rfl (by decide) _ ([] : List En) rfl HOZ.out _ xs rfl enC_len HSZ.out (flat_oneE _) (by unfold maxLen; simp; omega) (by simp; omega) hzZ ?_); intro v7 wi hown8 hg8; go_must (have HC8 : Hid (Below w1.heap.size w1 wi) := HBZ.out.grown hg8 hzZ (fun j hj => by first | (have hj : w1.heap.size = j := Option.some.inj hj; omega)); have HI7 : Hid (SeesG enC 22 En.nil wi v7 xs) := own_seesG enC_len En.nil hown8; have HLT : Hid (∀ k, v7.ownBlock = some k → k < wi.heap.size) := (fun k hk => (hown8.lt k hk).2); have HBI : Hid (Below w.heap.size w wi) := HB1.out.trans (HC8.out.mono HB1.out.size); clear hown8 hg8 HOZ HSZ)))
  go_loopw [8, 9] (fun u i wr => ∃ k : Nat, k ≤ MS.length ∧ i = .int .i64 k ∧ Hid (wr.ownsRow wi.heap.size 25 1 u (MS.take k).length (flatG nbC (MS.take k))) ∧ Hid (Below wi.heap.size wi wr)) (fun _ i _ => MS.length - (intOf i).toNat)
  case atStart => exact ⟨0, by omega, rfl, by show World.ownsRow _ _ _ _ _ _ _; exact World.ownsRow_nil _ _ _ _, Below.refl _ _⟩
  case round =>
    rename World => wr
    obtain ⟨k, hk, rfl, HOW, HBK⟩ := hrel
    have HBW : Hid (Below w.heap.size w wr) := HBI.out.trans (HBK.out.mono HBI.out.size)
    have hzi := HBI.out.size
    have hzk := HBK.out.size
    by_cases hlt : k < MS.length
    · have hltI : (k : Int) < MS.length := by omega
      obtain ⟨p, off, ea, hat⟩ := nbAt26 HSM.out hlt
      subst ea
      obtain ⟨x, HX⟩ : ∃ x, Hid (MS.getD k 0 = x) := ⟨_, rfl⟩
      have hcell := hat wr HBW.out
      rw [HX.out] at hcell
      obtain ⟨D, HD, hdl⟩ : ∃ D, Hid (MS.take k = D) ∧ D.length = k := ⟨_, rfl, by rw [List.length_take]; omega⟩
      have HN : Hid (MS.take (k + 1) = D ++ [x]) := by
        show _ = _
        rw [← HD.out, ← HX.out, List.take_add_one, List.getD_eq_getElem?_getD, List.getElem?_eq_getElem hlt]; rfl
      rw [HD.out] at HOW
      clear hat
      go_wp2_with (at_builtin; have hq := HOW; clear hq; go_must (refine wpList_append_own _ rfl (.tmp 32) (.tmp 37) 51 rfl wi.heap.size 25 j0 (.int .i64 0) 1 8 Tryd.underlying51 hj hy0 hy1 hy2 rfl (by decide) _ _ _ rfl (HOW.out.alloc _) ⟨_, 0, none⟩ 1 1 [.int .i64 x] rfl rfl (cells_new _ [.int .i64 x] _ _ (by simp)) (one_nb27 _) (by unfold maxLen; omega) (by omega) (by simp; omega) ?_); intro v6 w6 hown6 hg6 _; go_must (have HK6 : Hid (Below wi.heap.size wi w6) := (HBK.out.alloc hzk _).grown hg6 (by simp; omega) (fun j hj => (HOW.out.lt j hj).1); have HO6 := keepG hown6; clear hg6 hown6 HOW))
      have HO7 : Hid (w6.ownsRow wi.heap.size 25 1 v6 (D ++ [x]).length (flatG nbC (D ++ [x]))) := by
        refine own_moreG ?_
        exact HO6.out
      go_roundw
      case rel => exact ⟨k + 1, by omega, by go_num, by show World.ownsRow _ _ _ _ _ _ _; rw [HN.out]; exact HO7.out, HK6.out⟩
      case measure => simp [intOf]; omega
    · obtain rfl : k = MS.length := by omega
      rw [List.take_length] at HOW
      have HSO := keepG (own_seesG nbL 0 HOW.out)
      obtain ⟨ao, co, hso, hoc, hom⟩ := HSO.out.shape
      subst hso
      have HSI := keepG (HI7.out.below HBK.out (Nat.le_refl _))
      have HON1 := keepG (lOnly26 _ _ xs MS wr HSO.out HSI.out (by omega))
      clear hlt hk HOW
      go_wp2_with (first
        | (have hq := HON1; clear hq; go_at_call 18; go_must (refine HON1.out.mono ?_); rintro x4 w4 ⟨ua, rfl, ho4, hb4⟩; go_must (have HOA := keepG ho4; have HLA : Hid (∀ k, ua.ownBlock = some k → wr.heap.size ≤ k ∧ k < w4.heap.size) := (fun k hk => ho4.lt k hk); have HK4 : Hid (Below wi.heap.size wi w4) := HBK.out.trans (hb4.mono hzk); have HB4 : Hid (Below w.heap.size w w4) := HBI.out.trans (HK4.out.mono hzi); have HSO4 := keepG (HSO.out.below hb4 (Nat.le_refl _)); have hz4 := hb4.size; clear ho4 hb4 HON1; obtain ⟨Y, HY, HOY, HBY, hzY⟩ := own_zero26 w4 1 3; have HSTY := keepG ((HST.out.below HB4.out (Nat.le_refl _)).below HBY.out (Nat.le_refl _))))
        | (rw [HY.out])
        | (at_builtin; go_must (refine wpList_append26 (by rfl) (.tmp 43) (.tmp 44) 50 rfl w4.heap.size 3 l0 (.int .i64 0) 1 8 Tryd.underlying50 hl0 hl1 hl2 hl3 rfl (by decide) _ ([] : List Int) rfl HOY.out _ TS rfl nbL HSTY.out (flat_nb27 _) (by unfold maxLen; simp; omega) (by simp; omega) hzY ?_); intro v45 w5 hown5 hg5; go_must (have HC5 : Hid (Below w4.heap.size w4 w5) := HBY.out.grown hg5 hzY (fun j hj => by first | (have hj : w4.heap.size = j := Option.some.inj hj; omega)); have HS45 : Hid (SeesG nbC 1 0 w5 v45 TS) := own_seesG nbL 0 hown5; have hz5 := HC5.out.size; have HK5 : Hid (Below wi.heap.size wi w5) := HK4.out.trans (HC5.out.mono HK4.out.size); have HON2 := keepG (lOf26 _ _ xs TS w5 HS45.out (HI7.out.below HK5.out (Nat.le_refl _)) (by omega)); clear hown5 hg5 HOY HSTY))
        | (have hq := HON2; clear hq; go_at_call 19; go_must (refine HON2.out.mono ?_); rintro x6 w6 ⟨ub, rfl, ho6, hb6⟩; go_must (have HOB := keepG ho6; have HLB : Hid (∀ k, ub.ownBlock = some k → w5.heap.size ≤ k ∧ k < w6.heap.size) := (fun k hk => ho6.lt k hk); have hz6 := hb6.size; have HK6 : Hid (Below wi.heap.size wi w6) := HK5.out.trans (hb6.mono HK5.out.size); have HOA6 := keepG (own_below (own_below HOA.out HC5.out (Nat.le_refl _)) hb6 (Nat.le_refl _)); have HSO6 := keepG ((HSO4.out.below HC5.out (Nat.le_refl _)).below hb6 (Nat.le_refl _)); clear ho6 hb6 HON2)))
      clear HOA HSO4 HY HBY
      have HB6 : Hid (Below w.heap.size w w6) := HBI.out.trans (HK6.out.mono hzi)
      obtain ⟨A, HAF⟩ : ∃ A, Hid (xs.filter (fun e => decide (e.wh ∈ MS)) = A) := ⟨_, rfl⟩
      obtain ⟨B, HBF⟩ : ∃ B, Hid (xs.filter (fun e => decide (e.ta ∈ TS)) = B) := ⟨_, rfl⟩
      rw [HAF.out] at HOA6
      rw [HBF.out] at HOB
      have hAl : A.length ≤ xs.length := by rw [← HAF.out]; exact List.length_filter_le _ _
      have hBl : B.length ≤ xs.length := by rw [← HBF.out]; exact List.length_filter_le _ _
      obtain ⟨aa, ca, rfl, hac, ham, HTA0⟩ := own_there26 HOA6.out
      have HTA := keepG HTA0
      obtain ⟨ab, cb, rfl, hbc, hbm, HTB0⟩ := own_there26 HOB.out
      have HTB := keepG HTB0
      have HSA := keepG (own_seesG enC_len En.nil HOA6.out)
      have HSB := keepG (own_seesG enC_len En.nil HOB.out)
      clear HTA0 HTB0
      go_loopw [12, 13, 14] (fun x y i wx => ∃ k : Nat, k ≤ xs.length ∧ i = .int .i64 k ∧ x = .int .i64 ((xs.take k).filter (fun e => decide (e.wh ∈ MS))).length ∧ y = .int .i64 ((xs.take k).filter (fun e => decide (e.ta ∈ TS))).length ∧ Hid (Below w6.heap.size w6 wx)) (fun _ _ i _ => xs.length - (intOf i).toNat)
      case atStart => exact ⟨0, by omega, rfl, rfl, rfl, Below.refl _ _⟩
      case round =>
        rename World => wx
        obtain ⟨k, hk, rfl, rfl, rfl, HKX⟩ := hrel
        have HBX : Hid (Below w.heap.size w wx) := HB6.out.trans (HKX.out.mono HB6.out.size)
        by_cases hlt : k < xs.length
        · have hltI : (k : Int) < xs.length := by omega
          obtain ⟨p, off, ea, hat⟩ := enAt26 HS.out hlt
          subst ea
          obtain ⟨e, HE⟩ : ∃ e, Hid (xs.getD k En.nil = e) := ⟨_, rfl⟩
          have HAT : Hid (∀ wy, Below w.heap.size w wy → wy.rangeAt p (off + k * 22) (enC e)) := fun wy hb => hat wy e hb HE.out
          have hxk : xs[k] = e := by have h := HE.out; rw [List.getD_eq_getElem?_getD, List.getElem?_eq_getElem hlt] at h; exact h
          have HFA := keepG (filt_at (p := fun e => decide (e.wh ∈ MS)) hlt)
          have HFB := keepG (filt_at (p := fun e => decide (e.ta ∈ TS)) hlt)
          have HMA := keepG (filt_more (p := fun e => decide (e.wh ∈ MS)) hlt)
          have HMB := keepG (filt_more (p := fun e => decide (e.ta ∈ TS)) hlt)
          rw [hxk] at HFA HFB HMA HMB
          rw [HAF.out] at HFA
          rw [HBF.out] at HFB
          obtain ⟨fa, HFL⟩ : ∃ fa, Hid (((xs.take k).filter (fun e => decide (e.wh ∈ MS))).length = fa) := ⟨_, rfl⟩
          obtain ⟨fb, HFM⟩ : ∃ fb, Hid (((xs.take k).filter (fun e => decide (e.ta ∈ TS))).length = fb) := ⟨_, rfl⟩
          rw [HFL.out] at HFA HMA ⊢
          rw [HFM.out] at HFB HMB ⊢
          have hfal : fa ≤ k := by rw [← HFL.out]; exact filter_take_len
          have hfbl : fb ≤ k := by rw [← HFM.out]; exact filter_take_len
          clear hat hxk
          go_wp2_with fail
          go_loopw [15, 17] (fun b i wy => ∃ j : Nat, j ≤ MS.length ∧ i = .int .i64 j ∧ b = .bool (decide (e.wh ∈ MS.take j)) ∧ Hid (Below wx.heap.size wx wy)) (fun _ i _ => MS.length - (intOf i).toNat)
          case atStart => exact ⟨0, by omega, rfl, by simp, Below.refl _ _⟩
          case round =>
            rename World => wy
            obtain ⟨j, hj9, rfl, rfl, HKY⟩ := hrel
            have HKY6 : Hid (Below w6.heap.size w6 wy) := HKX.out.trans (HKY.out.mono HKX.out.size)
            have HBY : Hid (Below w.heap.size w wy) := HB6.out.trans (HKY6.out.mono HB6.out.size)
            by_cases hlj : j < MS.length
            · have hljI : (j : Int) < MS.length := by omega
              obtain ⟨pm, om, ea, hatm⟩ := nbAt26 HSO6.out hlj
              subst ea
              have HMM := keepG (mem_more hlj e.wh)
              obtain ⟨x, HX⟩ : ∃ x, Hid (MS.getD j 0 = x) := ⟨_, rfl⟩
              have hcm := hatm wy HKY6.out
              rw [HX.out] at hcm HMM
              have hce : wy.cell? ⟨p, off + k * 22, none⟩ = some (.int .i64 e.wh) := HAT.out wy HBY.out 0 _ rfl
              have HCC := keepG (And.intro hcm hce)
              clear hatm hcm hce
              obtain ⟨b, HBB⟩ : ∃ b, Hid (decide (e.wh ∈ MS.take j) = b) := ⟨_, rfl⟩
              rw [HBB.out] at HMM ⊢
              cases b
              · go_wp2_with fail
                refine wp_region_held_drew (S := fun w' => w'.cell? ⟨pm, om + j, none⟩ = some (.int .i64 x) ∧ w'.cell? ⟨p, off + k * 22, none⟩ = some (.int .i64 e.wh)) (by kernel_rfl) HCC.out (fun hHeld => ?_)
                refine tkGo [0, 1, 2, 3, 4, 5, 6, 7, 8, 9, 10, 11, 12, 13] ?_
                repeat (refine tkO (v := ?_) rfl ?_ ?_; rotate_left; (intro wy hSw; (try dsimp only at hSw); go_simp; (first | done | with_reducible rfl)); try simp only [Act.put, p1q, p2q, p3q, p4q, p5q, p6q])
                refine tkEnd ?_
                refine wpAnyH_done (by kernel_rfl) ?_ _
                go_wp2
                exact ⟨⟨j + 1, by omega, by go_num, by rw [HMM.out]; simp, below_drG HKY.out⟩, by simp [intOf]; omega⟩
              · go_wp2_with fail
                refine wp_region_held_drew (S := fun w' => True) (by kernel_rfl) trivial (fun hHeld => ?_)
                refine tkGo [0, 1] ?_
                repeat (refine tkO (v := ?_) rfl ?_ ?_; rotate_left; (intro wy hSw; (try dsimp only at hSw); go_simp; (first | done | with_reducible rfl)); try simp only [Act.put, p1q, p2q, p3q, p4q, p5q, p6q])
                refine tkEnd ?_
                refine wpAnyH_take (i := 2) (v := undef) rfl (by kernel_rfl) (by kernel_rfl) (by kernel_rfl) (fun _ _ _ h => h) (Or.inr ⟨by rfl, rfl⟩) (by assumption) ?_
                try simp only [Act.put, p1q, p2q, p3q, p4q, p5q, p6q]
                refine wpAnyH_take (i := 3) (v := undef) rfl (by kernel_rfl) (by kernel_rfl) (by kernel_rfl) (fun _ _ _ h => h) (Or.inr ⟨by rfl, rfl⟩) (by assumption) ?_
                try simp only [Act.put, p1q, p2q, p3q, p4q, p5q, p6q]
                refine wpAnyH_take (i := 4) (v := undef) rfl (by kernel_rfl) (by kernel_rfl) (by kernel_rfl) (fun _ _ _ h => h) (Or.inr ⟨by rfl, rfl⟩) (by assumption) ?_
                try simp only [Act.put, p1q, p2q, p3q, p4q, p5q, p6q]
                refine wpAnyH_take (i := 5) (v := undef) rfl (by kernel_rfl) (by kernel_rfl) (by kernel_rfl) (fun _ _ _ h => h) (Or.inr ⟨by rfl, rfl⟩) (by assumption) ?_
                try simp only [Act.put, p1q, p2q, p3q, p4q, p5q, p6q]
                refine wpAnyH_take (i := 6) (v := undef) rfl (by kernel_rfl) (by kernel_rfl) (by kernel_rfl) (fun _ _ _ h => h) (Or.inr ⟨by rfl, rfl⟩) (by assumption) ?_
                try simp only [Act.put, p1q, p2q, p3q, p4q, p5q, p6q]
                refine wpAnyH_take (i := 7) (v := undef) rfl (by kernel_rfl) (by kernel_rfl) (by kernel_rfl) (fun _ _ _ h => h) (Or.inr ⟨by rfl, rfl⟩) (by assumption) ?_
                try simp only [Act.put, p1q, p2q, p3q, p4q, p5q, p6q]
                refine wpAnyH_take (i := 8) (v := undef) rfl (by kernel_rfl) (by kernel_rfl) (by kernel_rfl) (fun _ _ _ h => h) (Or.inr ⟨by rfl, rfl⟩) (by assumption) ?_
                try simp only [Act.put, p1q, p2q, p3q, p4q, p5q, p6q]
                refine wpAnyH_take (i := 9) (v := undef) rfl (by kernel_rfl) (by kernel_rfl) (by kernel_rfl) (fun _ _ _ h => h) (Or.inr ⟨by rfl, rfl⟩) (by assumption) ?_
                try simp only [Act.put, p1q, p2q, p3q, p4q, p5q, p6q]
                refine wpAnyH_take (i := 10) (v := undef) rfl (by kernel_rfl) (by kernel_rfl) (by kernel_rfl) (fun _ _ _ h => h) (Or.inr ⟨by rfl, rfl⟩) (by assumption) ?_
                try simp only [Act.put, p1q, p2q, p3q, p4q, p5q, p6q]
                refine wpAnyH_take (i := 11) (v := undef) rfl (by kernel_rfl) (by kernel_rfl) (by kernel_rfl) (fun _ _ _ h => h) (Or.inr ⟨by rfl, rfl⟩) (by assumption) ?_
                try simp only [Act.put, p1q, p2q, p3q, p4q, p5q, p6q]
                refine tkGo [12, 13] ?_
                repeat (refine tkO (v := ?_) rfl ?_ ?_; rotate_left; (intro wy hSw; (try dsimp only at hSw); go_simp; (first | done | with_reducible rfl)); try simp only [Act.put, p1q, p2q, p3q, p4q, p5q, p6q])
                refine tkEnd ?_
                refine wpAnyH_done (by kernel_rfl) ?_ _
                go_wp2
                exact ⟨⟨j + 1, by omega, by go_num, by rw [HMM.out]; simp, below_drG HKY.out⟩, by simp [intOf]; omega⟩
            · obtain rfl : j = MS.length := by omega
              rw [List.take_length]
              obtain ⟨bm, HBM⟩ : ∃ bm, Hid (decide (e.wh ∈ MS) = bm) := ⟨_, rfl⟩
              rw [HBM.out] at HFA HMA ⊢
              clear hlj hj9
              go_wp2_with fail
              go_loopw [16, 18] (fun b i wz => ∃ j : Nat, j ≤ TS.length ∧ i = .int .i64 j ∧ b = .bool (decide (e.ta ∈ TS.take j)) ∧ Hid (Below wx.heap.size wx wz)) (fun _ i _ => TS.length - (intOf i).toNat)
              case atStart => exact ⟨0, by omega, rfl, by simp, HKY.out⟩
              case round =>
                rename World => wz
                obtain ⟨j, hj9, rfl, rfl, HKZ⟩ := hrel
                have HKZ6 : Hid (Below w6.heap.size w6 wz) := HKX.out.trans (HKZ.out.mono HKX.out.size)
                have HBZ2 : Hid (Below w.heap.size w wz) := HB6.out.trans (HKZ6.out.mono HB6.out.size)
                by_cases hlj : j < TS.length
                · have hljI : (j : Int) < TS.length := by omega
                  obtain ⟨pm, om, ea, hatm⟩ := nbAt26 HST.out hlj
                  subst ea
                  have HMM := keepG (mem_more hlj e.ta)
                  obtain ⟨x, HX⟩ : ∃ x, Hid (TS.getD j 0 = x) := ⟨_, rfl⟩
                  have hcm := hatm wz HBZ2.out
                  rw [HX.out] at hcm HMM
                  have hce : wz.cell? ⟨p, off + k * 22 + 1, none⟩ = some (.int .i64 e.ta) := HAT.out wz HBZ2.out 1 _ rfl
                  have HCC := keepG (And.intro hcm hce)
                  clear hatm hcm hce
                  obtain ⟨b, HBB⟩ : ∃ b, Hid (decide (e.ta ∈ TS.take j) = b) := ⟨_, rfl⟩
                  rw [HBB.out] at HMM ⊢
                  cases b
                  · go_wp2_with fail
                    refine wp_region_held_drew (S := fun w' => w'.cell? ⟨pm, om + j, none⟩ = some (.int .i64 x) ∧ w'.cell? ⟨p, off + k * 22 + 1, none⟩ = some (.int .i64 e.ta)) (by kernel_rfl) HCC.out (fun hHeld => ?_)
                    refine tkGo [0, 1, 2, 3, 4, 5, 6, 7, 8, 9, 10, 11, 12, 13] ?_
                    repeat (refine tkO (v := ?_) rfl ?_ ?_; rotate_left; (intro wy hSw; (try dsimp only at hSw); go_simp; (first | done | with_reducible rfl)); try simp only [Act.put, p1q, p2q, p3q, p4q, p5q, p6q])
                    refine tkEnd ?_
                    refine wpAnyH_done (by kernel_rfl) ?_ _
                    go_wp2
                    exact ⟨⟨j + 1, by omega, by go_num, by rw [HMM.out]; simp, below_drG HKZ.out⟩, by simp [intOf]; omega⟩
                  · go_wp2_with fail
                    refine wp_region_held_drew (S := fun w' => True) (by kernel_rfl) trivial (fun hHeld => ?_)
                    refine tkGo [0, 1] ?_
                    repeat (refine tkO (v := ?_) rfl ?_ ?_; rotate_left; (intro wy hSw; (try dsimp only at hSw); go_simp; (first | done | with_reducible rfl)); try simp only [Act.put, p1q, p2q, p3q, p4q, p5q, p6q])
                    refine tkEnd ?_
                    refine wpAnyH_take (i := 2) (v := undef) rfl (by kernel_rfl) (by kernel_rfl) (by kernel_rfl) (fun _ _ _ h => h) (Or.inr ⟨by rfl, rfl⟩) (by assumption) ?_
                    try simp only [Act.put, p1q, p2q, p3q, p4q, p5q, p6q]
                    refine wpAnyH_take (i := 3) (v := undef) rfl (by kernel_rfl) (by kernel_rfl) (by kernel_rfl) (fun _ _ _ h => h) (Or.inr ⟨by rfl, rfl⟩) (by assumption) ?_
                    try simp only [Act.put, p1q, p2q, p3q, p4q, p5q, p6q]
                    refine wpAnyH_take (i := 4) (v := undef) rfl (by kernel_rfl) (by kernel_rfl) (by kernel_rfl) (fun _ _ _ h => h) (Or.inr ⟨by rfl, rfl⟩) (by assumption) ?_
                    try simp only [Act.put, p1q, p2q, p3q, p4q, p5q, p6q]
                    refine wpAnyH_take (i := 5) (v := undef) rfl (by kernel_rfl) (by kernel_rfl) (by kernel_rfl) (fun _ _ _ h => h) (Or.inr ⟨by rfl, rfl⟩) (by assumption) ?_
                    try simp only [Act.put, p1q, p2q, p3q, p4q, p5q, p6q]
                    refine wpAnyH_take (i := 6) (v := undef) rfl (by kernel_rfl) (by kernel_rfl) (by kernel_rfl) (fun _ _ _ h => h) (Or.inr ⟨by rfl, rfl⟩) (by assumption) ?_
                    try simp only [Act.put, p1q, p2q, p3q, p4q, p5q, p6q]
                    refine wpAnyH_take (i := 7) (v := undef) rfl (by kernel_rfl) (by kernel_rfl) (by kernel_rfl) (fun _ _ _ h => h) (Or.inr ⟨by rfl, rfl⟩) (by assumption) ?_
                    try simp only [Act.put, p1q, p2q, p3q, p4q, p5q, p6q]
                    refine wpAnyH_take (i := 8) (v := undef) rfl (by kernel_rfl) (by kernel_rfl) (by kernel_rfl) (fun _ _ _ h => h) (Or.inr ⟨by rfl, rfl⟩) (by assumption) ?_
                    try simp only [Act.put, p1q, p2q, p3q, p4q, p5q, p6q]
                    refine wpAnyH_take (i := 9) (v := undef) rfl (by kernel_rfl) (by kernel_rfl) (by kernel_rfl) (fun _ _ _ h => h) (Or.inr ⟨by rfl, rfl⟩) (by assumption) ?_
                    try simp only [Act.put, p1q, p2q, p3q, p4q, p5q, p6q]
                    refine wpAnyH_take (i := 10) (v := undef) rfl (by kernel_rfl) (by kernel_rfl) (by kernel_rfl) (fun _ _ _ h => h) (Or.inr ⟨by rfl, rfl⟩) (by assumption) ?_
                    try simp only [Act.put, p1q, p2q, p3q, p4q, p5q, p6q]
                    refine wpAnyH_take (i := 11) (v := undef) rfl (by kernel_rfl) (by kernel_rfl) (by kernel_rfl) (fun _ _ _ h => h) (Or.inr ⟨by rfl, rfl⟩) (by assumption) ?_
                    try simp only [Act.put, p1q, p2q, p3q, p4q, p5q, p6q]
                    refine tkGo [12, 13] ?_
                    repeat (refine tkO (v := ?_) rfl ?_ ?_; rotate_left; (intro wy hSw; (try dsimp only at hSw); go_simp; (first | done | with_reducible rfl)); try simp only [Act.put, p1q, p2q, p3q, p4q, p5q, p6q])
                    refine tkEnd ?_
                    refine wpAnyH_done (by kernel_rfl) ?_ _
                    go_wp2
                    exact ⟨⟨j + 1, by omega, by go_num, by rw [HMM.out]; simp, below_drG HKZ.out⟩, by simp [intOf]; omega⟩
                · obtain rfl : j = TS.length := by omega
                  rw [List.take_length]
                  obtain ⟨bt, HBT⟩ : ∃ bt, Hid (decide (e.ta ∈ TS) = bt) := ⟨_, rfl⟩
                  rw [HBT.out] at HFB HMB ⊢
                  clear hlj hj9
                  cases bm
                  · cases bt
                    · go_wp2
                      exact ⟨⟨k + 1, by omega, by go_num, by rw [HMA.out]; simp, by rw [HMB.out]; simp, HKZ6.out⟩, by simp [intOf]; omega⟩
                    · obtain ⟨hfb, hgb⟩ := HFB.out (by trivial)
                      obtain ⟨gb, ob, heb, hatb⟩ := enAt26 HSB.out hfb
                      subst heb
                      have HR29 := keepG (And.intro (hatb wz e (HKZ6.out) hgb) (HAT.out wz (HBZ2.out)))
                      have hfbI : (fb : Int) < B.length := by omega
                      have hfbG : ¬ ((B.length : Int) ≤ fb) := by omega
                      clear hatb hgb
                      go_wp2_with fail
                      refine wp_region_held_drew (S := fun w' => w'.rangeAt gb (ob + fb * 22) (enC e) ∧ w'.rangeAt p (off + k * 22) (enC e)) (by kernel_rfl) HR29.out (fun hHeld => ?_)
                      refine tkGo [0, 1, 2] ?_
                      repeat (refine tkO (v := ?_) rfl ?_ ?_; rotate_left; (intro wy hSw; (try dsimp only at hSw); go_simp; (first | done | with_reducible rfl)); try simp only [Act.put, p1q, p2q, p3q, p4q, p5q, p6q])
                      refine tkEnd ?_
                      refine wpAnyH_take (i := 3) (v := .bool false) rfl (by kernel_rfl) (by kernel_rfl) (by kernel_rfl) (fun _ _ _ h => h) (Or.inl ⟨by rfl, fun wy hSw => ?_⟩) (by assumption) ?_
                      · go_simp
                      try simp only [Act.put, p1q, p2q, p3q, p4q, p5q, p6q]
                      refine tkGo [4, 5, 6, 7] ?_
                      repeat (refine tkO (v := ?_) rfl ?_ ?_; rotate_left; (intro wy hSw; (try dsimp only at hSw); go_simp; (first | done | with_reducible rfl)); try simp only [Act.put, p1q, p2q, p3q, p4q, p5q, p6q])
                      refine tkEnd ?_
                      refine wpAnyH_take (i := 8) rfl (by kernel_rfl) (by kernel_rfl) (by kernel_rfl) (fun _ _ _ h => h) (yieldsIf_load_mid (by rfl) _ _ rfl _ _ rfl (enC e) _ (fun w h => h.1) Tryd.underlying36 rfl (sizeEn e)) (by assumption) ?_
                      try simp only [Act.put, p1q, p2q, p3q, p4q, p5q, p6q]
                      refine tkGo [9, 10, 11] ?_
                      repeat (refine tkO (v := ?_) rfl ?_ ?_; rotate_left; (intro wy hSw; (try dsimp only at hSw); go_simp; (first | done | with_reducible rfl)); try simp only [Act.put, p1q, p2q, p3q, p4q, p5q, p6q])
                      refine tkEnd ?_
                      refine wpAnyH_take (i := 12) rfl (by kernel_rfl) (by kernel_rfl) (by kernel_rfl) (fun _ _ _ h => h) (yieldsIf_load_mid (by rfl) _ _ rfl _ _ rfl (enC e) _ (fun w h => h.2) Tryd.underlying36 rfl (sizeEn e)) (by assumption) ?_
                      try simp only [Act.put, p1q, p2q, p3q, p4q, p5q, p6q]
                      refine wpAnyH_take (i := 13) (v := .bool false) rfl (by kernel_rfl) (by kernel_rfl) (by kernel_rfl) (fun _ _ _ h => h) (Or.inl ⟨by rfl, fun wy hSw => ?_⟩) (by assumption) ?_
                      · go_simp
                      try simp only [Act.put, p1q, p2q, p3q, p4q, p5q, p6q]
                      refine tkGo [14] ?_
                      repeat (refine tkO (v := ?_) rfl ?_ ?_; rotate_left; (intro wy hSw; (try dsimp only at hSw); go_simp; (first | done | with_reducible rfl)); try simp only [Act.put, p1q, p2q, p3q, p4q, p5q, p6q])
                      refine tkEnd ?_
                      refine wpAnyH_done (by kernel_rfl) ?_ _
                      go_wp2
                      exact ⟨⟨k + 1, by omega, by go_num, by rw [HMA.out]; simp, by rw [HMB.out]; go_num, (below_drG HKZ6.out)⟩, by simp [intOf]; omega⟩
                  · cases bt
                    · obtain ⟨hfa, hga⟩ := HFA.out (by trivial)
                      obtain ⟨ga, oa, hea, hata⟩ := enAt26 HSA.out hfa
                      subst hea
                      have HR25 := keepG (And.intro (hata wz e HKZ6.out hga) (HAT.out wz HBZ2.out))
                      have hfaI : (fa : Int) < A.length := by omega
                      have hfaG : ¬ ((A.length : Int) ≤ fa) := by omega
                      clear hata hga
                      go_wp2_with fail
                      refine wp_region_held_drew (S := fun w' => w'.rangeAt ga (oa + fa * 22) (enC e) ∧ w'.rangeAt p (off + k * 22) (enC e)) (by kernel_rfl) HR25.out (fun hHeld => ?_)
                      refine tkGo [0, 1, 2] ?_
                      repeat (refine tkO (v := ?_) rfl ?_ ?_; rotate_left; (intro wy hSw; (try dsimp only at hSw); go_simp; (first | done | with_reducible rfl)); try simp only [Act.put, p1q, p2q, p3q, p4q, p5q, p6q])
                      refine tkEnd ?_
                      refine wpAnyH_take (i := 3) (v := .bool false) rfl (by kernel_rfl) (by kernel_rfl) (by kernel_rfl) (fun _ _ _ h => h) (Or.inl ⟨by rfl, fun wy hSw => ?_⟩) (by assumption) ?_
                      · go_simp
                      try simp only [Act.put, p1q, p2q, p3q, p4q, p5q, p6q]
                      refine tkGo [4, 5, 6, 7] ?_
                      repeat (refine tkO (v := ?_) rfl ?_ ?_; rotate_left; (intro wy hSw; (try dsimp only at hSw); go_simp; (first | done | with_reducible rfl)); try simp only [Act.put, p1q, p2q, p3q, p4q, p5q, p6q])
                      refine tkEnd ?_
                      refine wpAnyH_take (i := 8) rfl (by kernel_rfl) (by kernel_rfl) (by kernel_rfl) (fun _ _ _ h => h) (yieldsIf_load_mid (by rfl) _ _ rfl _ _ rfl (enC e) _ (fun w h => h.1) Tryd.underlying36 rfl (sizeEn e)) (by assumption) ?_
                      try simp only [Act.put, p1q, p2q, p3q, p4q, p5q, p6q]
                      refine tkGo [9, 10, 11] ?_
                      repeat (refine tkO (v := ?_) rfl ?_ ?_; rotate_left; (intro wy hSw; (try dsimp only at hSw); go_simp; (first | done | with_reducible rfl)); try simp only [Act.put, p1q, p2q, p3q, p4q, p5q, p6q])
                      refine tkEnd ?_
                      refine wpAnyH_take (i := 12) rfl (by kernel_rfl) (by kernel_rfl) (by kernel_rfl) (fun _ _ _ h => h) (yieldsIf_load_mid (by rfl) _ _ rfl _ _ rfl (enC e) _ (fun w h => h.2) Tryd.underlying36 rfl (sizeEn e)) (by assumption) ?_
                      try simp only [Act.put, p1q, p2q, p3q, p4q, p5q, p6q]
                      refine wpAnyH_take (i := 13) (v := .bool false) rfl (by kernel_rfl) (by kernel_rfl) (by kernel_rfl) (fun _ _ _ h => h) (Or.inl ⟨by rfl, fun wy hSw => ?_⟩) (by assumption) ?_
                      · go_simp
                      try simp only [Act.put, p1q, p2q, p3q, p4q, p5q, p6q]
                      refine tkGo [14] ?_
                      repeat (refine tkO (v := ?_) rfl ?_ ?_; rotate_left; (intro wy hSw; (try dsimp only at hSw); go_simp; (first | done | with_reducible rfl)); try simp only [Act.put, p1q, p2q, p3q, p4q, p5q, p6q])
                      refine tkEnd ?_
                      refine wpAnyH_done (by kernel_rfl) ?_ _
                      go_wp2
                      exact ⟨⟨k + 1, by omega, by go_num, by rw [HMA.out]; go_num, by rw [HMB.out]; simp, (below_drG HKZ6.out)⟩, by simp [intOf]; omega⟩
                    · obtain ⟨hfa, hga⟩ := HFA.out (by trivial)
                      obtain ⟨ga, oa, hea, hata⟩ := enAt26 HSA.out hfa
                      subst hea
                      have HR25 := keepG (And.intro (hata wz e HKZ6.out hga) (HAT.out wz HBZ2.out))
                      have hfaI : (fa : Int) < A.length := by omega
                      have hfaG : ¬ ((A.length : Int) ≤ fa) := by omega
                      clear hata hga
                      go_wp2_with fail
                      refine wp_region_held_drew (S := fun w' => w'.rangeAt ga (oa + fa * 22) (enC e) ∧ w'.rangeAt p (off + k * 22) (enC e)) (by kernel_rfl) HR25.out (fun hHeld => ?_)
                      refine tkGo [0, 1, 2] ?_
                      repeat (refine tkO (v := ?_) rfl ?_ ?_; rotate_left; (intro wy hSw; (try dsimp only at hSw); go_simp; (first | done | with_reducible rfl)); try simp only [Act.put, p1q, p2q, p3q, p4q, p5q, p6q])
                      refine tkEnd ?_
                      refine wpAnyH_take (i := 3) (v := .bool false) rfl (by kernel_rfl) (by kernel_rfl) (by kernel_rfl) (fun _ _ _ h => h) (Or.inl ⟨by rfl, fun wy hSw => ?_⟩) (by assumption) ?_
                      · go_simp
                      try simp only [Act.put, p1q, p2q, p3q, p4q, p5q, p6q]
                      refine tkGo [4, 5, 6, 7] ?_
                      repeat (refine tkO (v := ?_) rfl ?_ ?_; rotate_left; (intro wy hSw; (try dsimp only at hSw); go_simp; (first | done | with_reducible rfl)); try simp only [Act.put, p1q, p2q, p3q, p4q, p5q, p6q])
                      refine tkEnd ?_
                      refine wpAnyH_take (i := 8) rfl (by kernel_rfl) (by kernel_rfl) (by kernel_rfl) (fun _ _ _ h => h) (yieldsIf_load_mid (by rfl) _ _ rfl _ _ rfl (enC e) _ (fun w h => h.1) Tryd.underlying36 rfl (sizeEn e)) (by assumption) ?_
                      try simp only [Act.put, p1q, p2q, p3q, p4q, p5q, p6q]
                      refine tkGo [9, 10, 11] ?_
                      repeat (refine tkO (v := ?_) rfl ?_ ?_; rotate_left; (intro wy hSw; (try dsimp only at hSw); go_simp; (first | done | with_reducible rfl)); try simp only [Act.put, p1q, p2q, p3q, p4q, p5q, p6q])
                      refine tkEnd ?_
                      refine wpAnyH_take (i := 12) rfl (by kernel_rfl) (by kernel_rfl) (by kernel_rfl) (fun _ _ _ h => h) (yieldsIf_load_mid (by rfl) _ _ rfl _ _ rfl (enC e) _ (fun w h => h.2) Tryd.underlying36 rfl (sizeEn e)) (by assumption) ?_
                      try simp only [Act.put, p1q, p2q, p3q, p4q, p5q, p6q]
                      refine wpAnyH_take (i := 13) (v := .bool false) rfl (by kernel_rfl) (by kernel_rfl) (by kernel_rfl) (fun _ _ _ h => h) (Or.inl ⟨by rfl, fun wy hSw => ?_⟩) (by assumption) ?_
                      · go_simp
                      try simp only [Act.put, p1q, p2q, p3q, p4q, p5q, p6q]
                      refine tkGo [14] ?_
                      repeat (refine tkO (v := ?_) rfl ?_ ?_; rotate_left; (intro wy hSw; (try dsimp only at hSw); go_simp; (first | done | with_reducible rfl)); try simp only [Act.put, p1q, p2q, p3q, p4q, p5q, p6q])
                      refine tkEnd ?_
                      refine wpAnyH_done (by kernel_rfl) ?_ _
                      obtain ⟨hfb, hgb⟩ := HFB.out (by trivial)
                      obtain ⟨gb, ob, heb, hatb⟩ := enAt26 HSB.out hfb
                      subst heb
                      have HR29 := keepG (And.intro (hatb wz.drew e (below_drG HKZ6.out) hgb) (HAT.out wz.drew (below_drG HBZ2.out)))
                      have hfbI : (fb : Int) < B.length := by omega
                      have hfbG : ¬ ((B.length : Int) ≤ fb) := by omega
                      clear hatb hgb
                      go_wp2_with fail
                      refine wp_region_held_drew (S := fun w' => w'.rangeAt gb (ob + fb * 22) (enC e) ∧ w'.rangeAt p (off + k * 22) (enC e)) (by kernel_rfl) HR29.out (fun hHeld => ?_)
                      refine tkGo [0, 1, 2] ?_
                      repeat (refine tkO (v := ?_) rfl ?_ ?_; rotate_left; (intro wy hSw; (try dsimp only at hSw); go_simp; (first | done | with_reducible rfl)); try simp only [Act.put, p1q, p2q, p3q, p4q, p5q, p6q])
                      refine tkEnd ?_
                      refine wpAnyH_take (i := 3) (v := .bool false) rfl (by kernel_rfl) (by kernel_rfl) (by kernel_rfl) (fun _ _ _ h => h) (Or.inl ⟨by rfl, fun wy hSw => ?_⟩) (by assumption) ?_
                      · go_simp
                      try simp only [Act.put, p1q, p2q, p3q, p4q, p5q, p6q]
                      refine tkGo [4, 5, 6, 7] ?_
                      repeat (refine tkO (v := ?_) rfl ?_ ?_; rotate_left; (intro wy hSw; (try dsimp only at hSw); go_simp; (first | done | with_reducible rfl)); try simp only [Act.put, p1q, p2q, p3q, p4q, p5q, p6q])
                      refine tkEnd ?_
                      refine wpAnyH_take (i := 8) rfl (by kernel_rfl) (by kernel_rfl) (by kernel_rfl) (fun _ _ _ h => h) (yieldsIf_load_mid (by rfl) _ _ rfl _ _ rfl (enC e) _ (fun w h => h.1) Tryd.underlying36 rfl (sizeEn e)) (by assumption) ?_
                      try simp only [Act.put, p1q, p2q, p3q, p4q, p5q, p6q]
                      refine tkGo [9, 10, 11] ?_
                      repeat (refine tkO (v := ?_) rfl ?_ ?_; rotate_left; (intro wy hSw; (try dsimp only at hSw); go_simp; (first | done | with_reducible rfl)); try simp only [Act.put, p1q, p2q, p3q, p4q, p5q, p6q])
                      refine tkEnd ?_
                      refine wpAnyH_take (i := 12) rfl (by kernel_rfl) (by kernel_rfl) (by kernel_rfl) (fun _ _ _ h => h) (yieldsIf_load_mid (by rfl) _ _ rfl _ _ rfl (enC e) _ (fun w h => h.2) Tryd.underlying36 rfl (sizeEn e)) (by assumption) ?_
                      try simp only [Act.put, p1q, p2q, p3q, p4q, p5q, p6q]
                      refine wpAnyH_take (i := 13) (v := .bool false) rfl (by kernel_rfl) (by kernel_rfl) (by kernel_rfl) (fun _ _ _ h => h) (Or.inl ⟨by rfl, fun wy hSw => ?_⟩) (by assumption) ?_
                      · go_simp
                      try simp only [Act.put, p1q, p2q, p3q, p4q, p5q, p6q]
                      refine tkGo [14] ?_
                      repeat (refine tkO (v := ?_) rfl ?_ ?_; rotate_left; (intro wy hSw; (try dsimp only at hSw); go_simp; (first | done | with_reducible rfl)); try simp only [Act.put, p1q, p2q, p3q, p4q, p5q, p6q])
                      refine tkEnd ?_
                      refine wpAnyH_done (by kernel_rfl) ?_ _
                      go_wp2
                      exact ⟨⟨k + 1, by omega, by go_num, by rw [HMA.out]; go_num, by rw [HMB.out]; go_num, (below_drG (below_drG HKZ6.out))⟩, by simp [intOf]; omega⟩
        · obtain rfl : k = xs.length := by omega
          rw [List.take_length, HAF.out, HBF.out]
          have HKI : Hid (Below wi.heap.size wi wx) := HK6.out.trans (HKX.out.mono HK6.out.size)
          have HNO := keepG (lOnly26 _ _ xs [] wx (SeesG.nil 0 _) (HI7.out.below HKI.out (Nat.le_refl _)) (by omega))
          rw [none_filt] at HNO
          clear hlt hk
          go_wp2_with (first
            | (have hq := HNO; clear hq; go_at_call 18; go_must (refine HNO.out.mono ?_); rintro x7 w7 ⟨u7, rfl, ho7, hb7⟩; go_must (obtain ⟨a7, c7, rfl⟩ := own_shape ho7; have HK7 : Hid (Below wi.heap.size wi w7) := HKI.out.trans (hb7.mono HKI.out.size); have HX7 : Hid (Below w6.heap.size w6 w7) := HKX.out.trans (hb7.mono HKX.out.size); have HNF := keepG (lOf26 _ _ xs [] w7 (SeesG.nil 0 _) (HI7.out.below HK7.out (Nat.le_refl _)) (by omega)); rw [none_filt] at HNF; clear ho7 hb7 HNO))
            | (have hq := HNF; clear hq; go_at_call 19; go_must (refine HNF.out.mono ?_); rintro x8 w8 ⟨u8, rfl, ho8, hb8⟩; go_must (obtain ⟨a8, c8, rfl⟩ := own_shape ho8; have HK8 : Hid (Below wi.heap.size wi w8) := HK7.out.trans (hb8.mono HK7.out.size); have HX8 : Hid (Below w6.heap.size w6 w8) := HX7.out.trans (hb8.mono HX7.out.size); clear ho8 hb8 HNF)))
          have HI8 := keepG (HI7.out.below HK8.out (Nat.le_refl _))
          have HB8 : Hid (Below w.heap.size w w8) := HB6.out.trans (HX8.out.mono HB6.out.size)
          have HZA : Hid (0 < A.length → ∃ g, aa = some ⟨g, 0, none⟩ ∧ wi.heap.size ≤ g ∧ g < w6.heap.size ∧ w8.there g 0 (A.length * 22)) := fun hp => by
            obtain ⟨g, h1, h2, h3, h4⟩ := HTA.out hp
            refine ⟨g, h1, by omega, h3, fun j hj => ?_⟩
            have h5 := h4 j hj
            rw [HX8.out.cell (p := ⟨g, 0 + j, none⟩) h3, HX8.out.frozen (p := ⟨g, 0 + j, none⟩) h3]
            exact h5
          have HZB : Hid (0 < B.length → ∃ g, ab = some ⟨g, 0, none⟩ ∧ wi.heap.size ≤ g ∧ g < w6.heap.size ∧ w8.there g 0 (B.length * 22)) := fun hp => by
            obtain ⟨g, h1, h2, h3, h4⟩ := HTB.out hp
            refine ⟨g, h1, by omega, h3, fun j hj => ?_⟩
            have h5 := h4 j hj
            rw [HX8.out.cell (p := ⟨g, 0 + j, none⟩) h3, HX8.out.frozen (p := ⟨g, 0 + j, none⟩) h3]
            exact h5
          go_loopw [19] (fun i wq => ∃ k : Nat, k ≤ A.length ∧ i = .int .i64 k ∧ Hid (Below wi.heap.size wi wq) ∧ Hid (0 < A.length → ∃ g, aa = some ⟨g, 0, none⟩ ∧ wi.heap.size ≤ g ∧ wq.there g 0 (A.length * 22)) ∧ Hid (0 < B.length → ∃ g, ab = some ⟨g, 0, none⟩ ∧ wi.heap.size ≤ g ∧ wq.there g 0 (B.length * 22))) (fun i _ => A.length - (intOf i).toNat)
          case atStart => exact ⟨0, by omega, rfl, HK8.out, (fun hp => by obtain ⟨g, h1, h2, _, h4⟩ := HZA.out hp; exact ⟨g, h1, h2, h4⟩), (fun hp => by obtain ⟨g, h1, h2, _, h4⟩ := HZB.out hp; exact ⟨g, h1, h2, h4⟩)⟩
          case round =>
            rename World => wq
            obtain ⟨k, hk, rfl, HKQ, HTQ, HUQ⟩ := hrel
            by_cases hlt : k < A.length
            · have hltI : (k : Int) < A.length := by omega
              obtain ⟨g, rfl, hg1, hg2⟩ := HTQ.out (by omega)
              have hth : wq.there g (k * 22) (enC (enM (-1))).toArray.size := there_sub hg2 (by show k * 22 + 22 ≤ _; omega)
              have HTH := keepG hth
              obtain ⟨U, HU, HKU, HTU, HUU⟩ : ∃ U, Hid (wq.setCells g (k * 22) (enC (enM (-1))).toArray.toList = U) ∧ Hid (Below wi.heap.size wi U) ∧ Hid (U.there g 0 (A.length * 22)) ∧ Hid (0 < B.length → ∃ g', ab = some ⟨g', 0, none⟩ ∧ wi.heap.size ≤ g' ∧ U.there g' 0 (B.length * 22)) := ⟨_, rfl, HKQ.out.trans (grown_to_below (grown_sets g (enC (enM (-1))).toArray.toList _ (k * 22)) hg1 HKQ.out.size), World.there_setCells hg2 _ _ _, (fun hp => by obtain ⟨g', h1, h2, h4⟩ := HUQ.out hp; exact ⟨g', h1, h2, World.there_setCells h4 _ _ _⟩)⟩
              clear hth hg2
              go_wp2_with (first
                | ((with_reducible refine wpList_store_mid ?_ 36 (.tmp 158) (.tmp 157) ?_ g (k * 22) (enC (enM (-1))).toArray ?_ ?_ HTH.out (sizeEnA _) (oneEn _) ?_); rfl; rfl; (first | rfl | (simp; done)); rfl)
                | (rw [HU.out]))
              go_roundw
              case rel => exact ⟨k + 1, by omega, by go_num, HKU.out, (fun _ => ⟨g, rfl, hg1, HTU.out⟩), HUU.out⟩
              case measure => simp [intOf]; omega
            · obtain rfl : k = A.length := by omega
              go_wp2_with fail
              go_loopw [20] (fun i wv => ∃ k : Nat, k ≤ B.length ∧ i = .int .i64 k ∧ Hid (Below wi.heap.size wi wv) ∧ Hid (0 < B.length → ∃ g, ab = some ⟨g, 0, none⟩ ∧ wi.heap.size ≤ g ∧ wv.there g 0 (B.length * 22))) (fun i _ => B.length - (intOf i).toNat)
              case atStart => exact ⟨0, by omega, rfl, HKQ.out, HUQ.out⟩
              case round =>
                rename World => wv
                obtain ⟨k, hk, rfl, HKV, HTV⟩ := hrel
                by_cases hltb : k < B.length
                · have hltI : (k : Int) < B.length := by omega
                  obtain ⟨g, rfl, hg1, hg2⟩ := HTV.out (by omega)
                  have hth : wv.there g (k * 22) (enC (enM (-2))).toArray.size := there_sub hg2 (by show k * 22 + 22 ≤ _; omega)
                  have HTH := keepG hth
                  obtain ⟨U, HU, HKU, HTU⟩ : ∃ U, Hid (wv.setCells g (k * 22) (enC (enM (-2))).toArray.toList = U) ∧ Hid (Below wi.heap.size wi U) ∧ Hid (U.there g 0 (B.length * 22)) := ⟨_, rfl, HKV.out.trans (grown_to_below (grown_sets g (enC (enM (-2))).toArray.toList _ (k * 22)) hg1 HKV.out.size), World.there_setCells hg2 _ _ _⟩
                  clear hth hg2
                  go_wp2_with (first
                    | ((with_reducible refine wpList_store_mid ?_ 36 (.tmp 168) (.tmp 167) ?_ g (k * 22) (enC (enM (-2))).toArray ?_ ?_ HTH.out (sizeEnA _) (oneEn _) ?_); rfl; rfl; (first | rfl | (simp; done)); rfl)
                    | (rw [HU.out]))
                  go_roundw
                  case rel => exact ⟨k + 1, by omega, by go_num, HKU.out, (fun _ => ⟨g, rfl, hg1, HTU.out⟩)⟩
                  case measure => simp [intOf]; omega
                · obtain rfl : k = B.length := by omega
                  have HSV := keepG (HI7.out.below HKV.out (Nat.le_refl _))
                  have HBV : Hid (Below w.heap.size w wv) := HBI.out.trans (HKV.out.mono hzi)
                  have HEV := keepG (HS.out.below HBV.out (Nat.le_refl _))
                  go_wp2_with (go_at_call 15; go_must (refine (logs26 _ _ xs _ HSV.out HEV.out).mono ?_); rintro x9 w9 ⟨rfl, hb9⟩)
                  go_ret
                  exact ⟨rfl, HBV.out.trans (hb9.mono HBV.out.size)⟩
end Go.Proofs.YtbfbfbbpajaclaaDoor
