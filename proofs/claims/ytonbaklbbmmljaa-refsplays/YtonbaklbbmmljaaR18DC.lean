
/-
  The document's refs of layer 18: Drop, told by the plain refs. Condition: they lie where the pointer says; what is handed in lies elsewhere.
-/
import Derived.Test.YtonbaklbbmmljaaR18DB
namespace Go.Proofs.Ytonbaklbbmmljaa
open Go.RowKit
set_option linter.unusedVariables false
set_option linter.unusedSimpArgs false
set_option maxRecDepth 100000
def neP (x : Int) (h : Hr) : Bool := !decide (h.p = x)
/-- A program's hold stands once. -/
theorem one_at {n : Nat} {P : Rs} {L : List Hr} (hk : Rs.Ok n P) (hp : (L.map Hr.hm).Perm P) {i j : Nat} (hi : i < L.length) (hj : j < L.length) (he : (L.getD i Hr.nil).p = (L.getD j Hr.nil).p) : i = j := by
  have hnd : (L.map Hr.p).Nodup := by
    have h1 : (P.map Hm.p).Nodup := by
      rw [List.Nodup, List.pairwise_map]
      exact hk.up.imp (fun h => by omega)
    have h2 : (L.map Hr.p) = (L.map Hr.hm).map Hm.p := by rw [List.map_map]; rfl
    rw [h2]
    exact (hp.map Hm.p).nodup_iff.2 h1
  rw [List.Nodup, List.pairwise_iff_getElem] at hnd
  have e1 : (L.getD i Hr.nil) = L[i] := by simp [List.getD, hi]
  have e2 : (L.getD j Hr.nil) = L[j] := by simp [List.getD, hj]
  rw [e1, e2] at he
  rcases Nat.lt_trichotomy i j with h | h | h
  · exact absurd (by rw [List.getElem_map, List.getElem_map]; exact he) (hnd i j (by simpa using hi) (by simpa using hj) h)
  · exact h
  · exact absurd (by rw [List.getElem_map, List.getElem_map]; exact he.symm) (hnd j i (by simpa using hj) (by simpa using hi) h)
theorem filter_takeH {f : Hr → Bool} {L : List Hr} {k : Nat} (hk : k < L.length) : (L.take (k + 1)).filter f = if f (L.getD k Hr.nil) = true then (L.take k).filter f ++ [L.getD k Hr.nil] else (L.take k).filter f := by
  rw [take_atH L k hk, List.filter_append]
  by_cases e : f (L.getD k Hr.nil) = true
  · rw [if_pos e, List.filter_cons_of_pos e, List.filter_nil]
  · rw [if_neg e, List.filter_cons_of_neg e, List.filter_nil, List.append_nil]
theorem filter_hm (L : List Hr) (x : Int) : (L.filter (neP x)).map Hr.hm = (L.map Hr.hm).filter (fun h => !decide (h.p = x)) := by
  rw [List.filter_map]
  rfl
section
variable {w w' : World} {B b n m : Nat} {F G : Ft} {P : Rs}
/-- A new list of some of the holds. -/
theorem dleft {w1 : World} {v v' : Value} {L L' : List Hr} (hD : Dh w B b v n L) (hB : B ≤ w.heap.size) (hsub : ∀ h ∈ L', h ∈ L) (ho : w1.ownsRow w.heap.size 44 2 v' L'.length (flatG hrC L')) (hb : Below w.heap.size w w1) :
    Dh (w1.setCell ⟨b, 1, none⟩ v') B b v' n L' ∧ Nx w (w1.setCell ⟨b, 1, none⟩ v') (ftD b v L) (ftD b v' L') := by
  have hp1 := hD.hp.below hb hD.hp.lt
  have hbl := hD.hp.lt
  have hin : Lies w (inF L) := hD.ins.lies
  have hsi : ∀ k, inF L' k → inF L k := fun k ⟨x, hx, hne, hu⟩ => ⟨x, hsub x hx, hne, hu⟩
  have hch : Chg w (w1.setCell ⟨b, 1, none⟩ v') (fun k => k = b) := (Chg.of_below (S := fun k => k = b) hb).trans (Chg.set w1 b 1 v') (fun k _ e => e)
  have hap : v'.ownBlock ≠ some b := own_type10 ho hp1 (by decide)
  refine ⟨⟨hp1.set 1 v', own_lowG (own_chg ho (Chg.set w1 b 1 v') (fun k hk e => hap (by rw [hk, e]))) hB, fun x hx => (hD.ins x (hsub x hx)).chgE hch (fun hne j hj e => hD.low j (.inl e) ⟨x, hsub x hx, hne, hj⟩), fun k hk hi => ?_⟩, hch.mono (fun k e => .inl (.inl e)), fun k hk => ?_⟩
  · rcases hk with g | g
    · exact hD.low k (.inl g) (hsi k hi)
    · have := hin k (hsi k hi)
      have := (ho.lt k g).1
      omega
  · rcases hk with (g | g) | g
    · exact .inl (.inl (.inl g))
    · exact .inr (ho.lt k g).1
    · exact .inl (.inr (hsi k g))
set_option maxHeartbeats 12800000 in
theorem ddrop (h : Dq w B b F n P m) (hk : Rs.Ok n P) (hB : B ≤ w.heap.size) (hm : m ≤ 10000) {u : Value} {ps : List Int} (hs : Sees .i64 w u ps) (hap : ps ≠ [] → Apt F (ftV u)) {E : Int} {P' : Rs} (HQ : Hid (Rs.drop P ps = (E, P'))) : Calls Try.prog 11 #[.pointer (some ⟨b, 0, none⟩), u] w fun e w' => e = .returned (.int .i64 E) ∧ ∃ F', Dq w' B b F' n P' m ∧ Nx w w' F F' := by
  obtain ⟨i0, hi0, hz0, hzs, hzb⟩ := info_parts infoHold
  have HH := keepG (fun (wr : World) (hb : Below w.heap.size w wr) => h.below hb)
  have HS := keepG (fun (wr : World) (hb : Below w.heap.size w wr) => hs.below hb (Nat.le_refl _))
  have HS2 := keepG (fun (wr : World) (hc : Chg w wr F) => hs.chgE hc (fun hne j hj e => hap hne j e hj))
  have hs0 := hs
  obtain ⟨a, cap, rfl, hlc, hmx, _⟩ := hs
  unfold maxLen at hmx
  have hq := HQ.out
  unfold Rs.drop at hq
  obtain ⟨r, HR⟩ : ∃ r, Hid (decide ps.Nodup = r) := ⟨_, rfl⟩
  rw [HR.out] at hq
  have TW := keepG (dtwice hs0 HR)
  clear h HQ hap hs0
  cases hr : r with
  | false =>
    rw [hr] at hq HR TW
    rw [if_pos rfl] at hq
    injection hq with e1 e2
    subst e1 e2
    go_enter Try.func11, Try.ntmps11
    go_wp2_with (go_at_call 21; go_must (refine TW.out.mono ?_); rintro e w2 ⟨rfl, hb2⟩; go_must (have HB2 := keepG hb2; clear hb2))
    go_ret
    exact ⟨rfl, F, HH.out _ HB2.out, Nx.below HB2.out⟩
  | true =>
    rw [hr] at hq HR TW
    rw [if_neg (by decide)] at hq
    have HQ2 := keepG hq
    clear hq
    go_enter Try.func11, Try.ntmps11
    go_wp2_with (go_at_call 21; go_must (refine TW.out.mono ?_); rintro e w2 ⟨rfl, hb2⟩; go_must (have HB2 := keepG hb2; clear hb2))
    have HD2 := keepG (HH.out w2 HB2.out)
    obtain ⟨v, L, hDh, hPm, hLl, hFe⟩ := HD2.out.ex
    have HDH := keepG hDh
    have HPM := keepG hPm
    have HFE := keepG hFe
    clear hDh hPm hFe
    go_loopw [5] (fun i wr => ∃ j : Nat, j ≤ ps.length ∧ i = .int .i64 j ∧ Hid ((ps.take j).all (Rs.has P) = true) ∧ w2 = wr) (fun i _ => ps.length - (intOf i).toNat)
    case atStart => exact ⟨0, by omega, rfl, rfl, rfl⟩
    case round =>
      obtain ⟨j, hj, rfl, HA, rfl⟩ := hrel
      by_cases hlt : j < ps.length
      · have hltI : (j : Int) < ps.length := by omega
        obtain ⟨g, off, ev, hat⟩ := (HS.out w2 HB2.out).atE hlt
        subst ev
        have d0 := hat j hlt
        have hT := take_at ps j hlt
        have hmem := getD_mem ps j hlt
        obtain ⟨x, HX⟩ : ∃ x, Hid (ps.getD j 0 = x) := ⟨_, rfl⟩
        rw [HX.out] at d0 hT hmem
        have HT : Hid ((ps.take (j + 1)).all (Rs.has P) = P.has x) := by show _ = _; rw [hT, List.all_append, HA.out]; simp
        clear hat hT
        go_wp2_with (go_at_call 21; fail)
        go_at_call 13
        refine (dat HDH.out (by omega) x).mono ?_
        rintro e w3 ⟨at', rfl, hAt, rfl⟩
        rcases hAt.has HPM.out with ⟨hno, rfl⟩ | ⟨hyes, hge⟩
        · have hf : ps.all (Rs.has P) = false := by
            cases he : ps.all (Rs.has P) with
            | false => rfl
            | true => rw [List.all_eq_true.1 he x hmem] at hno; cases hno
          have hq2 := HQ2.out
          rw [if_pos hf] at hq2
          injection hq2 with e1 e2
          subst e1 e2
          clear hf hmem hAt hno
          go_wp2
          go_ret
          exact ⟨rfl, F, HD2.out, Nx.below HB2.out⟩
        · have hlt0 : ¬ at' < 0 := by omega
          have HT2 : Hid ((ps.take (j + 1)).all (Rs.has P) = true) := by show _ = _; rw [HT.out]; exact hyes
          clear hmem hAt hyes hge
          go_wp2
          go_roundw
          case rel => exact ⟨j + 1, by omega, by go_num, HT2.out, by first | rfl | trivial⟩
          case measure => simp [intOf]; omega
      · have hltI : ¬ (j : Int) < ps.length := by omega
        have hf : ps.all (Rs.has P) = true := by
          have := HA.out
          rw [List.take_of_length_le (by omega)] at this
          exact this
        have hq2 := HQ2.out
        rw [if_neg (by rw [hf]; decide)] at hq2
        injection hq2 with e1 e2
        subst e1
        have HPP : Hid (P.filter (outP ps) = P') := e2
        have HALL := keepG (List.all_eq_true.1 hf)
        have HND := keepG (show ps.Nodup from of_decide_eq_true HR.out)
        clear HQ2 hf HA e2
        go_wp2
        go_loopw [6] (fun i wz => ∃ z : Nat, z ≤ ps.length ∧ i = .int .i64 z ∧ ∃ F1, Hid (Dq wz B b F1 n (P.filter (outP (ps.take z))) m ∧ Nx w wz F F1)) (fun i _ => ps.length - (intOf i).toNat)
        case atStart => exact ⟨0, by omega, rfl, F, by
          have e : P.filter (outP (ps.take 0)) = P := by
            rw [List.filter_eq_self]
            intro x hx
            simp [outP]
          rw [e]
          exact ⟨HD2.out, Nx.below HB2.out⟩⟩
        case round =>
          obtain ⟨z, hz, rfl, F1, HDz⟩ := hrel
          rename World => wz
          by_cases hzt : z < ps.length
          · have hztI : (z : Int) < ps.length := by omega
            obtain ⟨g, off, ev, hat⟩ := (HS2.out wz HDz.out.2.chg).atE hzt
            subst ev
            have d0 := hat z hzt
            have hT := take_at ps z hzt
            have hmem := getD_mem ps z hzt
            have hnt := (nodup_take ps hzt).1 (HND.out.sublist (List.take_sublist _ _))
            obtain ⟨x, HX⟩ : ∃ x, Hid (ps.getD z 0 = x) := ⟨_, rfl⟩
            rw [HX.out] at d0 hT hmem hnt
            have hokz := hk.filter (outP (ps.take z))
            obtain ⟨vz, Lz, hDhz, hPmz, hLz, hFz⟩ := HDz.out.1.ex
            have hasx : Rs.has (P.filter (outP (ps.take z))) x = true := by
              obtain ⟨y, hy, e⟩ := Rs.has_iff.1 (HALL.out x hmem)
              exact Rs.has_iff.2 ⟨y, List.mem_filter.2 ⟨hy, by unfold outP; rw [e, decide_eq_false hnt.2]; rfl⟩, e⟩
            have HT : Hid (P.filter (outP (ps.take (z + 1))) = (P.filter (outP (ps.take z))).filter (fun h => !decide (h.p = x))) := by show _ = _; rw [hT, filter_out]
            have HNX := keepG HDz.out.2
            have hBz : B ≤ wz.heap.size := Nat.le_trans hB HDz.out.2.chg.size
            clear hat hT hmem hnt HDz
            go_wp2_with (go_at_call 21; fail)
            go_at_call 13
            refine (dat hDhz (by omega) x).mono ?_
            rintro e w3 ⟨at', rfl, hAt, rfl⟩
            rcases hAt with ⟨_, hno⟩ | ⟨at0, rfl, hat0, hatp⟩
            · obtain ⟨y, hy, e⟩ := (hm_has hPmz).1 hasx
              exact absurd e (hno y hy)
            · have HIFF : Hid (∀ k, k < Lz.length → (neP x (Lz.getD k Hr.nil) = true ↔ k ≠ at0)) := by
                intro k hkl
                unfold neP
                simp only [Bool.not_eq_true', decide_eq_false_iff_not]
                constructor
                · intro h5 e
                  rw [e] at h5
                  exact h5 hatp
                · intro h5 e
                  exact h5 (one_at hokz hPmz hkl hat0 (by rw [e, hatp]))
              have HDHz := keepG hDhz
              have HPMz := keepG hPmz
              have HFz := keepG hFz
              obtain ⟨va, vc, ev, hvc, hvm⟩ := (own_seesG hrC_len Hr.nil hDhz.row).shape
              subst ev
              clear hDhz hPmz hFz hasx hokz hatp
              go_wp2
              go_loopw [8, 9] (fun lv i wy => ∃ k : Nat, k ≤ Lz.length ∧ i = .int .i64 k ∧ Hid (wy.ownsRow wz.heap.size 44 2 lv ((Lz.take k).filter (neP x)).length (flatG hrC ((Lz.take k).filter (neP x)))) ∧ Hid (Below wz.heap.size wz wy)) (fun _ i _ => Lz.length - (intOf i).toNat)
              case atStart => exact ⟨0, by omega, rfl, World.ownsRow_nil _ _ _ _, Below.refl _ _⟩
              case round =>
                rename_i lv wy
                obtain ⟨k, hkl, rfl, HO, HBy⟩ := hrel
                have HDy := keepG (HDHz.out.below HBy.out)
                have c1 := HDy.out.hp.cell (j := 1) rfl
                obtain ⟨la, lc, ev⟩ := own_shape HO.out
                subst ev
                by_cases hkt : k < Lz.length
                · have hktI : (k : Int) < Lz.length := by omega
                  have hft := filter_takeH (f := neP x) hkt
                  have hiff := HIFF.out k hkt
                  obtain ⟨a', c', ev2, _, _, _, hcell⟩ := own_seesG hrC_len Hr.nil HDy.out.row
                  simp only [Value.slice.injEq, true_and] at ev2
                  obtain ⟨rfl, rfl⟩ := ev2
                  obtain ⟨gg, go, rfl, hgg, hcc⟩ := hcell (fun e => by rw [e] at hkt; simp at hkt)
                  have e0 := hcc k hkt 0 (by omega)
                  have e1 := hcc k hkt 1 (by omega)
                  have hse := HDy.out.ins _ (getD_memH Lz k hkt)
                  have hfl := List.length_filter_le (neP x) (Lz.take k)
                  have htl := List.length_take_le k Lz
                  obtain ⟨s, HS0⟩ : ∃ s, Hid (Lz.getD k Hr.nil = s) := ⟨_, rfl⟩
                  rw [HS0.out] at e0 e1 hft hiff hse
                  simp only [List.getElem?_cons_zero, List.getElem?_cons_succ, Nat.add_zero] at e0 e1
                  obtain ⟨sp, su, sm⟩ := s
                  simp only at e0 e1 hse
                  obtain ⟨sa, sc, ev3⟩ := hse.shape
                  subst ev3
                  obtain ⟨M, HM⟩ : ∃ M, Hid ((Lz.take k).filter (neP x) = M) := ⟨_, rfl⟩
                  rw [HM.out] at HO hft hfl ⊢
                  have hMl : M.length ≤ 10000 := by omega
                  have hzy := HBy.out.size
                  clear hcell hcc hfl htl hse
                  by_cases hka : k = at0
                  · have hnf : ¬ neP x ⟨sp, .slice sa sm.length sc, sm⟩ = true := fun e => (hiff.1 e) hka
                    rw [if_neg hnf] at hft
                    have HFT := keepG hft
                    have hkb : ((k : Int) != at0) = false := by simp [hka]
                    clear hft hiff hnf
                    go_wp2
                    go_roundw
                    case rel => exact ⟨k + 1, by omega, by go_num, by rw [HFT.out]; exact HO.out, HBy.out⟩
                    case measure => simp [intOf]; omega
                  · rw [if_pos (hiff.2 hka)] at hft
                    have HFT := keepG hft
                    have hkb : ((k : Int) != at0) = true := by simp; omega
                    clear hft hiff
                    go_wp2_with (at_builtin; go_must (refine wpList_append_own_at _ rfl _ _ 29 rfl wz.heap.size 44 i0 _ 2 32 Try.underlying29 hi0 hz0 hzs hzb rfl (by decide) (.slice la M.length lc) M.length (flatG hrC M) rfl (HO.out.alloc _) ⟨_, 0, none⟩ 1 1 (hrC ⟨sp, .slice sa sm.length sc, sm⟩) rfl rfl (cells_new _ (hrC ⟨sp, .slice sa sm.length sc, sm⟩) _ _ rfl) (hr_one _ _ _ _ _) (by unfold maxLen; omega) (by omega) (by simp; omega) ?_); intro v3 w3 hown hgr _ hnew; go_must (have HO3 := keepG (own_moreG (x := (⟨sp, .slice sa sm.length sc, sm⟩ : Hr)) hown); have HB3 := keepG (HBy.out.trans ((chg_append hgr).below (fun q e => (HO.out.lt q e).1) hzy)); clear hown hgr hnew))
                    go_roundw
                    case rel => exact ⟨k + 1, by omega, by go_num, by rw [HFT.out]; exact HO3.out, HB3.out⟩
                    case measure => simp [intOf]; omega
                · have hktI : ¬ (k : Int) < Lz.length := by omega
                  have hT : Lz.take k = Lz := List.take_of_length_le (by omega)
                  rw [hT] at HO ⊢
                  have HM := keepG (dleft HDHz.out hBz (L' := Lz.filter (neP x)) (fun q hq => (List.mem_filter.1 hq).1) HO.out HBy.out)
                  have HPF := keepG (filter_hm Lz x)
                  have hfl := List.length_filter_le (neP x) Lz
                  have c1f := HDy.out.hp.frozen 1
                  obtain ⟨M, HMM⟩ : ∃ M, Hid (Lz.filter (neP x) = M) := ⟨_, rfl⟩
                  rw [HMM.out] at HO HM HPF hfl ⊢
                  clear hT
                  have hFz := HFz.out
                  subst hFz
                  have HLE : Hid (M.length ≤ m) := by show _ ≤ _; omega
                  clear hfl
                  go_wp2
                  go_roundw
                  case rel => exact ⟨z + 1, by omega, by go_num, _, ⟨_, _, HM.out.1, by rw [HPF.out, HT.out]; exact HPMz.out.filter _, HLE.out, rfl⟩, HNX.out.trans HM.out.2⟩
                  case measure => simp [intOf]; omega
          · have hztI : ¬ (z : Int) < ps.length := by omega
            have hD3 := HDz.out.1
            rw [List.take_of_length_le (by omega), HPP.out] at hD3
            have HD3 := keepG hD3
            clear hD3
            go_wp2
            go_ret
            exact ⟨rfl, F1, HD3.out, HDz.out.2⟩
end
end Go.Proofs.Ytonbaklbbmmljaa
