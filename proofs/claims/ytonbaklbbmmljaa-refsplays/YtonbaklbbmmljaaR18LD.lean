
/-
  The landed refs of layer 18: Drop, told by the plain refs. Condition: they lie where the pointer says; what is handed in lies elsewhere and is no longer than memory.
-/
import Derived.Test.YtonbaklbbmmljaaR18LC
namespace Go.Proofs.Ytonbaklbbmmljaa
open Go.RowKit
open Go.Maps (Keyed)
set_option linter.unusedVariables false
set_option linter.unusedSimpArgs false
set_option maxRecDepth 100000
theorem nodup_p {n : Nat} {P : Rs} {L : List Hr} (hk : Rs.Ok n P) (hp : (L.map Hr.hm).Perm P) : (L.map Hr.p).Nodup := by
  have h1 : (P.map Hm.p).Nodup := by
    rw [List.Nodup, List.pairwise_map]
    exact hk.up.imp (fun h => by omega)
  have h2 : (L.map Hr.p) = (L.map Hr.hm).map Hm.p := by rw [List.map_map]; rfl
  rw [h2]
  exact (hp.map Hm.p).nodup_iff.2 h1
/-- One goes. -/
theorem one_gone {x : Int} : ∀ {L : List Hr}, (L.map Hr.p).Nodup → (∃ h ∈ L, h.p = x) → (L.filter (neP x)).length + 1 = L.length := by
  intro L
  induction L with
  | nil => rintro _ ⟨h, hh, _⟩; cases hh
  | cons y l ih =>
    intro hn hx
    rw [List.map_cons, List.nodup_cons] at hn
    by_cases e : y.p = x
    · have hall : l.filter (neP x) = l := by
        rw [List.filter_eq_self]
        intro z hz
        unfold neP
        have : z.p ≠ x := fun e2 => hn.1 (by rw [e, ← e2]; exact List.mem_map.2 ⟨z, hz, rfl⟩)
        simp [this]
      rw [List.filter_cons_of_neg (by unfold neP; simp [e]), hall]
      simp
    · obtain ⟨h, hh, he⟩ := hx
      have hl : h ∈ l := by
        rcases List.mem_cons.1 hh with g | g
        · rw [g] at he; exact absurd he e
        · exact g
      have := ih hn.2 ⟨h, hl, he⟩
      rw [List.filter_cons_of_pos (by unfold neP; simp [e])]
      simp only [List.length_cons]
      omega
section
variable {w w' : World} {B b n : Nat} {F G : Ft} {P P' : Rs}
/-- One hold fewer. -/
theorem llessH {w2 : World} {bm N : Nat} {D : DataW Value} {L : List Hr} {x : Int} (hD : Lh w b bm n D L) (hn : (L.map Hr.p).Nodup) (hx : ∃ h ∈ L, h.p = x) (hm2 : w2.ownsMap Try.prog 3 elV bm N (D.del (.int .i64 x))) (hg2 : w.grownBy w2 (some bm)) :
    Lh w2 b bm n (D.del (.int .i64 x)) (L.filter (neP x)) ∧ Nx w w2 (ftL b bm L) (ftL b bm (L.filter (neP x))) := by
  have hT := hD.map.tidy lawI
  have hsub : ∀ h ∈ L.filter (neP x), h ∈ L ∧ h.p ≠ x := fun h hh => by
    have := List.mem_filter.1 hh
    refine ⟨this.1, fun e => ?_⟩
    have h2 := this.2
    unfold neP at h2
    simp [e] at h2
  have hsz : Maps.size (D.del (.int .i64 x)) = (L.filter (neP x)).length := by
    have h1 := Maps.size_del (k := .int .i64 x) hT
    rw [if_pos ((hD.has x).2 hx), hD.size] at h1
    have h2 := one_gone hn hx
    omega
  have hch : Chg w w2 (fun k => k = bm) := Chg.of_grown hg2 rfl
  have hne := hD.apart
  have hsi : ∀ k, inF (L.filter (neP x)) k → inF L k := fun k ⟨y, hy, hyn, hu⟩ => ⟨y, (hsub y hy).1, hyn, hu⟩
  refine ⟨⟨hD.hp.grown hg2 (fun e => hne (Option.some.inj e)), ?_, fun q => ?_, fun y hy z => ?_, hsz, fun y hy => hD.wf y (hsub y hy).1, fun y hy => (hD.ins y (hsub y hy).1).chgE hch (fun hyn j hj e2 => hD.low j (.inr e2) ⟨y, (hsub y hy).1, hyn, hj⟩), fun k hk hi => hD.low k hk (hsi k hi)⟩, hch.mono (fun k e => .inl (.inr e)), fun k hk => ?_⟩
  · have := map_tight hm2
    rw [hsz] at this
    exact this
  · by_cases e : q = x
    · subst e
      rw [Maps.has_del_same]
      constructor
      · intro h; cases h
      · rintro ⟨y, hy, he⟩; exact absurd he (hsub y hy).2
    · rw [Maps.has_del_other (litNe e), hD.has q]
      constructor
      · rintro ⟨y, hy, he⟩; exact ⟨y, List.mem_filter.2 ⟨hy, by unfold neP; rw [he]; simp [e]⟩, he⟩
      · rintro ⟨y, hy, he⟩; exact ⟨y, (hsub y hy).1, he⟩
  · rw [Maps.atKey_del_other (litNe (hsub y hy).2)]
    exact hD.look y (hsub y hy).1 z
  · rcases hk with g | g
    · exact .inl (.inl g)
    · exact .inl (.inr (hsi k g))
set_option maxHeartbeats 12800000 in
theorem Lq.drop (h : Lq w B b F n P) (hk : Rs.Ok n P) (hn : n ≤ 4) (hl : P.length ≤ 10000) (hB : B ≤ w.heap.size) {u : Value} {ps : List Int} (hz : Hid (ps.length * 8 ≤ 140737488355328)) (hs : Sees .i64 w u ps) (hap : ps ≠ [] → Apt F (ftV u)) {E : Int} (HQ : Hid (Rs.drop P ps = (E, P'))) : Calls Try.prog 10 #[.pointer (some ⟨b, 0, none⟩), u] w fun e w' => e = .returned (.int .i64 E) ∧ ∃ F', Lq w' B b F' n P' ∧ Nx w w' F F' := by
  have HHB := keepG (fun (wr : World) (hb : Below w.heap.size w wr) => h.below hb)
  have HS := keepG (fun (wr : World) (hb : Below w.heap.size w wr) => hs.below hb (Nat.le_refl _))
  have HSC := keepG (fun (wr : World) (hc : Chg w wr F) => hs.chgE hc (fun hne j hj e => hap hne j e hj))
  have HS0 := keepG hs
  have HWF := keepG hs.wf
  have hq := HQ.out
  unfold Rs.drop at hq
  have HQ2 := keepG hq
  obtain ⟨a, cap, rfl, hlc, hmx, _⟩ := hs
  unfold maxLen at hmx
  have HZ2 : ps.length * 8 ≤ 140737488355328 := hz.out
  clear h HQ hq hz hap
  obtain ⟨r2, HR2⟩ : ∃ r, Hid (decide ps.Nodup = r) := ⟨_, rfl⟩
  rw [HR2.out] at HQ2
  go_enter Try.func10, Try.ntmps10
  cases r2 with
  | false =>
    have hq := HQ2.out
    rw [if_pos rfl] at hq
    injection hq with e1 e2
    subst e1 e2
    go_wp2_with (go_at_call 19; go_must (refine (lrepeats HS0.out HZ2 HR2).mono ?_); rintro e w2 ⟨rfl, hb2⟩; go_must (have HB2 := keepG hb2; clear hb2; simp only [Bool.not_false]))
    go_ret
    exact ⟨rfl, F, HHB.out _ HB2.out, Nx.below HB2.out⟩
  | true =>
    have hq := HQ2.out
    rw [if_neg (by decide)] at hq
    have HQ3 := keepG hq
    clear hq HQ2
    go_wp2_with (go_at_call 19; go_must (refine (lrepeats HS0.out HZ2 HR2).mono ?_); rintro e w2 ⟨rfl, hb2⟩; go_must (have HB2 := keepG hb2; clear hb2; simp only [Bool.not_true]))
    have HD2 := keepG (HHB.out _ HB2.out)
    go_loopw [13] (fun i wr => ∃ j : Nat, j ≤ ps.length ∧ i = .int .i64 j ∧ Hid ((ps.take j).all (Rs.has P) = true) ∧ w2 = wr) (fun i _ => ps.length - (intOf i).toNat)
    case atStart => exact ⟨0, by omega, rfl, rfl, rfl⟩
    case round =>
      obtain ⟨j, hj, rfl, HA, rfl⟩ := hrel
      by_cases hlt : j < ps.length
      · have hltI : (j : Int) < ps.length := by omega
        obtain ⟨g, off, ev, hat⟩ := (HS.out w2 HB2.out).atE hlt
        subst ev
        have d0 := hat j hlt
        have hT := take_at ps j hlt
        have hmem := getD_mem ps j hlt
        have hwx := HWF.out _ hmem
        obtain ⟨x, HX⟩ : ∃ x, Hid (ps.getD j 0 = x) := ⟨_, rfl⟩
        rw [HX.out] at d0 hT hmem hwx
        have HT : Hid ((ps.take (j + 1)).all (Rs.has P) = P.has x) := by show _ = _; rw [hT, List.all_append, HA.out]; simp
        have HWX := keepG hwx
        clear hat hT hwx
        obtain ⟨bm, D, L, hD, hP, _⟩ := HD2.out.ex
        have HHS := keepG (hD.hasB hP x)
        have HDD := keepG hD
        clear hD hP
        obtain ⟨r3, HR3⟩ : ∃ r, Hid (P.has x = r) := ⟨_, rfl⟩
        cases r3 with
        | false =>
          have hf : ps.all (Rs.has P) = false := by
            cases he : ps.all (Rs.has P) with
            | false => rfl
            | true => have := List.all_eq_true.1 he x hmem; rw [HR3.out] at this; cases this
          have hq2 := HQ3.out
          rw [if_pos hf] at hq2
          injection hq2 with e1 e2
          subst e1 e2
          clear hf hmem
          go_wp2_with (go_at_call 20; go_must (refine (lholds HDD.out HWX.out (r := false) (show _ = _ from HHS.out.trans HR3.out)).mono ?_); rintro e w3 ⟨rfl, rfl⟩)
          go_ret
          exact ⟨rfl, F, HD2.out, Nx.below HB2.out⟩
        | true =>
          have HT2 : Hid ((ps.take (j + 1)).all (Rs.has P) = true) := by show _ = _; rw [HT.out]; exact HR3.out
          clear hmem
          go_wp2_with (go_at_call 20; go_must (refine (lholds HDD.out HWX.out (r := true) (show _ = _ from HHS.out.trans HR3.out)).mono ?_); rintro e w3 ⟨rfl, rfl⟩)
          go_roundw
          case rel => exact ⟨j + 1, by omega, by go_num, HT2.out, by first | rfl | trivial⟩
          case measure => simp [intOf]; omega
      · have hltI : ¬ (j : Int) < ps.length := by omega
        have hf : ps.all (Rs.has P) = true := by
          have := HA.out
          rw [List.take_of_length_le (by omega)] at this
          exact this
        have hq2 := HQ3.out
        rw [if_neg (by rw [hf]; decide)] at hq2
        injection hq2 with e1 e2
        subst e1
        have HPP : Hid (P.filter (outP ps) = P') := e2
        have HALL := keepG (List.all_eq_true.1 hf)
        have HND := keepG (show ps.Nodup from of_decide_eq_true HR2.out)
        clear HQ3 hf HA e2
        go_wp2
        go_loopw [24] (fun i wz => ∃ z : Nat, z ≤ ps.length ∧ i = .int .i64 z ∧ ∃ F1, Hid (Lq wz B b F1 n (P.filter (outP (ps.take z))) ∧ Nx w wz F F1)) (fun i _ => ps.length - (intOf i).toNat)
        case atStart => exact ⟨0, by omega, rfl, F, by
          have e : P.filter (outP (ps.take 0)) = P := by
            rw [List.filter_eq_self]
            intro x hx
            simp [outP]
          rw [e]
          exact ⟨HD2.out, Nx.below HB2.out⟩⟩
        case round =>
          obtain ⟨z, hz, rfl, F1, HDz⟩ := hrel
          rename World => wz
          by_cases hzt : z < ps.length
          · have hztI : (z : Int) < ps.length := by omega
            obtain ⟨g, off, ev, hat⟩ := (HSC.out wz HDz.out.2.chg).atE hzt
            subst ev
            have d0 := hat z hzt
            have hT := take_at ps z hzt
            have hmem := getD_mem ps z hzt
            have hwx := HWF.out _ hmem
            have hnt := (nodup_take ps hzt).1 (HND.out.sublist (List.take_sublist _ _))
            obtain ⟨x, HX⟩ : ∃ x, Hid (ps.getD z 0 = x) := ⟨_, rfl⟩
            rw [HX.out] at d0 hT hmem hnt hwx
            have hokz := hk.filter (outP (ps.take z))
            obtain ⟨bm, D, L, hD, hP, hFz⟩ := HDz.out.1.ex
            have hasx : Rs.has (P.filter (outP (ps.take z))) x = true := by
              obtain ⟨y, hy, e⟩ := Rs.has_iff.1 (HALL.out x hmem)
              exact Rs.has_iff.2 ⟨y, List.mem_filter.2 ⟨hy, by unfold outP; rw [e, decide_eq_false hnt.2]; rfl⟩, e⟩
            have HT : Hid (P.filter (outP (ps.take (z + 1))) = (P.filter (outP (ps.take z))).filter (fun h => !decide (h.p = x))) := by show _ = _; rw [hT, filter_out]
            have HNX := keepG HDz.out.2
            have HNP := keepG (nodup_p hokz hP)
            have HEX := keepG ((hm_has hP).1 hasx)
            have HKX := keepG (keyI hwx)
            have c1 := hD.hp.cell (j := 1) rfl
            have HDD := keepG hD
            have HPM := keepG hP
            have HFz := keepG hFz
            clear hat hT hmem hnt hD hP hwx hokz hasx hFz HDz
            go_wp2_with (at_delete; go_must (refine wpList_delete_own _ rfl _ _ 51 3 rfl 32 lawI Try.underlying51 elV bm L.length D rfl HDD.out.map _ _ rfl HKX.out ?_); intro w5 hm5 ht5; go_must (have HM := keepG (llessH HDD.out HNP.out HEX.out hm5 ht5.grown); clear hm5 ht5))
            go_roundw
            case rel => exact ⟨z + 1, by omega, by go_num, _, by
              have hF := HFz.out
              subst hF
              refine ⟨⟨_, _, _, HM.out.1, ?_, rfl⟩, HNX.out.trans HM.out.2⟩
              rw [HT.out, filter_hm]
              exact HPM.out.filter _⟩
            case measure => simp [intOf]; omega
          · have hztI : ¬ (z : Int) < ps.length := by omega
            have HE : Hid (P.filter (outP (ps.take z)) = P') := by show _ = _; rw [List.take_of_length_le (by omega)]; exact HPP.out
            go_wp2
            go_ret
            have h5 := HDz.out
            rw [HE.out] at h5
            exact ⟨rfl, F1, h5.1, h5.2⟩
end
end Go.Proofs.Ytonbaklbbmmljaa
