
/-
  The landed refs of layer 18: New, Held, Hold, told by the plain refs. Condition: they lie where the pointer says; what is handed in lies elsewhere and is no longer than memory.
-/
import Derived.Test.YtonbaklbbmmljaaTk
import Derived.Test.YtonbaklbbmmljaaR18LB
namespace Go.Proofs.Ytonbaklbbmmljaa
open Go.RowKit
open Go.Maps (Keyed)
set_option linter.unusedVariables false
set_option linter.unusedSimpArgs false
set_option maxRecDepth 100000
/-- 'm[k] = v', as one operation. -/
theorem wp_mapUpdate_in {H : Type} {P : Program} (w : World) {o : Oper} {a : Act} {K : Act → World → Prop} {Q : Exit → Act → World → Prop} (m x v : Operand) (t : TypeId) (hop : o.op = Op.mapUpdate t m x v)
    (k e : TypeId) (KK : Keyed P k) (ht : P.underlying t = some (.map k e)) (R : Value → Option (DataW H × List MemPlace)) (b n : Nat) (D : DataW H)
    (hm : a.eval m = .map (some b)) (hown : w.ownsMap P k R b n D) (hn : n < maxLen) (key val : Value) (kl : Lit) (hx : a.eval x = key) (hv : a.eval v = val) (hkey : keyOf P k key = some kl)
    (d : DataW H) (ps : List MemPlace) (hval : R val = some (d, ps))
    (h : ∀ w', w'.ownsMap P k R b (n + 1) (D.put kl d) → w.grownBy w' (some b) → K (a.put o.dst undef) w') : Oper.wp P o a w K Q := by
  obtain ⟨w', hrun, r1, r2⟩ := hown.update KK ht hn hkey hval
  unfold Oper.wp
  simp [execOp, hop, hm, hx, hv, hrun, Result.andThen]
  exact h w' r1 r2
/-- The landed refs as an object, told by the plain refs. -/
structure Lq (w : World) (B b : Nat) (F : Ft) (n : Nat) (P : Rs) : Prop where
  ex : ∃ bm D L, Lh w b bm n D L ∧ (L.map Hr.hm).Perm P ∧ F = ftL b bm L
section
variable {w w' : World} {B b n : Nat} {F G : Ft} {P P' : Rs}
theorem Lq.lies (h : Lq w B b F n P) : Lies w F := by
  obtain ⟨bm, D, L, hD, _, rfl⟩ := h.ex
  exact hD.lies
theorem Lq.keeps (h : Lq w B b F n P) (hc : Chg w w' G) (ha : Apt G F) : Lq w' B b F n P := by
  obtain ⟨bm, D, L, hD, h1, rfl⟩ := h.ex
  exact ⟨bm, D, L, hD.chg hc ha, h1, rfl⟩
theorem Lq.below (h : Lq w B b F n P) (hb : Below w.heap.size w w') : Lq w' B b F n P := h.keeps (Chg.of_below (S := fun _ => False) hb) (fun _ e => e.elim)
theorem Lq.wf (h : Lq w B b F n P) {p : Int} (hp : P.has p = true) : (Lit.int .i64 p).wf = true := by
  obtain ⟨bm, D, L, hD, h1, rfl⟩ := h.ex
  obtain ⟨x, hx, rfl⟩ := (hm_has h1).1 hp
  exact hD.wf x hx
theorem lh_new (w : World) (n : Nat) : Lh ((w.alloc (.map #[] 0)).alloc (.cells #[.int .i64 n, .map (some w.heap.size)] 53)) (w.heap.size + 1) w.heap.size n (.map []) [] := by
  refine ⟨?_, (World.ownsMap_made w _ _ _).alloc _, fun p => by simp [Maps.has], (fun x hx => by cases hx), rfl, (fun x hx => by cases hx), (fun x hx => by cases hx), (fun k _ e => by obtain ⟨x, hx, _⟩ := e; cases hx)⟩
  have := Hp.new (w.alloc (.map #[] 0)) [.int .i64 n, .map (some w.heap.size)] 53
  simpa using this
set_option maxHeartbeats 1600000 in
theorem lqnew_ok (n : Nat) (h : n ≤ 4) (w : World) : Calls Try.prog 7 #[.int .i64 n] w fun e w' => ∃ b F, e = .returned (.tuple #[.pointer (some ⟨b, 0, none⟩), .int .i64 0]) ∧ Lq w' w.heap.size b F n [] ∧ Since w F ∧ Below w.heap.size w w' := by
  have hmm := @run_makeMap Try.prog
  have h1 : ¬ (n : Int) < 0 := by omega
  have h2 : ¬ (n : Int) > 4 := by omega
  have h3 : ¬ (4 : Int) < n := by omega
  go_enter Try.func7, Try.ntmps7
  go_wp2
  go_ret2
  refine ⟨_, rfl, _, ⟨_, _, _, lh_new w n, List.Perm.refl _, rfl⟩, fun k hk => ?_, ((below_allocG w _).trans ((below_allocG _ _).mono (by simp)))⟩
  rcases hk with (e | e) | ⟨x, hx, _⟩
  · omega
  · omega
  · cases hx
theorem lqnew_no (n : Int) (h : n < 0 ∨ 4 < n) (w : World) : Calls Try.prog 7 #[.int .i64 n] w fun e w' => e = .returned (.tuple #[.pointer none, .int .i64 2]) ∧ w = w' := by
  go_enter Try.func7, Try.ntmps7
  rcases h with h | h
  · go_wp2
    go_ret2
    exact ⟨rfl, rfl⟩
  · have h1 : ¬ n < 0 := by omega
    go_wp2
    go_ret2
    exact ⟨rfl, rfl⟩
set_option maxHeartbeats 3200000 in
theorem Lq.held (h : Lq w B b F n P) (hk : Rs.Ok n P) (hn : n ≤ 4) (hl : P.length ≤ 10000) (p : Int) (hp : Hid ((Lit.int .i64 p).wf = true)) {A : List Int} {r : Bool} (HA : Hid (heldL P p = (A, r))) : Calls Try.prog 14 #[.pointer (some ⟨b, 0, none⟩), .int .i64 p] w fun e w' => ∃ u, e = .returned (.tuple #[u, .bool r]) ∧ RoI w' w.heap.size u A ∧ Below w.heap.size w w' := by
  obtain ⟨i0, hi0, hz0, hzs, hzb⟩ := info_parts infoIntR
  obtain ⟨bm, D, L, hD, hP, _⟩ := h.ex
  have c1 := hD.hp.cell (j := 1) rfl
  have HM := keepG hD.map
  have HK := keepG (keyI hp.out)
  have HB := keepG (hD.hasB hP p)
  have FIN : Hid (∀ v ps, elV v = some (D.atKey (.int .i64 p) (.held (.slice none 0 0)), ps) → P.has p = r ∧ Sees .i64 w v A ∧ A.length ≤ 4) := by
    intro v ps hv
    obtain ⟨_, he⟩ := elV_inv hv
    have hq := HA.out
    unfold heldL at hq
    cases hh : P.has p with
    | false =>
      rw [Rs.held_none hh] at hq
      injection hq with e1 e2
      subst e1 e2
      have h0 : Maps.has D (.int .i64 p) = false := by rw [hD.hasB hP]; exact hh
      rw [Maps.atKey_of_not_has h0] at he
      injection he with he
      rw [← he]
      exact ⟨rfl, Sees.nil _ _, by simp⟩
    | true =>
      obtain ⟨x, hx, rfl⟩ := (hm_has hP).1 hh
      have hxm : x.hm ∈ P := hP.mem_iff.1 (List.mem_map.2 ⟨x, hx, rfl⟩)
      have h1 := hk.held_some hxm
      have h1' : P.held x.p = some x.ms := h1
      rw [h1'] at hq
      injection hq with e1 e2
      subst e1 e2
      rw [hD.look x hx] at he
      injection he with he
      rw [← he]
      exact ⟨rfl, hD.ins x hx, okM_len hn (hk.ms _ hxm)⟩
  clear h hD hP HA
  go_enter Try.func14, Try.ntmps14
  go_wp2_with (first
    | (at_lookup; go_must (refine wpList_lookup_own_ok _ rfl _ _ 51 rfl 3 32 lawI Try.underlying51 elV (zeroE _) _ [] (elV_mk none 0 0) bm L.length D rfl HM.out _ _ rfl HK.out ?_); intro v ps hv; go_must (obtain ⟨hpr, hsv, hal⟩ := FIN.out v ps hv; obtain ⟨a, cap, ev⟩ := hsv.shape; have HSV := keepG hsv; rw [HB.out, hpr]; clear hv hsv hpr; subst ev))
    | (at_builtin; go_must (refine wpList_append_sees rfl _ _ 32 rfl w.heap.size 3 i0 _ 8 Try.underlying32 hi0 hz0 hzs hzb rfl .i64 (.slice none 0 0) [] rfl (World.ownsRow_nil _ _ _ _) _ A rfl HSV.out (by unfold maxLen; simp; omega) (by simp; omega) (Nat.le_refl _) ?_); intro v1 w1 ho1 hg1; go_must (rw [List.nil_append] at ho1; have HO1 : Hid (RoI w1 w.heap.size v1 A) := ho1; have HB1 : Hid (Below w.heap.size w w1) := below_grown (World.ownsRow_nil w w.heap.size 3 1) hg1 (Nat.le_refl _); clear ho1 hg1)))
  go_ret2
  exact ⟨_, rfl, HO1.out, HB1.out⟩
/-- One hold more. -/
theorem lmoreH {w1 w2 : World} {bm N : Nat} {D : DataW Value} {L : List Hr} {p : Int} {a : Option Addr} {c : Nat} {ws : List Int} (hD : Lh w b bm n D L) (hp : (Lit.int .i64 p).wf = true) (hno : Maps.has D (.int .i64 p) = false) (hwf : ∀ x ∈ ws, (Lit.int .i64 x).wf = true)
    (h1 : RoI w1 w.heap.size (.slice a ws.length c) ws) (hb1 : Below w.heap.size w w1) (hm2 : w2.ownsMap Try.prog 3 elV bm N (D.put (.int .i64 p) (.held (.slice a ws.length c)))) (hg2 : w1.grownBy w2 (some bm)) :
    Lh w2 b bm n (D.put (.int .i64 p) (.held (.slice a ws.length c))) (L ++ [⟨p, .slice a ws.length c, ws⟩]) ∧ Nx w w2 (ftL b bm L) (ftL b bm (L ++ [⟨p, .slice a ws.length c, ws⟩])) := by
  have hT := hD.map.tidy lawI
  have hsz : Maps.size (D.put (.int .i64 p) (.held (.slice a ws.length c))) = L.length + 1 := by
    rw [Maps.size_put hT, hno, hD.size]; rfl
  have hch : Chg w w2 (fun k => k = b ∨ k = bm) := (Chg.of_below (S := fun k => k = b ∨ k = bm) hb1).trans (Chg.of_grown hg2 (S := fun k => k = bm) rfl) (fun k _ e => .inr e)
  have hbl := hD.hp.lt
  have hne := hD.apart
  have hin : Lies w (inF L) := hD.ins.lies
  have hml := hD.map.lt
  have hnp : ∀ x ∈ L, x.p ≠ p := fun x hx e => by
    have : Maps.has D (.int .i64 p) = true := (hD.has p).2 ⟨x, hx, e⟩
    rw [hno] at this
    cases this
  refine ⟨⟨(hD.hp.below hb1 hbl).grown hg2 (fun e => hne (Option.some.inj e)), ?_, fun q => ?_, fun x hx z => ?_, by rw [hsz]; simp, fun x hx => ?_, fun x hx => ?_, fun k hk hi => ?_⟩, hch.mono (fun k e => .inl e), fun k hk => ?_⟩
  · have := map_tight hm2
    rw [hsz] at this
    simpa using this
  · by_cases e : q = p
    · subst e
      rw [Maps.has_put_same hT.isMap (litI hp)]
      simp
    · rw [Maps.has_put_other (litNe e), hD.has q]
      constructor
      · rintro ⟨x, hx, h⟩; exact ⟨x, by simp [hx], h⟩
      · rintro ⟨x, hx, h⟩
        rcases List.mem_append.1 hx with g | g
        · exact ⟨x, g, h⟩
        · rw [List.mem_singleton.1 g] at h; exact absurd h.symm e
  · rcases List.mem_append.1 hx with g | g
    · rw [Maps.atKey_put_other (litNe (hnp x g))]; exact hD.look x g z
    · rw [List.mem_singleton.1 g]
      exact Maps.atKey_put_same hT.isMap (litI hp) _ _
  · rcases List.mem_append.1 hx with g | g
    · exact hD.wf x g
    · rw [List.mem_singleton.1 g]; exact hp
  · rcases List.mem_append.1 hx with g | g
    · exact (hD.ins x g).chgE hch (fun hne j hj e2 => hD.low j e2 ⟨x, g, hne, hj⟩)
    · rw [List.mem_singleton.1 g]
      refine (Sees.own h1 hwf).chgE (Chg.of_grown hg2 (S := fun k => k = bm) rfl) (fun _ j hj e2 => ?_)
      have := (h1.lt j hj).1
      omega
  · obtain ⟨x, hx, hxn, hu⟩ := hi
    rcases List.mem_append.1 hx with g | g
    · exact hD.low k hk ⟨x, g, hxn, hu⟩
    · rw [List.mem_singleton.1 g] at hu
      have := (h1.lt k hu).1
      rcases hk with e | e <;> omega
  · rcases hk with g | ⟨x, hx, hxn, hu⟩
    · exact .inl (.inl g)
    · rcases List.mem_append.1 hx with e | e
      · exact .inl (.inr ⟨x, e, hxn, hu⟩)
      · rw [List.mem_singleton.1 e] at hu
        exact .inr (h1.lt k hu).1
set_option maxHeartbeats 12800000 in
theorem Lq.hold (h : Lq w B b F n P) (hk : Rs.Ok n P) (hn : n ≤ 4) (hl : P.length ≤ 10000) (hB : B ≤ w.heap.size) (p : Int) (hp : Hid ((Lit.int .i64 p).wf = true)) {u : Value} {ws : List Int} (hz : Hid (ws.length * 8 ≤ 140737488355328)) (hs : Sees .i64 w u ws) (hap : ws ≠ [] → Apt F (ftV u)) {E : Int} (HQ : Hid (Rs.hold n P p ws = (E, P'))) : Calls Try.prog 8 #[.pointer (some ⟨b, 0, none⟩), .int .i64 p, u] w fun e w' => e = .returned (.int .i64 E) ∧ ∃ F', Lq w' B b F' n P' ∧ Nx w w' F F' := by
  obtain ⟨i0, hi0, hz0, hzs, hzb⟩ := info_parts infoIntR
  have HH := keepG h
  have HHB := keepG (fun (wr : World) (hb : Below w.heap.size w wr) => h.below hb)
  obtain ⟨bm, D, L, hD, hP, hF⟩ := h.ex
  have HD := keepG hD
  have HP := keepG hP
  have HFE := keepG hF
  have HHS := keepG (hD.hasB hP p)
  have hll : L.length ≤ 10000 := by have := hP.length_eq; rw [List.length_map] at this; omega
  have c0 := hD.hp.cell (j := 0) rfl
  have HS := keepG hs
  have HWF := keepG hs.wf
  have hq := HQ.out
  unfold Rs.hold at hq
  have HQ2 := keepG hq
  obtain ⟨a, cap, ev⟩ := hs.shape
  subst ev
  have HZ2 : ws.length * 8 ≤ 140737488355328 := hz.out
  clear h hD hP hs HQ hq hz hF
  obtain ⟨r1, HR1⟩ : ∃ r, Hid (ws.all (inM n) = r) := ⟨_, rfl⟩
  obtain ⟨r2, HR2⟩ : ∃ r, Hid (decide ws.Nodup = r) := ⟨_, rfl⟩
  have HOK : Hid (okM n ws = (r2 && r1)) := by show _ = _; unfold okM; rw [HR1.out, HR2.out]
  go_enter Try.func8, Try.ntmps8
  cases r1 with
  | false =>
    have hq := HQ2.out
    rw [if_pos (by rw [HOK.out]; cases r2 <;> rfl)] at hq
    injection hq with e1 e2
    subst e1 e2
    go_wp2_with (go_at_call 18; go_must (refine (lhasEach c0 HS.out.weak HR1).mono ?_); rintro e w1 ⟨rfl, rfl⟩)
    go_ret
    exact ⟨rfl, F, HH.out, Nx.refl _ _⟩
  | true =>
    cases r2 with
    | false =>
      have hq := HQ2.out
      rw [if_pos (by rw [HOK.out]; rfl)] at hq
      injection hq with e1 e2
      subst e1 e2
      go_wp2_with (first
        | (go_at_call 18; go_must (refine (lhasEach c0 HS.out.weak HR1).mono ?_); rintro e w1 ⟨rfl, rfl⟩)
        | (go_at_call 19; go_must (refine (lrepeats HS.out HZ2 HR2).mono ?_); rintro e w2 ⟨rfl, hb2⟩; go_must (have HB2 := keepG hb2; clear hb2; simp only [Bool.not_false])))
      go_ret
      exact ⟨rfl, F, HHB.out _ HB2.out, Nx.below HB2.out⟩
    | true =>
      have hq := HQ2.out
      rw [if_neg (by rw [HOK.out]; simp)] at hq
      have HQ3 := keepG hq
      clear hq HQ2
      obtain ⟨r3, HR3⟩ : ∃ r, Hid (P.has p = r) := ⟨_, rfl⟩
      cases r3 with
      | true =>
        have hq := HQ3.out
        rw [if_pos HR3.out] at hq
        injection hq with e1 e2
        subst e1 e2
        go_wp2_with (first
          | (go_at_call 18; go_must (refine (lhasEach c0 HS.out.weak HR1).mono ?_); rintro e w1 ⟨rfl, rfl⟩)
          | (go_at_call 19; go_must (refine (lrepeats HS.out HZ2 HR2).mono ?_); rintro e w2 ⟨rfl, hb2⟩; go_must (have HB2 := keepG hb2; clear hb2; simp only [Bool.not_true]))
          | (go_at_call 20; go_must (refine (lholds (HD.out.below HB2.out) hp.out (r := true) (show _ = _ from HHS.out.trans HR3.out)).mono ?_); rintro e w3 ⟨rfl, rfl⟩))
        go_ret
        exact ⟨rfl, F, HHB.out _ HB2.out, Nx.below HB2.out⟩
      | false =>
        have hq := HQ3.out
        rw [if_neg (by rw [HR3.out]; decide)] at hq
        injection hq with e1 e2
        subst e1
        have HPP : Hid (insH ⟨p, ws⟩ P = P') := e2
        clear e2 HQ3
        go_wp2_with (first
          | (go_at_call 18; go_must (refine (lhasEach c0 HS.out.weak HR1).mono ?_); rintro e w1 ⟨rfl, rfl⟩)
          | (go_at_call 19; go_must (refine (lrepeats HS.out HZ2 HR2).mono ?_); rintro e w2 ⟨rfl, hb2⟩; go_must (have HB2 := keepG hb2; clear hb2; simp only [Bool.not_true]))
          | (go_at_call 20; go_must (refine (lholds (HD.out.below HB2.out) hp.out (r := false) (show _ = _ from HHS.out.trans HR3.out)).mono ?_); rintro e w3 ⟨rfl, rfl⟩))
        have HD2 := keepG (HD.out.below HB2.out)
        have c1 := HD2.out.hp.cell (j := 1) rfl
        have HS2 := keepG (HS.out.below HB2.out (Nat.le_refl _))
        refine wp_region_held_drew (S := fun w' => w'.cell? ⟨b, 1, none⟩ = some (.map (some bm))) (by kernel_rfl) c1 (fun hHeld => ?_)
        refine tkGo [0, 1, 2, 3, 4, 5] ?_
        repeat (refine tkOne (v := ?_) rfl (by kernel_rfl) (by kernel_rfl) (by kernel_rfl) (fun _ _ _ h => h) (by assumption) (by rfl) ?_ ?_; rotate_left; (intro wy hSw; (try dsimp only at hSw); go_simp; (first | done | with_reducible rfl)); try simp only [Act.put, List.getElem_toArray, List.getElem_cons_zero, List.getElem_cons_succ, List.setIfInBounds_toArray, List.set_cons_zero, List.set_cons_succ])
        refine tkEnd ?_
        refine wpAnyH_ready (rs := [6]) (by kernel_rfl) (by simp) ?_
        refine AllReadyH.cons rfl (fun KK hK => ?_) AllReadyH.nil
        rw [if_pos (by rfl)]
        refine wp_append_sees (.const (.slice none 0 0)) (.tmp 23) 32 rfl w2.heap.size 3 i0 _ 8 Try.underlying32 hi0 hz0 hzs hzb rfl .i64 (.slice none 0 0) [] rfl (World.ownsRow_nil _ _ _ _) (.slice a ws.length cap) ws rfl (HS2.out.drewN 1) (by unfold maxLen; simp; omega) (by simp; omega) (Nat.le_refl _) ?_
        intro v8 w8 hown8 hgr8
        rw [List.nil_append] at hown8
        have hb8 : Below w2.heap.size w2 w8 := (below_drG (Below.refl _ _)).trans (below_grown (World.ownsRow_nil w2.drew w2.heap.size 3 1) hgr8 (Nat.le_refl _))
        have HO8 : Hid (RoI w8 w2.heap.size v8 ws) := hown8
        have HB8 := keepG hb8
        obtain ⟨xa, xc, ev8⟩ := own_shape hown8
        subst ev8
        have c18 := (HD2.out.below hb8).hp.cell (j := 1) rfl
        refine hK.out _ _ c18 (fun hHeld => ?_)
        clear hK KK hown8 hgr8 hb8
        try simp only [Act.put, List.getElem_toArray, List.getElem_cons_zero, List.getElem_cons_succ, List.setIfInBounds_toArray, List.set_cons_zero, List.set_cons_succ]
        refine wpAnyH_ready (rs := [7]) (by kernel_rfl) (by simp) ?_
        refine AllReadyH.cons rfl (fun KK hK => ?_) AllReadyH.nil
        rw [if_pos (by rfl)]
        refine wp_mapUpdate_in _ (.tmp 21) (.tmp 22) (.tmp 24) 51 rfl 3 32 lawI Try.underlying51 elV bm L.length D rfl (HD2.out.below HB8.out).map (by unfold maxLen; omega) _ _ (.int .i64 p) rfl rfl (keyI hp.out) _ [] (elV_mk xa ws.length xc) ?_
        intro w9 hm9 hg9
        have hno : Maps.has D (.int .i64 p) = false := HHS.out.trans HR3.out
        have HM := keepG (lmoreH HD2.out hp.out hno HWF.out HO8.out HB8.out hm9 hg9)
        refine hK.out _ _ (HM.out.1.hp.cell (j := 1) rfl) (fun hHeld => ?_)
        clear hK KK hm9 hg9
        try simp only [Act.put, List.getElem_toArray, List.getElem_cons_zero, List.getElem_cons_succ, List.setIfInBounds_toArray, List.set_cons_zero, List.set_cons_succ]
        refine wpAnyH_done (by kernel_rfl) ?_ _
        clear hHeld
        go_wp2
        go_ret
        have hF := HFE.out
        subst hF
        refine ⟨rfl, _, ⟨_, _, _, HM.out.1, ?_, rfl⟩, (Nx.below HB2.out).trans HM.out.2⟩
        rw [← HPP.out, List.map_append]
        exact ((HP.out.append_right _).trans (List.perm_append_singleton _ _)).trans (insH_perm _ _).symm
end
end Go.Proofs.Ytonbaklbbmmljaa
