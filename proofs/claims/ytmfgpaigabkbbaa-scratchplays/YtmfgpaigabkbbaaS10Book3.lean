
/-
  The document's book: Raise; its Totals. Condition: the books lie where the pointers say, their rows are the call's own, and the numbers lie in none of them.
-/
import Derived.Test.YtmfgpaigabkbbaaS10Book2
namespace Go.Proofs.Ytmfgpaigabkbbaa
open Go.RowKit
set_option linter.unusedVariables false
set_option linter.unusedSimpArgs false
set_option maxRecDepth 100000

theorem wp_append_own_at {P : Program} (w : World) {o : Oper} {a : Act} {K : Act → World → Prop} {Q : Exit → Act → World → Prop} (s x : Operand) (t : TypeId)
    (ho : o.op = .call { callee := .builtin .append, args := #[s, x], argTypes := #[t, t] })
    (base : Nat) (e : TypeId) (i : TypeInfo) (z : Value) (size bytes : Nat) (ht : P.underlying t = some (.slice e)) (hi : P.info? e = some i) (hz : i.zero = some z)
    (hsize : i.size = size) (hby : i.bytes = bytes) (hzs : z.cells.size = size) (hsz : 0 < size)
    (v : Value) (n : Nat) (xs : List Value) (hs : a.eval s = v) (hown : w.ownsRow base e size v n xs)
    (ad : Addr) (m c : Nat) (news : List Value) (hx : a.eval x = .slice (some ad) m c) (hl : news.length = m * size) (hnews : ∀ j u, news[j]? = some u → w.cell? (ad.add j) = some u) (h1 : ∀ u ∈ news, u.oneCell' = true)
    (h63 : n + m ≤ maxLen) (hbytes : (n + m) * bytes ≤ 140737488355328) (hbase : base ≤ w.heap.size)
    (h : ∀ v' w', w'.ownsRow base e size v' (n + m) (xs ++ news) → w.grownBy w' v.ownBlock → (v'.ownBlock = v.ownBlock ∨ v'.ownBlock = some w.heap.size) → K (a.put o.dst v') w') : o.wp P a w K Q := by
  obtain ⟨v', w', hr, h2, h3, h4, h5⟩ := run_append_own_at (P := P) w base t o.type e i z size bytes ht hi hz hsize hby hzs hsz v n xs hown ad m c news hl hnews h1 h63 hbytes hbase
  unfold Oper.wp execOp
  simp only [ho, resolve, invoke, builtin, Sem.run_bind, Sem.run_pure, Result.andThen_ok, List.map_toArray, List.map_cons, List.map_nil, hs, hx, hr]
  exact h v' w' h2 h3 h5
theorem Bk.chg {w w' : World} {B c : Nat} {v : Value} {ks : List Ak} {S : Nat → Prop} (h : Bk w B c v ks) (hc : Chg w w' S) (h1 : ¬ S c) (h2 : ∀ k, v.ownBlock = some k → ¬ S k) : Bk w' B c v ks := ⟨h.hp.chg hc h1, own_chg h.row hc h2⟩
theorem Bk.drew {w : World} {B c : Nat} {v : Value} {ks : List Ak} (h : Bk w B c v ks) : Bk w.drew B c v ks := ⟨h.hp.drew, h.row⟩
theorem Chg.drew {w w' : World} {S : Nat → Prop} (h : Chg w w' S) : Chg w w'.drew S := ⟨h.os, h.tape, h.output, h.size, h.block⟩
theorem Chg.undrew {w w' : World} {S : Nat → Prop} (h : Chg w.drew w' S) : Chg w w' S := ⟨h.os, h.tape, h.output, h.size, h.block⟩
theorem RowNew.undrew {w : World} {v v' : Value} (h : RowNew w.drew v v') : RowNew w v v' := h
set_option maxHeartbeats 1600000 in
theorem braise_any {B c : Nat} {v u : Value} {ks : List Ak} {xs : List Int} (w : World) (h : Bk w B c v ks) (hB : B ≤ w.heap.size) (hk : ks.length ≤ 90000) (hs : Sees .u64 w u xs) (hold : ∀ w', Below B w w' → Sees .u64 w' u xs) (hcB : B ≤ c) {m : Nat} (hmm : (m : Int) = min (xs.length : Int) 16) :
    Calls Try.prog 24 #[.pointer (some ⟨c, 0, none⟩), u] w fun e w' => e = .returned (.tuple #[]) ∧ ∃ v', Bk w' B c v' (raiseAs ks xs m) ∧ Chg w w' (bkS c v) ∧ RowNew w v v' := by
  obtain ⟨i6, hi6, hz60, hz61, hz62⟩ := info_parts (P := Try.prog) (e := 65) (z := .agg #[.int .i64 0, .int .i64 0, .int .u64 0]) (size := 3) (bytes := 24) rfl
  have HH : Hid (Bk w B c v ks) := h
  obtain ⟨a, cap, rfl, hlc, hmx, hn0, hwf, hse⟩ := hs
  unfold maxLen at hmx
  have HO : Hid (∀ w', Below B w w' → Sees .u64 w' (.slice a xs.length cap) xs) := hold
  have hvB : Hid (∀ k, v.ownBlock = some k → B ≤ k) := fun k hk => (h.row.lt k hk).1
  have hml : m ≤ xs.length := by omega
  have hm16 : m ≤ 16 := by omega
  have hmin : Hid ((m : Int) = min (xs.length : Int) 16) := hmm
  clear h hold hse hwf hn0 hmm
  go_enter Try.func24, Try.ntmps24
  go_wp2
  go_loopw [4] (fun i wr => ∃ k : Nat, k ≤ m ∧ i = .int .i64 k ∧ Hid (∃ v', Bk wr B c v' (raiseAs ks xs k) ∧ Chg w wr (bkS c v) ∧ RowNew w v v')) (fun i _ => m - (intOf i).toNat)
  case atStart => exact ⟨0, by omega, rfl, v, HH.out, Chg.refl _ _, .inl rfl⟩
  case round =>
    obtain ⟨k, hk, rfl, HR⟩ := hrel
    obtain ⟨v1, hb1, hc1, hn1⟩ := HR.out
    by_cases hlt : k < m
    · have HB1 : Hid (Bk wr B c v1 (raiseAs ks xs k)) := hb1
      have HC1 : Hid (Chg w wr (bkS c v)) := hc1
      have HN1 : Hid (RowNew w v v1) := hn1
      have hbe : Below B w wr := hc1.below (fun j hj => by rcases hj with hj | hj; exact hj ▸ hcB; exact hvB.out j hj) hB
      obtain ⟨a', cap', hv, _, _, _, _, hse⟩ := HO.out wr hbe
      obtain ⟨g, off, ha, hgl, hcl⟩ := hse (fun e => by rw [e] at hml; simp at hml; omega)
      injection hv with e1 e2 e3
      subst e1 e3
      subst ha
      have c1 := hcl k (by omega)
      obtain ⟨x, HX⟩ : ∃ x, Hid (xs.getD k 0 = x) := ⟨_, rfl⟩
      rw [HX.out] at c1
      obtain ⟨va, vc, hvv⟩ := own_shape hb1.row
      have c0 : wr.cell? ⟨c, 0, none⟩ = some v1 := hb1.hp.cell rfl
      have hlen := raiseAs_len ks xs k
      have hBw : B ≤ wr.heap.size := by have := hc1.size; omega
      have h16 : (k : Int) < 16 := by omega
      have hkl : (k : Int) < xs.length := by omega
      have HLN : Hid ((raiseAs ks xs k).length ≤ 100000) := by show _ ≤ _; omega
      subst hvv
      obtain ⟨n1, HN⟩ : ∃ n1, Hid ((raiseAs ks xs k).length = n1) := ⟨_, rfl⟩
      rw [HN.out] at c0 HB1 HN1 HLN
      have HCX : Hid (∀ w', Below B w w' → w'.cell? ⟨g, off + k, none⟩ = some (.int .u64 x)) := fun w' hb' => by
        obtain ⟨a', cap', hv, _, _, _, _, hse⟩ := HO.out w' hb'
        obtain ⟨g', off', ha, _, hcl⟩ := hse (fun e => by rw [e] at hkl; simp at hkl; omega)
        injection hv with e1 e2 e3
        subst e1
        injection ha with ha
        injection ha with e4 e5
        subst e4 e5
        rw [← HX.out]
        exact hcl k (by omega)
      have hS1 : (wr.alloc (Obj.cells #[.int .i64 3, .int .i64 k, .int .u64 x] 65)).cell? ⟨g, off + k, none⟩ = some (.int .u64 x) := Lib.cell?_alloc_some _ c1
      have c0a : (wr.alloc (Obj.cells #[.int .i64 3, .int .i64 k, .int .u64 x] 65)).cell? ⟨c, 0, none⟩ = some (.slice va n1 vc) := Lib.cell?_alloc_some _ c0
      have HBE : Hid (Below B w wr) := hbe
      clear hcl hse hb1 hc1 hn1 HR hbe hlen
      go_wp2
      refine wp_region_held_drew (S := fun w' => w'.cell? ⟨g, off + k, none⟩ = some (.int .u64 x)) (by kernel_rfl) c1 (fun hHeld => ?_)
      refine wpAnyH_take (i := 0) (v := ?v1) rfl (by kernel_rfl) (by kernel_rfl) (by kernel_rfl) (fun _ _ _ h => h) (Or.inl ⟨by rfl, ?hy1⟩) (by assumption) ?rest1
      case hy1 => (intro wy hSw; (try dsimp only at hSw); go_simp; (first | done | with_reducible rfl))
      try simp only [Act.put, List.getElem_toArray, List.getElem_cons_zero, List.getElem_cons_succ, List.setIfInBounds_toArray, List.set_cons_zero, List.set_cons_succ]
      refine wpAnyH_take (i := 1) (v := ?v2) rfl (by kernel_rfl) (by kernel_rfl) (by kernel_rfl) (fun _ _ _ h => h) (Or.inl ⟨by rfl, ?hy2⟩) (by assumption) ?rest2
      case hy2 => (intro wy hSw; (try dsimp only at hSw); go_simp; (first | done | with_reducible rfl))
      try simp only [Act.put, List.getElem_toArray, List.getElem_cons_zero, List.getElem_cons_succ, List.setIfInBounds_toArray, List.set_cons_zero, List.set_cons_succ]
      refine wpAnyH_take (i := 2) (v := ?v3) rfl (by kernel_rfl) (by kernel_rfl) (by kernel_rfl) (fun _ _ _ h => h) (Or.inl ⟨by rfl, ?hy3⟩) (by assumption) ?rest3
      case hy3 => (intro wy hSw; (try dsimp only at hSw); go_simp; (first | done | with_reducible rfl))
      try simp only [Act.put, List.getElem_toArray, List.getElem_cons_zero, List.getElem_cons_succ, List.setIfInBounds_toArray, List.set_cons_zero, List.set_cons_succ]
      refine wpAnyH_take (i := 3) (v := ?v4) rfl (by kernel_rfl) (by kernel_rfl) (by kernel_rfl) (fun _ _ _ h => h) (Or.inl ⟨by rfl, ?hy4⟩) (by assumption) ?rest4
      case hy4 => (intro wy hSw; (try dsimp only at hSw); go_simp; (first | done | with_reducible rfl))
      try simp only [Act.put, List.getElem_toArray, List.getElem_cons_zero, List.getElem_cons_succ, List.setIfInBounds_toArray, List.set_cons_zero, List.set_cons_succ]
      refine wpAnyH_take (i := 5) (v := ?v5) rfl (by kernel_rfl) (by kernel_rfl) (by kernel_rfl) (fun _ _ _ h => h) (Or.inl ⟨by rfl, ?hy5⟩) (by assumption) ?rest5
      case hy5 => (intro wy hSw; (try dsimp only at hSw); go_simp; (first | done | with_reducible rfl))
      try simp only [Act.put, List.getElem_toArray, List.getElem_cons_zero, List.getElem_cons_succ, List.setIfInBounds_toArray, List.set_cons_zero, List.set_cons_succ]
      refine wpAnyH_take (i := 6) (v := ?v6) rfl (by kernel_rfl) (by kernel_rfl) (by kernel_rfl) (fun _ _ _ h => h) (Or.inl ⟨by rfl, ?hy6⟩) (by assumption) ?rest6
      case hy6 => (intro wy hSw; (try dsimp only at hSw); go_simp; (first | done | with_reducible rfl))
      try simp only [Act.put, List.getElem_toArray, List.getElem_cons_zero, List.getElem_cons_succ, List.setIfInBounds_toArray, List.set_cons_zero, List.set_cons_succ]
      refine wpAnyH_take (i := 7) (v := ?v7) rfl (by kernel_rfl) (by kernel_rfl) (by kernel_rfl) (fun _ _ _ h => h) (Or.inl ⟨by rfl, ?hy7⟩) (by assumption) ?rest7
      case hy7 => (intro wy hSw; (try dsimp only at hSw); go_simp; (first | done | with_reducible rfl))
      try simp only [Act.put, List.getElem_toArray, List.getElem_cons_zero, List.getElem_cons_succ, List.setIfInBounds_toArray, List.set_cons_zero, List.set_cons_succ]
      refine wpAnyH_take (i := 8) (v := ?v8) rfl (by kernel_rfl) (by kernel_rfl) (by kernel_rfl) (fun _ _ _ h => h) (Or.inl ⟨by rfl, ?hy8⟩) (by assumption) ?rest8
      case hy8 => (intro wy hSw; (try dsimp only at hSw); go_simp; (first | done | with_reducible rfl))
      try simp only [Act.put, List.getElem_toArray, List.getElem_cons_zero, List.getElem_cons_succ, List.setIfInBounds_toArray, List.set_cons_zero, List.set_cons_succ]
      refine wpAnyH_take (i := 9) (v := ?v9) rfl (by kernel_rfl) (by kernel_rfl) (by kernel_rfl) (fun _ _ _ h => h) (Or.inl ⟨by rfl, ?hy9⟩) (by assumption) ?rest9
      case hy9 => (intro wy hSw; (try dsimp only at hSw); go_simp; (first | done | with_reducible rfl))
      try simp only [Act.put, List.getElem_toArray, List.getElem_cons_zero, List.getElem_cons_succ, List.setIfInBounds_toArray, List.set_cons_zero, List.set_cons_succ]
      refine wpAnyH_take (i := 10) (v := ?v10) rfl (by kernel_rfl) (by kernel_rfl) (by kernel_rfl) (fun _ _ _ h => h) (Or.inl ⟨by rfl, ?hy10⟩) (by assumption) ?rest10
      case hy10 => (intro wy hSw; (try dsimp only at hSw); go_simp; (first | done | with_reducible rfl))
      try simp only [Act.put, List.getElem_toArray, List.getElem_cons_zero, List.getElem_cons_succ, List.setIfInBounds_toArray, List.set_cons_zero, List.set_cons_succ]
      refine wpAnyH_ready (rs := [4, 11]) (by kernel_rfl) (by simp) ?_
      refine AllReadyH.cons rfl (fun KK hK => ?_) (AllReadyH.cons rfl (fun KK hK => ?_) AllReadyH.nil) <;> rw [if_pos (by rfl)]
      · go_simp
        refine hK.out _ _ c1 (fun hHeld => ?_)
        clear hK KK
        try simp only [Act.put, List.getElem_toArray, List.getElem_cons_zero, List.getElem_cons_succ, List.setIfInBounds_toArray, List.set_cons_zero, List.set_cons_succ]
        refine wpAnyH_ready (rs := [11]) (by kernel_rfl) (by simp) ?_
        refine AllReadyH.cons rfl (fun KK hK => ?_) AllReadyH.nil
        rw [if_pos (by rfl)]
        go_simp
        refine hK.out _ _ hS1 (fun hHeld => ?_)
        clear hK KK
        try simp only [Act.put, List.getElem_toArray, List.getElem_cons_zero, List.getElem_cons_succ, List.setIfInBounds_toArray, List.set_cons_zero, List.set_cons_succ]
        refine wpAnyH_ready (rs := [12]) (by kernel_rfl) (by simp) ?_
        refine AllReadyH.cons rfl (fun KK hK => ?_) AllReadyH.nil
        rw [if_pos (by rfl)]
        have eN := HN.out
        subst eN
        refine wp_append_own_at _ (.tmp 19) (.tmp 26) 28 rfl B 65 i6 _ 3 24 Try.underlying28 hi6 hz60 hz61 hz62 rfl (by decide) (.slice va (raiseAs ks xs k).length vc) (raiseAs ks xs k).length (flatA (raiseAs ks xs k)) rfl (HB1.out.row.alloc _) ⟨wr.heap.size, 0, none⟩ 1 1 (akC ⟨3, k, x⟩) rfl rfl (three_lit wr ⟨3, k, x⟩ _) (three_cell _) (by have := HLN.out; unfold maxLen; omega) (by have := HLN.out; omega) (by simp; omega) ?_
        intro v' w' hown hg hnew
        obtain ⟨wa, wc, rfl⟩ := own_shape hown
        obtain ⟨r1, r2, r3, r4, r5⟩ := HB1.out.put (a := ⟨3, k, x⟩) (grown_undrew hg) hown hnew
        have HCT := HC1.out.trans r2 (fun j hj hk => HN1.out.old hj hk)
        have HNT := HN1.out.trans r3 HC1.out.size
        have hbw := HCT.below (fun j hj => by rcases hj with hj | hj; exact hj ▸ hcB; exact hvB.out j hj) hB
        have HBw : Below B w w' := (HBE.out.alloc hBw _).grown (grown_undrew hg) (by simp; omega) (fun j hj => (HB1.out.row.lt j hj).1)
        have HE : Hid _ := r1
        have HCT2 : Hid _ := HCT
        have HNT2 : Hid _ := HNT
        have HBw2 : Hid _ := hbw
        refine hK.out _ _ (HCX.out w' HBw) (fun hHeld => ?_)
        clear hK KK r1 r2 r3 HCT HNT hbw HBw hown hg hnew
        try simp only [Act.put, List.getElem_toArray, List.getElem_cons_zero, List.getElem_cons_succ, List.setIfInBounds_toArray, List.set_cons_zero, List.set_cons_succ]
        refine wpAnyH_take (i := 13) (v := ?v11) rfl (by kernel_rfl) (by kernel_rfl) (by kernel_rfl) (fun _ _ _ h => h) (Or.inl ⟨by rfl, ?hy11⟩) (by assumption) ?rest11
        case hy11 => (intro wy hSw; (try dsimp only at hSw); go_simp; (first | done | with_reducible rfl))
        try simp only [Act.put, List.getElem_toArray, List.getElem_cons_zero, List.getElem_cons_succ, List.setIfInBounds_toArray, List.set_cons_zero, List.set_cons_succ]
        refine wpAnyH_take (i := 14) (v := ?v12) rfl (by kernel_rfl) (by kernel_rfl) (by kernel_rfl) (fun _ _ _ h => h) (Or.inl ⟨by rfl, ?hy12⟩) (by assumption) ?rest12
        case hy12 => (intro wy hSw; (try dsimp only at hSw); go_simp; (first | done | with_reducible rfl))
        try simp only [Act.put, List.getElem_toArray, List.getElem_cons_zero, List.getElem_cons_succ, List.setIfInBounds_toArray, List.set_cons_zero, List.set_cons_succ]
        refine wpAnyH_ready (rs := [15]) (by kernel_rfl) (by simp) ?_
        refine AllReadyH.cons rfl (fun KK hK => ?_) AllReadyH.nil
        rw [if_pos (by rfl)]
        go_simp
        refine hK.out _ _ (HCX.out _ HBw2.out) (fun hHeld => ?_)
        clear hK KK
        try simp only [Act.put, List.getElem_toArray, List.getElem_cons_zero, List.getElem_cons_succ, List.setIfInBounds_toArray, List.set_cons_zero, List.set_cons_succ]
        refine wpAnyH_done (by kernel_rfl) ?_ _
        go_wp2
        go_roundw
        case rel => exact ⟨k + 1, by omega, by go_num, _, by rw [show raiseAs ks xs (k + 1) = raiseAs ks xs k ++ [⟨3, k, xs.getD k 0⟩] from rfl, HX.out]; exact HE.out, HCT2.out, HNT2.out⟩
        case measure => simp [intOf]; omega
      · go_simp
        refine hK.out _ _ hS1 (fun hHeld => ?_)
        clear hK KK
        try simp only [Act.put, List.getElem_toArray, List.getElem_cons_zero, List.getElem_cons_succ, List.setIfInBounds_toArray, List.set_cons_zero, List.set_cons_succ]
        refine wpAnyH_ready (rs := [4]) (by kernel_rfl) (by simp) ?_
        refine AllReadyH.cons rfl (fun KK hK => ?_) AllReadyH.nil
        rw [if_pos (by rfl)]
        go_simp
        refine hK.out _ _ hS1 (fun hHeld => ?_)
        clear hK KK
        try simp only [Act.put, List.getElem_toArray, List.getElem_cons_zero, List.getElem_cons_succ, List.setIfInBounds_toArray, List.set_cons_zero, List.set_cons_succ]
        refine wpAnyH_ready (rs := [12]) (by kernel_rfl) (by simp) ?_
        refine AllReadyH.cons rfl (fun KK hK => ?_) AllReadyH.nil
        rw [if_pos (by rfl)]
        have eN := HN.out
        subst eN
        refine wp_append_own_at _ (.tmp 19) (.tmp 26) 28 rfl B 65 i6 _ 3 24 Try.underlying28 hi6 hz60 hz61 hz62 rfl (by decide) (.slice va (raiseAs ks xs k).length vc) (raiseAs ks xs k).length (flatA (raiseAs ks xs k)) rfl (HB1.out.row.alloc _) ⟨wr.heap.size, 0, none⟩ 1 1 (akC ⟨3, k, x⟩) rfl rfl (three_lit wr ⟨3, k, x⟩ _) (three_cell _) (by have := HLN.out; unfold maxLen; omega) (by have := HLN.out; omega) (by simp; omega) ?_
        intro v' w' hown hg hnew
        obtain ⟨wa, wc, rfl⟩ := own_shape hown
        obtain ⟨r1, r2, r3, r4, r5⟩ := HB1.out.put (a := ⟨3, k, x⟩) (grown_undrew hg) hown hnew
        have HCT := HC1.out.trans r2 (fun j hj hk => HN1.out.old hj hk)
        have HNT := HN1.out.trans r3 HC1.out.size
        have hbw := HCT.below (fun j hj => by rcases hj with hj | hj; exact hj ▸ hcB; exact hvB.out j hj) hB
        have HBw : Below B w w' := (HBE.out.alloc hBw _).grown (grown_undrew hg) (by simp; omega) (fun j hj => (HB1.out.row.lt j hj).1)
        have HE : Hid _ := r1
        have HCT2 : Hid _ := HCT
        have HNT2 : Hid _ := HNT
        have HBw2 : Hid _ := hbw
        refine hK.out _ _ (HCX.out w' HBw) (fun hHeld => ?_)
        clear hK KK r1 r2 r3 HCT HNT hbw HBw hown hg hnew
        try simp only [Act.put, List.getElem_toArray, List.getElem_cons_zero, List.getElem_cons_succ, List.setIfInBounds_toArray, List.set_cons_zero, List.set_cons_succ]
        refine wpAnyH_take (i := 13) (v := ?v13) rfl (by kernel_rfl) (by kernel_rfl) (by kernel_rfl) (fun _ _ _ h => h) (Or.inl ⟨by rfl, ?hy13⟩) (by assumption) ?rest13
        case hy13 => (intro wy hSw; (try dsimp only at hSw); go_simp; (first | done | with_reducible rfl))
        try simp only [Act.put, List.getElem_toArray, List.getElem_cons_zero, List.getElem_cons_succ, List.setIfInBounds_toArray, List.set_cons_zero, List.set_cons_succ]
        refine wpAnyH_take (i := 14) (v := ?v14) rfl (by kernel_rfl) (by kernel_rfl) (by kernel_rfl) (fun _ _ _ h => h) (Or.inl ⟨by rfl, ?hy14⟩) (by assumption) ?rest14
        case hy14 => (intro wy hSw; (try dsimp only at hSw); go_simp; (first | done | with_reducible rfl))
        try simp only [Act.put, List.getElem_toArray, List.getElem_cons_zero, List.getElem_cons_succ, List.setIfInBounds_toArray, List.set_cons_zero, List.set_cons_succ]
        refine wpAnyH_ready (rs := [15]) (by kernel_rfl) (by simp) ?_
        refine AllReadyH.cons rfl (fun KK hK => ?_) AllReadyH.nil
        rw [if_pos (by rfl)]
        go_simp
        refine hK.out _ _ (HCX.out _ HBw2.out) (fun hHeld => ?_)
        clear hK KK
        try simp only [Act.put, List.getElem_toArray, List.getElem_cons_zero, List.getElem_cons_succ, List.setIfInBounds_toArray, List.set_cons_zero, List.set_cons_succ]
        refine wpAnyH_done (by kernel_rfl) ?_ _
        go_wp2
        go_roundw
        case rel => exact ⟨k + 1, by omega, by go_num, _, by rw [show raiseAs ks xs (k + 1) = raiseAs ks xs k ++ [⟨3, k, xs.getD k 0⟩] from rfl, HX.out]; exact HE.out, HCT2.out, HNT2.out⟩
        case measure => simp [intOf]; omega
    · obtain rfl : k = m := by omega
      have HR' : Hid (∃ v', Bk wr B c v' (raiseAs ks xs k) ∧ Chg w wr (bkS c v) ∧ RowNew w v v') := ⟨v1, hb1, hc1, hn1⟩
      clear hb1 hc1 hn1 HR hlt
      by_cases h16 : (k : Int) < 16
      · have hkn : ¬ (k : Int) < xs.length := by have := hmin.out; omega
        go_wp2
        exact bodyPost_end (results_none rfl _ _ _) rfl ⟨rfl, HR'.out⟩
      · by_cases hkl : (k : Int) < xs.length
        · go_wp2
          exact bodyPost_end (results_none rfl _ _ _) rfl ⟨rfl, HR'.out⟩
        · go_wp2
          exact bodyPost_end (results_none rfl _ _ _) rfl ⟨rfl, HR'.out⟩
end Go.Proofs.Ytmfgpaigabkbbaa
