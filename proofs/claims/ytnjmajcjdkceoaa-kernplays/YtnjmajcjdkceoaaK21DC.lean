
/-
  The document's kern of layer 21: Pick, Fair. Condition: it lies where the pointer says, its picks are the call's own.
-/
import Derived.Test.YtnjmajcjdkceoaaTk
import Derived.Test.YtnjmajcjdkceoaaK21DB
namespace Go.Proofs.Ytnjmajcjdkceoaa
open Go.RowKit
set_option linter.unusedVariables false
set_option linter.unusedSimpArgs false
set_option maxRecDepth 100000
theorem wp_append_atK {P : Program} (w : World) {o : Oper} {a : Act} {K : Act → World → Prop} {Q : Exit → Act → World → Prop} (s x : Operand) (t : TypeId)
    (ho : o.op = .call { callee := .builtin .append, args := #[s, x], argTypes := #[t, t] })
    (base : Nat) (e : TypeId) (i : TypeInfo) (z : Value) (size bytes : Nat) (ht : P.underlying t = some (.slice e)) (hi : P.info? e = some i) (hz : i.zero = some z)
    (hsize : i.size = size) (hby : i.bytes = bytes) (hzs : z.cells.size = size) (hsz : 0 < size)
    (v : Value) (n : Nat) (xs : List Value) (hs : a.eval s = v) (hown : w.ownsRow base e size v n xs)
    (ad : Addr) (m c : Nat) (news : List Value) (hx : a.eval x = .slice (some ad) m c) (hl : news.length = m * size) (hnews : ∀ j u, news[j]? = some u → w.cell? (ad.add j) = some u) (h1 : ∀ u ∈ news, u.oneCell' = true)
    (h63 : n + m ≤ maxLen) (hbytes : (n + m) * bytes ≤ 140737488355328) (hbase : base ≤ w.heap.size)
    (h : ∀ v' w', w'.ownsRow base e size v' (n + m) (xs ++ news) → w.grownBy w' v.ownBlock → (v'.ownBlock = v.ownBlock ∨ v'.ownBlock = some w.heap.size) → K (a.put o.dst v') w') : Oper.wp P o a w K Q := by
  obtain ⟨v', w', hr, h2, h3, h4, h5⟩ := run_append_own_at (P := P) w base t o.type e i z size bytes ht hi hz hsize hby hzs hsz v n xs hown ad m c news hl hnews h1 h63 hbytes hbase
  unfold Oper.wp execOp
  simp only [ho, resolve, invoke, builtin, Sem.run_bind, Sem.run_pure, Result.andThen_ok, List.map_toArray, List.map_cons, List.map_nil, hs, hx, hr]
  exact h v' w' h2 h3 h5
theorem mod_parts {c : Int} {n : Nat} (hn : 0 < n) : (0 ≤ c.tmod n → c % n = c.tmod n) ∧ (c.tmod n < 0 → c % n = c.tmod n + n) ∧ - (n : Int) < c.tmod n ∧ c.tmod n < n := by
  have h1 : c = n * c.tdiv n + c.tmod n := (Int.mul_tdiv_add_tmod c n).symm
  have h2 : c.tmod n < n := Int.tmod_lt_of_pos c (by omega)
  have h3 : - (n : Int) < c.tmod n := by
    have := Int.tmod_lt_of_pos (-c) (b := (n : Int)) (by omega)
    rw [Int.neg_tmod] at this
    omega
  have h4 : c % n = c.tmod n % n := by
    conv => lhs; rw [h1]
    rw [Int.add_comm, Int.add_mul_emod_self_left]
  refine ⟨fun h => ?_, fun h => ?_, h3, h2⟩
  · rw [h4, Int.emod_eq_of_lt h h2]
  · rw [h4, ← Int.add_emod_right, Int.emod_eq_of_lt (by omega) (by omega)]
section
variable {w w' : World} {B b g : Nat} {v : Value} {K K' : Kn}
theorem dkmore {v' : Value} {w1 : World} {t : Int} (h : Dk w B b g v K) (ho : w1.ownsRow B 3 1 v' (K.p.length + 1) (iCK K.p ++ [.int .i64 t])) (hc : Chg w w1 (fun k => v.ownBlock = some k)) (hn : v'.ownBlock = v.ownBlock ∨ ∃ j, v'.ownBlock = some j ∧ w.heap.size ≤ j) :
    Dk (w1.setCell ⟨b, 1, none⟩ v') B b g v' ⟨K.m, K.p ++ [t]⟩ ∧ Nx w (w1.setCell ⟨b, 1, none⟩ v') (ftK b g v) (ftK b g v') := by
  have hp1 := h.hp.chg hc (fun e => h.apartR e)
  have hm1 := h.mode.chg hc (fun e => h.ne e)
  have hcs := Chg.set w1 b 1 v'
  have hne : v'.ownBlock ≠ some g := by
    rcases hn with e | ⟨j, e, hj⟩
    · rw [e]; exact h.ne
    · rw [e]; intro q; have := h.mode.lt; injection q with q; omega
  refine ⟨⟨hp1.set 1 v', hm1.far (fun e => h.apart e.symm), ?_, hne⟩, (hc.mono (fun k e => .inr e)).trans hcs (fun k _ e => .inl (.inl e)), fun k hk => ?_⟩
  · show RoN _ _ _ _
    unfold RoN
    rw [List.length_append, List.map_append]
    exact own_chg ho hcs (fun k hk e => own_type10 ho hp1 (by decide) (by rw [hk, e]))
  · rcases hk with e | e
    · exact .inl (.inl e)
    · rcases hn with q | ⟨j, q, hj⟩
      · exact .inl (.inr (by rw [← q]; exact e))
      · right
        rw [q] at e
        injection e with e
        omega
set_option maxHeartbeats 6400000 in
theorem dpick (h : Dk w B b g v K) (hk : K.Ok) (hB : B ≤ w.heap.size) (hl : K.p.length ≤ 1000000) (c : Int) {t : Int} {r : Bool} (HQ : Hid (K.pick c = (t, r, K'))) : Calls Try.prog 16 #[.pointer (some ⟨b, 0, none⟩), .int .i64 c] w fun e w' => e = .returned (.tuple #[.int .i64 t, .bool r]) ∧ ∃ v', Dk w' B b g v' K' ∧ Nx w w' (ftK b g v) (ftK b g v') := by
  obtain ⟨i0, hi0, hz0, hzs, hzb⟩ := info_parts infoIntN
  have HD0 := keepG h
  obtain ⟨l, HL⟩ : ∃ l, Hid (K.inM 1 = l) := ⟨_, rfl⟩
  have hll : l.length ≤ 64 := by rw [← HL.out]; have := K.inM_len 1; have := hk.len.2; omega
  have hq := Kn.pick_parts HQ.out
  rw [HL.out] at hq
  clear h HQ
  rcases hq with ⟨q1, q2, q3, q4⟩ | ⟨q1, q2, q3, q4, q5⟩
  · subst q1 q2 q3 q4
    go_enter Try.func16, Try.ntmps16
    go_wp2_with (go_at_call 21; go_must (refine (din HD0.out hk 1 HL).mono ?_); rintro e w2 ⟨u, rfl, hu, hb2⟩; go_must (obtain ⟨ua, uc, ev⟩ := own_shape hu; subst ev; have HB2 := keepG hb2; clear hu hb2))
    go_ret2
    exact ⟨rfl, v, HD0.out.below HB2.out, Nx.below HB2.out⟩
  · have hn : 0 < l.length := List.length_pos_iff.2 q1
    have hnb : ((l.length : Int) == 0) = false := by simp; omega
    have hn0 : ¬ (l.length : Int) = 0 := by omega
    obtain ⟨p1, p2, p3, p4⟩ := mod_parts (c := c) hn
    have HT := keepG q4
    obtain ⟨n, HN⟩ : ∃ n : Int, Hid ((l.length : Int) = n) := ⟨_, rfl⟩
    subst q2 q5
    clear q1 q3 q4
    go_enter Try.func16, Try.ntmps16
    by_cases hneg : c.tmod l.length < 0
    · have e1 := p2 hneg
      have hA : ∃ A : Nat, (A : Int) = c.tmod l.length + l.length ∧ A < l.length := ⟨(c.tmod l.length + l.length).toNat, by omega, by omega⟩
      obtain ⟨A, hA1, hA2⟩ := hA
      have hAI : (A : Int) < l.length := by omega
      have hw1 : IntKind.i64.wrap (c.tmod l.length + l.length) = (A : Int) := by rw [IntKind.wrap_i64, hA1]; omega
      have HT2 : Hid (l.getD A 0 = t) := by
        show _ = _
        rw [HT.out, e1, ← hA1]
        rfl
      clear p1 p2 p3 p4 e1 hA1 HT
      go_wp2_with (go_at_call 21; go_must (refine (din HD0.out hk 1 HL).mono ?_); rintro e w2 ⟨u, rfl, hu, hb2⟩; go_must (obtain ⟨pl, lc, ev, hpl, hpl2, hlc, hlm, hat, -⟩ := hu.cells hn; subst ev; have ml := (hat A hA2).1; rw [HT2.out] at ml; have HB2 := keepG hb2; have HD2 := keepG (HD0.out.below hb2); have hB2 : B ≤ w2.heap.size := Nat.le_trans hB hb2.size; clear hu hb2 hat))
      obtain ⟨Z, HZ, hbZ, HnZ⟩ : ∃ Z, Hid (w2.alloc (.cells #[.int .i64 t] 3) = Z) ∧ Below w2.heap.size w2 Z ∧ Hid (∀ j u, [Value.int .i64 t][j]? = some u → Z.cell? ((⟨w2.heap.size, 0, none⟩ : Addr).add j) = some u) := ⟨_, rfl, below_allocG _ _, cells_new w2 [.int .i64 t] _ _ rfl⟩
      have c1 := HD2.out.low.2
      have c1d : w2.drew.cell? ⟨b, 1, none⟩ = some v := c1
      have c1Z := (HD2.out.below hbZ).low.2
      have lZ : Z.cell? ⟨pl, A, none⟩ = some (.int .i64 t) := by rw [hbZ.cell (p := ⟨pl, A, none⟩) hpl2]; exact ml
      refine wp_region_held_drew (S := fun w' => w'.cell? ⟨pl, A, none⟩ = some (.int .i64 t)) (by kernel_rfl) ml (fun hHeld => ?_)
      refine tkGo [0, 1, 2, 3, 5, 6, 7, 8] ?_
      repeat (refine tkOne (v := ?_) rfl (by kernel_rfl) (by kernel_rfl) (by kernel_rfl) (fun _ _ _ h => h) (by assumption) (by rfl) ?_ ?_; rotate_left; (intro wy hSw; (try dsimp only at hSw); go_simp; (first | done | with_reducible rfl)); try simp only [Act.put, List.getElem_toArray, List.getElem_cons_zero, List.getElem_cons_succ, List.setIfInBounds_toArray, List.set_cons_zero, List.set_cons_succ])
      refine tkEnd ?_
      refine wpAnyH_ready (rs := [4, 9]) (by kernel_rfl) (by simp) ?_
      refine AllReadyH.cons rfl (fun KK hK => ?_) (AllReadyH.cons rfl (fun KK hK => ?_) AllReadyH.nil) <;> rw [if_pos (by rfl)]
      · go_simp
        refine hK.out _ _ ml (fun hHeld => ?_)
        clear hK KK
        try simp only [Act.put, List.getElem_toArray, List.getElem_cons_zero, List.getElem_cons_succ, List.setIfInBounds_toArray, List.set_cons_zero, List.set_cons_succ]
        refine wpAnyH_ready (rs := [9]) (by kernel_rfl) (by simp) ?_
        refine AllReadyH.cons rfl (fun KK hK => ?_) AllReadyH.nil
        rw [if_pos (by rfl)]
        go_simp
        rw [HZ.out]
        refine hK.out _ _ lZ (fun hHeld => ?_)
        clear hK KK
        try simp only [Act.put, List.getElem_toArray, List.getElem_cons_zero, List.getElem_cons_succ, List.setIfInBounds_toArray, List.set_cons_zero, List.set_cons_succ]
        refine wpAnyH_ready (rs := [10]) (by kernel_rfl) (by simp) ?_
        refine AllReadyH.cons rfl (fun KK hK => ?_) AllReadyH.nil
        rw [if_pos (by rfl)]
        refine wp_append_atK _ (.tmp 27) (.tmp 32) 29 rfl B 3 i0 _ 1 8 Try.underlying29 hi0 hz0 hzs hzb rfl (by decide) v K.p.length (iCK K.p) rfl (own_below HD2.out.row (below_drG hbZ) (Nat.le_refl _)) ⟨w2.heap.size, 0, none⟩ 1 1 [.int .i64 t] rfl rfl HnZ.out (one_cell _ _) (by unfold maxLen; omega) (by omega) (Nat.le_trans hB2 hbZ.size) ?_
        intro v8 w8 hown hgr hat
        have hch : Chg w2 w8 (fun j => v.ownBlock = some j) := (Chg.of_below (S := fun j => v.ownBlock = some j) (below_drG hbZ)).trans (Chg.of_grown' hgr (fun k e => e)) (fun _ _ e => e)
        have hn8 : v8.ownBlock = v.ownBlock ∨ ∃ j, v8.ownBlock = some j ∧ w2.heap.size ≤ j := by
          rcases hat with q | q
          · exact .inl q
          · exact .inr ⟨_, q, hbZ.size⟩
        have HM := keepG (dkmore (t := t) HD2.out hown hch hn8)
        have hp8 := HD2.out.hp.chg hch (fun e => HD2.out.apartR e)
        have c1w := hp8.cell (j := 1) rfl
        have f1w := hp8.frozen 1
        have l8 : w8.cell? ⟨pl, A, none⟩ = some (.int .i64 t) := by
          rw [World.cell?_of_block (hch.block pl hpl2 (fun e => by have := (HD0.out.row.lt pl e).2; omega))]
          exact ml
        have l9 : (w8.setCell ⟨b, 1, none⟩ v8).cell? ⟨pl, A, none⟩ = some (.int .i64 t) := by
          rw [World.cell?_of_block ((Chg.set w8 b 1 v8).block pl (Nat.lt_of_lt_of_le hpl2 hch.size) (fun e => by have := HD0.out.hp.lt; omega))]
          exact l8
        obtain ⟨va8, vc8, rfl⟩ := own_shape hown
        go_simp
        refine hK.out _ _ l8 (fun hHeld => ?_)
        clear hK KK hown hgr hat hch hn8 hp8
        try simp only [Act.put, List.getElem_toArray, List.getElem_cons_zero, List.getElem_cons_succ, List.setIfInBounds_toArray, List.set_cons_zero, List.set_cons_succ]
        refine tkGo [11, 12] ?_
        repeat (refine tkOne (v := ?_) rfl (by kernel_rfl) (by kernel_rfl) (by kernel_rfl) (fun _ _ _ h => h) (by assumption) (by rfl) ?_ ?_; rotate_left; (intro wy hSw; (try dsimp only at hSw); go_simp; (first | done | with_reducible rfl)); try simp only [Act.put, List.getElem_toArray, List.getElem_cons_zero, List.getElem_cons_succ, List.setIfInBounds_toArray, List.set_cons_zero, List.set_cons_succ])
        refine tkEnd ?_
        refine wpAnyH_ready (rs := [13]) (by kernel_rfl) (by simp) ?_
        refine AllReadyH.cons rfl (fun KK hK => ?_) AllReadyH.nil
        rw [if_pos (by rfl)]
        go_simp
        refine hK.out _ _ l9 (fun hHeld => ?_)
        clear hK KK
        try simp only [Act.put, List.getElem_toArray, List.getElem_cons_zero, List.getElem_cons_succ, List.setIfInBounds_toArray, List.set_cons_zero, List.set_cons_succ]
        refine wpAnyH_done (by kernel_rfl) ?_ _
        clear hHeld
        go_wp2
        go_ret2
        exact ⟨rfl, _, HM.out.1, (Nx.below HB2.out).trans HM.out.2⟩
      · go_simp
        rw [HZ.out]
        refine hK.out _ _ lZ (fun hHeld => ?_)
        clear hK KK
        try simp only [Act.put, List.getElem_toArray, List.getElem_cons_zero, List.getElem_cons_succ, List.setIfInBounds_toArray, List.set_cons_zero, List.set_cons_succ]
        refine wpAnyH_ready (rs := [4]) (by kernel_rfl) (by simp) ?_
        refine AllReadyH.cons rfl (fun KK hK => ?_) AllReadyH.nil
        rw [if_pos (by rfl)]
        go_simp
        refine hK.out _ _ lZ (fun hHeld => ?_)
        clear hK KK
        try simp only [Act.put, List.getElem_toArray, List.getElem_cons_zero, List.getElem_cons_succ, List.setIfInBounds_toArray, List.set_cons_zero, List.set_cons_succ]
        refine wpAnyH_ready (rs := [10]) (by kernel_rfl) (by simp) ?_
        refine AllReadyH.cons rfl (fun KK hK => ?_) AllReadyH.nil
        rw [if_pos (by rfl)]
        refine wp_append_atK _ (.tmp 27) (.tmp 32) 29 rfl B 3 i0 _ 1 8 Try.underlying29 hi0 hz0 hzs hzb rfl (by decide) v K.p.length (iCK K.p) rfl (own_below HD2.out.row (below_drG hbZ) (Nat.le_refl _)) ⟨w2.heap.size, 0, none⟩ 1 1 [.int .i64 t] rfl rfl HnZ.out (one_cell _ _) (by unfold maxLen; omega) (by omega) (Nat.le_trans hB2 hbZ.size) ?_
        intro v8 w8 hown hgr hat
        have hch : Chg w2 w8 (fun j => v.ownBlock = some j) := (Chg.of_below (S := fun j => v.ownBlock = some j) (below_drG hbZ)).trans (Chg.of_grown' hgr (fun k e => e)) (fun _ _ e => e)
        have hn8 : v8.ownBlock = v.ownBlock ∨ ∃ j, v8.ownBlock = some j ∧ w2.heap.size ≤ j := by
          rcases hat with q | q
          · exact .inl q
          · exact .inr ⟨_, q, hbZ.size⟩
        have HM := keepG (dkmore (t := t) HD2.out hown hch hn8)
        have hp8 := HD2.out.hp.chg hch (fun e => HD2.out.apartR e)
        have c1w := hp8.cell (j := 1) rfl
        have f1w := hp8.frozen 1
        have l8 : w8.cell? ⟨pl, A, none⟩ = some (.int .i64 t) := by
          rw [World.cell?_of_block (hch.block pl hpl2 (fun e => by have := (HD0.out.row.lt pl e).2; omega))]
          exact ml
        have l9 : (w8.setCell ⟨b, 1, none⟩ v8).cell? ⟨pl, A, none⟩ = some (.int .i64 t) := by
          rw [World.cell?_of_block ((Chg.set w8 b 1 v8).block pl (Nat.lt_of_lt_of_le hpl2 hch.size) (fun e => by have := HD0.out.hp.lt; omega))]
          exact l8
        obtain ⟨va8, vc8, rfl⟩ := own_shape hown
        go_simp
        refine hK.out _ _ l8 (fun hHeld => ?_)
        clear hK KK hown hgr hat hch hn8 hp8
        try simp only [Act.put, List.getElem_toArray, List.getElem_cons_zero, List.getElem_cons_succ, List.setIfInBounds_toArray, List.set_cons_zero, List.set_cons_succ]
        refine tkGo [11, 12] ?_
        repeat (refine tkOne (v := ?_) rfl (by kernel_rfl) (by kernel_rfl) (by kernel_rfl) (fun _ _ _ h => h) (by assumption) (by rfl) ?_ ?_; rotate_left; (intro wy hSw; (try dsimp only at hSw); go_simp; (first | done | with_reducible rfl)); try simp only [Act.put, List.getElem_toArray, List.getElem_cons_zero, List.getElem_cons_succ, List.setIfInBounds_toArray, List.set_cons_zero, List.set_cons_succ])
        refine tkEnd ?_
        refine wpAnyH_ready (rs := [13]) (by kernel_rfl) (by simp) ?_
        refine AllReadyH.cons rfl (fun KK hK => ?_) AllReadyH.nil
        rw [if_pos (by rfl)]
        go_simp
        refine hK.out _ _ l9 (fun hHeld => ?_)
        clear hK KK
        try simp only [Act.put, List.getElem_toArray, List.getElem_cons_zero, List.getElem_cons_succ, List.setIfInBounds_toArray, List.set_cons_zero, List.set_cons_succ]
        refine wpAnyH_done (by kernel_rfl) ?_ _
        clear hHeld
        go_wp2
        go_ret2
        exact ⟨rfl, _, HM.out.1, (Nx.below HB2.out).trans HM.out.2⟩
    · have e1 := p1 (by omega)
      obtain ⟨A, hA1, hA2⟩ : ∃ A : Nat, (A : Int) = c.tmod l.length ∧ A < l.length := ⟨(c.tmod l.length).toNat, by omega, by omega⟩
      have hAI : (A : Int) < l.length := by omega
      have HT2 : Hid (l.getD A 0 = t) := by
        show _ = _
        rw [HT.out, e1, ← hA1]
        rfl
      have hA1' : c.tmod l.length = (A : Int) := hA1.symm
      have hneg' : ¬ (A : Int) < 0 := by omega
      clear p1 p2 p3 p4 e1 hA1 HT hneg
      go_wp2_with (go_at_call 21; go_must (refine (din HD0.out hk 1 HL).mono ?_); rintro e w2 ⟨u, rfl, hu, hb2⟩; go_must (obtain ⟨pl, lc, ev, hpl, hpl2, hlc, hlm, hat, -⟩ := hu.cells hn; subst ev; have ml := (hat A hA2).1; rw [HT2.out] at ml; have HB2 := keepG hb2; have HD2 := keepG (HD0.out.below hb2); have hB2 : B ≤ w2.heap.size := Nat.le_trans hB hb2.size; clear hu hb2 hat))
      obtain ⟨Z, HZ, hbZ, HnZ⟩ : ∃ Z, Hid (w2.alloc (.cells #[.int .i64 t] 3) = Z) ∧ Below w2.heap.size w2 Z ∧ Hid (∀ j u, [Value.int .i64 t][j]? = some u → Z.cell? ((⟨w2.heap.size, 0, none⟩ : Addr).add j) = some u) := ⟨_, rfl, below_allocG _ _, cells_new w2 [.int .i64 t] _ _ rfl⟩
      have c1 := HD2.out.low.2
      have c1d : w2.drew.cell? ⟨b, 1, none⟩ = some v := c1
      have c1Z := (HD2.out.below hbZ).low.2
      have lZ : Z.cell? ⟨pl, A, none⟩ = some (.int .i64 t) := by rw [hbZ.cell (p := ⟨pl, A, none⟩) hpl2]; exact ml
      refine wp_region_held_drew (S := fun w' => w'.cell? ⟨pl, A, none⟩ = some (.int .i64 t)) (by kernel_rfl) ml (fun hHeld => ?_)
      refine tkGo [0, 1, 2, 3, 5, 6, 7, 8] ?_
      repeat (refine tkOne (v := ?_) rfl (by kernel_rfl) (by kernel_rfl) (by kernel_rfl) (fun _ _ _ h => h) (by assumption) (by rfl) ?_ ?_; rotate_left; (intro wy hSw; (try dsimp only at hSw); go_simp; (first | done | with_reducible rfl)); try simp only [Act.put, List.getElem_toArray, List.getElem_cons_zero, List.getElem_cons_succ, List.setIfInBounds_toArray, List.set_cons_zero, List.set_cons_succ])
      refine tkEnd ?_
      refine wpAnyH_ready (rs := [4, 9]) (by kernel_rfl) (by simp) ?_
      refine AllReadyH.cons rfl (fun KK hK => ?_) (AllReadyH.cons rfl (fun KK hK => ?_) AllReadyH.nil) <;> rw [if_pos (by rfl)]
      · go_simp
        refine hK.out _ _ ml (fun hHeld => ?_)
        clear hK KK
        try simp only [Act.put, List.getElem_toArray, List.getElem_cons_zero, List.getElem_cons_succ, List.setIfInBounds_toArray, List.set_cons_zero, List.set_cons_succ]
        refine wpAnyH_ready (rs := [9]) (by kernel_rfl) (by simp) ?_
        refine AllReadyH.cons rfl (fun KK hK => ?_) AllReadyH.nil
        rw [if_pos (by rfl)]
        go_simp
        rw [HZ.out]
        refine hK.out _ _ lZ (fun hHeld => ?_)
        clear hK KK
        try simp only [Act.put, List.getElem_toArray, List.getElem_cons_zero, List.getElem_cons_succ, List.setIfInBounds_toArray, List.set_cons_zero, List.set_cons_succ]
        refine wpAnyH_ready (rs := [10]) (by kernel_rfl) (by simp) ?_
        refine AllReadyH.cons rfl (fun KK hK => ?_) AllReadyH.nil
        rw [if_pos (by rfl)]
        refine wp_append_atK _ (.tmp 27) (.tmp 32) 29 rfl B 3 i0 _ 1 8 Try.underlying29 hi0 hz0 hzs hzb rfl (by decide) v K.p.length (iCK K.p) rfl (own_below HD2.out.row (below_drG hbZ) (Nat.le_refl _)) ⟨w2.heap.size, 0, none⟩ 1 1 [.int .i64 t] rfl rfl HnZ.out (one_cell _ _) (by unfold maxLen; omega) (by omega) (Nat.le_trans hB2 hbZ.size) ?_
        intro v8 w8 hown hgr hat
        have hch : Chg w2 w8 (fun j => v.ownBlock = some j) := (Chg.of_below (S := fun j => v.ownBlock = some j) (below_drG hbZ)).trans (Chg.of_grown' hgr (fun k e => e)) (fun _ _ e => e)
        have hn8 : v8.ownBlock = v.ownBlock ∨ ∃ j, v8.ownBlock = some j ∧ w2.heap.size ≤ j := by
          rcases hat with q | q
          · exact .inl q
          · exact .inr ⟨_, q, hbZ.size⟩
        have HM := keepG (dkmore (t := t) HD2.out hown hch hn8)
        have hp8 := HD2.out.hp.chg hch (fun e => HD2.out.apartR e)
        have c1w := hp8.cell (j := 1) rfl
        have f1w := hp8.frozen 1
        have l8 : w8.cell? ⟨pl, A, none⟩ = some (.int .i64 t) := by
          rw [World.cell?_of_block (hch.block pl hpl2 (fun e => by have := (HD0.out.row.lt pl e).2; omega))]
          exact ml
        have l9 : (w8.setCell ⟨b, 1, none⟩ v8).cell? ⟨pl, A, none⟩ = some (.int .i64 t) := by
          rw [World.cell?_of_block ((Chg.set w8 b 1 v8).block pl (Nat.lt_of_lt_of_le hpl2 hch.size) (fun e => by have := HD0.out.hp.lt; omega))]
          exact l8
        obtain ⟨va8, vc8, rfl⟩ := own_shape hown
        go_simp
        refine hK.out _ _ l8 (fun hHeld => ?_)
        clear hK KK hown hgr hat hch hn8 hp8
        try simp only [Act.put, List.getElem_toArray, List.getElem_cons_zero, List.getElem_cons_succ, List.setIfInBounds_toArray, List.set_cons_zero, List.set_cons_succ]
        refine tkGo [11, 12] ?_
        repeat (refine tkOne (v := ?_) rfl (by kernel_rfl) (by kernel_rfl) (by kernel_rfl) (fun _ _ _ h => h) (by assumption) (by rfl) ?_ ?_; rotate_left; (intro wy hSw; (try dsimp only at hSw); go_simp; (first | done | with_reducible rfl)); try simp only [Act.put, List.getElem_toArray, List.getElem_cons_zero, List.getElem_cons_succ, List.setIfInBounds_toArray, List.set_cons_zero, List.set_cons_succ])
        refine tkEnd ?_
        refine wpAnyH_ready (rs := [13]) (by kernel_rfl) (by simp) ?_
        refine AllReadyH.cons rfl (fun KK hK => ?_) AllReadyH.nil
        rw [if_pos (by rfl)]
        go_simp
        refine hK.out _ _ l9 (fun hHeld => ?_)
        clear hK KK
        try simp only [Act.put, List.getElem_toArray, List.getElem_cons_zero, List.getElem_cons_succ, List.setIfInBounds_toArray, List.set_cons_zero, List.set_cons_succ]
        refine wpAnyH_done (by kernel_rfl) ?_ _
        clear hHeld
        go_wp2
        go_ret2
        exact ⟨rfl, _, HM.out.1, (Nx.below HB2.out).trans HM.out.2⟩
      · go_simp
        rw [HZ.out]
        refine hK.out _ _ lZ (fun hHeld => ?_)
        clear hK KK
        try simp only [Act.put, List.getElem_toArray, List.getElem_cons_zero, List.getElem_cons_succ, List.setIfInBounds_toArray, List.set_cons_zero, List.set_cons_succ]
        refine wpAnyH_ready (rs := [4]) (by kernel_rfl) (by simp) ?_
        refine AllReadyH.cons rfl (fun KK hK => ?_) AllReadyH.nil
        rw [if_pos (by rfl)]
        go_simp
        refine hK.out _ _ lZ (fun hHeld => ?_)
        clear hK KK
        try simp only [Act.put, List.getElem_toArray, List.getElem_cons_zero, List.getElem_cons_succ, List.setIfInBounds_toArray, List.set_cons_zero, List.set_cons_succ]
        refine wpAnyH_ready (rs := [10]) (by kernel_rfl) (by simp) ?_
        refine AllReadyH.cons rfl (fun KK hK => ?_) AllReadyH.nil
        rw [if_pos (by rfl)]
        refine wp_append_atK _ (.tmp 27) (.tmp 32) 29 rfl B 3 i0 _ 1 8 Try.underlying29 hi0 hz0 hzs hzb rfl (by decide) v K.p.length (iCK K.p) rfl (own_below HD2.out.row (below_drG hbZ) (Nat.le_refl _)) ⟨w2.heap.size, 0, none⟩ 1 1 [.int .i64 t] rfl rfl HnZ.out (one_cell _ _) (by unfold maxLen; omega) (by omega) (Nat.le_trans hB2 hbZ.size) ?_
        intro v8 w8 hown hgr hat
        have hch : Chg w2 w8 (fun j => v.ownBlock = some j) := (Chg.of_below (S := fun j => v.ownBlock = some j) (below_drG hbZ)).trans (Chg.of_grown' hgr (fun k e => e)) (fun _ _ e => e)
        have hn8 : v8.ownBlock = v.ownBlock ∨ ∃ j, v8.ownBlock = some j ∧ w2.heap.size ≤ j := by
          rcases hat with q | q
          · exact .inl q
          · exact .inr ⟨_, q, hbZ.size⟩
        have HM := keepG (dkmore (t := t) HD2.out hown hch hn8)
        have hp8 := HD2.out.hp.chg hch (fun e => HD2.out.apartR e)
        have c1w := hp8.cell (j := 1) rfl
        have f1w := hp8.frozen 1
        have l8 : w8.cell? ⟨pl, A, none⟩ = some (.int .i64 t) := by
          rw [World.cell?_of_block (hch.block pl hpl2 (fun e => by have := (HD0.out.row.lt pl e).2; omega))]
          exact ml
        have l9 : (w8.setCell ⟨b, 1, none⟩ v8).cell? ⟨pl, A, none⟩ = some (.int .i64 t) := by
          rw [World.cell?_of_block ((Chg.set w8 b 1 v8).block pl (Nat.lt_of_lt_of_le hpl2 hch.size) (fun e => by have := HD0.out.hp.lt; omega))]
          exact l8
        obtain ⟨va8, vc8, rfl⟩ := own_shape hown
        go_simp
        refine hK.out _ _ l8 (fun hHeld => ?_)
        clear hK KK hown hgr hat hch hn8 hp8
        try simp only [Act.put, List.getElem_toArray, List.getElem_cons_zero, List.getElem_cons_succ, List.setIfInBounds_toArray, List.set_cons_zero, List.set_cons_succ]
        refine tkGo [11, 12] ?_
        repeat (refine tkOne (v := ?_) rfl (by kernel_rfl) (by kernel_rfl) (by kernel_rfl) (fun _ _ _ h => h) (by assumption) (by rfl) ?_ ?_; rotate_left; (intro wy hSw; (try dsimp only at hSw); go_simp; (first | done | with_reducible rfl)); try simp only [Act.put, List.getElem_toArray, List.getElem_cons_zero, List.getElem_cons_succ, List.setIfInBounds_toArray, List.set_cons_zero, List.set_cons_succ])
        refine tkEnd ?_
        refine wpAnyH_ready (rs := [13]) (by kernel_rfl) (by simp) ?_
        refine AllReadyH.cons rfl (fun KK hK => ?_) AllReadyH.nil
        rw [if_pos (by rfl)]
        go_simp
        refine hK.out _ _ l9 (fun hHeld => ?_)
        clear hK KK
        try simp only [Act.put, List.getElem_toArray, List.getElem_cons_zero, List.getElem_cons_succ, List.setIfInBounds_toArray, List.set_cons_zero, List.set_cons_succ]
        refine wpAnyH_done (by kernel_rfl) ?_ _
        clear hHeld
        go_wp2
        go_ret2
        exact ⟨rfl, _, HM.out.1, (Nx.below HB2.out).trans HM.out.2⟩
end
end Go.Proofs.Ytnjmajcjdkceoaa
