
/-
  The document's table of layer 19 as an object: Put, Where, told by the plain table. Condition: it lies where the pointer says, its row is the call's own.
-/
import Derived.Test.YtknijloificpmaaTk
import Derived.Test.YtknijloificpmaaH19DA
namespace Go.Proofs.Ytknijloificpmaa
open Go.RowKit
set_option linter.unusedVariables false
set_option linter.unusedSimpArgs false
set_option maxRecDepth 100000
theorem infoS3 : (Try.prog.info? 61).map (fun i => (i.zero, i.size, i.bytes)) = some (some (.agg #[.int .i64 0, .int .i64 0, .int .i64 0]), 3, 24) := by kernel_rfl
theorem infoInt19 : (Try.prog.info? 3).map (fun i => (i.zero, i.size, i.bytes)) = some (some (.int .i64 0), 1, 8) := by kernel_rfl
/-- Appending to a row of the call's own, as one operation: it lies where it lay or in new memory. -/
theorem wp_append_at19 {P : Program} (w : World) {o : Oper} {a : Act} {K : Act → World → Prop} {Q : Exit → Act → World → Prop} (s x : Operand) (t : TypeId)
    (ho : o.op = .call { callee := .builtin .append, args := #[s, x], argTypes := #[t, t] })
    (base : Nat) (e : TypeId) (i : TypeInfo) (z : Value) (size bytes : Nat) (ht : P.underlying t = some (.slice e)) (hi : P.info? e = some i) (hz : i.zero = some z)
    (hsize : i.size = size) (hby : i.bytes = bytes) (hzs : z.cells.size = size) (hsz : 0 < size)
    (v : Value) (n : Nat) (xs : List Value) (hs : a.eval s = v) (hown : w.ownsRow base e size v n xs)
    (ad : Addr) (m c : Nat) (news : List Value) (hx : a.eval x = .slice (some ad) m c) (hl : news.length = m * size) (hnews : ∀ j u, news[j]? = some u → w.cell? (ad.add j) = some u) (h1 : ∀ u ∈ news, u.oneCell' = true)
    (h63 : n + m ≤ maxLen) (hbytes : (n + m) * bytes ≤ 140737488355328) (hbase : base ≤ w.heap.size)
    (h : ∀ v' w', w'.ownsRow base e size v' (n + m) (xs ++ news) → w.grownBy w' v.ownBlock → (v'.ownBlock = v.ownBlock ∨ v'.ownBlock = some w.heap.size) → K (a.put o.dst v') w') : Oper.wp P o a w K Q := by
  obtain ⟨v', w', hr, h2, h3, h4, h5⟩ := run_append_own_at (P := P) w base t o.type e i z size bytes ht hi hz hsize hby hzs hsz v n xs hown ad m c news hl hnews h1 h63 hbytes hbase
  unfold Oper.wp execOp
  simp only [ho, resolve, invoke, builtin, Sem.run_bind, Sem.run_pure, Result.andThen_ok, List.map_toArray, List.map_cons, List.map_nil, hs, hx, hr]
  exact h v' w' h2 h3 h5
/-- The document's table, its blocks, and how much happened at most. -/
structure Dj (w : World) (B b : Nat) (F : Ft) (t : Tb) (m : Nat) : Prop where
  ex : ∃ v ss, Dt w B b v t ss ∧ ss.length ≤ m ∧ F = bkS b v
section
variable {w w' : World} {B b m : Nat} {F G : Ft} {t : Tb}
theorem Dj.lies (h : Dj w B b F t m) : Lies w F := by
  obtain ⟨v, ss, hK, _, rfl⟩ := h.ex
  intro k hk
  rcases hk with e | e
  · rw [e]; exact hK.hp.lt
  · exact (hK.row.lt k e).2
theorem Dj.keeps (h : Dj w B b F t m) (hc : Chg w w' G) (ha : Apt G F) : Dj w' B b F t m := by
  obtain ⟨v, ss, hK, hm, rfl⟩ := h.ex
  exact ⟨v, ss, hK.chg hc (fun e => ha b e (.inl rfl)) (fun k hk e => ha k e (.inr hk)), hm, rfl⟩
theorem Dj.below (h : Dj w B b F t m) (hb : Below w.heap.size w w') : Dj w' B b F t m := h.keeps (Chg.of_below (S := fun _ => False) hb) (fun _ e => e.elim)
theorem Dj.mono (h : Dj w B b F t m) {m' : Nat} (hm : m ≤ m') : Dj w B b F t m' := by
  obtain ⟨v, ss, h1, h2, h3⟩ := h.ex
  exact ⟨v, ss, h1, by omega, h3⟩
theorem Dj.low (h : Dj w B b F t m) {B' : Nat} (hB : B' ≤ B) : Dj w B' b F t m := by
  obtain ⟨v, ss, h1, h2, h3⟩ := h.ex
  exact ⟨v, ss, ⟨h1.hp, own_lowG h1.row hB, h1.rel⟩, h2, h3⟩
theorem Dj.cell0 (h : Dj w B b F t m) : w.cell? ⟨b, 0, none⟩ = some (.int .i64 t.at'.length) := by
  obtain ⟨v, ss, hK, hl, _⟩ := h.ex
  exact hK.hp.cell (j := 0) rfl
theorem Dj.cell1 (h : Dj w B b F t m) : w.cell? ⟨b, 1, none⟩ = some (.int .i64 t.last) ∧ w.frozen? ⟨b, 1, none⟩ = false := by
  obtain ⟨v, ss, hK, hl, _⟩ := h.ex
  exact ⟨hK.hp.cell (j := 1) rfl, hK.hp.frozen 1⟩
/-- The last version written over. -/
theorem Dt.setLast {v : Value} {ss : List S3} (h : Dt w B b v t ss) (la : Int) : Dt (w.setCell ⟨b, 1, none⟩ (.int .i64 la)) B b v ⟨la, t.at'⟩ ss :=
  ⟨h.hp.set 1 (.int .i64 la), own_chg h.row (Chg.set w b 1 _) (fun k hk e => h.apart (by rw [hk, e])), h.rel.last la⟩
theorem Dj.setLast (h : Dj w B b F t m) (la : Int) : Dj (w.setCell ⟨b, 1, none⟩ (.int .i64 la)) B b F ⟨la, t.at'⟩ m ∧ Nx w (w.setCell ⟨b, 1, none⟩ (.int .i64 la)) F F := by
  obtain ⟨v, ss, h1, h2, rfl⟩ := h.ex
  exact ⟨⟨v, ss, h1.setLast la, h2, rfl⟩, (Chg.set w b 1 _).mono (fun k e => .inl e), fun k hk => .inl hk⟩
theorem Dj.current (h : Dj w B b F t m) (hk : t.Ok) (hm : m ≤ 100000) (x : Int) {cv cp : Int} {r : Bool} (HC : Hid (t.cur x = (cv, cp, r))) : Calls Try.prog 12 #[.pointer (some ⟨b, 0, none⟩), .int .i64 x] w fun e w' => e = .returned (.tuple #[.int .i64 cv, .int .i64 cp, .bool r]) ∧ Below w.heap.size w w' := by
  obtain ⟨v, ss, hK, hl, _⟩ := h.ex
  exact dcurrent hK hk (by omega) x HC
theorem Dj.other (h : Dj w B b F t m) {k : Nat} {ty : TypeId} {cs : List Value} (hp : Hp w k ty cs) (h1 : ty ≠ 31) (h2 : ty ≠ 61) : ¬ F k := by
  obtain ⟨v, ss, hK, _, rfl⟩ := h.ex
  rintro (e | e)
  · exact hp_type hp hK.hp h1 e
  · exact own_type10 hK.row hp (fun e => h2 e.symm) e
/-- One step more. -/
theorem djmore {v v' : Value} {ss : List S3} {s : S3} {t' : Tb} {w1 : World} (h : Dt w B b v t ss) (hr : RelT t' (ss ++ [s])) (hl : t'.at'.length = t.at'.length) (hla : t'.last = t.last) (hm : ss.length ≤ m) (ho : w1.ownsRow B 61 3 v' (ss.length + 1) (flatG s3C ss ++ s3C s)) (hc : Chg w w1 (fun k => v.ownBlock = some k)) (hn : v'.ownBlock = v.ownBlock ∨ ∃ j, v'.ownBlock = some j ∧ w.heap.size ≤ j) :
    Dj (w1.setCell ⟨b, 2, none⟩ v') B b (bkS b v') t' (m + 1) ∧ Nx w (w1.setCell ⟨b, 2, none⟩ v') (bkS b v) (bkS b v') := by
  have hp1 := h.hp.chg hc (fun e => h.apart e)
  have hch : Chg w (w1.setCell ⟨b, 2, none⟩ v') (bkS b v) := (hc.mono (fun k e => .inr e)).trans (Chg.set w1 b 2 v') (fun k _ e => .inl e)
  refine ⟨⟨v', ss ++ [s], ⟨?_, ?_, hr⟩, by simp; exact hm, rfl⟩, hch, fun k hk => ?_⟩
  · have := hp1.set 2 v'
    rw [hl, hla]
    exact this
  · exact own_chg (own_moreG ho) (Chg.set w1 b 2 v') (fun k hk e => own_type10 ho hp1 (by decide) (by rw [hk, e]))
  · rcases hk with e | e
    · exact .inl (.inl e)
    · rcases hn with g | ⟨j, g, hj⟩
      · exact .inl (.inr (by rw [← g]; exact e))
      · rw [g] at e
        have := Option.some.inj e
        exact .inr (by omega)
set_option maxHeartbeats 6400000 in
theorem dput {v E : Int} {t' : Tb} (h : Dj w B b F t m) (hk : t.Ok) (hB : B ≤ w.heap.size) (hm : m ≤ 100000) (hla : t.last ≤ 1000000000000000) (sw : Bool) (x p : Int) (HQ : Hid (t.put sw x p = (v, E, t'))) : Calls Try.prog 17 #[.pointer (some ⟨b, 0, none⟩), .int .i64 x, .int .i64 p, .bool sw] w fun e w' => e = .returned (.tuple #[.int .i64 v, .int .i64 E]) ∧ ∃ F', Dj w' B b F' t' (m + 1) ∧ Nx w w' F F' := by
  obtain ⟨i0, hi0, hz0, hzs, hzb⟩ := info_parts infoS3
  have HD0 := keepG (h.mono (Nat.le_succ m))
  have HJ := keepG h
  obtain ⟨vv, ss, hK, hl, hF⟩ := h.ex
  have c0 := hK.hp.cell (j := 0) rfl
  have HFE := keepG hF
  have HK := keepG hK
  have HSL := keepG hl
  have hl0 := hk.last
  have hq := HQ.out
  unfold Tb.put at hq
  clear hF hK h HQ
  cases hh : t.has x with
  | false =>
    rw [if_pos hh] at hq
    injection hq with e1 hq
    injection hq with e2 e3
    subst e1 e2 e3
    rcases Tb.has_no hh with h0 | h1
    · clear hh
      go_enter Try.func17, Try.ntmps17
      go_wp2
      go_ret2
      exact ⟨rfl, _, HD0.out, Nx.refl _ _⟩
    · have h0 : ¬ x < 0 := by omega
      clear hh
      go_enter Try.func17, Try.ntmps17
      go_wp2
      go_ret2
      exact ⟨rfl, _, HD0.out, Nx.refl _ _⟩
  | true =>
    rw [if_neg (by rw [hh]; decide)] at hq
    obtain ⟨k, rfl, hk2⟩ := Tb.has_nat hh
    have h0 : ¬ (k : Int) < 0 := by omega
    have h1 : ¬ (t.at'.length : Int) ≤ k := by omega
    obtain ⟨cv, cp, r, HC⟩ : ∃ cv cp r, Hid (t.cur k = (cv, cp, r)) := ⟨_, _, _, rfl⟩
    have hr : t.taken k = r := by
      have := HC.out
      unfold Tb.cur at this
      injection this with _ this
      injection this
    rw [hr] at hq
    have HQ3 := keepG hq
    clear hh hr hq
    by_cases hrs : r = sw
    · have hq := HQ3.out
      rw [if_pos hrs] at hq
      injection hq with e1 hq
      injection hq with e2 e3
      subst e1 e2
      have HT' : Hid (t.pub k p = t') := e3
      have HREL : Hid (RelT (t.pub k p) (ss ++ [⟨k, p, t.last + 1⟩])) := HK.out.rel.put hk2 p (t.last + 1) (t.last + 1)
      have HLEN : Hid ((t.pub k p).at'.length = (⟨t.last + 1, t.at'⟩ : Tb).at'.length) := by show _ = _; simp [Tb.pub]
      have hw1 : IntKind.i64.wrap (t.last + 1) = t.last + 1 := by rw [IntKind.wrap_i64]; omega
      clear HQ3 e3
      subst hrs
      obtain ⟨va, vc, ev⟩ := own_shape HK.out.row
      subst ev
      go_enter Try.func17, Try.ntmps17
      cases r with
      | false =>
        go_wp2_with (first
          | (go_at_call 12; go_must (refine (HJ.out.current hk hm k HC).mono ?_); rintro e w2 ⟨rfl, hb2⟩; go_must (have HB2 := keepG hb2; have HK2 := keepG (HK.out.below hb2); have c1 := HK2.out.hp.cell (j := 1) rfl; have f1 := HK2.out.hp.frozen 1; obtain ⟨W3, HW3⟩ : ∃ W3, Hid (w2.setCell ⟨b, 1, none⟩ (.int .i64 (t.last + 1)) = W3) := ⟨_, rfl⟩; clear hb2))
          | (rw [HW3.out]))
        have HD3 : Hid (Dt W3 B b (.slice va ss.length vc) ⟨t.last + 1, t.at'⟩ ss) := by rw [← HW3.out]; exact HK2.out.setLast (t.last + 1)
        have HC3 : Hid (Nx w W3 F (bkS b (.slice va ss.length vc))) := by
          rw [← HW3.out]
          have hF := HFE.out
          subst hF
          exact (Nx.below HB2.out).trans ⟨(Chg.set w2 b 1 _).mono (fun k e => .inl e), fun k hk => .inl hk⟩
        have hB3 : B ≤ W3.heap.size := Nat.le_trans hB HC3.out.chg.size
        have c1 := HD3.out.hp.cell (j := 1) rfl
        have c2 := HD3.out.hp.cell (j := 2) rfl
        have c2d : W3.drew.cell? ⟨b, 2, none⟩ = some (.slice va ss.length vc) := c2
        obtain ⟨Z, HZ, hbZ, HnZ⟩ : ∃ Z, Hid (W3.alloc (.cells #[.int .i64 k, .int .i64 p, .int .i64 (t.last + 1)] 61) = Z) ∧ Below W3.heap.size W3 Z ∧ Hid (∀ j u, (s3C ⟨k, p, t.last + 1⟩)[j]? = some u → Z.cell? ((⟨W3.heap.size, 0, none⟩ : Addr).add j) = some u) := ⟨_, rfl, below_allocG _ _, cells_new W3 (s3C ⟨k, p, t.last + 1⟩) _ _ rfl⟩
        have c1Z := (HD3.out.below hbZ).hp.cell (j := 1) rfl
        have c2Z := (HD3.out.below hbZ).hp.cell (j := 2) rfl
        refine wp_region_held_drew (S := fun w' => w'.cell? ⟨b, 1, none⟩ = some (.int .i64 (t.last + 1))) (by kernel_rfl) c1 (fun hHeld => ?_)
        refine tkGo [0, 1, 2, 3, 5, 6, 7, 8, 9, 10, 11] ?_
        repeat (refine tkOne (v := ?_) rfl (by kernel_rfl) (by kernel_rfl) (by kernel_rfl) (fun _ _ _ h => h) (by assumption) (by rfl) ?_ ?_; rotate_left; (intro wy hSw; (try dsimp only at hSw); go_simp; (first | done | with_reducible rfl)); try simp only [Act.put, List.getElem_toArray, List.getElem_cons_zero, List.getElem_cons_succ, List.setIfInBounds_toArray, List.set_cons_zero, List.set_cons_succ])
        refine tkEnd ?_
        refine wpAnyH_ready (rs := [4, 12]) (by kernel_rfl) (by simp) ?_
        refine AllReadyH.cons rfl (fun KK hK => ?_) (AllReadyH.cons rfl (fun KK hK => ?_) AllReadyH.nil) <;> rw [if_pos (by rfl)]
        · go_simp
          refine hK.out _ _ c1 (fun hHeld => ?_)
          clear hK KK
          try simp only [Act.put, List.getElem_toArray, List.getElem_cons_zero, List.getElem_cons_succ, List.setIfInBounds_toArray, List.set_cons_zero, List.set_cons_succ]
          refine wpAnyH_ready (rs := [12]) (by kernel_rfl) (by simp) ?_
          refine AllReadyH.cons rfl (fun KK hK => ?_) AllReadyH.nil
          rw [if_pos (by rfl)]
          go_simp
          rw [HZ.out]
          refine hK.out _ _ c1Z (fun hHeld => ?_)
          clear hK KK
          try simp only [Act.put, List.getElem_toArray, List.getElem_cons_zero, List.getElem_cons_succ, List.setIfInBounds_toArray, List.set_cons_zero, List.set_cons_succ]
          refine wpAnyH_ready (rs := [13]) (by kernel_rfl) (by simp) ?_
          refine AllReadyH.cons rfl (fun KK hK => ?_) AllReadyH.nil
          rw [if_pos (by rfl)]
          refine wp_append_at19 _ (.tmp 51) (.tmp 59) 29 rfl B 61 i0 _ 3 24 Try.underlying29 hi0 hz0 hzs hzb rfl (by decide) (.slice va ss.length vc) ss.length (flatG s3C ss) rfl (own_below HD3.out.row (below_drG hbZ) (Nat.le_refl _)) ⟨W3.heap.size, 0, none⟩ 1 1 (s3C ⟨k, p, t.last + 1⟩) rfl rfl HnZ.out (s3_one _) (by unfold maxLen; omega) (by omega) (Nat.le_trans hB3 hbZ.size) ?_
          intro v8 w8 hown hgr hat
          have hch : Chg W3 w8 (fun j => (Value.slice va ss.length vc).ownBlock = some j) := (Chg.of_below (S := fun j => (Value.slice va ss.length vc).ownBlock = some j) (below_drG hbZ)).trans (Chg.of_grown' hgr (fun k e => e)) (fun _ _ e => e)
          have hn8 : v8.ownBlock = (Value.slice va ss.length vc).ownBlock ∨ ∃ j, v8.ownBlock = some j ∧ W3.heap.size ≤ j := by
            rcases hat with g | g
            · exact .inl g
            · exact .inr ⟨_, g, hbZ.size⟩
          have HM := keepG (djmore (m := m) HD3.out HREL.out HLEN.out rfl HSL.out hown hch hn8)
          have hp8 := HD3.out.hp.chg hch (fun e => HD3.out.apart e)
          have c1w := hp8.cell (j := 1) rfl
          have c2w := hp8.cell (j := 2) rfl
          have f2w := hp8.frozen 2
          have HP8 := keepG hp8
          obtain ⟨va8, vc8, rfl⟩ := own_shape hown
          refine hK.out _ _ c1w (fun hHeld => ?_)
          clear hK KK hown hgr hat hch hn8 hp8
          try simp only [Act.put, List.getElem_toArray, List.getElem_cons_zero, List.getElem_cons_succ, List.setIfInBounds_toArray, List.set_cons_zero, List.set_cons_succ]
          refine tkGo [14, 15] ?_
          repeat (refine tkOne (v := ?_) rfl (by kernel_rfl) (by kernel_rfl) (by kernel_rfl) (fun _ _ _ h => h) (by assumption) (by rfl) ?_ ?_; rotate_left; (intro wy hSw; (try dsimp only at hSw); go_simp; (first | done | with_reducible rfl)); try simp only [Act.put, List.getElem_toArray, List.getElem_cons_zero, List.getElem_cons_succ, List.setIfInBounds_toArray, List.set_cons_zero, List.set_cons_succ])
          refine tkEnd ?_
          refine wpAnyH_ready (rs := [16]) (by kernel_rfl) (by simp) ?_
          refine AllReadyH.cons rfl (fun KK hK => ?_) AllReadyH.nil
          rw [if_pos (by rfl)]
          go_simp
          refine hK.out _ _ (by have := HM.out.1.cell1.1; exact this) (fun hHeld => ?_)
          clear hK KK
          try simp only [Act.put, List.getElem_toArray, List.getElem_cons_zero, List.getElem_cons_succ, List.setIfInBounds_toArray, List.set_cons_zero, List.set_cons_succ]
          refine wpAnyH_done (by kernel_rfl) ?_ _
          clear hHeld
          have c1e := HM.out.1.cell1.1
          have he : (t.pub k p).last = t.last + 1 := rfl
          rw [he] at c1e
          go_wp2
          go_ret2
          rw [← HT'.out]
          exact ⟨rfl, _, HM.out.1, HC3.out.trans HM.out.2⟩
        · go_simp
          rw [HZ.out]
          refine hK.out _ _ c1Z (fun hHeld => ?_)
          clear hK KK
          try simp only [Act.put, List.getElem_toArray, List.getElem_cons_zero, List.getElem_cons_succ, List.setIfInBounds_toArray, List.set_cons_zero, List.set_cons_succ]
          refine wpAnyH_ready (rs := [4]) (by kernel_rfl) (by simp) ?_
          refine AllReadyH.cons rfl (fun KK hK => ?_) AllReadyH.nil
          rw [if_pos (by rfl)]
          go_simp
          refine hK.out _ _ c1Z (fun hHeld => ?_)
          clear hK KK
          try simp only [Act.put, List.getElem_toArray, List.getElem_cons_zero, List.getElem_cons_succ, List.setIfInBounds_toArray, List.set_cons_zero, List.set_cons_succ]
          refine wpAnyH_ready (rs := [13]) (by kernel_rfl) (by simp) ?_
          refine AllReadyH.cons rfl (fun KK hK => ?_) AllReadyH.nil
          rw [if_pos (by rfl)]
          refine wp_append_at19 _ (.tmp 51) (.tmp 59) 29 rfl B 61 i0 _ 3 24 Try.underlying29 hi0 hz0 hzs hzb rfl (by decide) (.slice va ss.length vc) ss.length (flatG s3C ss) rfl (own_below HD3.out.row (below_drG hbZ) (Nat.le_refl _)) ⟨W3.heap.size, 0, none⟩ 1 1 (s3C ⟨k, p, t.last + 1⟩) rfl rfl HnZ.out (s3_one _) (by unfold maxLen; omega) (by omega) (Nat.le_trans hB3 hbZ.size) ?_
          intro v8 w8 hown hgr hat
          have hch : Chg W3 w8 (fun j => (Value.slice va ss.length vc).ownBlock = some j) := (Chg.of_below (S := fun j => (Value.slice va ss.length vc).ownBlock = some j) (below_drG hbZ)).trans (Chg.of_grown' hgr (fun k e => e)) (fun _ _ e => e)
          have hn8 : v8.ownBlock = (Value.slice va ss.length vc).ownBlock ∨ ∃ j, v8.ownBlock = some j ∧ W3.heap.size ≤ j := by
            rcases hat with g | g
            · exact .inl g
            · exact .inr ⟨_, g, hbZ.size⟩
          have HM := keepG (djmore (m := m) HD3.out HREL.out HLEN.out rfl HSL.out hown hch hn8)
          have hp8 := HD3.out.hp.chg hch (fun e => HD3.out.apart e)
          have c1w := hp8.cell (j := 1) rfl
          have c2w := hp8.cell (j := 2) rfl
          have f2w := hp8.frozen 2
          have HP8 := keepG hp8
          obtain ⟨va8, vc8, rfl⟩ := own_shape hown
          refine hK.out _ _ c1w (fun hHeld => ?_)
          clear hK KK hown hgr hat hch hn8 hp8
          try simp only [Act.put, List.getElem_toArray, List.getElem_cons_zero, List.getElem_cons_succ, List.setIfInBounds_toArray, List.set_cons_zero, List.set_cons_succ]
          refine tkGo [14, 15] ?_
          repeat (refine tkOne (v := ?_) rfl (by kernel_rfl) (by kernel_rfl) (by kernel_rfl) (fun _ _ _ h => h) (by assumption) (by rfl) ?_ ?_; rotate_left; (intro wy hSw; (try dsimp only at hSw); go_simp; (first | done | with_reducible rfl)); try simp only [Act.put, List.getElem_toArray, List.getElem_cons_zero, List.getElem_cons_succ, List.setIfInBounds_toArray, List.set_cons_zero, List.set_cons_succ])
          refine tkEnd ?_
          refine wpAnyH_ready (rs := [16]) (by kernel_rfl) (by simp) ?_
          refine AllReadyH.cons rfl (fun KK hK => ?_) AllReadyH.nil
          rw [if_pos (by rfl)]
          go_simp
          refine hK.out _ _ (by have := HM.out.1.cell1.1; exact this) (fun hHeld => ?_)
          clear hK KK
          try simp only [Act.put, List.getElem_toArray, List.getElem_cons_zero, List.getElem_cons_succ, List.setIfInBounds_toArray, List.set_cons_zero, List.set_cons_succ]
          refine wpAnyH_done (by kernel_rfl) ?_ _
          clear hHeld
          have c1e := HM.out.1.cell1.1
          have he : (t.pub k p).last = t.last + 1 := rfl
          rw [he] at c1e
          go_wp2
          go_ret2
          rw [← HT'.out]
          exact ⟨rfl, _, HM.out.1, HC3.out.trans HM.out.2⟩
      | true =>
        go_wp2_with (first
          | (go_at_call 12; go_must (refine (HJ.out.current hk hm k HC).mono ?_); rintro e w2 ⟨rfl, hb2⟩; go_must (have HB2 := keepG hb2; have HK2 := keepG (HK.out.below hb2); have c1 := HK2.out.hp.cell (j := 1) rfl; have f1 := HK2.out.hp.frozen 1; obtain ⟨W3, HW3⟩ : ∃ W3, Hid (w2.setCell ⟨b, 1, none⟩ (.int .i64 (t.last + 1)) = W3) := ⟨_, rfl⟩; clear hb2))
          | (rw [HW3.out]))
        have HD3 : Hid (Dt W3 B b (.slice va ss.length vc) ⟨t.last + 1, t.at'⟩ ss) := by rw [← HW3.out]; exact HK2.out.setLast (t.last + 1)
        have HC3 : Hid (Nx w W3 F (bkS b (.slice va ss.length vc))) := by
          rw [← HW3.out]
          have hF := HFE.out
          subst hF
          exact (Nx.below HB2.out).trans ⟨(Chg.set w2 b 1 _).mono (fun k e => .inl e), fun k hk => .inl hk⟩
        have hB3 : B ≤ W3.heap.size := Nat.le_trans hB HC3.out.chg.size
        have c1 := HD3.out.hp.cell (j := 1) rfl
        have c2 := HD3.out.hp.cell (j := 2) rfl
        have c2d : W3.drew.cell? ⟨b, 2, none⟩ = some (.slice va ss.length vc) := c2
        obtain ⟨Z, HZ, hbZ, HnZ⟩ : ∃ Z, Hid (W3.alloc (.cells #[.int .i64 k, .int .i64 p, .int .i64 (t.last + 1)] 61) = Z) ∧ Below W3.heap.size W3 Z ∧ Hid (∀ j u, (s3C ⟨k, p, t.last + 1⟩)[j]? = some u → Z.cell? ((⟨W3.heap.size, 0, none⟩ : Addr).add j) = some u) := ⟨_, rfl, below_allocG _ _, cells_new W3 (s3C ⟨k, p, t.last + 1⟩) _ _ rfl⟩
        have c1Z := (HD3.out.below hbZ).hp.cell (j := 1) rfl
        have c2Z := (HD3.out.below hbZ).hp.cell (j := 2) rfl
        refine wp_region_held_drew (S := fun w' => w'.cell? ⟨b, 1, none⟩ = some (.int .i64 (t.last + 1))) (by kernel_rfl) c1 (fun hHeld => ?_)
        refine tkGo [0, 1, 2, 3, 5, 6, 7, 8, 9, 10, 11] ?_
        repeat (refine tkOne (v := ?_) rfl (by kernel_rfl) (by kernel_rfl) (by kernel_rfl) (fun _ _ _ h => h) (by assumption) (by rfl) ?_ ?_; rotate_left; (intro wy hSw; (try dsimp only at hSw); go_simp; (first | done | with_reducible rfl)); try simp only [Act.put, List.getElem_toArray, List.getElem_cons_zero, List.getElem_cons_succ, List.setIfInBounds_toArray, List.set_cons_zero, List.set_cons_succ])
        refine tkEnd ?_
        refine wpAnyH_ready (rs := [4, 12]) (by kernel_rfl) (by simp) ?_
        refine AllReadyH.cons rfl (fun KK hK => ?_) (AllReadyH.cons rfl (fun KK hK => ?_) AllReadyH.nil) <;> rw [if_pos (by rfl)]
        · go_simp
          refine hK.out _ _ c1 (fun hHeld => ?_)
          clear hK KK
          try simp only [Act.put, List.getElem_toArray, List.getElem_cons_zero, List.getElem_cons_succ, List.setIfInBounds_toArray, List.set_cons_zero, List.set_cons_succ]
          refine wpAnyH_ready (rs := [12]) (by kernel_rfl) (by simp) ?_
          refine AllReadyH.cons rfl (fun KK hK => ?_) AllReadyH.nil
          rw [if_pos (by rfl)]
          go_simp
          rw [HZ.out]
          refine hK.out _ _ c1Z (fun hHeld => ?_)
          clear hK KK
          try simp only [Act.put, List.getElem_toArray, List.getElem_cons_zero, List.getElem_cons_succ, List.setIfInBounds_toArray, List.set_cons_zero, List.set_cons_succ]
          refine wpAnyH_ready (rs := [13]) (by kernel_rfl) (by simp) ?_
          refine AllReadyH.cons rfl (fun KK hK => ?_) AllReadyH.nil
          rw [if_pos (by rfl)]
          refine wp_append_at19 _ (.tmp 51) (.tmp 59) 29 rfl B 61 i0 _ 3 24 Try.underlying29 hi0 hz0 hzs hzb rfl (by decide) (.slice va ss.length vc) ss.length (flatG s3C ss) rfl (own_below HD3.out.row (below_drG hbZ) (Nat.le_refl _)) ⟨W3.heap.size, 0, none⟩ 1 1 (s3C ⟨k, p, t.last + 1⟩) rfl rfl HnZ.out (s3_one _) (by unfold maxLen; omega) (by omega) (Nat.le_trans hB3 hbZ.size) ?_
          intro v8 w8 hown hgr hat
          have hch : Chg W3 w8 (fun j => (Value.slice va ss.length vc).ownBlock = some j) := (Chg.of_below (S := fun j => (Value.slice va ss.length vc).ownBlock = some j) (below_drG hbZ)).trans (Chg.of_grown' hgr (fun k e => e)) (fun _ _ e => e)
          have hn8 : v8.ownBlock = (Value.slice va ss.length vc).ownBlock ∨ ∃ j, v8.ownBlock = some j ∧ W3.heap.size ≤ j := by
            rcases hat with g | g
            · exact .inl g
            · exact .inr ⟨_, g, hbZ.size⟩
          have HM := keepG (djmore (m := m) HD3.out HREL.out HLEN.out rfl HSL.out hown hch hn8)
          have hp8 := HD3.out.hp.chg hch (fun e => HD3.out.apart e)
          have c1w := hp8.cell (j := 1) rfl
          have c2w := hp8.cell (j := 2) rfl
          have f2w := hp8.frozen 2
          have HP8 := keepG hp8
          obtain ⟨va8, vc8, rfl⟩ := own_shape hown
          refine hK.out _ _ c1w (fun hHeld => ?_)
          clear hK KK hown hgr hat hch hn8 hp8
          try simp only [Act.put, List.getElem_toArray, List.getElem_cons_zero, List.getElem_cons_succ, List.setIfInBounds_toArray, List.set_cons_zero, List.set_cons_succ]
          refine tkGo [14, 15] ?_
          repeat (refine tkOne (v := ?_) rfl (by kernel_rfl) (by kernel_rfl) (by kernel_rfl) (fun _ _ _ h => h) (by assumption) (by rfl) ?_ ?_; rotate_left; (intro wy hSw; (try dsimp only at hSw); go_simp; (first | done | with_reducible rfl)); try simp only [Act.put, List.getElem_toArray, List.getElem_cons_zero, List.getElem_cons_succ, List.setIfInBounds_toArray, List.set_cons_zero, List.set_cons_succ])
          refine tkEnd ?_
          refine wpAnyH_ready (rs := [16]) (by kernel_rfl) (by simp) ?_
          refine AllReadyH.cons rfl (fun KK hK => ?_) AllReadyH.nil
          rw [if_pos (by rfl)]
          go_simp
          refine hK.out _ _ (by have := HM.out.1.cell1.1; exact this) (fun hHeld => ?_)
          clear hK KK
          try simp only [Act.put, List.getElem_toArray, List.getElem_cons_zero, List.getElem_cons_succ, List.setIfInBounds_toArray, List.set_cons_zero, List.set_cons_succ]
          refine wpAnyH_done (by kernel_rfl) ?_ _
          clear hHeld
          have c1e := HM.out.1.cell1.1
          have he : (t.pub k p).last = t.last + 1 := rfl
          rw [he] at c1e
          go_wp2
          go_ret2
          rw [← HT'.out]
          exact ⟨rfl, _, HM.out.1, HC3.out.trans HM.out.2⟩
        · go_simp
          rw [HZ.out]
          refine hK.out _ _ c1Z (fun hHeld => ?_)
          clear hK KK
          try simp only [Act.put, List.getElem_toArray, List.getElem_cons_zero, List.getElem_cons_succ, List.setIfInBounds_toArray, List.set_cons_zero, List.set_cons_succ]
          refine wpAnyH_ready (rs := [4]) (by kernel_rfl) (by simp) ?_
          refine AllReadyH.cons rfl (fun KK hK => ?_) AllReadyH.nil
          rw [if_pos (by rfl)]
          go_simp
          refine hK.out _ _ c1Z (fun hHeld => ?_)
          clear hK KK
          try simp only [Act.put, List.getElem_toArray, List.getElem_cons_zero, List.getElem_cons_succ, List.setIfInBounds_toArray, List.set_cons_zero, List.set_cons_succ]
          refine wpAnyH_ready (rs := [13]) (by kernel_rfl) (by simp) ?_
          refine AllReadyH.cons rfl (fun KK hK => ?_) AllReadyH.nil
          rw [if_pos (by rfl)]
          refine wp_append_at19 _ (.tmp 51) (.tmp 59) 29 rfl B 61 i0 _ 3 24 Try.underlying29 hi0 hz0 hzs hzb rfl (by decide) (.slice va ss.length vc) ss.length (flatG s3C ss) rfl (own_below HD3.out.row (below_drG hbZ) (Nat.le_refl _)) ⟨W3.heap.size, 0, none⟩ 1 1 (s3C ⟨k, p, t.last + 1⟩) rfl rfl HnZ.out (s3_one _) (by unfold maxLen; omega) (by omega) (Nat.le_trans hB3 hbZ.size) ?_
          intro v8 w8 hown hgr hat
          have hch : Chg W3 w8 (fun j => (Value.slice va ss.length vc).ownBlock = some j) := (Chg.of_below (S := fun j => (Value.slice va ss.length vc).ownBlock = some j) (below_drG hbZ)).trans (Chg.of_grown' hgr (fun k e => e)) (fun _ _ e => e)
          have hn8 : v8.ownBlock = (Value.slice va ss.length vc).ownBlock ∨ ∃ j, v8.ownBlock = some j ∧ W3.heap.size ≤ j := by
            rcases hat with g | g
            · exact .inl g
            · exact .inr ⟨_, g, hbZ.size⟩
          have HM := keepG (djmore (m := m) HD3.out HREL.out HLEN.out rfl HSL.out hown hch hn8)
          have hp8 := HD3.out.hp.chg hch (fun e => HD3.out.apart e)
          have c1w := hp8.cell (j := 1) rfl
          have c2w := hp8.cell (j := 2) rfl
          have f2w := hp8.frozen 2
          have HP8 := keepG hp8
          obtain ⟨va8, vc8, rfl⟩ := own_shape hown
          refine hK.out _ _ c1w (fun hHeld => ?_)
          clear hK KK hown hgr hat hch hn8 hp8
          try simp only [Act.put, List.getElem_toArray, List.getElem_cons_zero, List.getElem_cons_succ, List.setIfInBounds_toArray, List.set_cons_zero, List.set_cons_succ]
          refine tkGo [14, 15] ?_
          repeat (refine tkOne (v := ?_) rfl (by kernel_rfl) (by kernel_rfl) (by kernel_rfl) (fun _ _ _ h => h) (by assumption) (by rfl) ?_ ?_; rotate_left; (intro wy hSw; (try dsimp only at hSw); go_simp; (first | done | with_reducible rfl)); try simp only [Act.put, List.getElem_toArray, List.getElem_cons_zero, List.getElem_cons_succ, List.setIfInBounds_toArray, List.set_cons_zero, List.set_cons_succ])
          refine tkEnd ?_
          refine wpAnyH_ready (rs := [16]) (by kernel_rfl) (by simp) ?_
          refine AllReadyH.cons rfl (fun KK hK => ?_) AllReadyH.nil
          rw [if_pos (by rfl)]
          go_simp
          refine hK.out _ _ (by have := HM.out.1.cell1.1; exact this) (fun hHeld => ?_)
          clear hK KK
          try simp only [Act.put, List.getElem_toArray, List.getElem_cons_zero, List.getElem_cons_succ, List.setIfInBounds_toArray, List.set_cons_zero, List.set_cons_succ]
          refine wpAnyH_done (by kernel_rfl) ?_ _
          clear hHeld
          have c1e := HM.out.1.cell1.1
          have he : (t.pub k p).last = t.last + 1 := rfl
          rw [he] at c1e
          go_wp2
          go_ret2
          rw [← HT'.out]
          exact ⟨rfl, _, HM.out.1, HC3.out.trans HM.out.2⟩
    · have hq := HQ3.out
      rw [if_neg hrs] at hq
      injection hq with e1 hq
      injection hq with e2 e3
      subst e1 e2 e3
      clear HQ3
      go_enter Try.func17, Try.ntmps17
      cases sw with
      | false =>
        obtain rfl : r = true := by cases r with | true => rfl | false => exact absurd rfl hrs
        go_wp2_with (go_at_call 12; go_must (refine (HJ.out.current hk hm k HC).mono ?_); rintro e w2 ⟨rfl, hb2⟩; go_must (have HB2 := keepG hb2; clear hb2))
        go_ret2
        exact ⟨rfl, _, HD0.out.below HB2.out, Nx.below HB2.out⟩
      | true =>
        obtain rfl : r = false := by cases r with | false => rfl | true => exact absurd rfl hrs
        go_wp2_with (go_at_call 12; go_must (refine (HJ.out.current hk hm k HC).mono ?_); rintro e w2 ⟨rfl, hb2⟩; go_must (have HB2 := keepG hb2; clear hb2))
        go_ret2
        exact ⟨rfl, _, HD0.out.below HB2.out, Nx.below HB2.out⟩
end
end Go.Proofs.Ytknijloificpmaa
