
/-
  The document's clock of layer 17: Leave. Condition: it lies where the pointer says, its row is the call's own; what is handed in lies elsewhere.
-/
import Derived.Test.YtkcbiiiakkpegaaTk
import Derived.Test.YtkcbiiiakkpegaaE17DB
import Derived.Test.YtkcbiiiakkpegaaE17LC
namespace Go.Proofs.Ytkcbiiiakkpegaa
open Go.RowKit
set_option linter.unusedVariables false
set_option linter.unusedSimpArgs false
set_option maxRecDepth 100000
/-- Appending to a row of the call's own, as one operation: it lies where it lay or in new memory. -/
theorem wp_append_at17 {P : Program} (w : World) {o : Oper} {a : Act} {K : Act → World → Prop} {Q : Exit → Act → World → Prop} (s x : Operand) (t : TypeId)
    (ho : o.op = .call { callee := .builtin .append, args := #[s, x], argTypes := #[t, t] })
    (base : Nat) (e : TypeId) (i : TypeInfo) (z : Value) (size bytes : Nat) (ht : P.underlying t = some (.slice e)) (hi : P.info? e = some i) (hz : i.zero = some z)
    (hsize : i.size = size) (hby : i.bytes = bytes) (hzs : z.cells.size = size) (hsz : 0 < size)
    (v : Value) (n : Nat) (xs : List Value) (hs : a.eval s = v) (hown : w.ownsRow base e size v n xs)
    (ad : Addr) (m c : Nat) (news : List Value) (hx : a.eval x = .slice (some ad) m c) (hl : news.length = m * size) (hnews : ∀ j u, news[j]? = some u → w.cell? (ad.add j) = some u) (h1 : ∀ u ∈ news, u.oneCell' = true)
    (h63 : n + m ≤ maxLen) (hbytes : (n + m) * bytes ≤ 140737488355328) (hbase : base ≤ w.heap.size)
    (h : ∀ v' w', w'.ownsRow base e size v' (n + m) (xs ++ news) → w.grownBy w' v.ownBlock → (v'.ownBlock = v.ownBlock ∨ v'.ownBlock = some w.heap.size) → K (a.put o.dst v') w') : Oper.wp P o a w K Q := by
  obtain ⟨v', w', hr, h2, h3, h4, h5⟩ := run_append_own_at (P := P) w base t o.type e i z size bytes ht hi hz hsize hby hzs hsz v n xs hown ad m c news hl hnews h1 h63 hbytes hbase
  unfold Oper.wp execOp
  simp only [ho, resolve, invoke, builtin, Sem.run_bind, Sem.run_pure, Result.andThen_ok, List.map_toArray, List.map_cons, List.map_nil, hs, hx, hr]
  exact h v' w' h2 h3 h5
section
variable {w w' : World} {B b m : Nat} {F G : Ft} {c : Ck}
theorem Dc.mono (h : Dc w B b F c m) {m' : Nat} (hm : m ≤ m') : Dc w B b F c m' := by
  obtain ⟨v, ss, h1, h2, h3⟩ := h.ex
  exact ⟨v, ss, h1, by omega, h3⟩
theorem dmore2 {v v' : Value} {ss : List St} {s : St} {c' : Ck} {w1 : World} (h : Dk w B b v c ss) (hr : Rel c' (ss ++ [s])) (hl : c'.ins.length = c.ins.length) (hm : ss.length ≤ m) (ho : w1.ownsRow B 52 2 v' (ss.length + 1) (flatG stC ss ++ stC s)) (hc : Chg w w1 (fun k => v.ownBlock = some k)) (hn : v'.ownBlock = v.ownBlock ∨ ∃ k, v'.ownBlock = some k ∧ w.heap.size ≤ k) :
    Dc (w1.setCell ⟨b, 1, none⟩ v') B b (bkS b v') c' (m + 1) ∧ Nx w (w1.setCell ⟨b, 1, none⟩ v') (bkS b v) (bkS b v') := by
  have hp1 := h.hp.chg hc (fun e => h.apart e)
  have hch : Chg w (w1.setCell ⟨b, 1, none⟩ v') (bkS b v) := (hc.mono (fun k e => .inr e)).trans (Chg.set w1 b 1 v') (fun k _ e => .inl e)
  refine ⟨⟨v', ss ++ [s], ⟨?_, ?_, hr⟩, by simp; exact hm, rfl⟩, hch, fun k hk => ?_⟩
  · have := hp1.set 1 v'
    rw [hl]
    exact this
  · exact own_chg (own_moreG ho) (Chg.set w1 b 1 v') (fun k hk e => own_type10 ho hp1 (by decide) (by rw [hk, e]))
  · rcases hk with e | e
    · exact .inl (.inl e)
    · rcases hn with g | ⟨j, g, hj⟩
      · exact .inl (.inr (by rw [← g]; exact e))
      · rw [g] at e
        have := Option.some.inj e
        exact .inr (by omega)
/-- The cells of a slice of numbers, one by one. -/
theorem Sees.at {k : IntKind} {a : Option Addr} {n cap : Nat} {xs : List Int} (h : Sees k w (.slice a n cap) xs) {j : Nat} (hj : j < xs.length) : ∃ p off, a = some ⟨p, off, none⟩ ∧ ∀ i, i < xs.length → w.cell? ⟨p, off + i, none⟩ = some (.int k (xs.getD i 0)) := by
  obtain ⟨a', cap', ev, _, _, _, _, hc⟩ := h
  simp only [Value.slice.injEq] at ev
  obtain ⟨rfl, _, rfl⟩ := ev
  obtain ⟨p, off, rfl, _, hat⟩ := hc (fun e => by rw [e] at hj; simp at hj)
  exact ⟨p, off, rfl, hat⟩
theorem not_in_take {xs : List Int} {x : Int} {k : Nat} (hk : k < xs.length) (h1 : ¬ x ∈ xs.take k) (h2 : xs.getD k 0 ≠ x) : ¬ x ∈ xs.take (k + 1) := by
  rw [take_at xs k hk, List.mem_append]
  rintro (e | e)
  · exact h1 e
  · exact h2 (List.mem_singleton.1 e).symm
set_option maxHeartbeats 12800000 in
theorem dleave (h : Dc w B b F c m) (hk : c.Ok) (hB : B ≤ w.heap.size) (hm : m ≤ 10000) {v : Value} {ws : List Int} (hs : Sees .i64 w v ws) (hap : ws ≠ [] → Apt F (ftV v)) {E : Int} {c' : Ck} (HQ : Hid (c.leave ws = (E, c'))) : Calls Try.prog 12 #[.pointer (some ⟨b, 0, none⟩), v] w fun e w' => e = .returned (.int .i64 E) ∧ ∃ F', Dc w' B b F' c' (m + 4) ∧ Nx w w' F F' := by
  obtain ⟨i0, hi0, hz0, hzs, hzb⟩ := info_parts infoSt
  have hl4 := hk.len.2
  have HH := keepG (fun (wr : World) (hb : Below w.heap.size w wr) => h.below hb)
  have HS := keepG (fun (wr : World) (hb : Below w.heap.size w wr) => hs.below hb (Nat.le_refl _))
  have HS2 := keepG (fun (wr : World) (hc : Chg w wr F) => hs.chg hc (fun hne j hj e => hap hne j e hj))
  obtain ⟨a, cap, rfl, hlc, hmx, _⟩ := hs
  unfold maxLen at hmx
  have hq := HQ.out
  unfold Ck.leave at hq
  have HQ2 := keepG hq
  clear h HQ hap hq
  go_enter Try.func12, Try.ntmps12
  go_wp2
  go_loopw [5] (fun i wr => ∃ j : Nat, j ≤ ws.length ∧ i = .int .i64 j ∧ Hid (c.once (ws.take j) = true) ∧ Hid (Below w.heap.size w wr)) (fun i _ => ws.length - (intOf i).toNat)
  case atStart => exact ⟨0, by omega, rfl, rfl, Below.refl _ _⟩
  case round =>
    obtain ⟨j, hj, rfl, HA, HB⟩ := hrel
    rename World => wr
    have HD := keepG (HH.out wr HB.out)
    have c0 := HD.out.cell
    by_cases hlt : j < ws.length
    · have hltI : (j : Int) < ws.length := by omega
      obtain ⟨p, off, ev, hat⟩ := (HS.out wr HB.out).at hlt
      subst ev
      have d0 := hat j hlt
      have ht := c.once_take hlt
      obtain ⟨x, HX⟩ : ∃ x, Hid (ws.getD j 0 = x) := ⟨_, rfl⟩
      rw [HX.out] at d0 ht
      rw [HA.out, Bool.true_and] at ht
      have HT := keepG ht
      have HAT := keepG hat
      clear ht hat
      have FAIL : Hid (c.once (ws.take (j + 1)) = false → E = 2 ∧ c = c') := by
        intro hf
        have hq := HQ2.out
        rw [if_pos (Ck.once_no hf)] at hq
        injection hq with e1 e2
        exact ⟨e1.symm, e2⟩
      by_cases hx0 : x < 0
      · have hf : c.has x = false := by simp [Ck.has]; omega
        obtain ⟨rfl, rfl⟩ := FAIL.out (by rw [HT.out, hf]; rfl)
        have hx0b : decide (x < 0) = true := by simpa using hx0
        go_wp2
        refine wp_region_held_drew (S := fun w' => w'.cell? ⟨p, off + j, none⟩ = some (.int .i64 x)) (by kernel_rfl) d0 (fun hHeld => ?_)
        refine tkGo [0, 1, 2, 3, 4, 5] ?_
        repeat (refine tkOne (v := ?_) rfl (by kernel_rfl) (by kernel_rfl) (by kernel_rfl) (fun _ _ _ h => h) (by assumption) (by rfl) ?_ ?_; rotate_left; (intro wy hSw; (try dsimp only at hSw); go_simp; (first | done | with_reducible rfl)); try simp only [Act.put, List.getElem_toArray, List.getElem_cons_zero, List.getElem_cons_succ, List.setIfInBounds_toArray, List.set_cons_zero, List.set_cons_succ])
        refine tkEnd ?_
        refine wpAnyH_take (i := 6) (v := undef) rfl (by kernel_rfl) (by kernel_rfl) (by kernel_rfl) (fun _ _ _ h => h) (Or.inr ⟨by rfl, rfl⟩) (by assumption) ?_
        try simp only [Act.put, List.getElem_toArray, List.getElem_cons_zero, List.getElem_cons_succ, List.setIfInBounds_toArray, List.set_cons_zero, List.set_cons_succ]
        refine wpAnyH_take (i := 7) (v := undef) rfl (by kernel_rfl) (by kernel_rfl) (by kernel_rfl) (fun _ _ _ h => h) (Or.inr ⟨by rfl, rfl⟩) (by assumption) ?_
        try simp only [Act.put, List.getElem_toArray, List.getElem_cons_zero, List.getElem_cons_succ, List.setIfInBounds_toArray, List.set_cons_zero, List.set_cons_succ]
        refine wpAnyH_take (i := 8) (v := undef) rfl (by kernel_rfl) (by kernel_rfl) (by kernel_rfl) (fun _ _ _ h => h) (Or.inr ⟨by rfl, rfl⟩) (by assumption) ?_
        try simp only [Act.put, List.getElem_toArray, List.getElem_cons_zero, List.getElem_cons_succ, List.setIfInBounds_toArray, List.set_cons_zero, List.set_cons_succ]
        refine wpAnyH_take (i := 9) (v := undef) rfl (by kernel_rfl) (by kernel_rfl) (by kernel_rfl) (fun _ _ _ h => h) (Or.inr ⟨by rfl, rfl⟩) (by assumption) ?_
        try simp only [Act.put, List.getElem_toArray, List.getElem_cons_zero, List.getElem_cons_succ, List.setIfInBounds_toArray, List.set_cons_zero, List.set_cons_succ]
        refine wpAnyH_take (i := 10) (v := undef) rfl (by kernel_rfl) (by kernel_rfl) (by kernel_rfl) (fun _ _ _ h => h) (Or.inr ⟨by rfl, rfl⟩) (by assumption) ?_
        try simp only [Act.put, List.getElem_toArray, List.getElem_cons_zero, List.getElem_cons_succ, List.setIfInBounds_toArray, List.set_cons_zero, List.set_cons_succ]
        refine wpAnyH_take (i := 11) (v := undef) rfl (by kernel_rfl) (by kernel_rfl) (by kernel_rfl) (fun _ _ _ h => h) (Or.inr ⟨by rfl, rfl⟩) (by assumption) ?_
        try simp only [Act.put, List.getElem_toArray, List.getElem_cons_zero, List.getElem_cons_succ, List.setIfInBounds_toArray, List.set_cons_zero, List.set_cons_succ]
        refine wpAnyH_take (i := 12) (v := undef) rfl (by kernel_rfl) (by kernel_rfl) (by kernel_rfl) (fun _ _ _ h => h) (Or.inr ⟨by rfl, rfl⟩) (by assumption) ?_
        try simp only [Act.put, List.getElem_toArray, List.getElem_cons_zero, List.getElem_cons_succ, List.setIfInBounds_toArray, List.set_cons_zero, List.set_cons_succ]
        refine wpAnyH_take (i := 13) (v := undef) rfl (by kernel_rfl) (by kernel_rfl) (by kernel_rfl) (fun _ _ _ h => h) (Or.inr ⟨by rfl, rfl⟩) (by assumption) ?_
        try simp only [Act.put, List.getElem_toArray, List.getElem_cons_zero, List.getElem_cons_succ, List.setIfInBounds_toArray, List.set_cons_zero, List.set_cons_succ]
        refine wpAnyH_take (i := 14) (v := undef) rfl (by kernel_rfl) (by kernel_rfl) (by kernel_rfl) (fun _ _ _ h => h) (Or.inr ⟨by rfl, rfl⟩) (by assumption) ?_
        try simp only [Act.put, List.getElem_toArray, List.getElem_cons_zero, List.getElem_cons_succ, List.setIfInBounds_toArray, List.set_cons_zero, List.set_cons_succ]
        refine tkGo [15] ?_
        repeat (refine tkOne (v := ?_) rfl (by kernel_rfl) (by kernel_rfl) (by kernel_rfl) (fun _ _ _ h => h) (by assumption) (by rfl) ?_ ?_; rotate_left; (intro wy hSw; (try dsimp only at hSw); go_simp; (first | done | with_reducible rfl)); try simp only [Act.put, List.getElem_toArray, List.getElem_cons_zero, List.getElem_cons_succ, List.setIfInBounds_toArray, List.set_cons_zero, List.set_cons_succ])
        refine tkEnd ?_
        refine wpAnyH_done (by kernel_rfl) ?_ _
        clear hHeld
        go_wp2
        go_ret
        exact ⟨rfl, F, (HH.out _ (below_drG HB.out)).mono (by omega), Nx.below (below_drG HB.out)⟩
      · have hx0b : decide (x < 0) = false := by simpa using hx0
        by_cases hx1 : (c.ins.length : Int) ≤ x
        · have hf : c.has x = false := by simp [Ck.has]; omega
          obtain ⟨rfl, rfl⟩ := FAIL.out (by rw [HT.out, hf]; rfl)
          go_wp2
          refine wp_region_held_drew (S := fun w' => w'.cell? ⟨p, off + j, none⟩ = some (.int .i64 x) ∧ w'.cell? ⟨b, 0, none⟩ = some (.int .i64 c.ins.length)) (by kernel_rfl) ⟨d0, c0⟩ (fun hHeld => ?_)
          refine tkGo [0, 1, 2, 3, 4, 5, 6, 7, 8, 9, 10, 11, 12, 13, 14, 15] ?_
          repeat (refine tkOne (v := ?_) rfl (by kernel_rfl) (by kernel_rfl) (by kernel_rfl) (fun _ _ _ h => h) (by assumption) (by rfl) ?_ ?_; rotate_left; (intro wy hSw; (try dsimp only at hSw); go_simp; (first | done | with_reducible rfl)); try simp only [Act.put, List.getElem_toArray, List.getElem_cons_zero, List.getElem_cons_succ, List.setIfInBounds_toArray, List.set_cons_zero, List.set_cons_succ])
          refine tkEnd ?_
          refine wpAnyH_done (by kernel_rfl) ?_ _
          clear hHeld
          go_wp2
          go_ret
          exact ⟨rfl, F, (HH.out _ (below_drG HB.out)).mono (by omega), Nx.below (below_drG HB.out)⟩
        · have hh : c.has x = true := by simp [Ck.has]; omega
          go_wp2
          refine wp_region_held_drew (S := fun w' => w'.cell? ⟨p, off + j, none⟩ = some (.int .i64 x) ∧ w'.cell? ⟨b, 0, none⟩ = some (.int .i64 c.ins.length)) (by kernel_rfl) ⟨d0, c0⟩ (fun hHeld => ?_)
          refine tkGo [0, 1, 2, 3, 4, 5, 6, 7, 8, 9, 10, 11, 12, 13, 14, 15] ?_
          repeat (refine tkOne (v := ?_) rfl (by kernel_rfl) (by kernel_rfl) (by kernel_rfl) (fun _ _ _ h => h) (by assumption) (by rfl) ?_ ?_; rotate_left; (intro wy hSw; (try dsimp only at hSw); go_simp; (first | done | with_reducible rfl)); try simp only [Act.put, List.getElem_toArray, List.getElem_cons_zero, List.getElem_cons_succ, List.setIfInBounds_toArray, List.set_cons_zero, List.set_cons_succ])
          refine tkEnd ?_
          refine wpAnyH_done (by kernel_rfl) ?_ _
          clear hHeld
          have HBd := keepG (below_drG HB.out)
          go_wp2
          go_loopw [6] (fun i wq => ∃ q : Nat, q ≤ j ∧ i = .int .i64 q ∧ Hid (¬ x ∈ ws.take q) ∧ Hid (Below w.heap.size w wq)) (fun i _ => j - (intOf i).toNat)
          case atStart => exact ⟨0, by omega, rfl, by show ¬ _; simp, HBd.out⟩
          case round =>
            obtain ⟨q, hq, rfl, HNI, HBq⟩ := hrel
            rename World => wq
            by_cases hqj : q < j
            · have hqjI : (q : Int) < j := by omega
              have hql : q < ws.length := by omega
              have hqlI : (q : Int) < ws.length := by omega
              obtain ⟨p', off', ev', hat'⟩ := (HS.out wq HBq.out).at hlt
              simp only [Option.some.injEq, Addr.mk.injEq, and_true] at ev'
              obtain ⟨rfl, rfl⟩ := ev'
              have e0 := hat' q hql
              have e1 := hat' j hlt
              rw [HX.out] at e1
              obtain ⟨y, HYQ⟩ : ∃ y, Hid (ws.getD q 0 = y) := ⟨_, rfl⟩
              rw [HYQ.out] at e0
              clear hat'
              have HBd2 := keepG (below_drG HBq.out)
              by_cases hyx : y = x
              · subst hyx
                have hmem : y ∈ ws.take j := by
                  have h5 : y ∈ ws.take (q + 1) := by rw [take_at ws q hql, HYQ.out]; simp
                  have h6 : ws.take (q + 1) = (ws.take j).take (q + 1) := by rw [List.take_take, Nat.min_eq_left (by omega)]
                  rw [h6] at h5
                  exact List.mem_of_mem_take h5
                obtain ⟨rfl, rfl⟩ := FAIL.out (by rw [HT.out]; simp [hmem])
                clear hmem
                go_wp2
                refine wp_region_held_drew (S := fun w' => w'.cell? ⟨p, off + q, none⟩ = some (.int .i64 y) ∧ w'.cell? ⟨p, off + j, none⟩ = some (.int .i64 y)) (by kernel_rfl) ⟨e0, e1⟩ (fun hHeld => ?_)
                refine tkGo [0, 1, 2, 3, 4, 5, 6, 7, 8] ?_
                repeat (refine tkOne (v := ?_) rfl (by kernel_rfl) (by kernel_rfl) (by kernel_rfl) (fun _ _ _ h => h) (by assumption) (by rfl) ?_ ?_; rotate_left; (intro wy hSw; (try dsimp only at hSw); go_simp; (first | done | with_reducible rfl)); try simp only [Act.put, List.getElem_toArray, List.getElem_cons_zero, List.getElem_cons_succ, List.setIfInBounds_toArray, List.set_cons_zero, List.set_cons_succ])
                refine tkEnd ?_
                refine wpAnyH_done (by kernel_rfl) ?_ _
                clear hHeld
                go_wp2
                go_ret
                exact ⟨rfl, F, (HH.out _ HBd2.out).mono (by omega), Nx.below HBd2.out⟩
              · have hyb : (y == x) = false := by simpa using hyx
                have HNI2 := keepG (not_in_take hql HNI.out (by rw [HYQ.out]; exact hyx))
                go_wp2
                refine wp_region_held_drew (S := fun w' => w'.cell? ⟨p, off + q, none⟩ = some (.int .i64 y) ∧ w'.cell? ⟨p, off + j, none⟩ = some (.int .i64 x)) (by kernel_rfl) ⟨e0, e1⟩ (fun hHeld => ?_)
                refine tkGo [0, 1, 2, 3, 4, 5, 6, 7, 8] ?_
                repeat (refine tkOne (v := ?_) rfl (by kernel_rfl) (by kernel_rfl) (by kernel_rfl) (fun _ _ _ h => h) (by assumption) (by rfl) ?_ ?_; rotate_left; (intro wy hSw; (try dsimp only at hSw); go_simp; (first | done | with_reducible rfl)); try simp only [Act.put, List.getElem_toArray, List.getElem_cons_zero, List.getElem_cons_succ, List.setIfInBounds_toArray, List.set_cons_zero, List.set_cons_succ])
                refine tkEnd ?_
                refine wpAnyH_done (by kernel_rfl) ?_ _
                clear hHeld
                go_wp2
                go_roundw
                case rel => exact ⟨q + 1, by omega, by go_num, HNI2.out, HBd2.out⟩
                case measure => simp [intOf]; omega
            · have hqjI : ¬ (q : Int) < j := by omega
              have hqe : q = j := by omega
              have hni := HNI.out
              rw [hqe] at hni
              have HT2 : Hid (c.once (ws.take (j + 1)) = true) := by show _ = _; rw [HT.out, hh]; simp [hni]
              clear hqe hni
              go_wp2
              go_roundw
              case rel => exact ⟨j + 1, by omega, by go_num, HT2.out, HBq.out⟩
              case measure => simp [intOf]; omega
    · have hltI : ¬ (j : Int) < ws.length := by omega
      have ho : c.once ws = true := by
        have := HA.out
        rw [List.take_of_length_le (by omega)] at this
        exact this
      have hq := HQ2.out
      rw [if_neg (by rw [ho]; decide)] at hq
      have HQ3 := keepG hq
      have HON := keepG (Ck.once_parts ho).2
      have hwl := hk.once_le ho
      clear hq ho HA HQ2
      go_wp2
      go_loopw [7] (fun i wq => ∃ q : Nat, q ≤ ws.length ∧ i = .int .i64 q ∧ Hid ((ws.take q).all (fun x => decide (c.at x ≠ 0)) = true) ∧ Hid (Below w.heap.size w wq)) (fun i _ => ws.length - (intOf i).toNat)
      case atStart => exact ⟨0, by omega, rfl, rfl, HB.out⟩
      case round =>
        obtain ⟨q, hq, rfl, HA, HBq⟩ := hrel
        rename World => wq
        have HDq := keepG (HH.out wq HBq.out)
        by_cases hqt : q < ws.length
        · have hqtI : (q : Int) < ws.length := by omega
          obtain ⟨p, off, ev, hat⟩ := (HS.out wq HBq.out).at hqt
          subst ev
          have d0 := hat q hqt
          have ht := all_take (p := fun x => decide (c.at x ≠ 0)) hqt
          have hmem := getD_mem ws q hqt
          obtain ⟨x, HX⟩ : ∃ x, Hid (ws.getD q 0 = x) := ⟨_, rfl⟩
          rw [HX.out] at d0 ht hmem
          rw [HA.out, Bool.true_and] at ht
          have HT := keepG ht
          have HHX := keepG (HON.out _ hmem)
          obtain ⟨y, HY⟩ : ∃ y, Hid (c.at x = y) := ⟨_, rfl⟩
          rw [HY.out] at HT
          clear ht hmem hat
          by_cases hy : y = 0
          · subst hy
            have HRR : Hid (((0 : Int) != 0) = false) := rfl
            have hf : ws.all (fun x => decide (c.at x ≠ 0)) = false := all_no (j := q + 1) (by rw [HT.out]; rfl)
            have hq3 := HQ3.out
            rw [if_pos hf] at hq3
            injection hq3 with e1 e2
            subst e1 e2
            clear HQ3 hf
            go_wp2_with (go_at_call 22; go_must (refine (HDq.out.in hk (by omega) x HHX.out HY HRR).mono ?_); rintro e w2 ⟨rfl, hb2⟩; go_must (have HB2 := keepG (HBq.out.trans (hb2.mono HBq.out.size)); clear hb2))
            go_ret
            exact ⟨rfl, F, (HH.out _ HB2.out).mono (by omega), Nx.below HB2.out⟩
          · have HRR : Hid ((y != 0) = true) := by show _ = _; simpa using hy
            go_wp2_with (go_at_call 22; go_must (refine (HDq.out.in hk (by omega) x HHX.out HY HRR).mono ?_); rintro e w2 ⟨rfl, hb2⟩; go_must (have HB2 := keepG (HBq.out.trans (hb2.mono HBq.out.size)); clear hb2))
            go_roundw
            case rel => exact ⟨q + 1, by omega, by go_num, by show _ = _; rw [HT.out]; simpa using hy, HB2.out⟩
            case measure => simp [intOf]; omega
        · have hqtI : ¬ (q : Int) < ws.length := by omega
          have hf : ws.all (fun x => decide (c.at x ≠ 0)) = true := by
            have := HA.out
            rw [List.take_of_length_le (by omega)] at this
            exact this
          have hq3 := HQ3.out
          rw [if_neg (by rw [hf]; decide)] at hq3
          injection hq3 with e1 e2
          subst e1 e2
          clear HQ3 hf HA
          go_wp2
          go_loopw [10] (fun i wz => ∃ z : Nat, z ≤ ws.length ∧ i = .int .i64 z ∧ ∃ F1, Hid (Dc wz B b F1 ⟨c.now, clr c.ins (ws.take z)⟩ (m + z) ∧ Nx w wz F F1)) (fun i _ => ws.length - (intOf i).toNat)
          case atStart => exact ⟨0, by omega, rfl, F, HDq.out, Nx.below HBq.out⟩
          case round =>
            obtain ⟨z, hz, rfl, F1, HDz⟩ := hrel
            rename World => wz
            by_cases hzt : z < ws.length
            · have hztI : (z : Int) < ws.length := by omega
              obtain ⟨p, off, ev, hat⟩ := (HS2.out wz HDz.out.2.chg).at hzt
              subst ev
              have hT := take_at ws z hzt
              have hmem := getD_mem ws z hzt
              have HPA : Hid (∀ wx : World, Chg w wx F → wx.cell? ⟨p, off + z, none⟩ = some (.int .i64 (ws.getD z 0))) := by
                intro wx hc
                obtain ⟨p2, off2, ev2, hat2⟩ := (HS2.out wx hc).at hzt
                simp only [Option.some.injEq, Addr.mk.injEq, and_true] at ev2
                obtain ⟨rfl, rfl⟩ := ev2
                exact hat2 z hzt
              obtain ⟨x, HX⟩ : ∃ x, Hid (ws.getD z 0 = x) := ⟨_, rfl⟩
              rw [HX.out] at hT hmem HPA
              obtain ⟨k, rfl, hk2⟩ := Ck.has_nat (HON.out _ hmem)
              obtain ⟨u, ss, hK, hsl, hF1⟩ := HDz.out.1.ex
              subst hF1
              have hlen := clr_len (ws.take z) c.ins
              have hRel := keepG (hK.rel.leave (k := k) (by simp only [hlen]; exact hk2))
              have HT : Hid (clr c.ins (ws.take (z + 1)) = (clr c.ins (ws.take z)).set k 0) := by
                show _ = _
                rw [hT, clr_app]
                rfl
              obtain ⟨ua, uc, ev, hcu, hmu⟩ := (own_seesG stC_len St.nil hK.row).shape
              subst ev
              have HK := keepG hK
              have HNX := keepG HDz.out.2
              have c1 := hK.hp.cell (j := 1) rfl
              have hBz : B ≤ wz.heap.size := Nat.le_trans hB HDz.out.2.chg.size
              clear hT hmem hat hK hlen HDz
              obtain ⟨Z, HZ, HnZ, hbZ⟩ : ∃ Z, Hid (wz.alloc (.cells #[.int .i64 2, .int .i64 k] 52) = Z) ∧ Hid (∀ j u, (stC ⟨2, k⟩)[j]? = some u → Z.cell? ((⟨wz.heap.size, 0, none⟩ : Addr).add j) = some u) ∧ Below wz.heap.size wz Z := ⟨_, rfl, cells_new wz (stC ⟨2, k⟩) _ _ rfl, below_allocG _ _⟩
              have c1Z := (HK.out.below hbZ).hp.cell (j := 1) rfl
              have HCZ := keepG (HNX.out.trans (Nx.below hbZ)).chg
              go_wp2
              refine wp_region_held_drew (S := fun w' => w'.cell? ⟨p, off + z, none⟩ = some (.int .i64 k)) (by kernel_rfl) (HPA.out _ (HNX.out.chg.drewN 1)) (fun hHeld => ?_)
              refine tkGo [0, 1, 2, 3, 5, 6, 7, 8, 9] ?_
              repeat (refine tkOne (v := ?_) rfl (by kernel_rfl) (by kernel_rfl) (by kernel_rfl) (fun _ _ _ h => h) (by assumption) (by rfl) ?_ ?_; rotate_left; (intro wy hSw; (try dsimp only at hSw); go_simp; (first | done | with_reducible rfl)); try simp only [Act.put, List.getElem_toArray, List.getElem_cons_zero, List.getElem_cons_succ, List.setIfInBounds_toArray, List.set_cons_zero, List.set_cons_succ])
              refine tkEnd ?_
              refine wpAnyH_ready (rs := [4, 10]) (by kernel_rfl) (by simp) ?_
              refine AllReadyH.cons rfl (fun KK hK => ?_) (AllReadyH.cons rfl (fun KK hK => ?_) AllReadyH.nil) <;> rw [if_pos (by rfl)]
              · go_simp
                refine hK.out _ _ (HPA.out _ (HNX.out.chg.drewN 1)) (fun hHeld => ?_)
                clear hK KK
                try simp only [Act.put, List.getElem_toArray, List.getElem_cons_zero, List.getElem_cons_succ, List.setIfInBounds_toArray, List.set_cons_zero, List.set_cons_succ]
                refine wpAnyH_ready (rs := [10]) (by kernel_rfl) (by simp) ?_
                refine AllReadyH.cons rfl (fun KK hK => ?_) AllReadyH.nil
                rw [if_pos (by rfl)]
                go_simp
                rw [HZ.out]
                refine hK.out _ _ (HPA.out _ (HCZ.out.drewN 1)) (fun hHeld => ?_)
                clear hK KK
                try simp only [Act.put, List.getElem_toArray, List.getElem_cons_zero, List.getElem_cons_succ, List.setIfInBounds_toArray, List.set_cons_zero, List.set_cons_succ]
                refine wpAnyH_ready (rs := [11]) (by kernel_rfl) (by simp) ?_
                refine AllReadyH.cons rfl (fun KK hK => ?_) AllReadyH.nil
                rw [if_pos (by rfl)]
                refine wp_append_at17 _ (.tmp 74) (.tmp 80) 29 rfl B 52 i0 _ 2 16 Try.underlying29 hi0 hz0 hzs hzb rfl (by decide) (.slice ua ss.length uc) ss.length (flatG stC ss) rfl (own_below HK.out.row (below_drG hbZ) (Nat.le_refl _)) ⟨wz.heap.size, 0, none⟩ 1 1 (stC ⟨2, k⟩) rfl rfl HnZ.out (st_one _) (by unfold maxLen; omega) (by omega) (Nat.le_trans hBz hbZ.size) ?_
                intro v3 w3 hown hgr hat
                have hch : Chg wz w3 (fun j => (Value.slice ua ss.length uc).ownBlock = some j) := ((Chg.of_below (S := fun j => (Value.slice ua ss.length uc).ownBlock = some j) hbZ).drewN 1).trans (Chg.of_grown' hgr (fun k e => e)) (fun _ _ e => e)
                have hn3 : v3.ownBlock = (Value.slice ua ss.length uc).ownBlock ∨ ∃ j, v3.ownBlock = some j ∧ wz.heap.size ≤ j := by
                  rcases hat with g | g
                  · exact .inl g
                  · exact .inr ⟨_, g, hbZ.size⟩
                have HM := keepG (dmore2 (m := m + z) HK.out hRel.out (by simp) hsl hown hch hn3)
                have Hb1 := keepG (HK.out.hp.chg hch (fun e => HK.out.apart e))
                have c1w := Hb1.out.cell (j := 1) rfl
                have f1w := Hb1.out.frozen 1
                have HCH := keepG (HNX.out.chg.trans hch (fun j hj e => (HNX.out.new j (.inr e)).elim id (fun q => by omega)))
                obtain ⟨va, vc, rfl⟩ := own_shape hown
                refine hK.out _ _ (HPA.out _ HCH.out) (fun hHeld => ?_)
                clear hK KK hown hgr hat hch hn3
                try simp only [Act.put, List.getElem_toArray, List.getElem_cons_zero, List.getElem_cons_succ, List.setIfInBounds_toArray, List.set_cons_zero, List.set_cons_succ]
                refine tkGo [12, 13] ?_
                repeat (refine tkOne (v := ?_) rfl (by kernel_rfl) (by kernel_rfl) (by kernel_rfl) (fun _ _ _ h => h) (by assumption) (by rfl) ?_ ?_; rotate_left; (intro wy hSw; (try dsimp only at hSw); go_simp; (first | done | with_reducible rfl)); try simp only [Act.put, List.getElem_toArray, List.getElem_cons_zero, List.getElem_cons_succ, List.setIfInBounds_toArray, List.set_cons_zero, List.set_cons_succ])
                refine tkEnd ?_
                refine wpAnyH_ready (rs := [14]) (by kernel_rfl) (by simp) ?_
                refine AllReadyH.cons rfl (fun KK hK => ?_) AllReadyH.nil
                rw [if_pos (by rfl)]
                go_simp
                refine hK.out _ _ (HPA.out _ (HNX.out.trans HM.out.2).chg) (fun hHeld => ?_)
                clear hK KK
                try simp only [Act.put, List.getElem_toArray, List.getElem_cons_zero, List.getElem_cons_succ, List.setIfInBounds_toArray, List.set_cons_zero, List.set_cons_succ]
                refine wpAnyH_done (by kernel_rfl) ?_ _
                clear hHeld
                go_wp2
                go_roundw
                case rel => exact ⟨z + 1, by omega, by go_num, _, by rw [HT.out]; exact HM.out.1, HNX.out.trans HM.out.2⟩
                case measure => simp [intOf]; omega
              · go_simp
                rw [HZ.out]
                refine hK.out _ _ (HPA.out _ (HCZ.out.drewN 1)) (fun hHeld => ?_)
                clear hK KK
                try simp only [Act.put, List.getElem_toArray, List.getElem_cons_zero, List.getElem_cons_succ, List.setIfInBounds_toArray, List.set_cons_zero, List.set_cons_succ]
                refine wpAnyH_ready (rs := [4]) (by kernel_rfl) (by simp) ?_
                refine AllReadyH.cons rfl (fun KK hK => ?_) AllReadyH.nil
                rw [if_pos (by rfl)]
                go_simp
                refine hK.out _ _ (HPA.out _ (HCZ.out.drewN 1)) (fun hHeld => ?_)
                clear hK KK
                try simp only [Act.put, List.getElem_toArray, List.getElem_cons_zero, List.getElem_cons_succ, List.setIfInBounds_toArray, List.set_cons_zero, List.set_cons_succ]
                refine wpAnyH_ready (rs := [11]) (by kernel_rfl) (by simp) ?_
                refine AllReadyH.cons rfl (fun KK hK => ?_) AllReadyH.nil
                rw [if_pos (by rfl)]
                refine wp_append_at17 _ (.tmp 74) (.tmp 80) 29 rfl B 52 i0 _ 2 16 Try.underlying29 hi0 hz0 hzs hzb rfl (by decide) (.slice ua ss.length uc) ss.length (flatG stC ss) rfl (own_below HK.out.row (below_drG hbZ) (Nat.le_refl _)) ⟨wz.heap.size, 0, none⟩ 1 1 (stC ⟨2, k⟩) rfl rfl HnZ.out (st_one _) (by unfold maxLen; omega) (by omega) (Nat.le_trans hBz hbZ.size) ?_
                intro v3 w3 hown hgr hat
                have hch : Chg wz w3 (fun j => (Value.slice ua ss.length uc).ownBlock = some j) := ((Chg.of_below (S := fun j => (Value.slice ua ss.length uc).ownBlock = some j) hbZ).drewN 1).trans (Chg.of_grown' hgr (fun k e => e)) (fun _ _ e => e)
                have hn3 : v3.ownBlock = (Value.slice ua ss.length uc).ownBlock ∨ ∃ j, v3.ownBlock = some j ∧ wz.heap.size ≤ j := by
                  rcases hat with g | g
                  · exact .inl g
                  · exact .inr ⟨_, g, hbZ.size⟩
                have HM := keepG (dmore2 (m := m + z) HK.out hRel.out (by simp) hsl hown hch hn3)
                have Hb1 := keepG (HK.out.hp.chg hch (fun e => HK.out.apart e))
                have c1w := Hb1.out.cell (j := 1) rfl
                have f1w := Hb1.out.frozen 1
                have HCH := keepG (HNX.out.chg.trans hch (fun j hj e => (HNX.out.new j (.inr e)).elim id (fun q => by omega)))
                obtain ⟨va, vc, rfl⟩ := own_shape hown
                refine hK.out _ _ (HPA.out _ HCH.out) (fun hHeld => ?_)
                clear hK KK hown hgr hat hch hn3
                try simp only [Act.put, List.getElem_toArray, List.getElem_cons_zero, List.getElem_cons_succ, List.setIfInBounds_toArray, List.set_cons_zero, List.set_cons_succ]
                refine tkGo [12, 13] ?_
                repeat (refine tkOne (v := ?_) rfl (by kernel_rfl) (by kernel_rfl) (by kernel_rfl) (fun _ _ _ h => h) (by assumption) (by rfl) ?_ ?_; rotate_left; (intro wy hSw; (try dsimp only at hSw); go_simp; (first | done | with_reducible rfl)); try simp only [Act.put, List.getElem_toArray, List.getElem_cons_zero, List.getElem_cons_succ, List.setIfInBounds_toArray, List.set_cons_zero, List.set_cons_succ])
                refine tkEnd ?_
                refine wpAnyH_ready (rs := [14]) (by kernel_rfl) (by simp) ?_
                refine AllReadyH.cons rfl (fun KK hK => ?_) AllReadyH.nil
                rw [if_pos (by rfl)]
                go_simp
                refine hK.out _ _ (HPA.out _ (HNX.out.trans HM.out.2).chg) (fun hHeld => ?_)
                clear hK KK
                try simp only [Act.put, List.getElem_toArray, List.getElem_cons_zero, List.getElem_cons_succ, List.setIfInBounds_toArray, List.set_cons_zero, List.set_cons_succ]
                refine wpAnyH_done (by kernel_rfl) ?_ _
                clear hHeld
                go_wp2
                go_roundw
                case rel => exact ⟨z + 1, by omega, by go_num, _, by rw [HT.out]; exact HM.out.1, HNX.out.trans HM.out.2⟩
                case measure => simp [intOf]; omega
            · have hztI : ¬ (z : Int) < ws.length := by omega
              have hD3 := HDz.out.1
              rw [List.take_of_length_le (by omega)] at hD3
              have HD3 := keepG (hD3.mono (m' := m + 4) (by omega))
              clear hD3
              go_wp2
              go_ret
              exact ⟨rfl, F1, HD3.out, HDz.out.2⟩
end
end Go.Proofs.Ytkcbiiiakkpegaa
