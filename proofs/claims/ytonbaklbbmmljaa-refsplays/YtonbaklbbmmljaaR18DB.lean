
/-
  The document's refs of layer 18: Hold, told by the plain refs. Condition: they lie where the pointer says; what is handed in lies elsewhere.
-/
import Derived.Test.YtonbaklbbmmljaaTk
import Derived.Test.YtonbaklbbmmljaaR18DA
namespace Go.Proofs.Ytonbaklbbmmljaa
open Go.RowKit
set_option linter.unusedVariables false
set_option linter.unusedSimpArgs false
set_option maxRecDepth 100000
theorem infoHold : (Try.prog.info? 44).map (fun i => (i.zero, i.size, i.bytes)) = some (some (.agg #[.int .i64 0, .slice none 0 0]), 2, 32) := by kernel_rfl
theorem infoIntR : (Try.prog.info? 3).map (fun i => (i.zero, i.size, i.bytes)) = some (some (.int .i64 0), 1, 8) := by kernel_rfl
theorem own_emptyR (w : World) (t : TypeId) (z : Nat) : (w.alloc (.cells #[] t)).ownsRow w.heap.size t z (.slice (some ⟨w.heap.size, 0, none⟩) 0 0) 0 [] := by
  refine ⟨by simp, .inr ⟨w.heap.size, 0, #[], rfl, Nat.le_refl _, heap_alloc_new w _, Nat.le_refl _, by simp [maxLen], by simp, by simp⟩⟩
/-- Appending to a row of the call's own, as one operation: it lies where it lay or in new memory. -/
theorem wp_append_atR {P : Program} (w : World) {o : Oper} {a : Act} {K : Act → World → Prop} {Q : Exit → Act → World → Prop} (s x : Operand) (t : TypeId)
    (ho : o.op = .call { callee := .builtin .append, args := #[s, x], argTypes := #[t, t] })
    (base : Nat) (e : TypeId) (i : TypeInfo) (z : Value) (size bytes : Nat) (ht : P.underlying t = some (.slice e)) (hi : P.info? e = some i) (hz : i.zero = some z)
    (hsize : i.size = size) (hby : i.bytes = bytes) (hzs : z.cells.size = size) (hsz : 0 < size)
    (v : Value) (n : Nat) (xs : List Value) (hs : a.eval s = v) (hown : w.ownsRow base e size v n xs)
    (ad : Addr) (m c : Nat) (news : List Value) (hx : a.eval x = .slice (some ad) m c) (hl : news.length = m * size) (hnews : ∀ j u, news[j]? = some u → w.cell? (ad.add j) = some u) (h1 : ∀ u ∈ news, u.oneCell' = true)
    (h63 : n + m ≤ maxLen) (hbytes : (n + m) * bytes ≤ 140737488355328) (hbase : base ≤ w.heap.size)
    (h : ∀ v' w', w'.ownsRow base e size v' (n + m) (xs ++ news) → w.grownBy w' v.ownBlock → (v'.ownBlock = v.ownBlock ∨ v'.ownBlock = some w.heap.size) → K (a.put o.dst v') w') : Oper.wp P o a w K Q := by
  obtain ⟨v', w', hr, h2, h3, h4, h5⟩ := run_append_own_at (P := P) w base t o.type e i z size bytes ht hi hz hsize hby hzs hsz v n xs hown ad m c news hl hnews h1 h63 hbytes hbase
  unfold Oper.wp execOp
  simp only [ho, resolve, invoke, builtin, Sem.run_bind, Sem.run_pure, Result.andThen_ok, List.map_toArray, List.map_cons, List.map_nil, hs, hx, hr]
  exact h v' w' h2 h3 h5
theorem hr_one (p : Int) (a : Option Addr) (l c : Nat) (ms : List Int) : ∀ u ∈ hrC ⟨p, .slice a l c, ms⟩, u.oneCell' = true := by
  intro u hu
  simp only [hrC, List.mem_cons, List.not_mem_nil, or_false] at hu
  rcases hu with rfl | rfl <;> rfl
/-- The document's refs as an object, told by the plain refs. -/
structure Dq (w : World) (B b : Nat) (F : Ft) (n : Nat) (P : Rs) (m : Nat) : Prop where
  ex : ∃ v L, Dh w B b v n L ∧ (L.map Hr.hm).Perm P ∧ L.length ≤ m ∧ F = ftD b v L
section
variable {w w' : World} {B b n m : Nat} {F G : Ft} {P : Rs}
theorem Dq.lies (h : Dq w B b F n P m) : Lies w F := by
  obtain ⟨v, L, hD, _, _, rfl⟩ := h.ex
  exact hD.lies
theorem Dq.keeps (h : Dq w B b F n P m) (hc : Chg w w' G) (ha : Apt G F) : Dq w' B b F n P m := by
  obtain ⟨v, L, hD, h1, h2, rfl⟩ := h.ex
  exact ⟨v, L, hD.chg hc ha, h1, h2, rfl⟩
theorem Dq.below (h : Dq w B b F n P m) (hb : Below w.heap.size w w') : Dq w' B b F n P m := h.keeps (Chg.of_below (S := fun _ => False) hb) (fun _ e => e.elim)
theorem Dq.mono (h : Dq w B b F n P m) {m' : Nat} (hm : m ≤ m') : Dq w B b F n P m' := by
  obtain ⟨v, L, h1, h2, h3, h4⟩ := h.ex
  exact ⟨v, L, h1, h2, by omega, h4⟩
theorem Dq.cell (h : Dq w B b F n P m) : w.cell? ⟨b, 0, none⟩ = some (.int .i64 n) := by
  obtain ⟨v, L, hD, _⟩ := h.ex
  exact hD.hp.cell (j := 0) rfl
/-- Whether a program holds. -/
theorem hm_has {L : List Hr} (hp : (L.map Hr.hm).Perm P) {p : Int} : P.has p = true ↔ ∃ h ∈ L, h.p = p := by
  rw [Rs.has_iff]
  constructor
  · rintro ⟨x, hx, e⟩
    obtain ⟨y, hy, rfl⟩ := List.mem_map.1 (hp.mem_iff.2 hx)
    exact ⟨y, hy, e⟩
  · rintro ⟨y, hy, e⟩
    exact ⟨y.hm, hp.mem_iff.1 (List.mem_map.2 ⟨y, hy, rfl⟩), e⟩
theorem AtIs.has {L : List Hr} (hp : (L.map Hr.hm).Perm P) {p at' : Int} (h : AtIs L p at') : (P.has p = false ∧ at' = -1) ∨ (P.has p = true ∧ 0 ≤ at') := by
  rcases h with ⟨e, h⟩ | ⟨j, e, hj, h⟩
  · refine .inl ⟨?_, e⟩
    cases hh : P.has p with
    | false => rfl
    | true =>
      obtain ⟨x, hx, e⟩ := (hm_has hp).1 hh
      exact absurd e (h x hx)
  · exact .inr ⟨(hm_has hp).2 ⟨_, getD_memH L j hj, h⟩, by omega⟩
theorem dmoreH {w8 w11 : World} {v v8 v' : Value} {L : List Hr} {p : Int} {ws : List Int} (hD : Dh w B b v n L) (hwf : ∀ x ∈ ws, (Lit.int .i64 x).wf = true) (h8 : w8.ownsRow w.heap.size 3 1 v8 ws.length (ws.map (Value.int .i64))) (hb8 : Below w.heap.size w w8) (hc : Chg w8 w11 (fun k => v.ownBlock = some k)) (ho : w11.ownsRow B 44 2 v' (L.length + 1) (flatG hrC L ++ hrC ⟨p, v8, ws⟩)) (hn : v'.ownBlock = v.ownBlock ∨ ∃ k, v'.ownBlock = some k ∧ w8.heap.size ≤ k) :
    Dh (w11.setCell ⟨b, 1, none⟩ v') B b v' n (L ++ [⟨p, v8, ws⟩]) ∧ Nx w (w11.setCell ⟨b, 1, none⟩ v') (ftD b v L) (ftD b v' (L ++ [⟨p, v8, ws⟩])) := by
  have hp8 := hD.hp.below hb8 hD.hp.lt
  have hp11 := hp8.chg hc (fun e => hD.apart e)
  have hbl := hD.hp.lt
  have hz8 := hb8.size
  have hvl : ∀ k, v.ownBlock = some k → k < w.heap.size := fun k hk => (hD.row.lt k hk).2
  have hch : Chg w (w11.setCell ⟨b, 1, none⟩ v') (bkS b v) := ((Chg.of_below (S := bkS b v) hb8).trans (hc.mono (fun k e => .inr e)) (fun _ _ e => e)).trans (Chg.set w11 b 1 v') (fun k _ e => .inl e)
  have hin : Lies w (inF L) := hD.ins.lies
  have h8s : Sees .i64 w8 v8 ws := Sees.own h8 hwf
  have hap : v'.ownBlock ≠ some b := own_type10 ho hp11 (by decide)
  refine ⟨⟨hp11.set 1 v', own_chg (own_moreG (x := (⟨p, v8, ws⟩ : Hr)) ho) (Chg.set w11 b 1 v') (fun k hk e => hap (by rw [hk, e])), fun x hx => ?_, fun k hk hi => ?_⟩, hch.mono (fun k e => .inl e), fun k hk => ?_⟩
  · rcases List.mem_append.1 hx with e | e
    · exact (hD.ins x e).chgE hch (fun hne j hj e2 => hD.low j e2 ⟨x, e, hne, hj⟩)
    · rw [List.mem_singleton.1 e]
      refine (h8s.chgE hc (fun _ j hj e2 => ?_)).chgE (Chg.set w11 b 1 v') (fun _ j hj e2 => ?_)
      · have := (h8.lt j hj).1; have := hvl j e2; omega
      · have := (h8.lt j hj).1; omega
  · obtain ⟨x, hx, hne, hu⟩ := hi
    rcases List.mem_append.1 hx with e | e
    · rcases hk with g | g
      · exact hD.low k (.inl g) ⟨x, e, hne, hu⟩
      · have hkl := hin k ⟨x, e, hne, hu⟩
        rcases hn with q | ⟨j, q, hj⟩
        · rw [q] at g; exact hD.low k (.inr g) ⟨x, e, hne, hu⟩
        · rw [q] at g; have := Option.some.inj g; omega
    · rw [List.mem_singleton.1 e] at hu
      have h5 := h8.lt k hu
      rcases hk with g | g
      · omega
      · rcases hn with q | ⟨j, q, hj⟩
        · rw [q] at g; have := hvl k g; omega
        · rw [q] at g; have := Option.some.inj g; omega
  · rcases hk with (g | g) | ⟨x, hx, hne, hu⟩
    · exact .inl (.inl (.inl g))
    · rcases hn with q | ⟨j, q, hj⟩
      · exact .inl (.inl (.inr (by rw [← q]; exact g)))
      · rw [q] at g; have := Option.some.inj g; exact .inr (by omega)
    · rcases List.mem_append.1 hx with e | e
      · exact .inl (.inr ⟨x, e, hne, hu⟩)
      · rw [List.mem_singleton.1 e] at hu
        exact .inr (h8.lt k hu).1
theorem okM_len {ws : List Int} (hn : n ≤ 4) (h : okM n ws = true) : ws.length ≤ 4 := by
  simp only [okM, Bool.and_eq_true, decide_eq_true_eq, List.all_eq_true] at h
  have key : ∀ (n : Nat) (l : List Int), l.Nodup → (∀ x ∈ l, 0 ≤ x ∧ x < n) → l.length ≤ n := by
    intro n
    induction n with
    | zero =>
      intro l _ h
      cases l with
      | nil => simp
      | cons x l => have := h x (by simp); omega
    | succ n ih =>
      intro l hn h
      have h1 := ih (l.erase (n : Int)) (hn.erase _) (fun x hx => by
        have h2 := (hn.mem_erase_iff).1 hx
        have := h x h2.2
        have := h2.1
        omega)
      by_cases hm : (n : Int) ∈ l
      · have := List.length_erase_of_mem hm
        omega
      · have : l.erase (n : Int) = l := List.erase_of_not_mem hm
        rw [this] at h1
        omega
  have := key n ws h.1 (fun x hx => by have := h.2 x hx; simpa [inM] using this)
  omega
set_option maxHeartbeats 12800000 in
theorem dhold (h : Dq w B b F n P m) (hn : n ≤ 4) (hB : B ≤ w.heap.size) (hm : m ≤ 10000) (p : Int) {u : Value} {ws : List Int} (hs : Sees .i64 w u ws) {E : Int} {P' : Rs} (HQ : Hid (Rs.hold n P p ws = (E, P'))) : Calls Try.prog 9 #[.pointer (some ⟨b, 0, none⟩), .int .i64 p, u] w fun e w' => e = .returned (.int .i64 E) ∧ ∃ F', Dq w' B b F' n P' (m + 1) ∧ Nx w w' F F' := by
  obtain ⟨i0, hi0, hz0, hzs, hzb⟩ := info_parts infoHold
  obtain ⟨k0, kk0, ky0, kys, kyb⟩ := info_parts infoIntR
  have HH := keepG (fun (wr : World) (hb : Below w.heap.size w wr) => h.below hb)
  have HS := keepG (fun (wr : World) (hb : Below w.heap.size w wr) => hs.below hb (Nat.le_refl _))
  have HWF := keepG hs.wf
  obtain ⟨a, cap, rfl, hlc, hmx, _⟩ := hs
  unfold maxLen at hmx
  have hq := HQ.out
  unfold Rs.hold at hq
  have HQ2 := keepG hq
  clear h HQ hq
  have FAIL : Hid (okM n ws = false → E = 2 ∧ P = P') := by
    intro hf
    have hq := HQ2.out
    rw [if_pos hf] at hq
    injection hq with e1 e2
    exact ⟨e1.symm, e2⟩
  go_enter Try.func9, Try.ntmps9
  go_wp2
  go_loopw [7] (fun i wr => ∃ j : Nat, j ≤ ws.length ∧ i = .int .i64 j ∧ Hid ((ws.take j).all (inM n) = true) ∧ Hid (Below w.heap.size w wr)) (fun i _ => ws.length - (intOf i).toNat)
  case atStart => exact ⟨0, by omega, rfl, rfl, Below.refl _ _⟩
  case round =>
    obtain ⟨j, hj, rfl, HA, HB⟩ := hrel
    rename World => wr
    have HD := keepG (HH.out wr HB.out)
    have c0 := HD.out.cell
    by_cases hlt : j < ws.length
    · have hltI : (j : Int) < ws.length := by omega
      obtain ⟨g, off, ev, hat⟩ := (HS.out wr HB.out).atE hlt
      subst ev
      have d0 := hat j hlt
      have hT := take_at ws j hlt
      have hmem := getD_mem ws j hlt
      obtain ⟨x, HX⟩ : ∃ x, Hid (ws.getD j 0 = x) := ⟨_, rfl⟩
      rw [HX.out] at d0 hT hmem
      have HT : Hid ((ws.take (j + 1)).all (inM n) = inM n x) := by show _ = _; rw [hT, List.all_append, HA.out]; simp
      have BAD : Hid (inM n x = false → okM n ws = false) := by
        intro hf
        have : ws.all (inM n) = false := by
          cases he : ws.all (inM n) with
          | false => rfl
          | true => rw [List.all_eq_true.1 he x hmem] at hf; cases hf
        unfold okM
        rw [this]
        simp
      clear hat hT hmem
      by_cases hx0 : x < 0
      · obtain ⟨rfl, rfl⟩ := FAIL.out (BAD.out (by simp [inM]; omega))
        have hx0b : decide (x < 0) = true := by simpa using hx0
        go_wp2
        refine wp_region_held_drew (S := fun w' => w'.cell? ⟨g, off + j, none⟩ = some (.int .i64 x)) (by kernel_rfl) d0 (fun hHeld => ?_)
        refine tkGo [0, 1, 2, 3, 4, 5] ?_
        repeat (refine tkOne (v := ?_) rfl (by kernel_rfl) (by kernel_rfl) (by kernel_rfl) (fun _ _ _ h => h) (by assumption) (by rfl) ?_ ?_; rotate_left; (intro wy hSw; (try dsimp only at hSw); go_simp; (first | done | with_reducible rfl)); try simp only [Act.put, List.getElem_toArray, List.getElem_cons_zero, List.getElem_cons_succ, List.setIfInBounds_toArray, List.set_cons_zero, List.set_cons_succ])
        refine tkEnd ?_
        refine wpAnyH_take (i := 6) (v := undef) rfl (by kernel_rfl) (by kernel_rfl) (by kernel_rfl) (fun _ _ _ h => h) (Or.inr ⟨by rfl, rfl⟩) (by assumption) ?_
        try simp only [Act.put, List.getElem_toArray, List.getElem_cons_zero, List.getElem_cons_succ, List.setIfInBounds_toArray, List.set_cons_zero, List.set_cons_succ]
        refine wpAnyH_take (i := 7) (v := undef) rfl (by kernel_rfl) (by kernel_rfl) (by kernel_rfl) (fun _ _ _ h => h) (Or.inr ⟨by rfl, rfl⟩) (by assumption) ?_
        try simp only [Act.put, List.getElem_toArray, List.getElem_cons_zero, List.getElem_cons_succ, List.setIfInBounds_toArray, List.set_cons_zero, List.set_cons_succ]
        refine wpAnyH_take (i := 8) (v := undef) rfl (by kernel_rfl) (by kernel_rfl) (by kernel_rfl) (fun _ _ _ h => h) (Or.inr ⟨by rfl, rfl⟩) (by assumption) ?_
        try simp only [Act.put, List.getElem_toArray, List.getElem_cons_zero, List.getElem_cons_succ, List.setIfInBounds_toArray, List.set_cons_zero, List.set_cons_succ]
        refine wpAnyH_take (i := 9) (v := undef) rfl (by kernel_rfl) (by kernel_rfl) (by kernel_rfl) (fun _ _ _ h => h) (Or.inr ⟨by rfl, rfl⟩) (by assumption) ?_
        try simp only [Act.put, List.getElem_toArray, List.getElem_cons_zero, List.getElem_cons_succ, List.setIfInBounds_toArray, List.set_cons_zero, List.set_cons_succ]
        refine wpAnyH_take (i := 10) (v := undef) rfl (by kernel_rfl) (by kernel_rfl) (by kernel_rfl) (fun _ _ _ h => h) (Or.inr ⟨by rfl, rfl⟩) (by assumption) ?_
        try simp only [Act.put, List.getElem_toArray, List.getElem_cons_zero, List.getElem_cons_succ, List.setIfInBounds_toArray, List.set_cons_zero, List.set_cons_succ]
        refine wpAnyH_take (i := 11) (v := undef) rfl (by kernel_rfl) (by kernel_rfl) (by kernel_rfl) (fun _ _ _ h => h) (Or.inr ⟨by rfl, rfl⟩) (by assumption) ?_
        try simp only [Act.put, List.getElem_toArray, List.getElem_cons_zero, List.getElem_cons_succ, List.setIfInBounds_toArray, List.set_cons_zero, List.set_cons_succ]
        refine wpAnyH_take (i := 12) (v := undef) rfl (by kernel_rfl) (by kernel_rfl) (by kernel_rfl) (fun _ _ _ h => h) (Or.inr ⟨by rfl, rfl⟩) (by assumption) ?_
        try simp only [Act.put, List.getElem_toArray, List.getElem_cons_zero, List.getElem_cons_succ, List.setIfInBounds_toArray, List.set_cons_zero, List.set_cons_succ]
        refine wpAnyH_take (i := 13) (v := undef) rfl (by kernel_rfl) (by kernel_rfl) (by kernel_rfl) (fun _ _ _ h => h) (Or.inr ⟨by rfl, rfl⟩) (by assumption) ?_
        try simp only [Act.put, List.getElem_toArray, List.getElem_cons_zero, List.getElem_cons_succ, List.setIfInBounds_toArray, List.set_cons_zero, List.set_cons_succ]
        refine wpAnyH_take (i := 14) (v := undef) rfl (by kernel_rfl) (by kernel_rfl) (by kernel_rfl) (fun _ _ _ h => h) (Or.inr ⟨by rfl, rfl⟩) (by assumption) ?_
        try simp only [Act.put, List.getElem_toArray, List.getElem_cons_zero, List.getElem_cons_succ, List.setIfInBounds_toArray, List.set_cons_zero, List.set_cons_succ]
        refine tkGo [15] ?_
        repeat (refine tkOne (v := ?_) rfl (by kernel_rfl) (by kernel_rfl) (by kernel_rfl) (fun _ _ _ h => h) (by assumption) (by rfl) ?_ ?_; rotate_left; (intro wy hSw; (try dsimp only at hSw); go_simp; (first | done | with_reducible rfl)); try simp only [Act.put, List.getElem_toArray, List.getElem_cons_zero, List.getElem_cons_succ, List.setIfInBounds_toArray, List.set_cons_zero, List.set_cons_succ])
        refine tkEnd ?_
        refine wpAnyH_done (by kernel_rfl) ?_ _
        clear hHeld
        go_wp2
        go_ret
        exact ⟨rfl, F, (HH.out _ (below_drG HB.out)).mono (by omega), Nx.below (below_drG HB.out)⟩
      · have hx0b : decide (x < 0) = false := by simpa using hx0
        by_cases hx1 : (n : Int) ≤ x
        · obtain ⟨rfl, rfl⟩ := FAIL.out (BAD.out (by simp [inM]; omega))
          go_wp2
          refine wp_region_held_drew (S := fun w' => w'.cell? ⟨g, off + j, none⟩ = some (.int .i64 x) ∧ w'.cell? ⟨b, 0, none⟩ = some (.int .i64 n)) (by kernel_rfl) ⟨d0, c0⟩ (fun hHeld => ?_)
          refine tkGo [0, 1, 2, 3, 4, 5, 6, 7, 8, 9, 10, 11, 12, 13, 14, 15] ?_
          repeat (refine tkOne (v := ?_) rfl (by kernel_rfl) (by kernel_rfl) (by kernel_rfl) (fun _ _ _ h => h) (by assumption) (by rfl) ?_ ?_; rotate_left; (intro wy hSw; (try dsimp only at hSw); go_simp; (first | done | with_reducible rfl)); try simp only [Act.put, List.getElem_toArray, List.getElem_cons_zero, List.getElem_cons_succ, List.setIfInBounds_toArray, List.set_cons_zero, List.set_cons_succ])
          refine tkEnd ?_
          refine wpAnyH_done (by kernel_rfl) ?_ _
          clear hHeld
          go_wp2
          go_ret
          exact ⟨rfl, F, (HH.out _ (below_drG HB.out)).mono (by omega), Nx.below (below_drG HB.out)⟩
        · have HT2 : Hid ((ws.take (j + 1)).all (inM n) = true) := by show _ = _; rw [HT.out]; simp [inM]; omega
          have HBd := keepG (below_drG HB.out)
          go_wp2
          refine wp_region_held_drew (S := fun w' => w'.cell? ⟨g, off + j, none⟩ = some (.int .i64 x) ∧ w'.cell? ⟨b, 0, none⟩ = some (.int .i64 n)) (by kernel_rfl) ⟨d0, c0⟩ (fun hHeld => ?_)
          refine tkGo [0, 1, 2, 3, 4, 5, 6, 7, 8, 9, 10, 11, 12, 13, 14, 15] ?_
          repeat (refine tkOne (v := ?_) rfl (by kernel_rfl) (by kernel_rfl) (by kernel_rfl) (fun _ _ _ h => h) (by assumption) (by rfl) ?_ ?_; rotate_left; (intro wy hSw; (try dsimp only at hSw); go_simp; (first | done | with_reducible rfl)); try simp only [Act.put, List.getElem_toArray, List.getElem_cons_zero, List.getElem_cons_succ, List.setIfInBounds_toArray, List.set_cons_zero, List.set_cons_succ])
          refine tkEnd ?_
          refine wpAnyH_done (by kernel_rfl) ?_ _
          clear hHeld
          go_wp2
          go_roundw
          case rel => exact ⟨j + 1, by omega, by go_num, HT2.out, HBd.out⟩
          case measure => simp [intOf]; omega
    · have hltI : ¬ (j : Int) < ws.length := by omega
      have hall : ws.all (inM n) = true := by
        have := HA.out
        rw [List.take_of_length_le (by omega)] at this
        exact this
      clear HA
      obtain ⟨r, HR⟩ : ∃ r, Hid (decide ws.Nodup = r) := ⟨_, rfl⟩
      have HOK : Hid (okM n ws = r) := by show _ = _; unfold okM; rw [hall, HR.out, Bool.and_true]
      by_cases h4 : (4 : Int) < ws.length
      · obtain ⟨rfl, rfl⟩ := FAIL.out (by
          cases he : okM n ws with
          | false => rfl
          | true => have := okM_len hn he; omega)
        go_wp2
        go_ret
        exact ⟨rfl, F, (HH.out _ HB.out).mono (by omega), Nx.below HB.out⟩
      · cases hr : r with
        | false =>
          rw [hr] at HOK HR
          obtain ⟨rfl, rfl⟩ := FAIL.out HOK.out
          go_wp2_with (go_at_call 21; go_must (refine (dtwice (HS.out wr HB.out) HR).mono ?_); rintro e w2 ⟨rfl, hb2⟩; go_must (have HB2 := keepG (HB.out.trans (hb2.mono HB.out.size)); clear hb2))
          go_ret
          exact ⟨rfl, F, (HH.out _ HB2.out).mono (by omega), Nx.below HB2.out⟩
        | true =>
          rw [hr] at HOK HR
          have hq := HQ2.out
          rw [if_neg (by rw [HOK.out]; decide)] at hq
          have HQ3 := keepG hq
          have hwl : ws.length ≤ 4 := by omega
          clear hq hall
          go_wp2_with (go_at_call 21; go_must (refine (dtwice (HS.out wr HB.out) HR).mono ?_); rintro e w2 ⟨rfl, hb2⟩; go_must (have HB2 := keepG (HB.out.trans (hb2.mono HB.out.size)); have HD2 := keepG (HH.out _ HB2.out); clear hb2))
          go_at_call 13
          obtain ⟨v, L, hDh, hPm, hLl, hFe⟩ := HD2.out.ex
          refine (dat hDh (by omega) p).mono ?_
          rintro e w3 ⟨at', rfl, hAt, rfl⟩
          have HDH := keepG hDh
          have HPM := keepG hPm
          have HAT := keepG hAt
          have HFE := keepG hFe
          clear hDh hPm hAt hFe
          rcases HAT.out.has HPM.out with ⟨hno, rfl⟩ | ⟨hyes, hge⟩
          · have hq3 := HQ3.out
            rw [if_neg (by rw [hno]; decide)] at hq3
            injection hq3 with e1 e2
            subst e1
            have HPP : Hid (insH ⟨p, ws⟩ P = P') := e2
            have hB2 : B ≤ w2.heap.size := Nat.le_trans hB HB2.out.size
            clear hno e2 HQ3 HQ2 FAIL HAT
            obtain ⟨va, vc, ev, hvc, hvm⟩ := (own_seesG hrC_len Hr.nil HDH.out.row).shape
            subst ev
            have c1 := HDH.out.hp.cell (j := 1) rfl
            have HSW := keepG (HS.out w2 HB2.out)
            obtain ⟨Z, HZ, hbZ, HOZ⟩ : ∃ Z, Hid (w2.alloc (.cells #[] 3) = Z) ∧ Below w2.heap.size w2 Z ∧ Hid (Z.ownsRow w2.heap.size 3 1 (.slice (some ⟨w2.heap.size, 0, none⟩) 0 0) 0 []) := ⟨_, rfl, below_allocG _ _, own_emptyR w2 _ _⟩
            have c1Z := (HDH.out.below hbZ).hp.cell (j := 1) rfl
            go_wp2
            refine wp_region_held_drew (S := fun _ => True) (by kernel_rfl) trivial (fun hHeld => ?_)
            refine tkGo [0, 1, 2, 3, 5, 7] ?_
            repeat (refine tkOne (v := ?_) rfl (by kernel_rfl) (by kernel_rfl) (by kernel_rfl) (fun _ _ _ h => h) (by assumption) (by rfl) ?_ ?_; rotate_left; (intro wy hSw; (try dsimp only at hSw); go_simp; (first | done | with_reducible rfl)); try simp only [Act.put, List.getElem_toArray, List.getElem_cons_zero, List.getElem_cons_succ, List.setIfInBounds_toArray, List.set_cons_zero, List.set_cons_succ])
            refine tkEnd ?_
            refine wpAnyH_ready (rs := [4, 6]) (by kernel_rfl) (by simp) ?_
            refine AllReadyH.cons rfl (fun KK hK => ?_) (AllReadyH.cons rfl (fun KK hK => ?_) AllReadyH.nil) <;> rw [if_pos (by rfl)]
            · go_simp
              refine hK.out _ _ trivial (fun hHeld => ?_)
              clear hK KK
              try simp only [Act.put, List.getElem_toArray, List.getElem_cons_zero, List.getElem_cons_succ, List.setIfInBounds_toArray, List.set_cons_zero, List.set_cons_succ]
              refine wpAnyH_ready (rs := [6]) (by kernel_rfl) (by simp) ?_
              refine AllReadyH.cons rfl (fun KK hK => ?_) AllReadyH.nil
              rw [if_pos (by rfl)]
              go_simp
              rw [HZ.out]
              refine hK.out _ _ trivial (fun hHeld => ?_)
              clear hK KK
              try simp only [Act.put, List.getElem_toArray, List.getElem_cons_zero, List.getElem_cons_succ, List.setIfInBounds_toArray, List.set_cons_zero, List.set_cons_succ]
              refine wpAnyH_ready (rs := [8]) (by kernel_rfl) (by simp) ?_
              refine AllReadyH.cons rfl (fun KK hK => ?_) AllReadyH.nil
              rw [if_pos (by rfl)]
              refine wp_append_sees (.tmp 47) (.tmp 48) 32 rfl w2.heap.size 3 k0 _ 8 Try.underlying32 kk0 ky0 kys kyb rfl .i64 (.slice (some ⟨w2.heap.size, 0, none⟩) 0 0) [] rfl HOZ.out (.slice a ws.length cap) ws rfl ((HSW.out.below hbZ (Nat.le_refl _)).drewN 1) (by unfold maxLen; simp; omega) (by simp; omega) hbZ.size ?_
              intro v8 w8 hown8 hgr8
              rw [List.nil_append] at hown8
              have hb8 : Below w2.heap.size w2 w8 := (below_drG hbZ).trans ((Below.refl _ _).grown hgr8 hbZ.size (fun k hk => by have : w2.heap.size = k := Option.some.inj hk; omega))
              have HO8 := keepG hown8
              have HB8 := keepG hb8
              obtain ⟨xa, xc, ev8⟩ := own_shape hown8
              subst ev8
              have c18 := (HDH.out.below hb8).hp.cell (j := 1) rfl
              obtain ⟨Y, HY, hbY, HnY⟩ : ∃ Y, Hid (w8.alloc (.cells #[.int .i64 p, .slice xa ws.length xc] 44) = Y) ∧ Below w8.heap.size w8 Y ∧ Hid (∀ j u, (hrC ⟨p, .slice xa ws.length xc, ws⟩)[j]? = some u → Y.cell? ((⟨w8.heap.size, 0, none⟩ : Addr).add j) = some u) := ⟨_, rfl, below_allocG _ _, cells_new w8 (hrC ⟨p, .slice xa ws.length xc, ws⟩) _ _ rfl⟩
              have c1Y := (((HDH.out.below hb8).below hbY)).hp.cell (j := 1) rfl
              refine hK.out _ _ trivial (fun hHeld => ?_)
              clear hK KK hown8 hgr8 hb8
              try simp only [Act.put, List.getElem_toArray, List.getElem_cons_zero, List.getElem_cons_succ, List.setIfInBounds_toArray, List.set_cons_zero, List.set_cons_succ]
              refine tkGo [9] ?_
              repeat (refine tkOne (v := ?_) rfl (by kernel_rfl) (by kernel_rfl) (by kernel_rfl) (fun _ _ _ h => h) (by assumption) (by rfl) ?_ ?_; rotate_left; (intro wy hSw; (try dsimp only at hSw); go_simp; (first | done | with_reducible rfl)); try simp only [Act.put, List.getElem_toArray, List.getElem_cons_zero, List.getElem_cons_succ, List.setIfInBounds_toArray, List.set_cons_zero, List.set_cons_succ])
              refine tkEnd ?_
              refine wpAnyH_ready (rs := [10]) (by kernel_rfl) (by simp) ?_
              refine AllReadyH.cons rfl (fun KK hK => ?_) AllReadyH.nil
              rw [if_pos (by rfl)]
              go_simp
              rw [HY.out]
              refine hK.out _ _ trivial (fun hHeld => ?_)
              clear hK KK
              try simp only [Act.put, List.getElem_toArray, List.getElem_cons_zero, List.getElem_cons_succ, List.setIfInBounds_toArray, List.set_cons_zero, List.set_cons_succ]
              refine wpAnyH_ready (rs := [11]) (by kernel_rfl) (by simp) ?_
              refine AllReadyH.cons rfl (fun KK hK => ?_) AllReadyH.nil
              rw [if_pos (by rfl)]
              refine wp_append_atR _ (.tmp 45) (.tmp 51) 29 rfl B 44 i0 _ 2 32 Try.underlying29 hi0 hz0 hzs hzb rfl (by decide) (.slice va L.length vc) L.length (flatG hrC L) rfl (own_below (own_below HDH.out.row HB8.out (Nat.le_refl _)) hbY (Nat.le_refl _)) ⟨w8.heap.size, 0, none⟩ 1 1 (hrC ⟨p, .slice xa ws.length xc, ws⟩) rfl rfl HnY.out (hr_one _ _ _ _ _) (by unfold maxLen; omega) (by omega) (Nat.le_trans hB2 (Nat.le_trans HB8.out.size hbY.size)) ?_
              intro v3 w3 hown hgr hat
              have hch : Chg w8 w3 (fun j => (Value.slice va L.length vc).ownBlock = some j) := (Chg.of_below (S := fun j => (Value.slice va L.length vc).ownBlock = some j) hbY).trans (Chg.of_grown' hgr (fun k e => e)) (fun _ _ e => e)
              have hn3 : v3.ownBlock = (Value.slice va L.length vc).ownBlock ∨ ∃ j, v3.ownBlock = some j ∧ w8.heap.size ≤ j := by
                rcases hat with g | g
                · exact .inl g
                · exact .inr ⟨_, g, hbY.size⟩
              have HM := keepG (dmoreH HDH.out HWF.out HO8.out HB8.out hch hown hn3)
              have Hb1 := keepG ((HDH.out.below HB8.out).hp.chg hch (fun e => HDH.out.apart e))
              have c1w := Hb1.out.cell (j := 1) rfl
              have f1w := Hb1.out.frozen 1
              obtain ⟨va3, vc3, rfl⟩ := own_shape hown
              refine hK.out _ _ trivial (fun hHeld => ?_)
              clear hK KK hown hgr hat hch hn3
              try simp only [Act.put, List.getElem_toArray, List.getElem_cons_zero, List.getElem_cons_succ, List.setIfInBounds_toArray, List.set_cons_zero, List.set_cons_succ]
              refine tkGo [12, 13] ?_
              repeat (refine tkOne (v := ?_) rfl (by kernel_rfl) (by kernel_rfl) (by kernel_rfl) (fun _ _ _ h => h) (by assumption) (by rfl) ?_ ?_; rotate_left; (intro wy hSw; (try dsimp only at hSw); go_simp; (first | done | with_reducible rfl)); try simp only [Act.put, List.getElem_toArray, List.getElem_cons_zero, List.getElem_cons_succ, List.setIfInBounds_toArray, List.set_cons_zero, List.set_cons_succ])
              refine tkEnd ?_
              refine wpAnyH_ready (rs := [14]) (by kernel_rfl) (by simp) ?_
              refine AllReadyH.cons rfl (fun KK hK => ?_) AllReadyH.nil
              rw [if_pos (by rfl)]
              go_simp
              refine hK.out _ _ trivial (fun hHeld => ?_)
              clear hK KK
              try simp only [Act.put, List.getElem_toArray, List.getElem_cons_zero, List.getElem_cons_succ, List.setIfInBounds_toArray, List.set_cons_zero, List.set_cons_succ]
              refine wpAnyH_done (by kernel_rfl) ?_ _
              clear hHeld
              go_wp2
              go_ret
              have hF := HFE.out
              subst hF
              refine ⟨rfl, _, ⟨_, _, HM.out.1, ?_, by simp; exact hLl, rfl⟩, (Nx.below HB2.out).trans HM.out.2⟩
              rw [← HPP.out, List.map_append]
              exact ((HPM.out.append_right _).trans (List.perm_append_singleton _ _)).trans (insH_perm _ _).symm
            · go_simp
              rw [HZ.out]
              refine hK.out _ _ trivial (fun hHeld => ?_)
              clear hK KK
              try simp only [Act.put, List.getElem_toArray, List.getElem_cons_zero, List.getElem_cons_succ, List.setIfInBounds_toArray, List.set_cons_zero, List.set_cons_succ]
              refine wpAnyH_ready (rs := [4, 8]) (by kernel_rfl) (by simp) ?_
              refine AllReadyH.cons rfl (fun KK hK => ?_) (AllReadyH.cons rfl (fun KK hK => ?_) AllReadyH.nil) <;> rw [if_pos (by rfl)]
              · go_simp
                refine hK.out _ _ trivial (fun hHeld => ?_)
                clear hK KK
                try simp only [Act.put, List.getElem_toArray, List.getElem_cons_zero, List.getElem_cons_succ, List.setIfInBounds_toArray, List.set_cons_zero, List.set_cons_succ]
                refine wpAnyH_ready (rs := [8]) (by kernel_rfl) (by simp) ?_
                refine AllReadyH.cons rfl (fun KK hK => ?_) AllReadyH.nil
                rw [if_pos (by rfl)]
                refine wp_append_sees (.tmp 47) (.tmp 48) 32 rfl w2.heap.size 3 k0 _ 8 Try.underlying32 kk0 ky0 kys kyb rfl .i64 (.slice (some ⟨w2.heap.size, 0, none⟩) 0 0) [] rfl HOZ.out (.slice a ws.length cap) ws rfl ((HSW.out.below hbZ (Nat.le_refl _)).drewN 1) (by unfold maxLen; simp; omega) (by simp; omega) hbZ.size ?_
                intro v8 w8 hown8 hgr8
                rw [List.nil_append] at hown8
                have hb8 : Below w2.heap.size w2 w8 := (below_drG hbZ).trans ((Below.refl _ _).grown hgr8 hbZ.size (fun k hk => by have : w2.heap.size = k := Option.some.inj hk; omega))
                have HO8 := keepG hown8
                have HB8 := keepG hb8
                obtain ⟨xa, xc, ev8⟩ := own_shape hown8
                subst ev8
                have c18 := (HDH.out.below hb8).hp.cell (j := 1) rfl
                obtain ⟨Y, HY, hbY, HnY⟩ : ∃ Y, Hid (w8.alloc (.cells #[.int .i64 p, .slice xa ws.length xc] 44) = Y) ∧ Below w8.heap.size w8 Y ∧ Hid (∀ j u, (hrC ⟨p, .slice xa ws.length xc, ws⟩)[j]? = some u → Y.cell? ((⟨w8.heap.size, 0, none⟩ : Addr).add j) = some u) := ⟨_, rfl, below_allocG _ _, cells_new w8 (hrC ⟨p, .slice xa ws.length xc, ws⟩) _ _ rfl⟩
                have c1Y := (((HDH.out.below hb8).below hbY)).hp.cell (j := 1) rfl
                refine hK.out _ _ trivial (fun hHeld => ?_)
                clear hK KK hown8 hgr8 hb8
                try simp only [Act.put, List.getElem_toArray, List.getElem_cons_zero, List.getElem_cons_succ, List.setIfInBounds_toArray, List.set_cons_zero, List.set_cons_succ]
                refine tkGo [9] ?_
                repeat (refine tkOne (v := ?_) rfl (by kernel_rfl) (by kernel_rfl) (by kernel_rfl) (fun _ _ _ h => h) (by assumption) (by rfl) ?_ ?_; rotate_left; (intro wy hSw; (try dsimp only at hSw); go_simp; (first | done | with_reducible rfl)); try simp only [Act.put, List.getElem_toArray, List.getElem_cons_zero, List.getElem_cons_succ, List.setIfInBounds_toArray, List.set_cons_zero, List.set_cons_succ])
                refine tkEnd ?_
                refine wpAnyH_ready (rs := [10]) (by kernel_rfl) (by simp) ?_
                refine AllReadyH.cons rfl (fun KK hK => ?_) AllReadyH.nil
                rw [if_pos (by rfl)]
                go_simp
                rw [HY.out]
                refine hK.out _ _ trivial (fun hHeld => ?_)
                clear hK KK
                try simp only [Act.put, List.getElem_toArray, List.getElem_cons_zero, List.getElem_cons_succ, List.setIfInBounds_toArray, List.set_cons_zero, List.set_cons_succ]
                refine wpAnyH_ready (rs := [11]) (by kernel_rfl) (by simp) ?_
                refine AllReadyH.cons rfl (fun KK hK => ?_) AllReadyH.nil
                rw [if_pos (by rfl)]
                refine wp_append_atR _ (.tmp 45) (.tmp 51) 29 rfl B 44 i0 _ 2 32 Try.underlying29 hi0 hz0 hzs hzb rfl (by decide) (.slice va L.length vc) L.length (flatG hrC L) rfl (own_below (own_below HDH.out.row HB8.out (Nat.le_refl _)) hbY (Nat.le_refl _)) ⟨w8.heap.size, 0, none⟩ 1 1 (hrC ⟨p, .slice xa ws.length xc, ws⟩) rfl rfl HnY.out (hr_one _ _ _ _ _) (by unfold maxLen; omega) (by omega) (Nat.le_trans hB2 (Nat.le_trans HB8.out.size hbY.size)) ?_
                intro v3 w3 hown hgr hat
                have hch : Chg w8 w3 (fun j => (Value.slice va L.length vc).ownBlock = some j) := (Chg.of_below (S := fun j => (Value.slice va L.length vc).ownBlock = some j) hbY).trans (Chg.of_grown' hgr (fun k e => e)) (fun _ _ e => e)
                have hn3 : v3.ownBlock = (Value.slice va L.length vc).ownBlock ∨ ∃ j, v3.ownBlock = some j ∧ w8.heap.size ≤ j := by
                  rcases hat with g | g
                  · exact .inl g
                  · exact .inr ⟨_, g, hbY.size⟩
                have HM := keepG (dmoreH HDH.out HWF.out HO8.out HB8.out hch hown hn3)
                have Hb1 := keepG ((HDH.out.below HB8.out).hp.chg hch (fun e => HDH.out.apart e))
                have c1w := Hb1.out.cell (j := 1) rfl
                have f1w := Hb1.out.frozen 1
                obtain ⟨va3, vc3, rfl⟩ := own_shape hown
                refine hK.out _ _ trivial (fun hHeld => ?_)
                clear hK KK hown hgr hat hch hn3
                try simp only [Act.put, List.getElem_toArray, List.getElem_cons_zero, List.getElem_cons_succ, List.setIfInBounds_toArray, List.set_cons_zero, List.set_cons_succ]
                refine tkGo [12, 13] ?_
                repeat (refine tkOne (v := ?_) rfl (by kernel_rfl) (by kernel_rfl) (by kernel_rfl) (fun _ _ _ h => h) (by assumption) (by rfl) ?_ ?_; rotate_left; (intro wy hSw; (try dsimp only at hSw); go_simp; (first | done | with_reducible rfl)); try simp only [Act.put, List.getElem_toArray, List.getElem_cons_zero, List.getElem_cons_succ, List.setIfInBounds_toArray, List.set_cons_zero, List.set_cons_succ])
                refine tkEnd ?_
                refine wpAnyH_ready (rs := [14]) (by kernel_rfl) (by simp) ?_
                refine AllReadyH.cons rfl (fun KK hK => ?_) AllReadyH.nil
                rw [if_pos (by rfl)]
                go_simp
                refine hK.out _ _ trivial (fun hHeld => ?_)
                clear hK KK
                try simp only [Act.put, List.getElem_toArray, List.getElem_cons_zero, List.getElem_cons_succ, List.setIfInBounds_toArray, List.set_cons_zero, List.set_cons_succ]
                refine wpAnyH_done (by kernel_rfl) ?_ _
                clear hHeld
                go_wp2
                go_ret
                have hF := HFE.out
                subst hF
                refine ⟨rfl, _, ⟨_, _, HM.out.1, ?_, by simp; exact hLl, rfl⟩, (Nx.below HB2.out).trans HM.out.2⟩
                rw [← HPP.out, List.map_append]
                exact ((HPM.out.append_right _).trans (List.perm_append_singleton _ _)).trans (insH_perm _ _).symm
              · refine wp_append_sees (.tmp 47) (.tmp 48) 32 rfl w2.heap.size 3 k0 _ 8 Try.underlying32 kk0 ky0 kys kyb rfl .i64 (.slice (some ⟨w2.heap.size, 0, none⟩) 0 0) [] rfl HOZ.out (.slice a ws.length cap) ws rfl ((HSW.out.below hbZ (Nat.le_refl _)).drewN 1) (by unfold maxLen; simp; omega) (by simp; omega) hbZ.size ?_
                intro v8 w8 hown8 hgr8
                rw [List.nil_append] at hown8
                have hb8 : Below w2.heap.size w2 w8 := (below_drG hbZ).trans ((Below.refl _ _).grown hgr8 hbZ.size (fun k hk => by have : w2.heap.size = k := Option.some.inj hk; omega))
                have HO8 := keepG hown8
                have HB8 := keepG hb8
                obtain ⟨xa, xc, ev8⟩ := own_shape hown8
                subst ev8
                have c18 := (HDH.out.below hb8).hp.cell (j := 1) rfl
                obtain ⟨Y, HY, hbY, HnY⟩ : ∃ Y, Hid (w8.alloc (.cells #[.int .i64 p, .slice xa ws.length xc] 44) = Y) ∧ Below w8.heap.size w8 Y ∧ Hid (∀ j u, (hrC ⟨p, .slice xa ws.length xc, ws⟩)[j]? = some u → Y.cell? ((⟨w8.heap.size, 0, none⟩ : Addr).add j) = some u) := ⟨_, rfl, below_allocG _ _, cells_new w8 (hrC ⟨p, .slice xa ws.length xc, ws⟩) _ _ rfl⟩
                have c1Y := (((HDH.out.below hb8).below hbY)).hp.cell (j := 1) rfl
                refine hK.out _ _ trivial (fun hHeld => ?_)
                clear hK KK hown8 hgr8 hb8
                try simp only [Act.put, List.getElem_toArray, List.getElem_cons_zero, List.getElem_cons_succ, List.setIfInBounds_toArray, List.set_cons_zero, List.set_cons_succ]
                refine tkGo [9] ?_
                repeat (refine tkOne (v := ?_) rfl (by kernel_rfl) (by kernel_rfl) (by kernel_rfl) (fun _ _ _ h => h) (by assumption) (by rfl) ?_ ?_; rotate_left; (intro wy hSw; (try dsimp only at hSw); go_simp; (first | done | with_reducible rfl)); try simp only [Act.put, List.getElem_toArray, List.getElem_cons_zero, List.getElem_cons_succ, List.setIfInBounds_toArray, List.set_cons_zero, List.set_cons_succ])
                refine tkEnd ?_
                refine wpAnyH_ready (rs := [4, 10]) (by kernel_rfl) (by simp) ?_
                refine AllReadyH.cons rfl (fun KK hK => ?_) (AllReadyH.cons rfl (fun KK hK => ?_) AllReadyH.nil) <;> rw [if_pos (by rfl)]
                · go_simp
                  refine hK.out _ _ trivial (fun hHeld => ?_)
                  clear hK KK
                  try simp only [Act.put, List.getElem_toArray, List.getElem_cons_zero, List.getElem_cons_succ, List.setIfInBounds_toArray, List.set_cons_zero, List.set_cons_succ]
                  refine wpAnyH_ready (rs := [10]) (by kernel_rfl) (by simp) ?_
                  refine AllReadyH.cons rfl (fun KK hK => ?_) AllReadyH.nil
                  rw [if_pos (by rfl)]
                  go_simp
                  rw [HY.out]
                  refine hK.out _ _ trivial (fun hHeld => ?_)
                  clear hK KK
                  try simp only [Act.put, List.getElem_toArray, List.getElem_cons_zero, List.getElem_cons_succ, List.setIfInBounds_toArray, List.set_cons_zero, List.set_cons_succ]
                  refine wpAnyH_ready (rs := [11]) (by kernel_rfl) (by simp) ?_
                  refine AllReadyH.cons rfl (fun KK hK => ?_) AllReadyH.nil
                  rw [if_pos (by rfl)]
                  refine wp_append_atR _ (.tmp 45) (.tmp 51) 29 rfl B 44 i0 _ 2 32 Try.underlying29 hi0 hz0 hzs hzb rfl (by decide) (.slice va L.length vc) L.length (flatG hrC L) rfl (own_below (own_below HDH.out.row HB8.out (Nat.le_refl _)) hbY (Nat.le_refl _)) ⟨w8.heap.size, 0, none⟩ 1 1 (hrC ⟨p, .slice xa ws.length xc, ws⟩) rfl rfl HnY.out (hr_one _ _ _ _ _) (by unfold maxLen; omega) (by omega) (Nat.le_trans hB2 (Nat.le_trans HB8.out.size hbY.size)) ?_
                  intro v3 w3 hown hgr hat
                  have hch : Chg w8 w3 (fun j => (Value.slice va L.length vc).ownBlock = some j) := (Chg.of_below (S := fun j => (Value.slice va L.length vc).ownBlock = some j) hbY).trans (Chg.of_grown' hgr (fun k e => e)) (fun _ _ e => e)
                  have hn3 : v3.ownBlock = (Value.slice va L.length vc).ownBlock ∨ ∃ j, v3.ownBlock = some j ∧ w8.heap.size ≤ j := by
                    rcases hat with g | g
                    · exact .inl g
                    · exact .inr ⟨_, g, hbY.size⟩
                  have HM := keepG (dmoreH HDH.out HWF.out HO8.out HB8.out hch hown hn3)
                  have Hb1 := keepG ((HDH.out.below HB8.out).hp.chg hch (fun e => HDH.out.apart e))
                  have c1w := Hb1.out.cell (j := 1) rfl
                  have f1w := Hb1.out.frozen 1
                  obtain ⟨va3, vc3, rfl⟩ := own_shape hown
                  refine hK.out _ _ trivial (fun hHeld => ?_)
                  clear hK KK hown hgr hat hch hn3
                  try simp only [Act.put, List.getElem_toArray, List.getElem_cons_zero, List.getElem_cons_succ, List.setIfInBounds_toArray, List.set_cons_zero, List.set_cons_succ]
                  refine tkGo [12, 13] ?_
                  repeat (refine tkOne (v := ?_) rfl (by kernel_rfl) (by kernel_rfl) (by kernel_rfl) (fun _ _ _ h => h) (by assumption) (by rfl) ?_ ?_; rotate_left; (intro wy hSw; (try dsimp only at hSw); go_simp; (first | done | with_reducible rfl)); try simp only [Act.put, List.getElem_toArray, List.getElem_cons_zero, List.getElem_cons_succ, List.setIfInBounds_toArray, List.set_cons_zero, List.set_cons_succ])
                  refine tkEnd ?_
                  refine wpAnyH_ready (rs := [14]) (by kernel_rfl) (by simp) ?_
                  refine AllReadyH.cons rfl (fun KK hK => ?_) AllReadyH.nil
                  rw [if_pos (by rfl)]
                  go_simp
                  refine hK.out _ _ trivial (fun hHeld => ?_)
                  clear hK KK
                  try simp only [Act.put, List.getElem_toArray, List.getElem_cons_zero, List.getElem_cons_succ, List.setIfInBounds_toArray, List.set_cons_zero, List.set_cons_succ]
                  refine wpAnyH_done (by kernel_rfl) ?_ _
                  clear hHeld
                  go_wp2
                  go_ret
                  have hF := HFE.out
                  subst hF
                  refine ⟨rfl, _, ⟨_, _, HM.out.1, ?_, by simp; exact hLl, rfl⟩, (Nx.below HB2.out).trans HM.out.2⟩
                  rw [← HPP.out, List.map_append]
                  exact ((HPM.out.append_right _).trans (List.perm_append_singleton _ _)).trans (insH_perm _ _).symm
                · go_simp
                  rw [HY.out]
                  refine hK.out _ _ trivial (fun hHeld => ?_)
                  clear hK KK
                  try simp only [Act.put, List.getElem_toArray, List.getElem_cons_zero, List.getElem_cons_succ, List.setIfInBounds_toArray, List.set_cons_zero, List.set_cons_succ]
                  refine wpAnyH_ready (rs := [4]) (by kernel_rfl) (by simp) ?_
                  refine AllReadyH.cons rfl (fun KK hK => ?_) AllReadyH.nil
                  rw [if_pos (by rfl)]
                  go_simp
                  refine hK.out _ _ trivial (fun hHeld => ?_)
                  clear hK KK
                  try simp only [Act.put, List.getElem_toArray, List.getElem_cons_zero, List.getElem_cons_succ, List.setIfInBounds_toArray, List.set_cons_zero, List.set_cons_succ]
                  refine wpAnyH_ready (rs := [11]) (by kernel_rfl) (by simp) ?_
                  refine AllReadyH.cons rfl (fun KK hK => ?_) AllReadyH.nil
                  rw [if_pos (by rfl)]
                  refine wp_append_atR _ (.tmp 45) (.tmp 51) 29 rfl B 44 i0 _ 2 32 Try.underlying29 hi0 hz0 hzs hzb rfl (by decide) (.slice va L.length vc) L.length (flatG hrC L) rfl (own_below (own_below HDH.out.row HB8.out (Nat.le_refl _)) hbY (Nat.le_refl _)) ⟨w8.heap.size, 0, none⟩ 1 1 (hrC ⟨p, .slice xa ws.length xc, ws⟩) rfl rfl HnY.out (hr_one _ _ _ _ _) (by unfold maxLen; omega) (by omega) (Nat.le_trans hB2 (Nat.le_trans HB8.out.size hbY.size)) ?_
                  intro v3 w3 hown hgr hat
                  have hch : Chg w8 w3 (fun j => (Value.slice va L.length vc).ownBlock = some j) := (Chg.of_below (S := fun j => (Value.slice va L.length vc).ownBlock = some j) hbY).trans (Chg.of_grown' hgr (fun k e => e)) (fun _ _ e => e)
                  have hn3 : v3.ownBlock = (Value.slice va L.length vc).ownBlock ∨ ∃ j, v3.ownBlock = some j ∧ w8.heap.size ≤ j := by
                    rcases hat with g | g
                    · exact .inl g
                    · exact .inr ⟨_, g, hbY.size⟩
                  have HM := keepG (dmoreH HDH.out HWF.out HO8.out HB8.out hch hown hn3)
                  have Hb1 := keepG ((HDH.out.below HB8.out).hp.chg hch (fun e => HDH.out.apart e))
                  have c1w := Hb1.out.cell (j := 1) rfl
                  have f1w := Hb1.out.frozen 1
                  obtain ⟨va3, vc3, rfl⟩ := own_shape hown
                  refine hK.out _ _ trivial (fun hHeld => ?_)
                  clear hK KK hown hgr hat hch hn3
                  try simp only [Act.put, List.getElem_toArray, List.getElem_cons_zero, List.getElem_cons_succ, List.setIfInBounds_toArray, List.set_cons_zero, List.set_cons_succ]
                  refine tkGo [12, 13] ?_
                  repeat (refine tkOne (v := ?_) rfl (by kernel_rfl) (by kernel_rfl) (by kernel_rfl) (fun _ _ _ h => h) (by assumption) (by rfl) ?_ ?_; rotate_left; (intro wy hSw; (try dsimp only at hSw); go_simp; (first | done | with_reducible rfl)); try simp only [Act.put, List.getElem_toArray, List.getElem_cons_zero, List.getElem_cons_succ, List.setIfInBounds_toArray, List.set_cons_zero, List.set_cons_succ])
                  refine tkEnd ?_
                  refine wpAnyH_ready (rs := [14]) (by kernel_rfl) (by simp) ?_
                  refine AllReadyH.cons rfl (fun KK hK => ?_) AllReadyH.nil
                  rw [if_pos (by rfl)]
                  go_simp
                  refine hK.out _ _ trivial (fun hHeld => ?_)
                  clear hK KK
                  try simp only [Act.put, List.getElem_toArray, List.getElem_cons_zero, List.getElem_cons_succ, List.setIfInBounds_toArray, List.set_cons_zero, List.set_cons_succ]
                  refine wpAnyH_done (by kernel_rfl) ?_ _
                  clear hHeld
                  go_wp2
                  go_ret
                  have hF := HFE.out
                  subst hF
                  refine ⟨rfl, _, ⟨_, _, HM.out.1, ?_, by simp; exact hLl, rfl⟩, (Nx.below HB2.out).trans HM.out.2⟩
                  rw [← HPP.out, List.map_append]
                  exact ((HPM.out.append_right _).trans (List.perm_append_singleton _ _)).trans (insH_perm _ _).symm
          · have hq3 := HQ3.out
            rw [if_pos hyes] at hq3
            injection hq3 with e1 e2
            subst e1 e2
            go_wp2
            go_ret
            exact ⟨rfl, F, HD2.out.mono (by omega), Nx.below HB2.out⟩
end
end Go.Proofs.Ytonbaklbbmmljaa
