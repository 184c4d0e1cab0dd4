
/-
  The landed refs of layer 18: Holders, Count, told by the plain refs. Condition: they lie where the pointer says.
-/
import Derived.Test.YtonbaklbbmmljaaR18LD
namespace Go.Proofs.Ytonbaklbbmmljaa
open Go.RowKit
open Go.Maps (Keyed)
set_option linter.unusedVariables false
set_option linter.unusedSimpArgs false
set_option maxRecDepth 100000
/-- A range over a map of slices by numbers: one step. -/
theorem wpList_next_sl {P : Program} (w : World) {ops : Array Oper} {rest : List Oper} {o : Oper} {a : Act} {Q : Exit → Act → World → Prop} (hg : o.guard = none) (it : Operand) (hop : o.op = Op.next it false) (k : TypeId) (K : Keyed P k) (hk : P.underlying k = some (.int .i64)) (b r n : Nat) (D : DataW Value) (left : Lit → Bool) (cnt : Nat)
    (hit : a.eval it = .pointer (some ⟨r, 0, none⟩)) (h : w.ranges P k elV b r n D left cnt)
    (hDone : (∀ kl, left kl = false) → wpList P ops Q rest (a.put o.dst (.tuple #[.bool false])) w)
    (hMore : ∀ (x : Int) (sa : Option Addr) (sl sc : Nat) (w' : World) (cnt' : Nat), left (.int .i64 x) = true → (∀ zd, D.atKey (.int .i64 x) zd = .held (.slice sa sl sc)) → w'.ranges P k elV b r n D (fun z => left z && !z.sameKey (.int .i64 x)) cnt' → cnt' < cnt →
      w.grownBy w' (some r) → (Instr.entry (.pointer (some ⟨r, 0, none⟩))).run P w' = .ok (.tuple #[.int .i64 x, .slice sa sl sc]) w' → wpList P ops Q rest (a.put o.dst (.tuple #[.bool true, .int .i64 x, .slice sa sl sc])) w') :
    wpList P ops Q (o :: rest) a w :=
  wpList_next_ranges w hg it hop k K elV (Value.int .i64) (fun c : Option Addr × Nat × Nat => .slice c.1 c.2.1 c.2.2) (fun key kl hkey => by obtain ⟨x, rfl, _⟩ := Maps.keyOf_int_inv hk hkey; exact ⟨x, rfl⟩) (fun v y hv => elV_shape hv)
    b r n D left cnt hit h (fun _ => hDone) (fun x c kl y w' cnt' hkey hlk hv hat hrg hlt hgr hsz hen => by
      obtain ⟨x', ex, rfl, hwx⟩ := Maps.keyOf_int_inv hk hkey
      cases ex
      have he := (elV_inv hv).2
      exact hMore x c.1 c.2.1 c.2.2 w' cnt' hlk (fun zd => by rw [hat zd, he]) hrg hlt hgr hen)
/-- What was met so far. -/
structure Col (L : List Hr) (x : Int) (left : Lit → Bool) (cnt : Nat) (Y : List Int) : Prop where
  nd : Y.Nodup
  mem : ∀ p, p ∈ Y ↔ ∃ h ∈ L, h.p = p ∧ x ∈ h.ms ∧ left (.int .i64 p) = false
  len : Y.length + cnt ≤ L.length
section
variable {w w' : World} {B b n : Nat} {F G : Ft} {P P' : Rs} {L : List Hr} {x : Int} {left : Lit → Bool} {cnt cnt' : Nat} {Y : List Int} {D : DataW Value}
theorem same_iff {p q : Int} (h : (Lit.int .i64 q).wf = true) : (Lit.int .i64 p).sameKey (.int .i64 q) = decide (p = q) := by
  by_cases e : p = q
  · subst e; rw [WideAt.sameKey_self (litI h)]; simp
  · rw [Maps.sameKey_ne (litNe e)]; simp [e]
theorem Col.more (hc : Col L x left cnt Y) (hnd : (L.map Hr.p).Nodup) {y : Hr} (hy : y ∈ L) (hwf : (Lit.int .i64 y.p).wf = true) (hl : left (.int .i64 y.p) = true) (hlt : cnt' < cnt) (hx : x ∈ y.ms) : Col L x (fun z => left z && !z.sameKey (.int .i64 y.p)) cnt' (Y ++ [y.p]) := by
  have hno : ¬ y.p ∈ Y := fun e => by
    obtain ⟨_, _, _, _, h⟩ := (hc.mem y.p).1 e
    rw [hl] at h
    cases h
  refine ⟨?_, fun p => ?_, ?_⟩
  · rw [List.nodup_append]
    exact ⟨hc.nd, by simp, fun a ha b hb e => hno (by rw [List.mem_singleton.1 hb] at e; rw [← e]; exact ha)⟩
  · show p ∈ Y ++ [y.p] ↔ ∃ h ∈ L, h.p = p ∧ x ∈ h.ms ∧ (left (.int .i64 p) && !(Lit.int .i64 p).sameKey (.int .i64 y.p)) = false
    rw [same_iff hwf, List.mem_append, hc.mem p]
    constructor
    · rintro (⟨h, hh, e, hm, h0⟩ | e)
      · exact ⟨h, hh, e, hm, by rw [h0]; rfl⟩
      · have e' := List.mem_singleton.1 e
        exact ⟨y, hy, e'.symm, hx, by rw [e']; simp⟩
    · rintro ⟨h, hh, e, hm, h0⟩
      by_cases ep : p = y.p
      · exact .inr (by rw [ep]; simp)
      · refine .inl ⟨h, hh, e, hm, ?_⟩
        simpa [ep] using h0
  · have := hc.len
    simp
    omega
theorem Col.skip (hc : Col L x left cnt Y) (hone : ∀ h ∈ L, ∀ h' ∈ L, h.p = h'.p → h = h') {y : Hr} (hy : y ∈ L) (hwf : (Lit.int .i64 y.p).wf = true) (hlt : cnt' < cnt) (hx : ¬ x ∈ y.ms) : Col L x (fun z => left z && !z.sameKey (.int .i64 y.p)) cnt' Y := by
  refine ⟨hc.nd, fun p => ?_, by have := hc.len; omega⟩
  show p ∈ Y ↔ ∃ h ∈ L, h.p = p ∧ x ∈ h.ms ∧ (left (.int .i64 p) && !(Lit.int .i64 p).sameKey (.int .i64 y.p)) = false
  rw [same_iff hwf, hc.mem p]
  constructor
  · rintro ⟨h, hh, e, hm, h0⟩
    exact ⟨h, hh, e, hm, by rw [h0]; rfl⟩
  · rintro ⟨h, hh, e, hm, h0⟩
    refine ⟨h, hh, e, hm, ?_⟩
    by_cases ep : p = y.p
    · exact absurd (by rw [← hone h hh y hy (e.trans ep)]; exact hm) hx
    · simpa [ep] using h0
theorem Col.fin (hc : Col L x left cnt Y) (hl : ∀ kl, left kl = false) (hk : Rs.Ok n P) (hP : (L.map Hr.hm).Perm P) : Y.Perm (P.holders x) := by
  refine (List.perm_ext_iff_of_nodup hc.nd ((hk.holders_up x).imp (fun h => by omega))).2 (fun p => ?_)
  rw [hc.mem p]
  unfold Rs.holders
  simp only [List.mem_map, List.mem_filter, decide_eq_true_eq]
  constructor
  · rintro ⟨h, hh, e, hm, _⟩
    exact ⟨h.hm, ⟨hP.mem_iff.1 (List.mem_map.2 ⟨h, hh, rfl⟩), hm⟩, e⟩
  · rintro ⟨g, ⟨hg, hm⟩, e⟩
    obtain ⟨h, hh, rfl⟩ := List.mem_map.1 (hP.mem_iff.2 hg)
    exact ⟨h, hh, e, hm, hl _⟩
theorem Lh.came {bm : Nat} (h : Lh w b bm n D L) {p : Int} {sa : Option Addr} {sl sc : Nat} (hat : ∀ zd, D.atKey (.int .i64 p) zd = .held (.slice sa sl sc)) : ∃ y ∈ L, y.p = p ∧ y.u = .slice sa sl sc := by
  obtain ⟨y, hy, e⟩ := (h.has p).1 (Maps.has_true_of_atKey hat)
  refine ⟨y, hy, e, ?_⟩
  have h1 := h.look y hy .nil
  rw [e, hat] at h1
  injection h1 with h1
  exact h1.symm
set_option maxHeartbeats 12800000 in
theorem Lq.holders (h : Lq w B b F n P) (hk : Rs.Ok n P) (hn : n ≤ 4) (hl : P.length ≤ 10000) (x : Int) {A : List Int} (HA : Hid (P.holders x = A)) : Calls Try.prog 16 #[.pointer (some ⟨b, 0, none⟩), .int .i64 x] w fun e w' => ∃ u, e = .returned u ∧ RoI w' w.heap.size u A ∧ Below w.heap.size w w' := by
  obtain ⟨i0, hi0, hz0, hzs, hzb⟩ := info_parts infoIntR
  obtain ⟨bm, D, L, hD, hP, _⟩ := h.ex
  have hll : L.length ≤ 10000 := by have := hP.length_eq; rw [List.length_map] at this; omega
  have c1 := hD.hp.cell (j := 1) rfl
  have HD := keepG hD
  have HDB := keepG (fun (wr : World) (hb : Below w.heap.size w wr) => hD.below hb)
  have HNP := keepG (nodup_p hk hP)
  have HONE : Hid (∀ h ∈ L, ∀ h' ∈ L, h.p = h'.p → h = h') := by
    intro g hg g' hg' e
    have h1 := hk.one (hP.mem_iff.1 (List.mem_map.2 ⟨g, hg, rfl⟩)) (hP.mem_iff.1 (List.mem_map.2 ⟨g', hg', rfl⟩)) e
    obtain ⟨p1, u1, m1⟩ := g
    obtain ⟨p2, u2, m2⟩ := g'
    have e1 : p1 = p2 := e
    subst e1
    have e2 : m1 = m2 := by injection h1
    subst e2
    have a1 := hD.look _ hg .nil
    have a2 := hD.look _ hg' .nil
    rw [a1] at a2
    injection a2 with a2
    have e3 : u1 = u2 := a2
    rw [e3]
  have HFIN : Hid (∀ left cnt Y, Col L x left cnt Y → (∀ kl, left kl = false) → srtI Y = A) := by
    intro left cnt Y hc hl0
    have := hc.fin hl0 hk hP
    rw [HA.out] at this
    refine srtI_eq this ?_
    rw [← HA.out]
    exact hk.holders_up x
  have HST : Hid (Col L x (Maps.has D) (Maps.size D) []) := by
    refine ⟨List.nodup_nil, fun p => ?_, by rw [hD.size]; simp⟩
    constructor
    · intro h; cases h
    · rintro ⟨g, hg, e, _, h0⟩
      have : Maps.has D (.int .i64 p) = true := (hD.has p).2 ⟨g, hg, e⟩
      rw [h0] at this
      cases this
  clear h hD hP HA
  go_enter Try.func16, Try.ntmps16
  go_wp2_with (at_range; go_must (refine wpList_range_own _ rfl _ 51 rfl 3 32 lawI Try.underlying51 elV bm L.length D rfl HD.out.map ?_); intro w0 hrg0 hg0 hs0; go_must (have HR0 := keepG hrg0; have HB0 : Hid (Below w.heap.size w w0) := (Below.refl _ _).grown hg0 (Nat.le_refl _) (fun j hj => by cases hj); have HZ0 := keepG hs0; clear hrg0 hg0 hs0))
  go_frame
  go_loopw [5] (fun u wr => ∃ left cnt Y, Hid (wr.ranges Try.prog 3 elV bm w.heap.size L.length D left cnt) ∧ Hid (Col L x left cnt Y) ∧ Hid (RoI wr (w.heap.size + 1) u Y) ∧ Hid (Below w.heap.size w wr)) (fun _ wr => wr.rangeLeft bm w.heap.size)
  case atStart => exact ⟨_, _, [], HR0.out, HST.out, World.ownsRow_nil _ _ _ _, HB0.out⟩
  case round =>
    rename_i u wr
    obtain ⟨left, cnt, Y, HR, HC, HO, HB⟩ := hrel
    obtain ⟨ua, uc, ev⟩ := own_shape HO.out
    subst ev
    have hYl : Y.length ≤ 10000 := by have := HC.out.len; omega
    have hrl := HR.out.lt
    go_wp2_with (first
      | (at_next; go_must (refine wpList_next_sl _ rfl _ rfl 3 lawI Try.underlying3 bm w.heap.size L.length D left cnt rfl HR.out (fun hl0 => ?_) (fun y sa sl sc w1 cnt1 hlk hat hrg1 hlt hg1 hen => ?_)))
      | (go_at_call 23; fail))
    · have HF := keepG (HFIN.out left cnt Y HC.out hl0)
      clear hl0
      go_at_call 23
      refine (lsort HO.out (by omega)).mono ?_
      rintro e w2 ⟨rfl, ho2, hg2⟩
      have HB2 : Hid (Below w.heap.size w w2) := HB.out.grown hg2 HB.out.size (fun j hj => by have := (HO.out.lt j hj).1; omega)
      rw [HF.out] at ho2
      have HO2 := keepG ho2
      clear ho2 hg2
      go_wp2
      go_ret
      exact ⟨_, rfl, own_lowG HO2.out (by omega), HB2.out⟩
    · go_at_call 22
      obtain ⟨h, hh, e1, e2⟩ := HD.out.came hat
      subst e1
      have HB1 : Hid (Below w.heap.size w w1) := HB.out.grown hg1 HB.out.size (fun j hj => by have := Option.some.inj hj; omega)
      have hse := (HDB.out w1 HB1.out).ins h hh
      rw [e2] at hse
      have HWY := keepG (HD.out.wf h hh)
      have HO1 : Hid (RoI w1 (w.heap.size + 1) (.slice ua Y.length uc) Y) := HO.out.kept hg1 (by
        rcases hob : (Value.slice ua Y.length uc).ownBlock with _ | k
        · exact .inl rfl
        · have := (HO.out.lt k hob).1
          exact .inr (fun e => by have := Option.some.inj e; omega))
      obtain ⟨r, HRR⟩ : ∃ r, Hid (decide (x ∈ h.ms) = r) := ⟨_, rfl⟩
      refine (lcontI hse x HRR).mono ?_
      rintro e w2 ⟨rfl, rfl⟩
      have HL1 := keepG HR.out.left_eq
      have HR1 := keepG hrg1
      have HLT := keepG hlt
      have hz1 := hg1.size
      cases r with
      | false =>
        have HC1 := keepG (HC.out.skip HONE.out hh HWY.out hlt (of_decide_eq_false HRR.out))
        clear hat hrg1 hlt hg1 hse e2 hlk hh
        go_wp2
        go_roundw
        case rel => exact ⟨_, _, Y, HR1.out, HC1.out, HO1.out, HB1.out⟩
        case measure => rw [HR1.out.left_eq, HL1.out]; exact HLT.out
      | true =>
        have HC1 := keepG (HC.out.more HNP.out hh HWY.out hlk hlt (of_decide_eq_true HRR.out))
        have hbml := HD.out.map.lt
        have HNR : Hid (∀ k, k ≤ w.heap.size → some k ≠ (Value.slice ua Y.length uc).ownBlock) := fun k hk e => by
          have := (HO1.out.lt k e.symm).1
          omega
        have hr1 := HR1.out.lt
        clear hat hrg1 hlt hg1 hse e2 hlk hh
        go_wp2_with (at_builtin; go_must (refine wpList_append_wide _ rfl _ _ 32 rfl (w.heap.size + 1) 3 i0 (.int .i64 0) 1 8 Try.underlying32 hi0 hz0 hzs hzb rfl (by decide) _ _ _ rfl (HO1.out.alloc _) ⟨_, 0, none⟩ 1 1 [.int .i64 h.p] rfl rfl (cell_one_new _ _ _) (one_cell _ _) (by unfold maxLen; omega) (by omega) (by simp; omega) ?_); intro v' w5 hown' hgrow _; go_must (have HO5 : Hid (RoI w5 (w.heap.size + 1) v' (Y ++ [h.p])) := (by show World.ownsRow _ _ _ _ _ _ _; simpa using hown'); have HR5 := keepG ((HR1.out.alloc _).kept hgrow (HNR.out bm (by omega)) (HNR.out _ (Nat.le_refl _))); have HB5 : Hid (Below w.heap.size w w5) := (HB1.out.alloc HB1.out.size _).grown hgrow (by have := HB1.out.size; simp; omega) (fun k hk => by have := (HO1.out.lt k hk).1; omega); clear hown' hgrow))
        go_roundw
        case rel => exact ⟨_, _, _, HR5.out, HC1.out, HO5.out, HB5.out⟩
        case measure => rw [HR5.out.left_eq, HL1.out]; exact HLT.out
theorem Lq.count (h : Lq w B b F n P) (hk : Rs.Ok n P) (hn : n ≤ 4) (hl : P.length ≤ 10000) (x : Int) {c E : Int} (HC : Hid (cntH n P x = (c, E))) : Calls Try.prog 15 #[.pointer (some ⟨b, 0, none⟩), .int .i64 x] w fun e w' => e = .returned (.tuple #[.int .i64 c, .int .i64 E]) ∧ Below w.heap.size w w' := by
  obtain ⟨X, HX, hbX, HSX⟩ : ∃ X, Hid (w.alloc (.cells #[.int .i64 x] 3) = X) ∧ Below w.heap.size w X ∧ Hid (SeesW X (.slice (some ⟨w.heap.size, 0, none⟩) 1 1) [x]) := ⟨_, rfl, below_allocG _ _, seesW_one w x⟩
  have HL := keepG (h.below hbX)
  have c0 : X.cell? ⟨b, 0, none⟩ = some (.int .i64 n) := by
    obtain ⟨bm, D, L, hD, _⟩ := HL.out.ex
    exact hD.hp.cell (j := 0) rfl
  have hc := HC.out
  unfold cntH at hc
  obtain ⟨A, HA⟩ : ∃ A, Hid (P.holders x = A) := ⟨_, rfl⟩
  rw [HA.out] at hc
  clear h HC
  go_enter Try.func15, Try.ntmps15
  cases hm : inM n x with
  | false =>
    have HR : Hid ([x].all (inM n) = false) := by show _ = _; simp [hm]
    rw [if_neg (by rw [hm]; decide)] at hc
    injection hc with e1 e2
    subst e1 e2
    go_wp2_with (go_at_call 18; rw [HX.out]; go_must (refine (lhasEach c0 HSX.out HR).mono ?_); rintro e w1 ⟨rfl, rfl⟩)
    go_ret2
    exact ⟨rfl, hbX⟩
  | true =>
    have HR : Hid ([x].all (inM n) = true) := by show _ = _; simp [hm]
    rw [if_pos hm] at hc
    injection hc with e1 e2
    subst e2
    have HE1 := keepG e1
    clear e1
    go_wp2_with (first
      | (go_at_call 18; rw [HX.out]; go_must (refine (lhasEach c0 HSX.out HR).mono ?_); rintro e w1 ⟨rfl, rfl⟩)
      | (go_at_call 16; go_must (refine (HL.out.holders hk hn hl x HA).mono ?_); rintro e w2 ⟨u, rfl, hu, hb2⟩; go_must (obtain ⟨ua, uc, ev⟩ := own_shape hu; subst ev; have HB2 := keepG (hbX.trans (hb2.mono hbX.size)); clear hu hb2)))
    go_ret2
    exact ⟨by rw [HE1.out]; rfl, HB2.out⟩
end
end Go.Proofs.Ytonbaklbbmmljaa
