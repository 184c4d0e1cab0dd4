
/-
  The landed owner of layer 22: New. No condition.
-/
import Derived.Test.YtpbfgebecgikjaaO22LA
namespace Go.Proofs.Ytpbfgebecgikjaa
open Go.RowKit
set_option linter.unusedVariables false
set_option linter.unusedSimpArgs false
set_option maxRecDepth 100000
theorem dfCAt {w : World} {a : Option Addr} {n cap : Nat} {l : List (Int × Int)} (h : SeesG dfC 2 (0, 0) w (.slice a n cap) l) {j : Nat} (hj : j < l.length) : ∃ p off, a = some ⟨p, off, none⟩ ∧ w.cell? ⟨p, off + j * 2, none⟩ = some (.int .i64 (l.getD j (0, 0)).1) ∧ w.cell? ⟨p, off + j * 2 + 1, none⟩ = some (.int .i64 (l.getD j (0, 0)).2) := by
  obtain ⟨a', cap', ev, _, _, _, hat⟩ := h
  simp only [Value.slice.injEq] at ev
  obtain ⟨rfl, _, rfl⟩ := ev
  obtain ⟨p, off, rfl, _, hc⟩ := hat (fun e => by rw [e] at hj; simp at hj)
  exact ⟨p, off, rfl, hc j hj 0 (by omega), hc j hj 1 (by omega)⟩
/-- The landed owner in the making: so many shards. -/
structure Lnw (w0 w : World) (b : Nat) (vm : Value) (ps : List Value) (ds : List Df) (F : Nat → Ft) (s n : Int) : Prop where
  hp : Hp w b 83 [.int .i64 s, .int .i64 n, vm, .slice none 0 0, .bool false]
  maps : w.ownsRow w0.heap.size 69 1 vm ps.length (flatG ifC ps)
  fam : Fam (fun w i G => Sh w w0.heap.size (ps.getD i .nilIface) (ds.getD i (false, 0)).1 (ds.getD i (false, 0)).2 Sr.nil G) w ps.length F
  since : ∀ i, i < ps.length → Since w0 (F i)
  be : Below w0.heap.size w0 w
  here : w0.heap.size ≤ b
section
variable {w0 w w1 w2 : World} {b : Nat} {vm vm2 : Value} {ps : List Value} {ds : List Df} {F : Nat → Ft} {s n : Int}
theorem Lnw.below (h : Lnw w0 w b vm ps ds F s n) (hb : Below w.heap.size w w1) : Lnw w0 w1 b vm ps ds F s n :=
  ⟨h.hp.below hb h.hp.lt, own_below h.maps hb (Nat.le_refl _), h.fam.keeps (Chg.of_below (S := fun _ => False) hb) (fun j hj g => g.below hb), h.since, h.be.trans (hb.mono h.be.size), h.here⟩
theorem Lnw.nb (h : Lnw w0 w b vm ps ds F s n) : ¬ unF ps.length F b := by
  rintro ⟨i, hi, e⟩
  exact (h.fam.ob i hi).other h.hp (by decide) (by decide) (by decide) (by decide) e
theorem Lnw.nrow (h : Lnw w0 w b vm ps ds F s n) : ∀ k, vm.ownBlock = some k → ¬ unF ps.length F k := by
  rintro k hk ⟨i, hi, e⟩
  obtain ⟨cs, hq⟩ := own_hpC h.maps hk
  exact (h.fam.ob i hi).other hq (by decide) (by decide) (by decide) (by decide) e
/-- One more shard: made, laid at the row's end, the row put into its place. -/
theorem Lnw.more (h : Lnw w0 w b vm ps ds F s n) {p : Value} {G : Ft} {o : Obj} (hb : Below w.heap.size w w1) (hs : Sh w1 w.heap.size p (ds.getD ps.length (false, 0)).1 (ds.getD ps.length (false, 0)).2 Sr.nil G) (hG : Since w G) (hown : w2.ownsRow w0.heap.size 69 1 vm2 (ps.length + 1) (flatG ifC ps ++ ifC p)) (hgr : (w1.alloc o).grownBy w2 vm.ownBlock) : Lnw w0 (w2.setCell ⟨b, 2, none⟩ vm2) b vm2 (ps ++ [p]) ds (upd F ps.length G) s n := by
  have hc1 : Chg w1 w2 (fun k => vm.ownBlock = some k) := chg_append hgr
  have hbz := h.hp.lt
  have n0 : ¬ vm.ownBlock = some b := own_type10 h.maps h.hp (by decide)
  have hp1 : Hp w2 b 83 [.int .i64 s, .int .i64 n, vm, .slice none 0 0, .bool false] := (h.hp.below hb h.hp.lt).chg hc1 n0
  have hcs := Chg.set w2 b 2 vm2
  have hl : (ps ++ [p]).length = ps.length + 1 := by simp
  have hmG : Apt (fun k => vm.ownBlock = some k) G := fun k e1 e2 => by have := (h.maps.lt k e1).2; have := hG k e2; omega
  have hbG : ¬ G b := fun e => by have := hG b e; omega
  have hc : Chg w (w2.setCell ⟨b, 2, none⟩ vm2) (fun k => k = b ∨ vm.ownBlock = some k) := ((Chg.of_below hb).trans (hc1.mono (fun k e => .inr e)) (fun _ _ e => e)).trans (hcs.mono (fun k e => .inl e)) (fun _ _ e => e)
  have hgo : ∀ j, j < ps.length → Apt (fun k => k = b ∨ vm.ownBlock = some k) (F j) := fun j hj k e1 e2 => by
    rcases e1 with e | e
    · subst e; exact h.nb ⟨j, hj, e2⟩
    · exact h.nrow k e ⟨j, hj, e2⟩
  have hG2 : Sh (w2.setCell ⟨b, 2, none⟩ vm2) w0.heap.size p (ds.getD ps.length (false, 0)).1 (ds.getD ps.length (false, 0)).2 Sr.nil G := ((hs.low h.be.size).keeps hc1 hmG).keeps hcs (fun k e1 e2 => by have e3 : k = b := e1; subst e3; exact hbG e2)
  refine ⟨hp1.set 2 vm2, ?_, ?_, fun i hi => ?_, ?_, h.here⟩
  · rw [hl, flatG_more]
    exact own_chg hown hcs (fun k hk e => by subst e; exact own_type10 hown hp1 (by decide) hk)
  · rw [hl]
    refine Fam.more (P := fun w i G => Sh w w0.heap.size (ps.getD i .nilIface) (ds.getD i (false, 0)).1 (ds.getD i (false, 0)).2 Sr.nil G) h.fam hc.size hG hG2.lies ?_ (fun j hj hd => ?_)
    · show Sh _ w0.heap.size ((ps ++ [p]).getD ps.length .nilIface) _ _ Sr.nil G
      rw [show (ps ++ [p]).getD ps.length .nilIface = p by simp]
      exact hG2
    · show Sh _ w0.heap.size ((ps ++ [p]).getD j .nilIface) _ _ Sr.nil (F j)
      rw [show (ps ++ [p]).getD j .nilIface = ps.getD j .nilIface by simp [List.getElem?_append_left hj]]
      exact hd.keeps hc (hgo j hj)
  · by_cases e : i = ps.length
    · subst e
      rw [upd_same]
      exact fun k hk => Nat.le_trans h.be.size (hG k hk)
    · rw [upd_other F G e]
      exact h.since i (by omega)
  · exact h.be.trans (hc.below (fun k e => by rcases e with e | e; exact (show k = b from e) ▸ h.here; exact (h.maps.lt k e).1) h.be.size)
end
set_option maxHeartbeats 6400000 in
theorem lonew_no (sh n : Int) {v : Value} {es : List (Int × Int)} (w : World) (hs : SeesG dfC 2 (0, 0) w v es) (HN : Hid (newO sh n es = none)) : Calls Try.prog 8 #[.int .i64 sh, .int .i64 n, v] w fun e w' => e = .returned (.tuple #[.pointer none, .int .i64 2]) ∧ Below w.heap.size w w' := by
  have HSB := keepG (fun (wr : World) (hb : Below w.heap.size w wr) => hs.below hb (Nat.le_refl _))
  obtain ⟨a, cap, ev, hlc, hmx⟩ := hs.shape
  subst ev
  obtain ⟨i0, hi0, hz0, hzs, hzb⟩ := info_parts infoIf
  have hn := HN.out
  unfold newO at hn
  clear hs
  go_enter Try.func8, Try.ntmps8
  by_cases hbad : n < 1 ∨ 4 < n ∨ sh < 0 ∨ n ≤ sh ∨ 4 < es.length
  · have h5 : n < 1 ∨ (¬ n < 1 ∧ 4 < n) ∨ (¬ n < 1 ∧ ¬ 4 < n ∧ sh < 0) ∨ (¬ n < 1 ∧ ¬ 4 < n ∧ ¬ sh < 0 ∧ n ≤ sh) ∨ (¬ n < 1 ∧ ¬ 4 < n ∧ ¬ sh < 0 ∧ ¬ n ≤ sh ∧ (4 : Int) < es.length) := by omega
    clear hbad hn HN
    rcases h5 with h | ⟨h1, h⟩ | ⟨h1, h2, h⟩ | ⟨h1, h2, h3, h⟩ | ⟨h1, h2, h3, h4, h⟩
    all_goals
      go_wp2
      go_ret2
      exact ⟨rfl, Below.refl _ _⟩
  · rw [if_neg hbad] at hn
    have hes : es.length ≤ 4 := by omega
    have g1 : ¬ n < 1 := by omega
    have g2 : ¬ 4 < n := by omega
    have g3 : ¬ sh < 0 := by omega
    have g4 : ¬ n ≤ sh := by omega
    have g5 : ¬ (4 : Int) < es.length := by omega
    obtain ⟨X, HX, HDX⟩ : ∃ X, Hid (w.alloc (.cells #[.int .i64 sh, .int .i64 n, .slice none 0 0, .slice none 0 0, .bool false] 83) = X) ∧ Hid (∀ ds, Lnw w X w.heap.size (.slice none 0 0) [] ds (fun _ _ => False) sh n) := ⟨_, rfl, fun ds => ⟨Hp.new w _ _, World.ownsRow_nil _ _ _ _, Fam.nil, fun i hi => by simp at hi, below_allocG _ _, Nat.le_refl _⟩⟩
    obtain ⟨nb, HNB⟩ : ∃ nb, Hid (w.heap.size = nb) := ⟨_, rfl⟩
    rw [HNB.out] at HDX
    have hnone : allDf es = none := by
      cases h : allDf es with
      | none => rfl
      | some d => rw [h] at hn; cases hn
    obtain ⟨ib, hib, hbad1, hgood⟩ := allDf_none hnone
    have HBAD := keepG (mkDf_none hbad1)
    obtain ⟨DS, hDS⟩ : ∃ DS : List Df, ∀ j, j < ib → mkDf (es.getD j (0, 0)) = some (DS.getD j (false, 0)) := ⟨(List.range ib).map (fun j => (mkDf (es.getD j (0, 0))).getD (false, 0)), fun j hj => by
      obtain ⟨d, hd⟩ := hgood j hj
      have e : ((List.range ib).map (fun j => (mkDf (es.getD j (0, 0))).getD (false, 0))).getD j (false, 0) = (mkDf (es.getD j (0, 0))).getD (false, 0) := by rw [List.getD_eq_getElem?_getD, List.getElem?_map, List.getElem?_range hj]; rfl
      rw [e, hd]; rfl⟩
    have HDS := keepG hDS
    have HGD := keepG hgood
    clear hbad hn HN hnone hbad1 hgood
    go_wp2_with (rw [HX.out, HNB.out])
    go_loopw [39] (fun i wr => ∃ (j : Nat) (vm : Value) (ps : List Value) (F : Nat → Ft), j ≤ ib ∧ i = .int .i64 j ∧ ps.length = j ∧ Hid (Lnw w wr nb vm ps DS F sh n)) (fun i _ => es.length - (intOf i).toNat)
    case atStart => exact ⟨0, _, [], _, by omega, rfl, rfl, HDX.out _⟩
    case round =>
      clear HDX
      obtain ⟨j, vm, ps, F, hj, rfl, hpl, HD⟩ := hrel
      rename World => wr
      have hlt : j < es.length := by omega
      have hltI : (j : Int) < es.length := by omega
      obtain ⟨p, off, ev, d0, d1⟩ := dfCAt (HSB.out wr HD.out.be) hlt
      subst ev
      by_cases hji : j = ib
      · subst hji
        obtain ⟨V, HV, HBV⟩ : ∃ V, Hid (wr.alloc (.cells #[.int .i64 (es.getD j (0, 0)).1, .int .i64 (es.getD j (0, 0)).2] 74) = V) ∧ Hid (Below wr.heap.size wr V) := ⟨_, rfl, below_allocG _ _⟩
        have HNO := keepG (lmake_no (es.getD j (0, 0)).1 (es.getD j (0, 0)).2 HBAD.out V)
        generalize (es.getD j (0, 0)).1 = kk at *
        generalize (es.getD j (0, 0)).2 = cc at *
        go_wp2_with (go_at_call 23; rw [HV.out]; go_must (refine HNO.out.mono ?_); rintro e w1 ⟨rfl, hb1⟩; go_must (have HB1 := keepG ((HD.out.be.trans (HBV.out.mono HD.out.be.size)).trans (hb1.mono (Nat.le_trans HD.out.be.size HBV.out.size))); clear hb1))
        go_ret2
        exact ⟨rfl, HB1.out⟩
      · have hd := HDS.out j (by omega)
        obtain ⟨d, HDJ⟩ : ∃ d, Hid (DS.getD j (false, 0) = d) := ⟨_, rfl⟩
        rw [HDJ.out] at hd
        obtain ⟨e1, e2, e3, e4⟩ := mkDf_some hd
        rw [e1] at d0
        rw [e2] at d1
        obtain ⟨kk, HKK⟩ : ∃ kk : Int, Hid ((if d.1 = true then (1 : Int) else 0) = kk) := ⟨_, rfl⟩
        rw [HKK.out] at d0
        obtain ⟨V, HV, HBV⟩ : ∃ V, Hid (wr.alloc (.cells #[.int .i64 kk, .int .i64 d.2] 74) = V) ∧ Hid (Below wr.heap.size wr V) := ⟨_, rfl, below_allocG _ _⟩
        have hmk := lmake_ok d.1 d.2 e3 e4 V
        rw [HKK.out] at hmk
        have HMK := keepG hmk
        have HDP : Hid (DS.getD ps.length (false, 0) = d) := by show _ = _; rw [hpl]; exact HDJ.out
        obtain ⟨pa, pc, ev⟩ := own_shape HD.out.maps
        subst ev
        have hpb : ps.length ≤ 4 := by omega
        have HPL := keepG hpl
        clear hpl hmk
        go_wp2_with (first
          | (go_at_call 23; rw [HV.out]; go_must (refine HMK.out.mono ?_); rintro e w1 ⟨q, G, rfl, hS, hG, hb1⟩; go_must (obtain ⟨tt, uu, rfl⟩ := hS.shape; have hone : ∀ u ∈ ifC (.iface tt uu), u.oneCell' = true := hS.one; have HS1 := keepG (hS.low HBV.out.size); have HG1 : Hid (Since wr G) := fun k hk => Nat.le_trans HBV.out.size (hG k hk); have HB1 := keepG (HBV.out.trans (hb1.mono HBV.out.size)); have HD1 := keepG (HD.out.below HB1.out); have n2 : w1.cell? ⟨nb, 2, none⟩ = some (.slice pa ps.length pc) := (HD1.out.hp.cell (j := 2) rfl); clear hS hG hb1))
          | (at_builtin; go_must (refine wpList_append_own_at _ rfl (.tmp 55) (.tmp 57) 67 rfl w.heap.size 69 i0 _ 1 16 Try.underlying67 hi0 hz0 hzs hzb rfl (by decide) (.slice pa ps.length pc) ps.length (flatG ifC ps) rfl (HD1.out.maps.alloc _) ⟨_, 0, none⟩ 1 1 (ifC (.iface tt uu)) rfl rfl (cells_new _ (ifC (.iface tt uu)) _ _ rfl) hone (by unfold maxLen; omega) (by omega) (by have := HD1.out.be.size; simp; omega) ?_); intro v4 w4 hown hgr _ hnew; go_must (have HM4 := keepG (HD.out.more (w2 := w4) (vm2 := v4) (ds := DS) HB1.out (by rw [HDP.out]; exact HS1.out) HG1.out hown hgr); have HP4 : Hid (Hp w4 nb 83 [.int .i64 sh, .int .i64 n, .slice pa ps.length pc, .slice none 0 0, .bool false]) := HD1.out.hp.chg (chg_append hgr) (own_type10 HD1.out.maps HD1.out.hp (by decide)); have z2 : w4.cell? ⟨nb, 2, none⟩ = some (.slice pa ps.length pc) := HP4.out.cell (j := 2) rfl; have zf := HP4.out.frozen 2; obtain ⟨va4, vc4, ev⟩ := own_shape hown; subst ev; clear hown hgr hnew)))
        go_roundw
        case rel => exact ⟨j + 1, _, ps ++ [.iface tt uu], _, by omega, by go_num, by rw [List.length_append, HPL.out]; rfl, HM4⟩
        case measure => simp [intOf]; omega
set_option maxHeartbeats 6400000 in
theorem lonew_lwo (sh n : Int) {v : Value} {es : List (Int × Int)} {o : On} (w : World) (hs : SeesG dfC 2 (0, 0) w v es) (HN : Hid (newO sh n es = some o)) : Calls Try.prog 8 #[.int .i64 sh, .int .i64 n, v] w fun e w' => ∃ b vm ps F, e = .returned (.tuple #[.pointer (some ⟨b, 0, none⟩), .int .i64 0]) ∧ Lwo w' w.heap.size b vm (.slice none 0 0) ps F o ∧ Since w (footO b vm (.slice none 0 0) ps.length F) ∧ Below w.heap.size w w' := by
  have HSB := keepG (fun (wr : World) (hb : Below w.heap.size w wr) => hs.below hb (Nat.le_refl _))
  obtain ⟨a, cap, ev, hlc, hmx⟩ := hs.shape
  subst ev
  obtain ⟨i0, hi0, hz0, hzs, hzb⟩ := info_parts infoIf
  obtain ⟨h1, h2, h3, DS, h4, rfl, hok⟩ := newO_some HN.out
  obtain ⟨l1, l2⟩ := allDf_some h4
  have HDS := keepG l2
  have HL1 := keepG l1
  have g1 : ¬ n < 1 := by omega
  have g2 : ¬ 4 < n := by omega
  have g3 : ¬ sh < 0 := by omega
  have g4 : ¬ n ≤ sh := by omega
  have g5 : ¬ (4 : Int) < es.length := by omega
  obtain ⟨X, HX, HDX⟩ : ∃ X, Hid (w.alloc (.cells #[.int .i64 sh, .int .i64 n, .slice none 0 0, .slice none 0 0, .bool false] 83) = X) ∧ Hid (∀ ds, Lnw w X w.heap.size (.slice none 0 0) [] ds (fun _ _ => False) sh n) := ⟨_, rfl, fun ds => ⟨Hp.new w _ _, World.ownsRow_nil _ _ _ _, Fam.nil, fun i hi => by simp at hi, below_allocG _ _, Nat.le_refl _⟩⟩
  obtain ⟨nb, HNB⟩ : ∃ nb, Hid (w.heap.size = nb) := ⟨_, rfl⟩
  rw [HNB.out] at HDX
  clear hs HN h4 l1 l2
  go_enter Try.func8, Try.ntmps8
  go_wp2_with (rw [HX.out, HNB.out])
  go_loopw [39] (fun i wr => ∃ (j : Nat) (vm : Value) (ps : List Value) (F : Nat → Ft), j ≤ es.length ∧ i = .int .i64 j ∧ ps.length = j ∧ Hid (Lnw w wr nb vm ps DS F sh n)) (fun i _ => es.length - (intOf i).toNat)
  case atStart => exact ⟨0, _, [], _, by omega, rfl, rfl, HDX.out _⟩
  case round =>
    clear HDX
    obtain ⟨j, vm, ps, F, hj, rfl, hpl, HD⟩ := hrel
    rename World => wr
    by_cases hlt : j < es.length
    · have hltI : (j : Int) < es.length := by omega
      obtain ⟨p, off, ev, d0, d1⟩ := dfCAt (HSB.out wr HD.out.be) hlt
      subst ev
      have hd := HDS.out j hlt
      obtain ⟨d, HDJ⟩ : ∃ d, Hid (DS.getD j (false, 0) = d) := ⟨_, rfl⟩
      rw [HDJ.out] at hd
      obtain ⟨e1, e2, e3, e4⟩ := mkDf_some hd
      rw [e1] at d0
      rw [e2] at d1
      obtain ⟨kk, HKK⟩ : ∃ kk : Int, Hid ((if d.1 = true then (1 : Int) else 0) = kk) := ⟨_, rfl⟩
      rw [HKK.out] at d0
      obtain ⟨V, HV, HBV⟩ : ∃ V, Hid (wr.alloc (.cells #[.int .i64 kk, .int .i64 d.2] 74) = V) ∧ Hid (Below wr.heap.size wr V) := ⟨_, rfl, below_allocG _ _⟩
      have hmk := lmake_ok d.1 d.2 e3 e4 V
      rw [HKK.out] at hmk
      have HMK := keepG hmk
      have HDP : Hid (DS.getD ps.length (false, 0) = d) := by show _ = _; rw [hpl]; exact HDJ.out
      obtain ⟨pa, pc, ev⟩ := own_shape HD.out.maps
      subst ev
      have hpb : ps.length ≤ 4 := by omega
      have HPL := keepG hpl
      clear hpl hmk
      go_wp2_with (first
        | (go_at_call 23; rw [HV.out]; go_must (refine HMK.out.mono ?_); rintro e w1 ⟨q, G, rfl, hS, hG, hb1⟩; go_must (obtain ⟨tt, uu, rfl⟩ := hS.shape; have hone : ∀ u ∈ ifC (.iface tt uu), u.oneCell' = true := hS.one; have HS1 := keepG (hS.low HBV.out.size); have HG1 : Hid (Since wr G) := fun k hk => Nat.le_trans HBV.out.size (hG k hk); have HB1 := keepG (HBV.out.trans (hb1.mono HBV.out.size)); have HD1 := keepG (HD.out.below HB1.out); have n2 : w1.cell? ⟨nb, 2, none⟩ = some (.slice pa ps.length pc) := (HD1.out.hp.cell (j := 2) rfl); clear hS hG hb1))
        | (at_builtin; go_must (refine wpList_append_own_at _ rfl (.tmp 55) (.tmp 57) 67 rfl w.heap.size 69 i0 _ 1 16 Try.underlying67 hi0 hz0 hzs hzb rfl (by decide) (.slice pa ps.length pc) ps.length (flatG ifC ps) rfl (HD1.out.maps.alloc _) ⟨_, 0, none⟩ 1 1 (ifC (.iface tt uu)) rfl rfl (cells_new _ (ifC (.iface tt uu)) _ _ rfl) hone (by unfold maxLen; omega) (by omega) (by have := HD1.out.be.size; simp; omega) ?_); intro v4 w4 hown hgr _ hnew; go_must (have HM4 := keepG (HD.out.more (w2 := w4) (vm2 := v4) (ds := DS) HB1.out (by rw [HDP.out]; exact HS1.out) HG1.out hown hgr); have HP4 : Hid (Hp w4 nb 83 [.int .i64 sh, .int .i64 n, .slice pa ps.length pc, .slice none 0 0, .bool false]) := HD1.out.hp.chg (chg_append hgr) (own_type10 HD1.out.maps HD1.out.hp (by decide)); have z2 : w4.cell? ⟨nb, 2, none⟩ = some (.slice pa ps.length pc) := HP4.out.cell (j := 2) rfl; have zf := HP4.out.frozen 2; obtain ⟨va4, vc4, ev⟩ := own_shape hown; subst ev; clear hown hgr hnew)))
      go_roundw
      case rel => exact ⟨j + 1, _, ps ++ [.iface tt uu], _, by omega, by go_num, by rw [List.length_append, HPL.out]; rfl, HM4⟩
      case measure => simp [intOf]; omega
    · have hltI : ¬ (j : Int) < es.length := by omega
      have hpd : ps.length = DS.length := by have := HL1.out; omega
      go_wp2
      go_ret2
      refine ⟨nb, rfl, vm, ps, F, ⟨?_, HD.out.maps, own_win (World.ownsRow_nil _ _ _ _), ?_, ?_⟩, ?_, HD.out.be⟩
      · have e1 : ((On.new sh.toNat n.toNat DS).sh : Int) = sh := by show ((sh.toNat : Nat) : Int) = sh; omega
        have e2 : ((On.new sh.toNat n.toNat DS).n : Int) = n := by show ((n.toNat : Nat) : Int) = n; omega
        rw [e1, e2]
        exact HD.out.hp
      · show ps.length = (List.replicate DS.length Sr.nil).length
        simp [hpd]
      · have : (fun (w1 : World) i G => Sh w1 w.heap.size (ps.getD i .nilIface) ((On.new sh.toNat n.toNat DS).dl i).1 ((On.new sh.toNat n.toNat DS).dl i).2 ((On.new sh.toNat n.toNat DS).sl i) G) = (fun (w1 : World) i G => Sh w1 w.heap.size (ps.getD i .nilIface) (DS.getD i (false, 0)).1 (DS.getD i (false, 0)).2 Sr.nil G) := by
          funext w1 i G
          have e2 : (On.new sh.toNat n.toNat DS).sl i = Sr.nil := by
            show (List.replicate DS.length Sr.nil).getD i Sr.nil = _
            rw [List.getD_eq_getElem?_getD, List.getElem?_replicate]
            split <;> rfl
          rw [e2]
          rfl
        rw [this]
        exact HD.out.fam
      · rintro k ((e | e) | e | ⟨i, hi, e⟩)
        · rw [e]; exact Nat.le_of_eq HNB.out
        · exact (HD.out.maps.lt k e).1
        · cases e
        · exact HD.out.since i hi k e
end Go.Proofs.Ytpbfgebecgikjaa
