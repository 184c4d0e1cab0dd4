
/-
  The document's clock of layer 17 as an object: Advance, Enter, Safe, Oldest, told by the plain clock. Condition: it lies where the pointer says, its row is the call's own.
-/
import Derived.Test.YtkcbiiiakkpegaaE17DA
namespace Go.Proofs.Ytkcbiiiakkpegaa
open Go.RowKit
set_option linter.unusedVariables false
set_option linter.unusedSimpArgs false
set_option maxRecDepth 100000
theorem infoSt : (Try.prog.info? 52).map (fun i => (i.zero, i.size, i.bytes)) = some (some (.agg #[.int .i64 0, .int .i64 0]), 2, 16) := by kernel_rfl
/-- The document's clock, its blocks, and how much happened at most. -/
structure Dc (w : World) (B b : Nat) (F : Ft) (c : Ck) (m : Nat) : Prop where
  ex : ∃ v ss, Dk w B b v c ss ∧ ss.length ≤ m ∧ F = bkS b v
section
variable {w w' : World} {B b m : Nat} {F G : Ft} {c : Ck}
theorem Dc.lies (h : Dc w B b F c m) : Lies w F := by
  obtain ⟨v, ss, hK, _, rfl⟩ := h.ex
  intro k hk
  rcases hk with e | e
  · rw [e]; exact hK.hp.lt
  · exact (hK.row.lt k e).2
theorem Dc.keeps (h : Dc w B b F c m) (hc : Chg w w' G) (ha : Apt G F) : Dc w' B b F c m := by
  obtain ⟨v, ss, hK, hm, rfl⟩ := h.ex
  exact ⟨v, ss, hK.chg hc (fun e => ha b e (.inl rfl)) (fun k hk e => ha k e (.inr hk)), hm, rfl⟩
theorem Dc.below (h : Dc w B b F c m) (hb : Below w.heap.size w w') : Dc w' B b F c m := h.keeps (Chg.of_below (S := fun _ => False) hb) (fun _ e => e.elim)
theorem Dc.other (h : Dc w B b F c m) {k : Nat} {t : TypeId} {cs : List Value} (hp : Hp w k t cs) (h1 : t ≠ 31) (h2 : t ≠ 52) : ¬ F k := by
  obtain ⟨v, ss, hK, _, rfl⟩ := h.ex
  rintro (e | e)
  · exact hp_type hp hK.hp h1 e
  · exact own_type10 hK.row hp (fun e => h2 e.symm) e
/-- One step more. -/
theorem dmore {v v' : Value} {ss : List St} {s : St} {c' : Ck} {w1 : World} {o : Obj} (h : Dk w B b v c ss) (hB : B ≤ w.heap.size) (hr : Rel c' (ss ++ [s])) (hl : c'.ins.length = c.ins.length) (hm : ss.length ≤ m) (ho : w1.ownsRow B 52 2 v' (ss.length + 1) (flatG stC ss ++ stC s)) (hg : (w.alloc o).grownBy w1 v.ownBlock) (hn : v'.ownBlock = v.ownBlock ∨ v'.ownBlock = some (w.alloc o).heap.size) :
    Dc (w1.setCell ⟨b, 1, none⟩ v') B b (bkS b v') c' (m + 1) ∧ Nx w (w1.setCell ⟨b, 1, none⟩ v') (bkS b v) (bkS b v') := by
  have hc := chg_append hg
  have hp1 := h.hp.chg hc (fun e => h.apart e)
  have hch : Chg w (w1.setCell ⟨b, 1, none⟩ v') (bkS b v) := (hc.mono (fun k e => .inr e)).trans (Chg.set w1 b 1 v') (fun k _ e => .inl e)
  refine ⟨⟨v', ss ++ [s], ⟨?_, ?_, hr⟩, by simp; exact hm, rfl⟩, hch, fun k hk => ?_⟩
  · have := hp1.set 1 v'
    rw [hl]
    exact this
  · exact own_chg (own_moreG ho) (Chg.set w1 b 1 v') (fun k hk e => own_type10 ho hp1 (by decide) (by rw [hk, e]))
  · rcases hk with e | e
    · exact .inl (.inl e)
    · rcases hn with g | g
      · exact .inl (.inr (by rw [← g]; exact e))
      · rw [g] at e
        have := Option.some.inj e
        exact .inr (by simp at this; omega)
set_option maxHeartbeats 1600000 in
theorem dadvance {d : Ck} (h : Dc w B b F c m) (hB : B ≤ w.heap.size) (hm : m ≤ 100000) (HD : Hid (c.go = d)) : Calls Try.prog 14 #[.pointer (some ⟨b, 0, none⟩)] w fun e w' => e = .returned (.int .i64 d.now) ∧ ∃ F', Dc w' B b F' d (m + 1) ∧ Nx w w' F F' := by
  obtain ⟨i0, hi0, hz0, hzs, hzb⟩ := info_parts infoSt
  obtain ⟨v, ss, hK, hl, rfl⟩ := h.ex
  obtain ⟨a, cap, ev, hc, hmx⟩ := (own_seesG stC_len St.nil hK.row).shape
  subst ev
  have c1 := hK.hp.cell (j := 1) rfl
  have HK := keepG hK
  have hRel := keepG hK.rel.go
  clear h hK
  obtain ⟨Z, HZ, HnZ, hbZ⟩ : ∃ Z, Hid (w.alloc (.cells #[.int .i64 3, .int .i64 0] 52) = Z) ∧ Hid (∀ j u, (stC ⟨3, 0⟩)[j]? = some u → Z.cell? ((⟨w.heap.size, 0, none⟩ : Addr).add j) = some u) ∧ Below w.heap.size w Z := ⟨_, rfl, cells_new w (stC ⟨3, 0⟩) _ _ rfl, below_allocG _ _⟩
  go_enter Try.func14, Try.ntmps14
  go_wp2_with (first
    | (at_builtin; go_must (refine wpList_append_own_at _ rfl _ _ 29 rfl B 52 i0 _ 2 16 Try.underlying29 hi0 hz0 hzs hzb rfl (by decide) (.slice a ss.length cap) ss.length (flatG stC ss) rfl (HK.out.row.alloc _) ⟨_, 0, none⟩ 1 1 (stC ⟨3, 0⟩) rfl rfl (cells_new _ (stC ⟨3, 0⟩) _ _ rfl) (st_one _) (by unfold maxLen; omega) (by omega) (by simp; omega) ?_); intro v3 w3 hown hgr _ hnew; go_must (have HM := keepG (dmore (m := m) HK.out hB hRel.out rfl hl hown hgr hnew); have hp3 := HK.out.hp.chg (chg_append hgr) (fun e => HK.out.apart e); have f1 := hp3.frozen 1; have q1 := hp3.cell (j := 1) rfl; clear hp3 hgr hnew; obtain ⟨va1, vc1, rfl⟩ := own_shape hown; clear hown))
    | (go_at_call 23; obtain ⟨v5, ss5, hK5, hl5, _⟩ := HM.out.1.ex; go_must (refine (dnow hK5 (by omega)).mono ?_); rintro e w5 ⟨rfl, rfl⟩))
  go_ret
  rw [← HD.out]
  exact ⟨rfl, _, HM.out.1, HM.out.2⟩
set_option maxHeartbeats 3200000 in
theorem denter {n E : Int} {c' : Ck} (h : Dc w B b F c m) (hk : c.Ok) (hB : B ≤ w.heap.size) (hm : m ≤ 100000) (x : Int) (HQ : Hid (c.enter x = (n, E, c'))) : Calls Try.prog 10 #[.pointer (some ⟨b, 0, none⟩), .int .i64 x] w fun e w' => e = .returned (.tuple #[.int .i64 n, .int .i64 E]) ∧ ∃ F', Dc w' B b F' c' (m + 1) ∧ Nx w w' F F' := by
  obtain ⟨i0, hi0, hz0, hzs, hzb⟩ := info_parts infoSt
  have hD0 := h
  obtain ⟨v, ss, hK, hl, rfl⟩ := h.ex
  have c0 := hK.hp.cell (j := 0) rfl
  have HK := keepG hK
  have HD0 : Hid (Dc w B b (bkS b v) c (m + 1)) := by
    obtain ⟨v2, ss2, g1, g2, g3⟩ := hD0.ex
    exact ⟨v2, ss2, g1, by omega, g3⟩
  have hq := HQ.out
  unfold Ck.enter at hq
  cases hh : c.has x with
  | false =>
    rw [if_pos hh] at hq
    injection hq with e1 hq
    injection hq with e2 e3
    subst e1 e2 e3
    by_cases h0 : x < 0
    · clear hh h hK hD0 HQ
      go_enter Try.func10, Try.ntmps10
      go_wp2
      go_ret2
      exact ⟨rfl, _, HD0.out, Nx.refl _ _⟩
    · have h1 : (c.ins.length : Int) ≤ x := by
        refine Int.not_lt.1 fun e => ?_
        have : c.has x = true := by simp [Ck.has]; omega
        rw [hh] at this
        cases this
      clear hh h hK hD0 HQ
      go_enter Try.func10, Try.ntmps10
      go_wp2
      go_ret2
      exact ⟨rfl, _, HD0.out, Nx.refl _ _⟩
  | true =>
    rw [if_neg (by rw [hh]; decide)] at hq
    have HH := keepG hh
    obtain ⟨k, rfl, hk2⟩ := Ck.has_nat hh
    have h0 : ¬ (k : Int) < 0 := by omega
    have h1 : ¬ (c.ins.length : Int) ≤ k := by omega
    obtain ⟨y, HY⟩ : ∃ y, Hid (c.at k = y) := ⟨_, rfl⟩
    rw [HY.out] at hq
    clear h hK hD0 HQ hh
    by_cases hy : y = 0
    · subst hy
      rw [if_pos rfl] at hq
      injection hq with e1 hq
      injection hq with e2 e3
      subst e1 e2
      have HC' : Hid ((⟨c.now, c.ins.set k c.now⟩ : Ck) = c') := e3
      clear e3
      have HR : Hid (((0 : Int) != 0) = false) := rfl
      have hRel := keepG (HK.out.rel.enter hk2)
      obtain ⟨a, cap, ev, hc, hmx⟩ := (own_seesG stC_len St.nil HK.out.row).shape
      subst ev
      go_enter Try.func10, Try.ntmps10
      go_wp2_with (first
        | (go_at_call 22; go_must (refine (din HK.out hk (by omega) k HH.out HY HR).mono ?_); rintro e w2 ⟨rfl, hb2⟩; go_must (have HK2 := keepG (HK.out.below hb2); have HB2 := keepG hb2; have hz2 := hb2.size; have c1 := HK2.out.hp.cell (j := 1) rfl; clear hb2))
        | (at_builtin; go_must (refine wpList_append_own_at _ rfl _ _ 29 rfl B 52 i0 _ 2 16 Try.underlying29 hi0 hz0 hzs hzb rfl (by decide) (.slice a ss.length cap) ss.length (flatG stC ss) rfl (HK2.out.row.alloc _) ⟨_, 0, none⟩ 1 1 (stC ⟨1, k⟩) rfl rfl (cells_new _ (stC ⟨1, k⟩) _ _ rfl) (st_one _) (by unfold maxLen; omega) (by omega) (by simp; omega) ?_); intro v3 w3 hown hgr _ hnew; go_must (have HM := keepG (dmore (m := m) HK2.out (by omega) hRel.out (by simp) hl hown hgr hnew); have hp3 := HK2.out.hp.chg (chg_append hgr) (fun e => HK2.out.apart e); have f1 := hp3.frozen 1; have q1 := hp3.cell (j := 1) rfl; clear hp3 hgr hnew; obtain ⟨va1, vc1, rfl⟩ := own_shape hown; clear hown))
        | (go_at_call 23; obtain ⟨v5, ss5, hK5, hl5, _⟩ := HM.out.1.ex; go_must (refine (dnow hK5 (by omega)).mono ?_); rintro e w5 ⟨rfl, rfl⟩))
      go_ret2
      rw [← HC'.out]
      exact ⟨rfl, _, HM.out.1, (Nx.below HB2.out).trans HM.out.2⟩
    · rw [if_neg hy] at hq
      injection hq with e1 hq
      injection hq with e2 e3
      subst e1 e2 e3
      have HR : Hid ((y != 0) = true) := by show _ = _; simpa using hy
      go_enter Try.func10, Try.ntmps10
      go_wp2_with (go_at_call 22; go_must (refine (din HK.out hk (by omega) k HH.out HY HR).mono ?_); rintro e w2 ⟨rfl, hb2⟩; go_must (have HB2 := keepG hb2; clear hb2))
      go_ret2
      exact ⟨rfl, _, HD0.out.below HB2.out, Nx.below HB2.out⟩
theorem Dc.now (h : Dc w B b F c m) (hm : m ≤ 100000) : Calls Try.prog 23 #[.pointer (some ⟨b, 0, none⟩)] w fun e w' => e = .returned (.int .i64 c.now) ∧ w = w' := by
  obtain ⟨v, ss, hK, hl, _⟩ := h.ex
  exact dnow hK (by omega)
theorem Dc.in (h : Dc w B b F c m) (hk : c.Ok) (hm : m ≤ 100000) (x : Int) (hx : c.has x = true) {y : Int} {r : Bool} (HY : Hid (c.at x = y)) (HR : Hid ((y != 0) = r)) : Calls Try.prog 22 #[.pointer (some ⟨b, 0, none⟩), .int .i64 x] w fun e w' => e = .returned (.tuple #[.int .i64 y, .bool r]) ∧ Below w.heap.size w w' := by
  obtain ⟨v, ss, hK, hl, _⟩ := h.ex
  exact din hK hk (by omega) x hx HY HR
theorem Dc.cell (h : Dc w B b F c m) : w.cell? ⟨b, 0, none⟩ = some (.int .i64 c.ins.length) := by
  obtain ⟨v, ss, hK, hl, _⟩ := h.ex
  exact hK.hp.cell (j := 0) rfl
set_option maxHeartbeats 3200000 in
theorem dsafe (h : Dc w B b F c m) (hk : c.Ok) (hm : m ≤ 100000) (t : Int) {r : Bool} (HR : Hid (c.safe t = r)) : Calls Try.prog 16 #[.pointer (some ⟨b, 0, none⟩), .int .i64 t] w fun e w' => e = .returned (.bool r) ∧ Below w.heap.size w w' := by
  have HH := keepG (fun (wr : World) (hb : Below w.heap.size w wr) => h.below hb)
  have hl4 := hk.len.2
  clear h
  go_enter Try.func16, Try.ntmps16
  go_wp2
  go_loopw [5] (fun i wr => ∃ j : Nat, j ≤ c.ins.length ∧ i = .int .i64 j ∧ Hid ((c.ins.take j).all (safeB t) = true) ∧ Hid (Below w.heap.size w wr)) (fun i _ => c.ins.length - (intOf i).toNat)
  case atStart => exact ⟨0, by omega, rfl, rfl, Below.refl _ _⟩
  case round =>
    obtain ⟨j, hj, rfl, HA, HB⟩ := hrel
    rename World => wr
    have HD := keepG (HH.out wr HB.out)
    have c0 := HD.out.cell
    by_cases hlt : j < c.ins.length
    · have hltI : (j : Int) < c.ins.length := by omega
      have hx := Ck.has_of hlt
      have ht := all_take (p := safeB t) hlt
      obtain ⟨y, HY⟩ : ∃ y, Hid (c.at j = y) := ⟨_, rfl⟩
      have hyd : c.ins.getD j 0 = y := by rw [← Ck.at_nat]; exact HY.out
      rw [hyd] at ht
      rw [HA.out, Bool.true_and] at ht
      have HT := keepG ht
      have HX := keepG hx
      clear ht hyd hx
      by_cases hy : y = 0
      · subst hy
        have HRR : Hid (((0 : Int) != 0) = false) := rfl
        clear HR
        go_wp2_with (go_at_call 22; go_must (refine (HD.out.in hk hm j HX.out HY HRR).mono ?_); rintro e w2 ⟨rfl, hb2⟩; go_must (have HB2 := keepG (HB.out.trans (hb2.mono HB.out.size)); clear hb2))
        go_roundw
        case rel => exact ⟨j + 1, by omega, by go_num, by show _ = _; rw [HT.out]; rfl, HB2.out⟩
        case measure => simp [intOf]; omega
      · have HRR : Hid ((y != 0) = true) := by show _ = _; simpa using hy
        by_cases hyt : y < t
        · have hrf : r = false := by
            rw [← HR.out]
            refine all_no (j := j + 1) ?_
            rw [HT.out]
            simp [safeB, hy, hyt]
          subst hrf
          clear HR
          go_wp2_with (go_at_call 22; go_must (refine (HD.out.in hk hm j HX.out HY HRR).mono ?_); rintro e w2 ⟨rfl, hb2⟩; go_must (have HB2 := keepG (HB.out.trans (hb2.mono HB.out.size)); clear hb2))
          go_ret
          exact ⟨rfl, HB2.out⟩
        · clear HR
          go_wp2_with (go_at_call 22; go_must (refine (HD.out.in hk hm j HX.out HY HRR).mono ?_); rintro e w2 ⟨rfl, hb2⟩; go_must (have HB2 := keepG (HB.out.trans (hb2.mono HB.out.size)); clear hb2))
          go_roundw
          case rel => exact ⟨j + 1, by omega, by go_num, by show _ = _; rw [HT.out]; simp [safeB]; omega, HB2.out⟩
          case measure => simp [intOf]; omega
    · have hltI : ¬ (j : Int) < c.ins.length := by omega
      have hrt : r = true := by
        rw [← HR.out]
        have := HA.out
        rw [List.take_of_length_le (by omega)] at this
        exact this
      subst hrt
      clear HR
      go_wp2
      go_ret
      exact ⟨rfl, HB.out⟩
set_option maxHeartbeats 3200000 in
theorem doldest (h : Dc w B b F c m) (hk : c.Ok) (hm : m ≤ 100000) {r : Int} (HR : Hid (c.old = r)) : Calls Try.prog 25 #[.pointer (some ⟨b, 0, none⟩)] w fun e w' => e = .returned (.int .i64 r) ∧ Below w.heap.size w w' := by
  have HH := keepG (fun (wr : World) (hb : Below w.heap.size w wr) => h.below hb)
  have hl4 := hk.len.2
  have NOW := keepG (h.now hm)
  clear h
  go_enter Try.func25, Try.ntmps25
  go_wp2_with (go_at_call 23; go_must (refine NOW.out.mono ?_); rintro e w5 ⟨rfl, rfl⟩)
  go_loopw [3, 4] (fun vm i wr => ∃ (j : Nat) (mm : Int), j ≤ c.ins.length ∧ vm = .int .i64 mm ∧ i = .int .i64 j ∧ Hid ((c.ins.take j).foldl oldF c.now = mm) ∧ Hid (Below w.heap.size w wr)) (fun _ i _ => c.ins.length - (intOf i).toNat)
  case atStart => exact ⟨0, _, by omega, rfl, rfl, rfl, Below.refl _ _⟩
  case round =>
    obtain ⟨j, mm, hj, rfl, rfl, HA, HB⟩ := hrel
    rename World => wr
    have HD := keepG (HH.out wr HB.out)
    have c0 := HD.out.cell
    by_cases hlt : j < c.ins.length
    · have hltI : (j : Int) < c.ins.length := by omega
      have hx := Ck.has_of hlt
      have ht := foldl_take (f := oldF) (z := c.now) hlt
      obtain ⟨y, HY⟩ : ∃ y, Hid (c.at j = y) := ⟨_, rfl⟩
      have hyd : c.ins.getD j 0 = y := by rw [← Ck.at_nat]; exact HY.out
      rw [hyd] at ht
      rw [HA.out] at ht
      have HT := keepG ht
      have HX := keepG hx
      clear ht hyd hx HR
      by_cases hy : y = 0
      · subst hy
        have HRR : Hid (((0 : Int) != 0) = false) := rfl
        go_wp2_with (go_at_call 22; go_must (refine (HD.out.in hk hm j HX.out HY HRR).mono ?_); rintro e w2 ⟨rfl, hb2⟩; go_must (have HB2 := keepG (HB.out.trans (hb2.mono HB.out.size)); clear hb2))
        go_roundw
        case rel => exact ⟨j + 1, mm, by omega, rfl, by go_num, by show _ = _; rw [HT.out]; simp [oldF], HB2.out⟩
        case measure => simp [intOf]; omega
      · have HRR : Hid ((y != 0) = true) := by show _ = _; simpa using hy
        by_cases hyt : y < mm
        · go_wp2_with (go_at_call 22; go_must (refine (HD.out.in hk hm j HX.out HY HRR).mono ?_); rintro e w2 ⟨rfl, hb2⟩; go_must (have HB2 := keepG (HB.out.trans (hb2.mono HB.out.size)); clear hb2))
          go_roundw
          case rel => exact ⟨j + 1, y, by omega, rfl, by go_num, by show _ = _; rw [HT.out]; simp [oldF, hy, hyt], HB2.out⟩
          case measure => simp [intOf]; omega
        · go_wp2_with (go_at_call 22; go_must (refine (HD.out.in hk hm j HX.out HY HRR).mono ?_); rintro e w2 ⟨rfl, hb2⟩; go_must (have HB2 := keepG (HB.out.trans (hb2.mono HB.out.size)); clear hb2))
          go_roundw
          case rel => exact ⟨j + 1, mm, by omega, rfl, by go_num, by show _ = _; rw [HT.out]; simp [oldF]; omega, HB2.out⟩
          case measure => simp [intOf]; omega
    · have hltI : ¬ (j : Int) < c.ins.length := by omega
      have hrt : mm = r := by
        rw [← HR.out, ← HA.out, List.take_of_length_le (by omega)]
        rfl
      subst hrt
      clear HR
      go_wp2
      go_ret
      exact ⟨rfl, HB.out⟩
end
end Go.Proofs.Ytkcbiiiakkpegaa
