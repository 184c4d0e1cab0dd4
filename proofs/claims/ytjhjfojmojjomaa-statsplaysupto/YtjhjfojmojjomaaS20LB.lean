
/-
  The landed stats of layer 20: tell, Ran, Missed, Of. Condition: they lie where the pointer says.
-/
import Derived.Test.YtjhjfojmojjomaaTk
import Derived.Test.YtjhjfojmojjomaaS20LA
namespace Go.Proofs.Ytjhjfojmojjomaa
open Go.RowKit
set_option linter.unusedVariables false
set_option linter.unusedSimpArgs false
set_option maxRecDepth 100000
theorem four_of {A : List Ta} (hA : A.length = 4) : ∃ a b c d, A = [a, b, c, d] := by
  rcases A with _ | ⟨a, _ | ⟨b, _ | ⟨c, _ | ⟨d, _ | ⟨e, l⟩⟩⟩⟩⟩ <;> simp at hA
  exact ⟨a, b, c, d, rfl⟩
theorem splice_ta {A : List Ta} (hA : A.length = 4) {k : Nat} (hk : k < 4) (R : Ta) : splice (flatG taC A) (k * 5) (taC R) = flatG taC (A.set k R) := by
  obtain ⟨a, b, c, d, rfl⟩ := four_of hA
  have h5 : k = 0 ∨ k = 1 ∨ k = 2 ∨ k = 3 := by omega
  rcases h5 with rfl | rfl | rfl | rfl <;> rfl
theorem sum_two {a t : Ta} (h : a.Ok) : sumT [a, t] = a.add t := by
  show (Ta.nil.add a).add t = _
  rw [Ta.nil_add h]
section
variable {w w' : World} {b : Nat} {A : List Ta}
theorem hp_ta {ty : TypeId} (h : Hp w b ty (flatG taC A)) {k : Nat} (hk : k < A.length) {r m s c u : Int} (hx : A.getD k Ta.nil = ⟨r, m, s, c, u⟩) : (w.cell? ⟨b, k * 5, none⟩ = some (.int .u64 r) ∧ w.cell? ⟨b, k * 5 + 1, none⟩ = some (.int .u64 m) ∧ w.cell? ⟨b, k * 5 + 2, none⟩ = some (.int .u64 s) ∧ w.cell? ⟨b, k * 5 + 3, none⟩ = some (.int .u64 c) ∧ w.cell? ⟨b, k * 5 + 4, none⟩ = some (.int .u64 u)) ∧ (w.frozen? ⟨b, k * 5, none⟩ = false ∧ w.frozen? ⟨b, k * 5 + 1, none⟩ = false ∧ w.frozen? ⟨b, k * 5 + 2, none⟩ = false ∧ w.frozen? ⟨b, k * 5 + 3, none⟩ = false ∧ w.frozen? ⟨b, k * 5 + 4, none⟩ = false) := by
  have g : ∀ j, j < 5 → (flatG taC A)[k * 5 + j]? = (taC ⟨r, m, s, c, u⟩)[j]? := fun j hj => by rw [flatG_at taC_len Ta.nil A hk hj, hx]
  exact ⟨⟨h.cell (g 0 (by omega)), h.cell (g 1 (by omega)), h.cell (g 2 (by omega)), h.cell (g 3 (by omega)), h.cell (g 4 (by omega))⟩, h.frozen _, h.frozen _, h.frozen _, h.frozen _, h.frozen _⟩
set_option maxHeartbeats 6400000 in
theorem ltell (h : Hp w b 54 (flatG taC A)) (hA : A.length = 4) {k : Nat} (hk : k < 4) (hO : (A.getD k Ta.nil).Ok) (t : Ta) {R : Ta} (HR : Hid ((A.getD k Ta.nil).add t = R)) : Calls Try.prog 19 #[.pointer (some ⟨b, 0, none⟩), .int .i64 k, taV t] w fun e w' => e = .returned (.tuple #[]) ∧ Hp w' b 54 (flatG taC (A.set k R)) ∧ Chg w w' (fun i => i = b) := by
  have HH := keepG h
  have hkI : (k : Int) < 4 := by omega
  obtain ⟨x, HX⟩ : ∃ x, Hid (A.getD k Ta.nil = x) := ⟨_, rfl⟩
  rw [HX.out] at hO HR
  have HS := keepG (sum_two (t := t) hO)
  rw [HR.out] at HS
  obtain ⟨xr, xm, xs, xc, xu⟩ := x
  obtain ⟨tr, tm, ts, tc, tu⟩ := t
  obtain ⟨W0, HW0, HT0, HP0, HB0, HZ0⟩ : ∃ W0, Hid (w.alloc (.cells #[.int .u64 tr, .int .u64 tm, .int .u64 ts, .int .u64 tc, .int .u64 tu] 40) = W0) ∧ Hid (Hp W0 w.heap.size 40 (taC ⟨tr, tm, ts, tc, tu⟩)) ∧ Hid (Hp W0 b 54 (flatG taC A)) ∧ Hid (Below w.heap.size w W0) ∧ Hid (W0.heap.size = w.heap.size + 1) := ⟨_, rfl, Hp.new w (taC ⟨tr, tm, ts, tc, tu⟩) _, HH.out.alloc _, below_allocG _ _, by show _ = _; simp⟩
  obtain ⟨⟨t0, t1, t2, t3, t4⟩, _⟩ := ta_cells HT0.out
  obtain ⟨⟨d0, d1, d2, d3, d4⟩, _⟩ := hp_ta HP0.out (by omega) HX.out
  unfold taV
  clear h hO
  go_enter Try.func19, Try.ntmps19
  go_wp2_with (rw [HW0.out])
  have HBX : Hid (∀ wx : World, Hp wx w.heap.size 40 (taC ⟨tr, tm, ts, tc, tu⟩) → wx.cell? ⟨w.heap.size, 0, none⟩ = some (.int .u64 tr) ∧ wx.cell? ⟨w.heap.size, 1, none⟩ = some (.int .u64 tm) ∧ wx.cell? ⟨w.heap.size, 2, none⟩ = some (.int .u64 ts) ∧ wx.cell? ⟨w.heap.size, 3, none⟩ = some (.int .u64 tc) ∧ wx.cell? ⟨w.heap.size, 4, none⟩ = some (.int .u64 tu)) := fun wx hx => (ta_cells hx).1
  have HSL : Hid (SeesG taC 5 Ta.nil (W0.drew.alloc (.cells #[.int .u64 xr, .int .u64 xm, .int .u64 xs, .int .u64 xc, .int .u64 xu, .int .u64 tr, .int .u64 tm, .int .u64 ts, .int .u64 tc, .int .u64 tu] 40)) (.slice (some ⟨W0.drew.heap.size, 0, none⟩) 2 2) [⟨xr, xm, xs, xc, xu⟩, ⟨tr, tm, ts, tc, tu⟩]) := SeesG.lit taC_len Ta.nil W0.drew 40 _ _ _ rfl rfl (by simp)
  have hbl : b < w.heap.size := HH.out.lt
  have hbn : ¬ b = w.heap.size := by omega
  have hbn2 : ¬ w.heap.size = b := by omega
  have HBD := keepG (below_drG (Below.refl W0.heap.size W0))
  have HBA : Hid (Below W0.heap.size W0 (W0.drew.alloc (.cells #[.int .u64 xr, .int .u64 xm, .int .u64 xs, .int .u64 xc, .int .u64 xu, .int .u64 tr, .int .u64 tm, .int .u64 ts, .int .u64 tc, .int .u64 tu] 40))) := HBD.out.trans (show Below W0.drew.heap.size W0.drew _ from below_allocG _ _)
  refine wp_region_held_drew (S := fun w' => w'.cell? ⟨w.heap.size, 0, none⟩ = some (.int .u64 tr) ∧ w'.cell? ⟨w.heap.size, 1, none⟩ = some (.int .u64 tm) ∧ w'.cell? ⟨w.heap.size, 2, none⟩ = some (.int .u64 ts) ∧ w'.cell? ⟨w.heap.size, 3, none⟩ = some (.int .u64 tc) ∧ w'.cell? ⟨w.heap.size, 4, none⟩ = some (.int .u64 tu)) (by kernel_rfl) (HBX.out W0 HT0.out) (fun hHeld => ?_)
  refine tkGo [0, 1, 2, 3, 4, 5, 6, 8, 11, 12] ?_
  repeat (refine tkOne (v := ?_) rfl (by kernel_rfl) (by kernel_rfl) (by kernel_rfl) (fun _ _ _ h => h) (by assumption) (by rfl) ?_ ?_; rotate_left; (intro wy hSw; (try dsimp only at hSw); go_simp; (first | done | with_reducible rfl)); try simp only [Act.put, List.getElem_toArray, List.getElem_cons_zero, List.getElem_cons_succ, List.setIfInBounds_toArray, List.set_cons_zero, List.set_cons_succ])
  refine tkEnd ?_
  refine wpAnyH_ready (rs := [7]) (by kernel_rfl) (by simp) ?_
  refine AllReadyH.cons rfl (fun KK hK => ?_) AllReadyH.nil
  rw [if_pos (by rfl)]
  go_simp
  refine hK.out _ _ (HBX.out _ HT0.out.drew) (fun hHeld => ?_)
  clear hK KK
  try simp only [Act.put, List.getElem_toArray, List.getElem_cons_zero, List.getElem_cons_succ, List.setIfInBounds_toArray, List.set_cons_zero, List.set_cons_succ]
  refine wpAnyH_ready (rs := [9]) (by kernel_rfl) (by simp) ?_
  refine AllReadyH.cons rfl (fun KK hK => ?_) AllReadyH.nil
  rw [if_pos (by rfl)]
  go_simp
  refine hK.out _ _ (HBX.out _ (HT0.out.below HBA.out HT0.out.lt)) (fun hHeld => ?_)
  clear hK KK
  try simp only [Act.put, List.getElem_toArray, List.getElem_cons_zero, List.getElem_cons_succ, List.setIfInBounds_toArray, List.set_cons_zero, List.set_cons_succ]
  refine wpAnyH_ready (rs := [10]) (by kernel_rfl) (by simp) ?_
  refine AllReadyH.cons rfl (fun KK hK => ?_) AllReadyH.nil
  rw [if_pos (by rfl)]
  go_simp
  go_at_call 15
  refine (ladd HSL.out HS).mono ?_
  rintro e w1 ⟨rfl, hb1⟩
  have HB1 := keepG (HBA.out.trans (hb1.mono HBA.out.size))
  have HP1 := keepG (HP0.out.below HB1.out HP0.out.lt)
  have HT1 := keepG (HT0.out.below HB1.out HT0.out.lt)
  clear hb1
  obtain ⟨Rr, Rm, Rs, Rc, Ru⟩ := R
  unfold taV
  go_simp
  refine hK.out _ _ (HBX.out _ HT1.out) (fun hHeld => ?_)
  clear hK KK
  try simp only [Act.put, List.getElem_toArray, List.getElem_cons_zero, List.getElem_cons_succ, List.setIfInBounds_toArray, List.set_cons_zero, List.set_cons_succ]
  refine tkGo [13] ?_
  repeat (refine tkOne (v := ?_) rfl (by kernel_rfl) (by kernel_rfl) (by kernel_rfl) (fun _ _ _ h => h) (by assumption) (by rfl) ?_ ?_; rotate_left; (intro wy hSw; (try dsimp only at hSw); go_simp; (first | done | with_reducible rfl)); try simp only [Act.put, List.getElem_toArray, List.getElem_cons_zero, List.getElem_cons_succ, List.setIfInBounds_toArray, List.set_cons_zero, List.set_cons_succ])
  refine tkEnd ?_
  obtain ⟨⟨e0, e1, e2, e3, e4⟩, g0, g1, g2, g3, g4⟩ := hp_ta HP1.out (by omega) HX.out
  have HP2 := keepG (HP1.out.sets (taC ⟨Rr, Rm, Rs, Rc, Ru⟩) (k * 5))
  have HT2 := keepG (HT1.out.fars hbn2 (taC ⟨Rr, Rm, Rs, Rc, Ru⟩) (k * 5))
  rw [splice_ta hA hk] at HP2
  refine wpAnyH_ready (rs := [14]) (by kernel_rfl) (by simp) ?_
  refine AllReadyH.cons rfl (fun KK hK => ?_) AllReadyH.nil
  rw [if_pos (by rfl)]
  go_simp
  refine hK.out _ _ (HBX.out _ HT2.out) (fun hHeld => ?_)
  clear hK KK
  try simp only [Act.put, List.getElem_toArray, List.getElem_cons_zero, List.getElem_cons_succ, List.setIfInBounds_toArray, List.set_cons_zero, List.set_cons_succ]
  refine wpAnyH_done (by kernel_rfl) ?_ _
  clear hHeld
  go_wp2
  exact bodyPost_end (results_none rfl _ _ _) rfl ⟨rfl, HP2.out, (Chg.of_below (HB0.out.trans (HB1.out.mono HB0.out.size))).trans (Chg.sets w1 b (k * 5) (taC ⟨Rr, Rm, Rs, Rc, Ru⟩)) (fun _ _ e => e)⟩
/-- The landed Stats, at a block. -/
def Lq (w : World) (b : Nat) (l : List To) : Prop := Hp w b 54 (flatG taC (four l))
theorem Lq.tell {l : List To} (h : Lq w b l) {k : Nat} (hk : k < 4) (x : To) (hx : x.h = k) {t : Ta} (ht : x.ta = t) : Calls Try.prog 19 #[.pointer (some ⟨b, 0, none⟩), .int .i64 k, taV t] w fun e w' => e = .returned (.tuple #[]) ∧ Lq w' b (l ++ [x]) ∧ Chg w w' (fun i => i = b) := by
  have e := four_more l x hk hx
  have ho : ((four l).getD k Ta.nil).Ok := by rw [four_at l hk]; exact ofL_ok _ _
  refine (ltell h (four_len l) hk ho t (R := (ofL k l).add t) (by show _ = _; rw [four_at l hk])).mono ?_
  rintro e' w' ⟨rfl, g1, g2⟩
  refine ⟨rfl, ?_, g2⟩
  unfold Lq
  rw [e, ht]
  exact g1
theorem one_hook (w : World) (x : Int) : SeesG nC 1 0 (w.alloc (.cells #[.int .i64 x] 3)) (.slice (some ⟨w.heap.size, 0, none⟩) 1 1) [x] := SeesG.lit nC_len 0 w 3 [x] _ _ rfl rfl (by simp)
theorem all_one (x : Int) : [x].all isH = isH x := by simp
set_option maxHeartbeats 1600000 in
theorem Lq.ran {l L : List To} (h : Lq w b l) (x s c u : Int) {E : Int} (HQ : Hid (ranL l x s c u = (E, L))) : Calls Try.prog 16 #[.pointer (some ⟨b, 0, none⟩), .int .i64 x, .int .u64 s, .int .u64 c, .int .u64 u] w fun e w' => e = .returned (.int .i64 E) ∧ Lq w' b L ∧ Chg w w' (fun i => i = b) := by
  have HS := keepG (one_hook w x)
  obtain ⟨W0, HW0, HL0, HB0⟩ : ∃ W0, Hid (w.alloc (.cells #[.int .i64 x] 3) = W0) ∧ Hid (Lq W0 b l) ∧ Hid (Below w.heap.size w W0) := ⟨_, rfl, Hp.alloc h _, below_allocG _ _⟩
  rw [HW0.out] at HS
  have hq := HQ.out
  unfold ranL at hq
  clear h HQ
  go_enter Try.func16, Try.ntmps16
  cases hh : isH x with
  | false =>
    rw [if_neg (by rw [hh]; decide)] at hq
    injection hq with e1 e2
    subst e1 e2
    have HR : Hid ([x].all isH = false) := (all_one x).trans hh
    clear hh
    go_wp2_with (first
      | (go_at_call 18; (try rw [HW0.out]); go_must (refine (lareHooks HS.out HR).mono ?_); rintro e w1 ⟨rfl, rfl⟩)
      | (rw [HW0.out]))
    go_ret
    exact ⟨rfl, HL0.out, Chg.of_below HB0.out⟩
  | true =>
    rw [if_pos hh] at hq
    injection hq with e1 e2
    subst e1
    have HLL : Hid (l ++ [⟨x, false, s, c, u⟩] = L) := e2
    have HR : Hid ([x].all isH = true) := (all_one x).trans hh
    obtain ⟨k, rfl, hk⟩ := isH_nat hh
    clear hh e2
    go_wp2_with (first
      | (go_at_call 18; (try rw [HW0.out]); go_must (refine (lareHooks HS.out HR).mono ?_); rintro e w1 ⟨rfl, rfl⟩)
      | (go_at_call 19; go_must (refine (HL0.out.tell hk ⟨k, false, s, c, u⟩ rfl (t := ⟨1, 0, s, c, u⟩) rfl).mono ?_); rintro e w2 ⟨rfl, h2, hc2⟩; go_must (have HL2 := keepG h2; have HC2 := keepG hc2; clear h2 hc2))
      | (rw [HW0.out]))
    go_ret
    rw [HLL.out] at HL2
    exact ⟨rfl, HL2.out, (Chg.of_below HB0.out).trans HC2.out (fun _ _ e => e)⟩
set_option maxHeartbeats 3200000 in
theorem Lq.missed {l L : List To} (h : Lq w b l) {vh : Value} {hs : List Int} (hse : Sees .i64 w vh hs) (hap : hs ≠ [] → Apt (fun i => i = b) (ftV vh)) {E : Int} (HQ : Hid (missedL l hs = (E, L))) : Calls Try.prog 17 #[.pointer (some ⟨b, 0, none⟩), vh] w fun e w' => e = .returned (.int .i64 E) ∧ Lq w' b L ∧ Chg w w' (fun i => i = b) := by
  have HS := keepG hse.asN
  have HSC : Hid (∀ wr, Chg w wr (fun i => i = b) → SeesG nC 1 0 wr vh hs) := by
    intro wr hc
    by_cases hne : hs = []
    · subst hne
      obtain ⟨a, cap, e, h1, h2, h3, h4⟩ := HS.out
      exact ⟨a, cap, e, h1, h2, h3, fun h => absurd rfl h⟩
    · exact HS.out.keeps hc (hap hne)
  have HL := keepG h
  have hq := HQ.out
  unfold missedL at hq
  have HQ2 := keepG hq
  obtain ⟨a, cap, ev, hlc, hmx⟩ := HS.out.shape
  subst ev
  clear h hse hap HQ hq
  go_enter Try.func17, Try.ntmps17
  cases hh : hs.all isH with
  | false =>
    have hq2 := HQ2.out
    rw [if_neg (by rw [hh]; decide)] at hq2
    injection hq2 with e1 e2
    subst e1 e2
    have HR : Hid (hs.all isH = false) := hh
    clear hh HQ2
    go_wp2_with (go_at_call 18; go_must (refine (lareHooks HS.out HR).mono ?_); rintro e w1 ⟨rfl, rfl⟩)
    go_ret
    exact ⟨rfl, HL.out, Chg.refl _ _⟩
  | true =>
    have hq2 := HQ2.out
    rw [if_pos hh] at hq2
    injection hq2 with e1 e2
    subst e1
    have HLL : Hid (l ++ hs.map (fun h => (⟨h, true, 0, 0, 0⟩ : To)) = L) := e2
    have HR : Hid (hs.all isH = true) := hh
    clear hh HQ2 e2
    go_wp2_with (go_at_call 18; go_must (refine (lareHooks HS.out HR).mono ?_); rintro e w1 ⟨rfl, rfl⟩)
    go_loopw [12] (fun i wz => ∃ z : Nat, z ≤ hs.length ∧ i = .int .i64 z ∧ Hid (Lq wz b (l ++ (hs.take z).map (fun h => (⟨h, true, 0, 0, 0⟩ : To))) ∧ Chg w wz (fun i => i = b))) (fun i _ => hs.length - (intOf i).toNat)
    case atStart => exact ⟨0, by omega, rfl, by simpa using HL.out, Chg.refl _ _⟩
    case round =>
      obtain ⟨z, hz, rfl, HI⟩ := hrel
      rename World => wz
      by_cases hlt : z < hs.length
      · have hltI : (z : Int) < hs.length := by omega
        obtain ⟨a', cap', ev, _, _, _, hc⟩ := HSC.out wz HI.out.2
        simp only [Value.slice.injEq] at ev
        obtain ⟨rfl, -, rfl⟩ := ev
        obtain ⟨p, off, rfl, _, hat⟩ := hc (fun e => by rw [e] at hlt; simp at hlt)
        have d0 : wz.cell? ⟨p, off + z, none⟩ = some (.int .i64 (hs.getD z 0)) := by have := hat z hlt 0 (by omega); rw [Nat.mul_one, Nat.add_zero] at this; exact this
        have hT := take_at hs z hlt
        have hxh := List.all_eq_true.1 HR.out _ (getD_mem hs z hlt)
        obtain ⟨k, hkk, hk⟩ := isH_nat hxh
        rw [hkk] at hT d0
        have HN : Hid (l ++ (hs.take (z + 1)).map (fun h => (⟨h, true, 0, 0, 0⟩ : To)) = (l ++ (hs.take z).map (fun h => (⟨h, true, 0, 0, 0⟩ : To))) ++ [⟨k, true, 0, 0, 0⟩]) := by show _ = _; rw [hT]; simp
        clear hat hT hxh hkk
        go_wp2_with (go_at_call 19; go_must (refine (HI.out.1.tell hk ⟨k, true, 0, 0, 0⟩ rfl (t := ⟨0, 1, 0, 0, 0⟩) rfl).mono ?_); rintro e w2 ⟨rfl, h2, hc2⟩; go_must (have HL2 := keepG h2; have HC2 := keepG hc2; clear h2 hc2))
        go_roundw
        case rel => exact ⟨z + 1, by omega, by go_num, by rw [HN.out]; exact HL2.out, HI.out.2.trans HC2.out (fun _ _ e => e)⟩
        case measure => simp [intOf]; omega
      · have hltI : ¬ (z : Int) < hs.length := by omega
        have h5 := HI.out
        rw [List.take_of_length_le (by omega), HLL.out] at h5
        have H5 := keepG h5
        clear h5
        go_wp2
        go_ret
        exact ⟨rfl, H5.out.1, H5.out.2⟩
set_option maxHeartbeats 1600000 in
theorem Lq.of {l : List To} (h : Lq w b l) (x : Int) {E : Int} {T : Ta} (HQ : Hid ((if isH x = true then (ofL x l, (0 : Int)) else (Ta.nil, 2)) = (T, E))) : Calls Try.prog 11 #[.pointer (some ⟨b, 0, none⟩), .int .i64 x] w fun e w' => e = .returned (.tuple #[taV T, .int .i64 E]) ∧ Below w.heap.size w w' := by
  obtain ⟨X, HX, HPX, HBX, HLX⟩ : ∃ X, Hid (w.alloc (.cells #[.int .u64 0, .int .u64 0, .int .u64 0, .int .u64 0, .int .u64 0] 40) = X) ∧ Hid (Hp X w.heap.size 40 (taC Ta.nil)) ∧ Hid (Below w.heap.size w X) ∧ Hid (Lq X b l) := ⟨_, rfl, Hp.new w _ _, below_allocG _ _, Hp.alloc h _⟩
  have HS := keepG (one_hook X x)
  obtain ⟨Y, HY, HPY, HBY, HLY⟩ : ∃ Y, Hid (X.alloc (.cells #[.int .i64 x] 3) = Y) ∧ Hid (Hp Y w.heap.size 40 (taC Ta.nil)) ∧ Hid (Below w.heap.size w Y) ∧ Hid (Lq Y b l) := ⟨_, rfl, HPX.out.alloc _, HBX.out.alloc HBX.out.size _, Hp.alloc HLX.out _⟩
  rw [HY.out] at HS
  obtain ⟨⟨a0, a1, a2, a3, a4⟩, b0, b1, b2, b3, b4⟩ := ta_cells HPY.out
  have hq := HQ.out
  clear h HQ
  go_enter Try.func11, Try.ntmps11
  cases hh : isH x with
  | false =>
    rw [if_neg (by rw [hh]; decide)] at hq
    injection hq with e1 e2
    subst e1 e2
    have HR : Hid ([x].all isH = false) := (all_one x).trans hh
    clear hh
    go_wp2_with (first
      | (go_at_call 18; (try rw [HX.out]); (try rw [HY.out]); go_must (refine (lareHooks HS.out HR).mono ?_); rintro e w1 ⟨rfl, rfl⟩)
      | (rw [HX.out])
      | (rw [HY.out]))
    exact ta_ret rfl rfl rfl (HPY.out.sets (taC Ta.nil) 0) ⟨rfl, HBY.out.trans (grown_to_below (grown_sets w.heap.size (taC Ta.nil) Y 0) (Nat.le_refl _) HBY.out.size)⟩
  | true =>
    rw [if_pos hh] at hq
    injection hq with e1 e2
    subst e2
    have HR : Hid ([x].all isH = true) := (all_one x).trans hh
    obtain ⟨k, rfl, hk⟩ := isH_nat hh
    have hkI : (k : Int) < 4 := by omega
    have HT : Hid ((four l).getD k Ta.nil = T) := (four_at l hk).trans e1
    obtain ⟨r, m, s, c, u⟩ := T
    obtain ⟨⟨d0, d1, d2, d3, d4⟩, _⟩ := hp_ta HLY.out (by rw [four_len]; exact hk) HT.out
    clear hh e1
    go_wp2_with (first
      | (go_at_call 18; (try rw [HX.out]); (try rw [HY.out]); go_must (refine (lareHooks HS.out HR).mono ?_); rintro e w1 ⟨rfl, rfl⟩)
      | (rw [HX.out])
      | (rw [HY.out]))
    exact ta_ret rfl rfl rfl (HPY.out.sets (taC ⟨r, m, s, c, u⟩) 0) ⟨rfl, HBY.out.trans (grown_to_below (grown_sets w.heap.size (taC ⟨r, m, s, c, u⟩) Y 0) (Nat.le_refl _) HBY.out.size)⟩
end
end Go.Proofs.Ytjhjfojmojjomaa
