
/-
  The landed kern of layer 21: its memory; New, has, those, take. Condition: it lies where the pointer says.
-/
import Derived.Test.YtnjmajcjdkceoaaTk
import Derived.Test.YtnjmajcjdkceoaaK21DD
namespace Go.Proofs.Ytnjmajcjdkceoaa
open Go.RowKit
set_option linter.unusedVariables false
set_option linter.unusedSimpArgs false
set_option maxRecDepth 100000

abbrev tkC (x : Int × Int) : List Value := [.int .i64 x.1, .int .i64 x.2]
theorem tkC_len (x : Int × Int) : (tkC x).length = 2 := rfl
/-- The landed tasks. -/
def tsK (K : Kn) : List (Int × Int) := (List.range K.m.length).map (fun i => (K.m.getD i 0, (lastP K.p i : Int)))
theorem tsK_len (K : Kn) : (tsK K).length = K.m.length := by simp [tsK]
theorem tsK_at (K : Kn) {k : Nat} (h : k < K.m.length) : (tsK K).getD k (0, 0) = (K.m.getD k 0, (lastP K.p k : Int)) := by simp [tsK, List.getD, h]
theorem tsK_put (K : Kn) (k : Nat) (y : Int) : tsK ⟨K.m.set k y, K.p⟩ = (tsK K).set k (y, (lastP K.p k : Int)) := by
  refine List.ext_getElem (by simp [tsK]) fun i h1 h2 => ?_
  have hi : i < K.m.length := by simpa [tsK] using h1
  by_cases e : k = i
  · subst e; simp [tsK, List.getD, hi]
  · simp [tsK, List.getD, e, List.getElem_set_ne, List.getElem?_set_ne]
theorem tsK_pick (K : Kn) {k : Nat} (h : k < K.m.length) : tsK ⟨K.m, K.p ++ [(k : Int)]⟩ = (tsK K).set k (K.m.getD k 0, ((K.p.length + 1 : Nat) : Int)) := by
  refine List.ext_getElem (by simp [tsK]) fun i h1 h2 => ?_
  have hi : i < K.m.length := by simpa [tsK] using h1
  have hl := lastP_more K.p k i
  by_cases e : k = i
  · subst e; rw [if_pos rfl] at hl; simp [tsK, List.getD, hl]
  · rw [if_neg (by omega)] at hl; simp [tsK, List.getD, e, List.getElem_set_ne, hl]
theorem tsK_new (n : Nat) : tsK (Kn.new n) = List.replicate n (0, 0) := by
  refine List.ext_getElem (by simp [tsK, Kn.new]) fun i h1 h2 => ?_
  have hi : i < n := by simpa [tsK, Kn.new] using h1
  simp [tsK, Kn.new, lastP_nil, List.getD, hi]
/-- The landed kern, at a block; its tasks at another. -/
structure Lm (w : World) (b g : Nat) (K : Kn) : Prop where
  hp : Hp w b 51 [.int .i64 K.p.length, .slice (some ⟨g, 0, none⟩) K.m.length K.m.length]
  row : Hp w g 55 (flatG tkC (tsK K))
def ftL (b g : Nat) : Ft := fun k => k = b ∨ k = g
section
variable {w w' : World} {b g : Nat} {K K' : Kn}
theorem Lm.below (h : Lm w b g K) (hb : Below w.heap.size w w') : Lm w' b g K := ⟨h.hp.below hb h.hp.lt, h.row.below hb h.row.lt⟩
theorem Lm.chg {S : Nat → Prop} (h : Lm w b g K) (hc : Chg w w' S) (ha : Apt S (ftL b g)) : Lm w' b g K := ⟨h.hp.chg hc (fun e => ha b e (.inl rfl)), h.row.chg hc (fun e => ha g e (.inr rfl))⟩
theorem Lm.apart (h : Lm w b g K) : b ≠ g := hp_type h.hp h.row (by decide)
theorem Lm.lies (h : Lm w b g K) : Lies w (ftL b g) := fun k hk => by rcases hk with e | e <;> rw [e]; exact h.hp.lt; exact h.row.lt
theorem Lm.low (h : Lm w b g K) : w.cell? ⟨b, 0, none⟩ = some (.int .i64 K.p.length) ∧ w.cell? ⟨b, 1, none⟩ = some (.slice (some ⟨g, 0, none⟩) K.m.length K.m.length) := ⟨h.hp.cell rfl, h.hp.cell rfl⟩
theorem Lm.at (h : Lm w b g K) {k : Nat} (hk : k < K.m.length) : w.cell? ⟨g, k * 2, none⟩ = some (.int .i64 (K.m.getD k 0)) ∧ w.cell? ⟨g, k * 2 + 1, none⟩ = some (.int .i64 (lastP K.p k)) := by
  have e := tsK_at K hk
  have hk' : k < (tsK K).length := by rw [tsK_len]; exact hk
  have h0 := flatG_at tkC_len (0, 0) (tsK K) (j := 0) hk' (by decide)
  have h1 := flatG_at tkC_len (0, 0) (tsK K) (j := 1) hk' (by decide)
  rw [e] at h0 h1
  exact ⟨h.row.cell h0, h.row.cell h1⟩
theorem Lm.put (h : Lm w b g K) {k : Nat} (hk : k < K.m.length) (y : Int) : Lm (w.setCell ⟨g, k * 2, none⟩ (.int .i64 y)) b g ⟨K.m.set k y, K.p⟩ := by
  refine ⟨?_, ?_⟩
  · have := h.hp.far (i := k * 2) (v := .int .i64 y) h.apart
    simp only [List.length_set]
    exact this
  · have h1 := h.row.set (k * 2) (.int .i64 y)
    have e1 := flatG_set tkC_len (0, 0) (tsK K) (k := k) (j := 0) (x := (y, (lastP K.p k : Int))) (v := .int .i64 y) (by rw [tsK_len]; exact hk) (by decide) (by rw [tsK_at K hk]; rfl)
    rw [Nat.add_zero] at e1
    rw [e1] at h1
    rw [tsK_put]
    exact h1
theorem Lm.more (h : Lm w b g K) {k : Nat} (hk : k < K.m.length) : Lm ((w.setCell ⟨b, 0, none⟩ (.int .i64 ((K.p.length + 1 : Nat) : Int))).setCell ⟨g, k * 2 + 1, none⟩ (.int .i64 ((K.p.length + 1 : Nat) : Int))) b g ⟨K.m, K.p ++ [(k : Int)]⟩ := by
  refine ⟨?_, ?_⟩
  · have := (h.hp.set 0 (.int .i64 ((K.p.length + 1 : Nat) : Int))).far (i := k * 2 + 1) (v := .int .i64 ((K.p.length + 1 : Nat) : Int)) h.apart
    simp only [List.length_append, List.length_singleton]
    exact this
  · have h1 := (h.row.far (b' := b) (i := 0) (v := .int .i64 ((K.p.length + 1 : Nat) : Int)) (fun e => h.apart e.symm)).set (k * 2 + 1) (.int .i64 ((K.p.length + 1 : Nat) : Int))
    have e1 := flatG_set tkC_len (0, 0) (tsK K) (k := k) (j := 1) (x := (K.m.getD k 0, ((K.p.length + 1 : Nat) : Int))) (v := .int .i64 ((K.p.length + 1 : Nat) : Int)) (by rw [tsK_len]; exact hk) (by decide) (by rw [tsK_at K hk]; rfl)
    rw [e1] at h1
    rw [tsK_pick K hk]
    exact h1
theorem infoTask : (Try.prog.info? 55).map (fun i => (i.zero, i.size, i.bytes)) = some (some (.agg #[.int .i64 0, .int .i64 0]), 2, 16) := by kernel_rfl
theorem made_task (n : Nat) : madeCells #[.int .i64 0, .int .i64 0] (n * 2) = (flatG tkC (List.replicate n (0, 0))).toArray := by
  apply Array.ext_getElem?
  intro j
  rw [show (flatG tkC (List.replicate n (0, 0))).toArray[j]? = (flatG tkC (List.replicate n (0, 0)))[j]? from List.getElem?_toArray]
  by_cases hj : j < n * 2
  · have h1 := flatG_at tkC_len (0, 0) (List.replicate n (0, 0)) (k := j / 2) (j := j % 2) (by simp; omega) (by omega)
    rw [show j / 2 * 2 + j % 2 = j by omega] at h1
    rw [h1, show (List.replicate n ((0 : Int), (0 : Int))).getD (j / 2) (0, 0) = (0, 0) by simp [List.getD, List.getElem?_replicate]; split <;> rfl]
    simp only [madeCells, Array.getElem?_map]
    rw [Array.getElem?_range]
    simp only [hj, if_true, Option.map_some]
    have h2 : j % 2 = 0 ∨ j % 2 = 1 := by omega
    rcases h2 with e | e <;> simp [e]
  · rw [Array.getElem?_eq_none (by rw [size_madeCells]; omega), List.getElem?_eq_none (by rw [flatG_len tkC_len, List.length_replicate]; omega)]
theorem run_makeK (n : Nat) (hn : n ≤ 64) (w : World) : (Instr.makeSlice 49 (.int .i64 n) (.int .i64 n)).run Try.prog w = .ok (.slice (some ⟨w.heap.size, 0, none⟩) n n) (w.alloc (.cells (flatG tkC (List.replicate n (0, 0))).toArray 55)) := by
  obtain ⟨i, h1, h2, h3, h4⟩ := info_parts infoTask
  have := run_make (P := Try.prog) w 49 55 i _ Try.underlying49 h1 h2 .i64 .i64 n n (by omega) (Int.le_refl _) (by rw [h4]; omega) (by omega)
  rw [h3] at this
  simp only [Int.toNat_natCast, Value.cells] at this
  rw [made_task] at this
  exact this
theorem lmnew_ok (n : Nat) (h1 : 1 ≤ n) (h2 : n ≤ 64) (w : World) : Calls Try.prog 8 #[.int .i64 n] w fun e w' => e = .returned (.tuple #[.pointer (some ⟨w.heap.size + 1, 0, none⟩), .int .i64 0]) ∧ Lm w' (w.heap.size + 1) w.heap.size (Kn.new n) ∧ Since w (ftL (w.heap.size + 1) w.heap.size) ∧ Below w.heap.size w w' := by
  have h1I : ¬ (n : Int) < 1 := by omega
  have h2I : ¬ (64 : Int) < n := by omega
  have hmk := run_makeK n h2 w
  obtain ⟨W1, HW1, HP1, HB1, HZ1⟩ : ∃ W1, Hid (w.alloc (.cells (flatG tkC (List.replicate n (0, 0))).toArray 55) = W1) ∧ Hid (Hp W1 w.heap.size 55 (flatG tkC (List.replicate n (0, 0)))) ∧ Below w.heap.size w W1 ∧ Hid (W1.heap.size = w.heap.size + 1) := ⟨_, rfl, Hp.new w _ _, below_allocG _ _, by show _ = _; simp⟩
  rw [HW1.out] at hmk
  go_enter Try.func8, Try.ntmps8
  go_wp2
  go_ret2
  refine ⟨by simp only [HZ1.out]; rfl, ⟨by have := Hp.new W1 [.int .i64 0, .slice (some ⟨w.heap.size, 0, none⟩) n n] 51; rw [HZ1.out] at this; simp only [Kn.new, List.length_replicate]; exact this, by rw [tsK_new]; exact HP1.out.alloc _⟩, fun k hk => ?_, HB1.alloc HB1.size _⟩
  rcases hk with e | e <;> omega
theorem lmnew_no (n : Int) (h : n < 1 ∨ 64 < n) (w : World) : Calls Try.prog 8 #[.int .i64 n] w fun e w' => e = .returned (.tuple #[.pointer none, .int .i64 2]) ∧ w = w' := by
  rcases h with h | h
  · go_enter Try.func8, Try.ntmps8
    go_wp2
    go_ret2
    exact ⟨rfl, rfl⟩
  · have h1 : ¬ n < 1 := by omega
    go_enter Try.func8, Try.ntmps8
    go_wp2
    go_ret2
    exact ⟨rfl, rfl⟩
theorem lmhas (h : Lm w b g K) (x : Int) {r : Bool} (HR : Hid (K.has x = r)) : Calls Try.prog 27 #[.pointer (some ⟨b, 0, none⟩), .int .i64 x] w fun e w' => e = .returned (.bool r) ∧ w = w' := by
  obtain ⟨c0, c1⟩ := h.low
  have hr := HR.out
  clear h
  by_cases h0 : 0 ≤ x
  · have h0d : decide (0 ≤ x) = true := by simpa using h0
    have : r = decide (x < K.m.length) := by rw [← hr]; simp [Kn.has, h0]
    subst this
    clear HR hr
    go_enter Try.func27, Try.ntmps27
    go_wp2
    go_ret
    exact ⟨rfl, rfl⟩
  · have h0d : decide (0 ≤ x) = false := by simpa using h0
    have : r = false := by rw [← hr]; simp [Kn.has, h0]
    subst this
    clear HR hr
    go_enter Try.func27, Try.ntmps27
    go_wp2
    go_ret
    exact ⟨rfl, rfl⟩
set_option maxHeartbeats 3200000 in
theorem lmthose (h : Lm w b g K) (hk : K.Ok) (md : Int) {A : List Int} (HA : Hid (K.inM md = A)) : Calls Try.prog 26 #[.pointer (some ⟨b, 0, none⟩), .int .i64 md] w fun e w' => ∃ u, e = .returned u ∧ RoN w' w.heap.size u A ∧ Below w.heap.size w w' := by
  obtain ⟨i0, hi0, hz0, hzs, hzb⟩ := info_parts infoIntN
  have HH := keepG (fun (wr : World) (hb : Below w.heap.size w wr) => h.below hb)
  have hl := hk.len.2
  obtain ⟨c0, c1⟩ := h.low
  clear h
  go_enter Try.func26, Try.ntmps26
  go_wp2
  go_loopw [5, 13] (fun u i wr => ∃ j : Nat, j ≤ K.m.length ∧ i = .int .i64 j ∧ Hid (RoN wr w.heap.size u (inL K.m md j)) ∧ Hid (Below w.heap.size w wr)) (fun _ i _ => K.m.length - (intOf i).toNat)
  case atStart => exact ⟨0, by omega, rfl, RoN.nil _ _, Below.refl _ _⟩
  case round =>
    rename_i u wr
    obtain ⟨j, hj, rfl, HO, HB⟩ := hrel
    have HD := keepG (HH.out wr HB.out)
    obtain ⟨Y, HY⟩ : ∃ Y, Hid (inL K.m md j = Y) := ⟨_, rfl⟩
    have HM := keepG (inL_more K.m md j)
    have hYl := inL_len K.m md j
    rw [HY.out] at HM HO hYl
    obtain ⟨va, vc, ev⟩ := own_shape HO.out
    subst ev
    by_cases hlt : j < K.m.length
    · have hltI : (j : Int) < K.m.length := by omega
      obtain ⟨ck, cl⟩ := HD.out.at hlt
      obtain ⟨y, HYY⟩ : ∃ y, Hid (K.m.getD j 0 = y) := ⟨_, rfl⟩
      obtain ⟨la, HLA⟩ : ∃ la : Int, Hid ((lastP K.p j : Int) = la) := ⟨_, rfl⟩
      rw [HYY.out] at ck HM
      rw [HLA.out] at cl
      obtain ⟨W0, HW0, HT0, HO0, HB0⟩ : ∃ W0, Hid (wr.alloc (.cells #[.int .i64 y, .int .i64 la] 55) = W0) ∧ Hid (Hp W0 wr.heap.size 55 (tkC (y, la))) ∧ Hid (RoN W0 w.heap.size (.slice va Y.length vc) Y) ∧ Hid (Below w.heap.size w W0) := ⟨_, rfl, Hp.new wr (tkC (y, la)) _, HO.out.below (below_allocG _ _), HB.out.alloc HB.out.size _⟩
      have t0 : W0.cell? ⟨wr.heap.size, 0, none⟩ = some (.int .i64 y) := HT0.out.cell rfl
      by_cases hy : y = md
      · have hyb : (y == md) = true := by simpa using hy
        have HM2 : Hid (inL K.m md (j + 1) = Y ++ [(j : Int)]) := by show _ = _; rw [HM.out, if_pos hy]
        have hz2 := HB0.out.size
        clear HYY HM hy
        go_wp2_with (first
          | (rw [HW0.out])
          | (at_builtin; go_must (refine wpList_append_wide _ rfl _ _ 29 rfl w.heap.size 3 i0 (.int .i64 0) 1 8 Try.underlying29 hi0 hz0 hzs hzb rfl (by decide) _ _ _ rfl (HO0.out.alloc _) ⟨_, 0, none⟩ 1 1 [.int .i64 j] rfl rfl (cell_one_new _ _ _) (one_cell _ _) (by unfold maxLen; omega) (by omega) (by simp; omega) ?_); intro v' w5 hown' hgrow _; go_must (have HR5 := keepG (HO0.out.more HB0.out (Nat.le_refl _) hown' hgrow); clear hown' hgrow)))
        go_roundw
        case rel => exact ⟨j + 1, by omega, by go_num, by rw [HM2.out]; exact HR5.out.1, HR5.out.2⟩
        case measure => simp [intOf]; omega
      · have hyb : (y == md) = false := by simpa using hy
        have HM2 : Hid (inL K.m md (j + 1) = Y) := by show _ = _; rw [HM.out, if_neg hy]
        clear HYY HM hy
        go_wp2_with (rw [HW0.out])
        go_roundw
        case rel => exact ⟨j + 1, by omega, by go_num, by rw [HM2.out]; exact HO0.out, HB0.out⟩
        case measure => simp [intOf]; omega
    · have hltI : ¬ (j : Int) < K.m.length := by omega
      have HE : Hid (Y = A) := by
        show _ = _
        rw [← HA.out, ← HY.out]
        unfold Kn.inM
        rw [show j = K.m.length by omega]
      rw [HE.out] at HO ⊢
      go_wp2
      go_ret
      exact ⟨_, rfl, HO.out, HB.out⟩
set_option maxHeartbeats 1600000 in
theorem lmtake (h : Lm w b g K) {k : Nat} (hk : k < K.m.length) (hn : K.m.length ≤ 64) (hl : K.p.length ≤ 1000000000000000) : Calls Try.prog 25 #[.pointer (some ⟨b, 0, none⟩), .int .i64 k] w fun e w' => e = .returned (.int .i64 k) ∧ Lm w' b g ⟨K.m, K.p ++ [(k : Int)]⟩ ∧ Chg w w' (ftL b g) := by
  obtain ⟨c0, c1⟩ := h.low
  have fz := h.hp.frozen 0
  have hkI : (k : Int) < K.m.length := by omega
  have hbg := h.apart
  have hgb : ¬ g = b := fun e => hbg e.symm
  have HM := keepG (h.more hk)
  have hp1 := h.hp.set 0 (.int .i64 ((K.p.length + 1 : Nat) : Int))
  have HR1 := keepG (h.row.far (b' := b) (i := 0) (v := .int .i64 ((K.p.length + 1 : Nat) : Int)) hgb)
  obtain ⟨N, HN⟩ : ∃ N : Int, Hid (((K.p.length + 1 : Nat) : Int) = N) := ⟨_, rfl⟩
  have hw0 : IntKind.i64.wrap ((K.p.length : Int) + 1) = N := by rw [IntKind.wrap_i64, ← HN.out]; omega
  rw [HN.out] at HM hp1 HR1
  have HC : Hid (Chg w ((w.setCell ⟨b, 0, none⟩ (.int .i64 N)).setCell ⟨g, k * 2 + 1, none⟩ (.int .i64 N)) (ftL b g)) := ((Chg.set w b 0 (.int .i64 N)).mono (fun _ e => .inl e)).trans (Chg.set _ g (k * 2 + 1) (.int .i64 N)) (fun _ _ e => .inr e)
  obtain ⟨W1, HW1⟩ : ∃ W1, Hid (w.setCell ⟨b, 0, none⟩ (.int .i64 N) = W1) := ⟨_, rfl⟩
  rw [HW1.out] at HM hp1 HR1 HC
  have d0 : W1.cell? ⟨b, 0, none⟩ = some (.int .i64 N) := hp1.cell (j := 0) rfl
  have d1 : W1.cell? ⟨b, 1, none⟩ = some (.slice (some ⟨g, 0, none⟩) K.m.length K.m.length) := hp1.cell (j := 1) rfl
  have hk' : k < (tsK K).length := by rw [tsK_len]; exact hk
  have d2 : W1.cell? ⟨g, k * 2 + 1, none⟩ = some (.int .i64 (lastP K.p k)) := by
    have h1 := flatG_at tkC_len (0, 0) (tsK K) (j := 1) hk' (by decide)
    rw [tsK_at K hk] at h1
    exact HR1.out.cell h1
  have f2 := HR1.out.frozen (k * 2 + 1)
  obtain ⟨e0, e1⟩ := HM.out.low
  have e0' : (W1.setCell ⟨g, k * 2 + 1, none⟩ (.int .i64 N)).cell? ⟨b, 0, none⟩ = some (.int .i64 N) := by rw [e0, ← HN.out]; simp
  clear h hp1 e0
  go_enter Try.func25, Try.ntmps25
  go_wp2_with (rw [HW1.out])
  refine wp_region_held_drew (S := fun w' => w'.cell? ⟨b, 0, none⟩ = some (.int .i64 N) ∧ w'.cell? ⟨b, 1, none⟩ = some (.slice (some ⟨g, 0, none⟩) K.m.length K.m.length)) (by kernel_rfl) ⟨d0, d1⟩ (fun hHeld => ?_)
  refine tkGo [0, 1, 2, 3, 4, 5, 6, 7, 8, 9, 10] ?_
  repeat (refine tkOne (v := ?_) rfl (by kernel_rfl) (by kernel_rfl) (by kernel_rfl) (fun _ _ _ h => h) (by assumption) (by rfl) ?_ ?_; rotate_left; (intro wy hSw; (try dsimp only at hSw); go_simp; (first | done | with_reducible rfl)); try simp only [Act.put, List.getElem_toArray, List.getElem_cons_zero, List.getElem_cons_succ, List.setIfInBounds_toArray, List.set_cons_zero, List.set_cons_succ])
  refine tkEnd ?_
  refine wpAnyH_ready (rs := [11]) (by kernel_rfl) (by simp) ?_
  refine AllReadyH.cons rfl (fun KK hK => ?_) AllReadyH.nil
  rw [if_pos (by rfl)]
  go_simp
  refine hK.out _ _ ⟨e0', e1⟩ (fun hHeld => ?_)
  clear hK KK
  try simp only [Act.put, List.getElem_toArray, List.getElem_cons_zero, List.getElem_cons_succ, List.setIfInBounds_toArray, List.set_cons_zero, List.set_cons_succ]
  refine wpAnyH_done (by kernel_rfl) ?_ _
  clear hHeld
  go_wp2
  go_ret
  exact ⟨rfl, HM.out.below (below_drG (Below.refl _ _)), HC.out.drewN 1⟩
end
end Go.Proofs.Ytnjmajcjdkceoaa
