
/-
  CmapBatches, walked. Condition: none but the arguments' reading.
-/
import Derived.Test.YtinoelooccmmnaaW15M2
import Derived.Test.YtinoelooccmmnaaW15Awake
namespace Go.Proofs.Ytinoelooccmmnaa
open Go.RowKit
set_option linter.unusedVariables false
set_option linter.unusedSimpArgs false
set_option maxRecDepth 100000

theorem walk_new (n : Nat) : (walkM (List.replicate n Sr.nil)).length = 0 := by
  induction n with
  | zero => rfl
  | succ n ih => rw [List.replicate_succ]; simp [walkM, Sr.nil]
/-- A pair of a row of one's own written anew. -/
theorem own_setPairC {w : World} {B g cap i : Nat} {L : List Pp} (p : Pp) (h : w.ownsRow B 64 2 (.slice (some ⟨g, 0, none⟩) L.length cap) L.length (flatG ppC L)) (hi : i < L.length) :
    ((w.setCell ⟨g, i * 2, none⟩ (.int .u64 p.k)).setCell ⟨g, i * 2 + 1, none⟩ (.int .u64 p.v)).ownsRow B 64 2 (.slice (some ⟨g, 0, none⟩) L.length cap) (L.set i p).length (flatG ppC (L.set i p)) ∧ Chg w ((w.setCell ⟨g, i * 2, none⟩ (.int .u64 p.k)).setCell ⟨g, i * 2 + 1, none⟩ (.int .u64 p.v)) (fun k => k = g) := by
  have r1 := own_setG ppC_len Pp.nil h (k := i) (j := 0) (x := ⟨p.k, (L.getD i Pp.nil).v⟩) (u := .int .u64 p.k) hi (by omega) rfl
  have r2 := own_setG ppC_len Pp.nil r1 (k := i) (j := 1) (x := p) (u := .int .u64 p.v) (by simpa using hi) (by omega) (by
    have : (L.set i ⟨p.k, (L.getD i Pp.nil).v⟩).getD i Pp.nil = ⟨p.k, (L.getD i Pp.nil).v⟩ := by simp [hi]
    rw [this]
    rfl)
  rw [List.set_set] at r2
  refine ⟨?_, (Chg.set _ _ _ _).trans (Chg.set _ _ _ _) (fun _ _ e => e)⟩
  have e : (L.set i p).length = L.length := List.length_set
  rw [e] at r2 ⊢
  exact r2
theorem pp_oneC (p : Pp) : ∀ u ∈ ppC p, u.oneCell' = true := by intro u hu; simp at hu; rcases hu with rfl | rfl <;> rfl
/-- The argument's box. -/
theorem def_box (w : World) (k c : Int) : ∃ X, Hid (w.alloc (.cells #[.int .i64 k, .int .i64 c] 24) = X) ∧ Below w.heap.size w X ∧ Hid (Hp X w.heap.size 24 [.int .i64 k, .int .i64 c]) := ⟨_, rfl, below_allocG _ _, Hp.new w [.int .i64 k, .int .i64 c] _⟩
theorem cmapBatches_no (k c n : Int) (sv : Value) (w : World) (h : (n < 1 ∨ 4 < n) ∨ defNoL k c) :
    Calls Try.prog 5 #[defW k c, .int .i64 n, sv] w fun e w' => e = .returned (.bool true) ∧ Below w.heap.size w w' := by
  obtain ⟨X, HX, hbX, HpX⟩ := def_box w k c
  have hzX := hbX.size
  have P1 : True := trivial
  go_enter Try.func5, Try.ntmps5
  go_wp2_with (first
    | (go_at_call 7; rw [HX.out]; go_must (refine (awake15_any X).mono ?_); rintro e w1 ⟨rfl, hb1⟩; go_must (have Hp1 := keepG (HpX.out.below hb1 HpX.out.lt); have c0 := Hp1.out.cell (j := 0) rfl; have c1 := Hp1.out.cell (j := 1) rfl))
    | (go_at_call 8; have hq := P1; clear hq; go_must (refine (lnewM_no k c n h w1).mono ?_); rintro e w2 ⟨rfl, hb2⟩; go_must (have Hp2 := keepG (Hp1.out.below hb2 Hp1.out.lt); have c2 := Hp2.out.cell (j := 0) rfl; have c3 := Hp2.out.cell (j := 1) rfl; clear P1))
    | (go_at_call 8; go_must (refine (lnewM_no k c n h w2).mono ?_); rintro e w3 ⟨rfl, hb3⟩))
  go_ret
  exact ⟨rfl, ((hbX.trans (hb1.mono hzX)).trans (hb2.mono (Nat.le_trans hzX hb1.size))).trans (hb3.mono (Nat.le_trans (Nat.le_trans hzX hb1.size) hb2.size))⟩
set_option maxHeartbeats 8000000 in
theorem cmapBatches_long (κ : Bool) (cap n : Nat) (h1 : 1 ≤ cap) (h2 : cap ≤ 16) (hn : 1 ≤ n) (hn4 : n ≤ 4) {kk : Int} (HKK : Hid (kindJ κ = kk)) (sv : Value) (is : List It) (w : World) (hs : SeesG itC 4 It.nil w sv is) (hl : 3000 < is.length) :
    Calls Try.prog 5 #[defW kk cap, .int .i64 n, sv] w fun e w' => e = .returned (.bool true) ∧ Below w.heap.size w w' := by
  obtain ⟨a, c, rfl, hc, hm, _, _⟩ := hs
  have hm' : c ≤ 9223372036854775807 := by unfold maxLen at hm; omega
  have h3I : (3000 : Int) < is.length := by omega
  obtain ⟨X, HX, hbX, HpX⟩ := def_box w kk cap
  have hzX := hbX.size
  have HNW : Hid (∀ wx, Calls Try.prog 8 #[defW kk cap, .int .i64 n] wx fun e w' => ∃ r G, e = .returned (.tuple #[.pointer (some ⟨r, 0, none⟩), .int .i64 0]) ∧ Lmo w' wx.heap.size r n cap κ kk (List.replicate n Sr.nil) G ∧ Since wx G ∧ Below wx.heap.size wx w') := fun wx => by
    have := lnewM_ok κ cap n h1 h2 hn hn4 wx
    rw [HKK.out] at this
    exact this
  have P1 : True := trivial
  go_enter Try.func5, Try.ntmps5
  go_wp2_with (first
    | (go_at_call 7; rw [HX.out]; go_must (refine (awake15_any X).mono ?_); rintro e w1 ⟨rfl, hb1⟩; go_must (have Hp1 := keepG (HpX.out.below hb1 HpX.out.lt); have c0 := Hp1.out.cell (j := 0) rfl; have c1 := Hp1.out.cell (j := 1) rfl))
    | (go_at_call 8; have hq := P1; clear hq; go_must (refine (HNW.out w1).mono ?_); rintro e w2 ⟨r, G, rfl, hL, hS, hb2⟩; go_must (have Hp2 := keepG (Hp1.out.below hb2 Hp1.out.lt); have c2 := Hp2.out.cell (j := 0) rfl; have c3 := Hp2.out.cell (j := 1) rfl; clear P1 hL hS))
    | (go_at_call 8; go_must (refine (HNW.out w2).mono ?_); rintro e w3 ⟨r3, G3, rfl, hL3, hS3, hb3⟩; go_must (clear hL3 hS3)))
  go_ret
  exact ⟨rfl, ((hbX.trans (hb1.mono hzX)).trans (hb2.mono (Nat.le_trans hzX hb1.size))).trans (hb3.mono (Nat.le_trans (Nat.le_trans hzX hb1.size) hb2.size))⟩
set_option maxHeartbeats 16000000 in
theorem cmapBatches_ok (κ : Bool) (cap n : Nat) (h1 : 1 ≤ cap) (h2 : cap ≤ 16) (hn : 1 ≤ n) (hn4 : n ≤ 4) {kk : Int} (HKK : Hid (kindJ κ = kk)) (sv : Value) (is : List It) (w : World) (hs : SeesG itC 4 It.nil w sv is) (hwf : ∀ x ∈ is, It.wf x) (hl : is.length ≤ 3000) :
    Calls Try.prog 5 #[defW kk cap, .int .i64 n, sv] w fun e w' => e = .returned (.bool true) ∧ Below w.heap.size w w' := by
  have HSS : Hid (∀ wr, Below w.heap.size w wr → SeesG itC 4 It.nil wr sv is) := fun wr hb => hs.below hb (Nat.le_refl _)
  obtain ⟨a, c, rfl, hc, hm, _, _⟩ := hs
  have hm' : c ≤ 9223372036854775807 := by unfold maxLen at hm; omega
  have h3I : ¬ (3000 : Int) < is.length := by omega
  obtain ⟨i0, hi0, hz0, hzs, hzb⟩ := info_parts infoIt
  obtain ⟨j0, hj0, hy0, hys, hyb⟩ := info_parts infoRq
  obtain ⟨l0, hl0, hw0, hws, hwb⟩ := info_parts infoPr
  obtain ⟨X, HX, hbX, HpX⟩ := def_box w kk cap
  have hzX := hbX.size
  have HNW : Hid (∀ wx, Calls Try.prog 8 #[defW kk cap, .int .i64 n] wx fun e w' => ∃ r G, e = .returned (.tuple #[.pointer (some ⟨r, 0, none⟩), .int .i64 0]) ∧ Lmo w' wx.heap.size r n cap κ kk (List.replicate n Sr.nil) G ∧ Since wx G ∧ Below wx.heap.size wx w') := fun wx => by
    have := lnewM_ok κ cap n h1 h2 hn hn4 wx
    rw [HKK.out] at this
    exact this
  obtain ⟨s0, HS0⟩ : ∃ s0, Hid (List.replicate n Sr.nil = s0) := ⟨_, rfl⟩
  obtain ⟨rs, s1, HR⟩ : ∃ rs s1, Hid (runM κ cap s0 is = (rs, s1)) := ⟨_, _, rfl⟩
  have HW0 : Hid ((walkM s0).length = 0) := by
    show _ = _
    rw [← HS0.out]
    exact walk_new n
  have HRL : Hid (rs.length = is.length) := by have := (runM_len κ cap is s0).1; rw [HR.out] at this; exact this
  have P1 : True := trivial
  go_enter Try.func5, Try.ntmps5
  go_wp2_with (first
    | (go_at_call 7; rw [HX.out]; go_must (refine (awake15_any X).mono ?_); rintro e w1 ⟨rfl, hb1⟩; go_must (have Hp1 := keepG (HpX.out.below hb1 HpX.out.lt); have c0 := Hp1.out.cell (j := 0) rfl; have c1 := Hp1.out.cell (j := 1) rfl; have hbw1 : Below w.heap.size w w1 := hbX.trans (hb1.mono hzX)))
    | (go_at_call 8; have hq := P1; clear hq; go_must (refine (HNW.out w1).mono ?_); rintro e w2 ⟨ra, Fa, rfl, hL, hS, hb2⟩; go_must (have Hp2 := keepG (Hp1.out.below hb2 Hp1.out.lt); have c2 := Hp2.out.cell (j := 0) rfl; have c3 := Hp2.out.cell (j := 1) rfl; have HL2 := keepG hL; have HS2 := keepG hS; clear P1 hL hS))
    | (go_at_call 8; go_must (refine (HNW.out w2).mono ?_); rintro e w3 ⟨rb, Fb, rfl, hL3, hS3, hb3⟩; go_must (have hm2 := M2.new h1 hbw1 HL2.out hb2.size HS2.out hb2 hL3 hb3.size hS3 hb3 h2 hn hn4; rw [HS0.out] at hm2; have HT3 := keepG hm2; obtain ⟨vi, wi, hri, hoi, hgi, hni⟩ := run_append_seesG (P := Try.prog) (w3.alloc (.cells #[] 41)) w3.heap.size 25 25 41 i0 _ 4 32 Try.underlying25 hi0 hz0 hzs hzb rfl (by decide) _ 0 [] (own_emptyT w3 _ 4) itC_len (HSS.out _ (HT3.out.below (below_allocG _ _)).be) (flat_oneI is) (by unfold maxLen; omega) (by omega) (by simp); clear hL3 hS3 hm2))
    | (at_builtin; go_must (refine wpList_appG _ rfl (.tmp 54) (.tmp 55) 25 25 rfl _ _ rfl rfl hri ?_; rw [Nat.zero_add, List.nil_append] at hoi; obtain ⟨ia, ic, rfl⟩ := own_shape hoi; have hbi : Below w3.heap.size w3 wi := (chg_append hgi).below (fun k e => by cases e; exact Nat.le_refl _) (Nat.le_refl _); have HT4 := keepG (HT3.out.below hbi); have HIN := keepG hoi; have HAP := keepG (Apt.made HT3.out.lies (own_since hoi (Nat.le_refl _))); clear hri hoi hgi hni))
    | (go_at_call 22; go_must (refine (HT4.out.batch (own_seesG itC_len It.nil HIN.out) hwf (by omega) HAP.out HR).mono ?_); rintro e w5 ⟨xv, rfl, F5, hx5, ht5, hn5⟩; go_must (have HT5 := keepG ht5; have HXR := keepG hx5; have HI5 := keepG (own_keeps HIN.out hn5.chg HAP.out); obtain ⟨xa, xc, rfl⟩ := own_shape hx5; clear hx5 ht5 hn5))
    | (go_at_call 16; go_must (refine (HT5.out.swap.lenM HW0).mono ?_); rintro e w6 ⟨rfl, rfl⟩))
  have hxlt := HXR.out.lt
  go_loopw [13, 14] (fun yv i wr => ∃ j : Nat, j ≤ is.length ∧ i = .int .i64 j ∧ Hid (wr.ownsRow w5.heap.size 37 6 yv (runM κ cap s0 (is.take j)).1.length (flatG rqC (runM κ cap s0 (is.take j)).1)) ∧ ∃ G1, Hid (M2 w wr ra rb n cap κ kk s1 (runM κ cap s0 (is.take j)).2 F5 G1) ∧ Hid (wr.ownsRow wi.heap.size 37 6 (.slice xa rs.length xc) rs.length (flatG rqC rs)) ∧ Hid (wr.ownsRow w3.heap.size 41 4 (.slice ia is.length ic) is.length (flatG itC is)) ∧ w5.heap.size ≤ wr.heap.size) (fun _ i _ => is.length - (intOf i).toNat)
  case atStart => exact ⟨0, by omega, rfl, World.ownsRow_nil _ _ _ _, Fb, HT5.out, HXR.out, HI5.out, Nat.le_refl _⟩
  case round =>
    obtain ⟨j, hj, rfl, HY, G1, HM, HXW, HIW, hzr⟩ := hrel
    rename World => wr
    obtain ⟨ya, yc, ev⟩ := own_shape HY.out
    subst ev
    by_cases hlt : j < is.length
    · have hltI : (j : Int) < is.length := by omega
      have HCC : Hid (∀ wx, Below w.heap.size w wx → ∃ g off, a = some ⟨g, off, none⟩ ∧ wx.cell? ⟨g, off + j * 4, none⟩ = some (.int .i64 (is.getD j It.nil).m) ∧ wx.cell? ⟨g, off + j * 4 + 1, none⟩ = some (.int .i64 (is.getD j It.nil).op) ∧ wx.cell? ⟨g, off + j * 4 + 2, none⟩ = some (.int .u64 (is.getD j It.nil).k) ∧ wx.cell? ⟨g, off + j * 4 + 3, none⟩ = some (.int .u64 (is.getD j It.nil).v)) := by
        intro wx hb
        obtain ⟨a', c', ev, _, _, _, hcell⟩ := HSS.out wx hb
        simp only [Value.slice.injEq, true_and] at ev
        obtain ⟨rfl, rfl⟩ := ev
        obtain ⟨g, off, rfl, hg, hat⟩ := hcell (fun e => by rw [e] at hlt; simp at hlt)
        exact ⟨g, off, rfl, hat j hlt 0 (by omega), hat j hlt 1 (by omega), hat j hlt 2 (by omega), hat j hlt 3 (by omega)⟩
      obtain ⟨g, off, rfl, d0, d1, d2, d3⟩ := HCC.out _ HM.out.be
      have HKP : Hid (∀ wx, Below w.heap.size w wx → wx.cell? ⟨g, off + j * 4, none⟩ = some (.int .i64 (is.getD j It.nil).m) ∧ wx.cell? ⟨g, off + j * 4 + 1, none⟩ = some (.int .i64 (is.getD j It.nil).op) ∧ wx.cell? ⟨g, off + j * 4 + 2, none⟩ = some (.int .u64 (is.getD j It.nil).k) ∧ wx.cell? ⟨g, off + j * 4 + 3, none⟩ = some (.int .u64 (is.getD j It.nil).v)) := by
        intro wx hb
        obtain ⟨g', off', ea, q⟩ := HCC.out wx hb
        simp only [Option.some.injEq, Addr.mk.injEq, true_and, and_true] at ea
        obtain ⟨rfl, rfl⟩ := ea
        exact q
      have hwk := hwf _ (getD_memT hlt)
      obtain ⟨x, HX0⟩ : ∃ x, Hid (is.getD j It.nil = x) := ⟨_, rfl⟩
      rw [HX0.out] at d0 d1 d2 d3 hwk HKP
      have HT : Hid (runM κ cap s0 (is.take (j + 1)) = ((runM κ cap s0 (is.take j)).1 ++ [(doM κ cap (runM κ cap s0 (is.take j)).2 x.op x.k x.v).1], (doM κ cap (runM κ cap s0 (is.take j)).2 x.op x.k x.v).2)) := by
        show _ = _
        rw [take_moreT hlt, HX0.out, runM_app]
      have hrl := (runM_len κ cap (is.take j) s0).1
      have htl := List.length_take_le j is
      obtain ⟨M, HMM⟩ : ∃ M, Hid ((runM κ cap s0 (is.take j)).1 = M) := ⟨_, rfl⟩
      obtain ⟨t1, HT1⟩ : ∃ t1, Hid ((runM κ cap s0 (is.take j)).2 = t1) := ⟨_, rfl⟩
      rw [HMM.out] at hrl
      rw [HMM.out, HT1.out] at HT
      rw [HT1.out] at HM
      rw [HMM.out] at HY ⊢
      have hMl : M.length ≤ 100000 := by omega
      clear hrl htl
      obtain ⟨q, t2, HQ⟩ : ∃ q t2, Hid (doM κ cap t1 x.op x.k x.v = (q, t2)) := ⟨_, _, rfl⟩
      rw [HQ.out] at HT
      go_wp2
      refine wp_region_held_drew (S := fun w' => w'.cell? ⟨g, off + j * 4, none⟩ = some (.int .i64 x.m) ∧ w'.cell? ⟨g, off + j * 4 + 1, none⟩ = some (.int .i64 x.op) ∧ w'.cell? ⟨g, off + j * 4 + 2, none⟩ = some (.int .u64 x.k) ∧ w'.cell? ⟨g, off + j * 4 + 3, none⟩ = some (.int .u64 x.v)) (by kernel_rfl) ⟨d0, d1, d2, d3⟩ (fun hHeld => ?_)
      refine wpAnyH_take (i := 0) (v := ?v2) rfl (by kernel_rfl) (by kernel_rfl) (by kernel_rfl) (fun _ _ _ h => h) (Or.inl ⟨by rfl, ?hy2⟩) (by assumption) ?rest2
      case hy2 => (intro wy hSw; (try dsimp only at hSw); go_simp; (first | done | with_reducible rfl))
      try simp only [Act.put, List.getElem_toArray, List.getElem_cons_zero, List.getElem_cons_succ, List.setIfInBounds_toArray, List.set_cons_zero, List.set_cons_succ]
      refine wpAnyH_take (i := 1) (v := ?v3) rfl (by kernel_rfl) (by kernel_rfl) (by kernel_rfl) (fun _ _ _ h => h) (Or.inl ⟨by rfl, ?hy3⟩) (by assumption) ?rest3
      case hy3 => (intro wy hSw; (try dsimp only at hSw); go_simp; (first | done | with_reducible rfl))
      try simp only [Act.put, List.getElem_toArray, List.getElem_cons_zero, List.getElem_cons_succ, List.setIfInBounds_toArray, List.set_cons_zero, List.set_cons_succ]
      refine wpAnyH_take (i := 2) (v := ?v4) rfl (by kernel_rfl) (by kernel_rfl) (by kernel_rfl) (fun _ _ _ h => h) (Or.inl ⟨by rfl, ?hy4⟩) (by assumption) ?rest4
      case hy4 => (intro wy hSw; (try dsimp only at hSw); go_simp; (first | done | with_reducible rfl))
      try simp only [Act.put, List.getElem_toArray, List.getElem_cons_zero, List.getElem_cons_succ, List.setIfInBounds_toArray, List.set_cons_zero, List.set_cons_succ]
      refine wpAnyH_take (i := 3) (v := ?v5) rfl (by kernel_rfl) (by kernel_rfl) (by kernel_rfl) (fun _ _ _ h => h) (Or.inl ⟨by rfl, ?hy5⟩) (by assumption) ?rest5
      case hy5 => (intro wy hSw; (try dsimp only at hSw); go_simp; (first | done | with_reducible rfl))
      try simp only [Act.put, List.getElem_toArray, List.getElem_cons_zero, List.getElem_cons_succ, List.setIfInBounds_toArray, List.set_cons_zero, List.set_cons_succ]
      refine wpAnyH_take (i := 4) (v := ?v6) rfl (by kernel_rfl) (by kernel_rfl) (by kernel_rfl) (fun _ _ _ h => h) (Or.inl ⟨by rfl, ?hy6⟩) (by assumption) ?rest6
      case hy6 => (intro wy hSw; (try dsimp only at hSw); go_simp; (first | done | with_reducible rfl))
      try simp only [Act.put, List.getElem_toArray, List.getElem_cons_zero, List.getElem_cons_succ, List.setIfInBounds_toArray, List.set_cons_zero, List.set_cons_succ]
      refine wpAnyH_take (i := 5) (v := ?v7) rfl (by kernel_rfl) (by kernel_rfl) (by kernel_rfl) (fun _ _ _ h => h) (Or.inl ⟨by rfl, ?hy7⟩) (by assumption) ?rest7
      case hy7 => (intro wy hSw; (try dsimp only at hSw); go_simp; (first | done | with_reducible rfl))
      try simp only [Act.put, List.getElem_toArray, List.getElem_cons_zero, List.getElem_cons_succ, List.setIfInBounds_toArray, List.set_cons_zero, List.set_cons_succ]
      refine wpAnyH_take (i := 6) (v := ?v8) rfl (by kernel_rfl) (by kernel_rfl) (by kernel_rfl) (fun _ _ _ h => h) (Or.inl ⟨by rfl, ?hy8⟩) (by assumption) ?rest8
      case hy8 => (intro wy hSw; (try dsimp only at hSw); go_simp; (first | done | with_reducible rfl))
      try simp only [Act.put, List.getElem_toArray, List.getElem_cons_zero, List.getElem_cons_succ, List.setIfInBounds_toArray, List.set_cons_zero, List.set_cons_succ]
      refine wpAnyH_take (i := 7) (v := ?v9) rfl (by kernel_rfl) (by kernel_rfl) (by kernel_rfl) (fun _ _ _ h => h) (Or.inl ⟨by rfl, ?hy9⟩) (by assumption) ?rest9
      case hy9 => (intro wy hSw; (try dsimp only at hSw); go_simp; (first | done | with_reducible rfl))
      try simp only [Act.put, List.getElem_toArray, List.getElem_cons_zero, List.getElem_cons_succ, List.setIfInBounds_toArray, List.set_cons_zero, List.set_cons_succ]
      refine wpAnyH_take (i := 8) (v := ?v10) rfl (by kernel_rfl) (by kernel_rfl) (by kernel_rfl) (fun _ _ _ h => h) (Or.inl ⟨by rfl, ?hy10⟩) (by assumption) ?rest10
      case hy10 => (intro wy hSw; (try dsimp only at hSw); go_simp; (first | done | with_reducible rfl))
      try simp only [Act.put, List.getElem_toArray, List.getElem_cons_zero, List.getElem_cons_succ, List.setIfInBounds_toArray, List.set_cons_zero, List.set_cons_succ]
      refine wpAnyH_take (i := 9) (v := ?v11) rfl (by kernel_rfl) (by kernel_rfl) (by kernel_rfl) (fun _ _ _ h => h) (Or.inl ⟨by rfl, ?hy11⟩) (by assumption) ?rest11
      case hy11 => (intro wy hSw; (try dsimp only at hSw); go_simp; (first | done | with_reducible rfl))
      try simp only [Act.put, List.getElem_toArray, List.getElem_cons_zero, List.getElem_cons_succ, List.setIfInBounds_toArray, List.set_cons_zero, List.set_cons_succ]
      refine wpAnyH_take (i := 10) (v := ?v12) rfl (by kernel_rfl) (by kernel_rfl) (by kernel_rfl) (fun _ _ _ h => h) (Or.inl ⟨by rfl, ?hy12⟩) (by assumption) ?rest12
      case hy12 => (intro wy hSw; (try dsimp only at hSw); go_simp; (first | done | with_reducible rfl))
      try simp only [Act.put, List.getElem_toArray, List.getElem_cons_zero, List.getElem_cons_succ, List.setIfInBounds_toArray, List.set_cons_zero, List.set_cons_succ]
      refine wpAnyH_take (i := 11) (v := ?v13) rfl (by kernel_rfl) (by kernel_rfl) (by kernel_rfl) (fun _ _ _ h => h) (Or.inl ⟨by rfl, ?hy13⟩) (by assumption) ?rest13
      case hy13 => (intro wy hSw; (try dsimp only at hSw); go_simp; (first | done | with_reducible rfl))
      try simp only [Act.put, List.getElem_toArray, List.getElem_cons_zero, List.getElem_cons_succ, List.setIfInBounds_toArray, List.set_cons_zero, List.set_cons_succ]
      refine wpAnyH_take (i := 12) (v := ?v14) rfl (by kernel_rfl) (by kernel_rfl) (by kernel_rfl) (fun _ _ _ h => h) (Or.inl ⟨by rfl, ?hy14⟩) (by assumption) ?rest14
      case hy14 => (intro wy hSw; (try dsimp only at hSw); go_simp; (first | done | with_reducible rfl))
      try simp only [Act.put, List.getElem_toArray, List.getElem_cons_zero, List.getElem_cons_succ, List.setIfInBounds_toArray, List.set_cons_zero, List.set_cons_succ]
      refine wpAnyH_take (i := 13) (v := ?v15) rfl (by kernel_rfl) (by kernel_rfl) (by kernel_rfl) (fun _ _ _ h => h) (Or.inl ⟨by rfl, ?hy15⟩) (by assumption) ?rest15
      case hy15 => (intro wy hSw; (try dsimp only at hSw); go_simp; (first | done | with_reducible rfl))
      try simp only [Act.put, List.getElem_toArray, List.getElem_cons_zero, List.getElem_cons_succ, List.setIfInBounds_toArray, List.set_cons_zero, List.set_cons_succ]
      refine wpAnyH_take (i := 14) (v := ?v16) rfl (by kernel_rfl) (by kernel_rfl) (by kernel_rfl) (fun _ _ _ h => h) (Or.inl ⟨by rfl, ?hy16⟩) (by assumption) ?rest16
      case hy16 => (intro wy hSw; (try dsimp only at hSw); go_simp; (first | done | with_reducible rfl))
      try simp only [Act.put, List.getElem_toArray, List.getElem_cons_zero, List.getElem_cons_succ, List.setIfInBounds_toArray, List.set_cons_zero, List.set_cons_succ]
      refine wpAnyH_take (i := 15) (v := ?v17) rfl (by kernel_rfl) (by kernel_rfl) (by kernel_rfl) (fun _ _ _ h => h) (Or.inl ⟨by rfl, ?hy17⟩) (by assumption) ?rest17
      case hy17 => (intro wy hSw; (try dsimp only at hSw); go_simp; (first | done | with_reducible rfl))
      try simp only [Act.put, List.getElem_toArray, List.getElem_cons_zero, List.getElem_cons_succ, List.setIfInBounds_toArray, List.set_cons_zero, List.set_cons_succ]
      refine wpAnyH_take (i := 16) (v := ?v18) rfl (by kernel_rfl) (by kernel_rfl) (by kernel_rfl) (fun _ _ _ h => h) (Or.inl ⟨by rfl, ?hy18⟩) (by assumption) ?rest18
      case hy18 => (intro wy hSw; (try dsimp only at hSw); go_simp; (first | done | with_reducible rfl))
      try simp only [Act.put, List.getElem_toArray, List.getElem_cons_zero, List.getElem_cons_succ, List.setIfInBounds_toArray, List.set_cons_zero, List.set_cons_succ]
      refine wpAnyH_ready (rs := [17]) (by kernel_rfl) (by simp) ?_
      refine AllReadyH.cons rfl (fun KK hK => ?_) AllReadyH.nil
      rw [if_pos (by rfl)]
      go_simp
      go_at_call 11
      refine ((HM.out.drewN 1).swap.do hwk HQ).mono ?_
      rintro e w7 ⟨rfl, G7, ht7, hn7⟩
      have HM7 := keepG ht7.swap
      have far : ∀ {B z n' : Nat} {t : TypeId} {v : Value} {ys : List Value}, (wr.drew).ownsRow B t z v n' ys → t ≠ 97 → t ≠ 95 → t ≠ 64 → t ≠ 35 → t ≠ 69 → t ≠ 55 → w7.ownsRow B t z v n' ys := fun ho a1 a2 a3 a4 a5 a6 => own_chg ho hn7.chg (fun k hk e => by
        obtain ⟨cs, hq⟩ := own_hpC ho hk
        exact (HM.out.drewN 1).swap.other hq a1 a2 a3 a4 a5 a6 e)
      have HY7 := keepG (far (HY.out) (by decide) (by decide) (by decide) (by decide) (by decide) (by decide))
      have HX7 := keepG (far (HXW.out) (by decide) (by decide) (by decide) (by decide) (by decide) (by decide))
      have HI7 := keepG (far (HIW.out) (by decide) (by decide) (by decide) (by decide) (by decide) (by decide))
      have hz7 : w5.heap.size ≤ w7.heap.size := Nat.le_trans hzr hn7.chg.size
      clear ht7 hn7 far
      go_simp
      refine hK.out _ _ (HKP.out w7 HM7.out.be) (fun hHeld => ?_)
      clear hK KK
      try simp only [Act.put, List.getElem_toArray, List.getElem_cons_zero, List.getElem_cons_succ, List.setIfInBounds_toArray, List.set_cons_zero, List.set_cons_succ]
      obtain ⟨Z, HZ, hbZ⟩ : ∃ Z, Hid (w7.alloc (.cells #[.int .i64 q.E, .bool q.f, .int .u64 q.v, .bool q.o, .int .u64 q.k, .int .u64 q.u] 37) = Z) ∧ Below w7.heap.size w7 Z := ⟨_, rfl, below_allocG _ _⟩
      have hlit : SeesG rqC 6 Rq.nil Z (.slice (some ⟨w7.heap.size, 0, none⟩) 1 1) [q] := by rw [← HZ.out]; exact SeesG.lit rqC_len Rq.nil w7 37 [q] _ 1 rfl rfl (by simp)
      obtain ⟨v8, w8, hr8, ho8, hg8, _⟩ := run_append_seesG (f := rqC) (d := Rq.nil) (P := Try.prog) Z w5.heap.size 61 61 37 j0 _ 6 48 Try.underlying61 hj0 hy0 hys hyb rfl (by decide) (.slice ya M.length yc) M.length (flatG rqC M) (own_below HY7.out hbZ (Nat.le_refl _)) rqC_len hlit (by intro u hu; rw [flatG_one] at hu; exact rqC_one q u hu) (by unfold maxLen; simp; omega) (by simp; omega) (by have := hbZ.size; omega)
      have hc8 : Chg w7 w8 (fun k => (Value.slice ya M.length yc).ownBlock = some k) := by
        rw [← HZ.out] at hg8
        exact chg_append hg8
      have hylt := HY7.out.lt
      have HM8 := keepG (HM7.out.chg hc8 (fun k e1 e2 => by
        obtain ⟨cs, hq⟩ := own_hpC HY7.out e1
        exact HM7.out.other hq (by decide) (by decide) (by decide) (by decide) (by decide) (by decide) e2) (fun k e1 e2 => by
        obtain ⟨cs, hq⟩ := own_hpC HY7.out e1
        exact HM7.out.swap.other hq (by decide) (by decide) (by decide) (by decide) (by decide) (by decide) e2) (fun k e => by have h8 := (hylt k e).1; have h9 := HT5.out.be.size; omega))
      have HX8 := keepG (own_chg HX7.out hc8 (fun k hk e => by have h8 := (hxlt k hk).2; have h9 := (hylt k e).1; omega))
      have HI8 := keepG (own_chg HI7.out hc8 (fun k hk e => own_twoG HI7.out HY7.out (by decide) k hk e))
      have hz8 : w5.heap.size ≤ w8.heap.size := Nat.le_trans hz7 hc8.size
      have HR8 := keepG hr8
      have HO8 := keepG ho8
      have HS8 := keepG (HKP.out w8 HM8.out.be)
      clear hr8 ho8 hg8 hc8 hlit hylt
      refine wpAnyH_ready (rs := [18]) (by kernel_rfl) (by simp) ?_
      refine AllReadyH.cons rfl (fun KK hK => ?_) AllReadyH.nil
      rw [if_pos (by rfl)]
      go_simp
      rw [HZ.out]
      refine hK.out _ _ (HKP.out Z (HM7.out.be.trans (hbZ.mono HM7.out.be.size))) (fun hHeld => ?_)
      clear hK KK
      try simp only [Act.put, List.getElem_toArray, List.getElem_cons_zero, List.getElem_cons_succ, List.setIfInBounds_toArray, List.set_cons_zero, List.set_cons_succ]
      refine wpAnyH_ready (rs := [19]) (by kernel_rfl) (by simp) ?_
      refine AllReadyH.cons rfl (fun KK hK => ?_) AllReadyH.nil
      rw [if_pos (by rfl)]
      refine wp_appG _ (.tmp 69) (.tmp 87) 61 61 rfl _ _ rfl rfl HR8.out ?_
      refine hK.out _ _ HS8.out (fun hHeld => ?_)
      clear hK KK
      try simp only [Act.put, List.getElem_toArray, List.getElem_cons_zero, List.getElem_cons_succ, List.setIfInBounds_toArray, List.set_cons_zero, List.set_cons_succ]
      refine wpAnyH_take (i := 20) (v := ?v1) rfl (by kernel_rfl) (by kernel_rfl) (by kernel_rfl) (fun _ _ _ h => h) (Or.inl ⟨by rfl, ?hy1⟩) (by assumption) ?rest1
      case hy1 => (intro wy hSw; (try dsimp only at hSw); go_simp; (first | done | with_reducible rfl))
      try simp only [Act.put, List.getElem_toArray, List.getElem_cons_zero, List.getElem_cons_succ, List.setIfInBounds_toArray, List.set_cons_zero, List.set_cons_succ]
      refine wpAnyH_done (by kernel_rfl) ?_ _
      obtain ⟨va8, vc8, rfl⟩ := own_shape HO8.out
      obtain ⟨gi, ci, ev, _, hgi, _, _, hati⟩ := own_atG itC_len It.nil HI8.out (by omega)
      simp only [Value.slice.injEq, true_and] at ev
      obtain ⟨rfl, rfl⟩ := ev
      have e0 := (hati j hlt 0 (by omega)).1
      have e1 := (hati j hlt 1 (by omega)).1
      have e2 := (hati j hlt 2 (by omega)).1
      have e3 := (hati j hlt 3 (by omega)).1
      simp only [List.getElem?_cons_zero, List.getElem?_cons_succ, Nat.add_zero] at e0 e1 e2 e3
      rw [HX0.out] at e0 e1 e2 e3
      clear hati d0 d1 d2 d3
      obtain ⟨d0, d1, d2, d3⟩ := HS8.out
      go_wp2
      refine wp_region_held_drew (S := fun w' => (w'.cell? ⟨g, off + j * 4, none⟩ = some (.int .i64 x.m) ∧ w'.cell? ⟨g, off + j * 4 + 1, none⟩ = some (.int .i64 x.op) ∧ w'.cell? ⟨g, off + j * 4 + 2, none⟩ = some (.int .u64 x.k) ∧ w'.cell? ⟨g, off + j * 4 + 3, none⟩ = some (.int .u64 x.v)) ∧ w'.cell? ⟨gi, j * 4, none⟩ = some (.int .i64 x.m) ∧ w'.cell? ⟨gi, j * 4 + 1, none⟩ = some (.int .i64 x.op) ∧ w'.cell? ⟨gi, j * 4 + 2, none⟩ = some (.int .u64 x.k) ∧ w'.cell? ⟨gi, j * 4 + 3, none⟩ = some (.int .u64 x.v)) (by kernel_rfl) ⟨⟨d0, d1, d2, d3⟩, e0, e1, e2, e3⟩ (fun hHeld => ?_)
      refine wpAnyH_take (i := 0) (v := ?v19) rfl (by kernel_rfl) (by kernel_rfl) (by kernel_rfl) (fun _ _ _ h => h) (Or.inl ⟨by rfl, ?hy19⟩) (by assumption) ?rest19
      case hy19 => (intro wy hSw; (try dsimp only at hSw); go_simp; (first | done | with_reducible rfl))
      try simp only [Act.put, List.getElem_toArray, List.getElem_cons_zero, List.getElem_cons_succ, List.setIfInBounds_toArray, List.set_cons_zero, List.set_cons_succ]
      refine wpAnyH_take (i := 1) (v := ?v20) rfl (by kernel_rfl) (by kernel_rfl) (by kernel_rfl) (fun _ _ _ h => h) (Or.inl ⟨by rfl, ?hy20⟩) (by assumption) ?rest20
      case hy20 => (intro wy hSw; (try dsimp only at hSw); go_simp; (first | done | with_reducible rfl))
      try simp only [Act.put, List.getElem_toArray, List.getElem_cons_zero, List.getElem_cons_succ, List.setIfInBounds_toArray, List.set_cons_zero, List.set_cons_succ]
      refine wpAnyH_take (i := 2) (v := ?v21) rfl (by kernel_rfl) (by kernel_rfl) (by kernel_rfl) (fun _ _ _ h => h) (Or.inl ⟨by rfl, ?hy21⟩) (by assumption) ?rest21
      case hy21 => (intro wy hSw; (try dsimp only at hSw); go_simp; (first | done | with_reducible rfl))
      try simp only [Act.put, List.getElem_toArray, List.getElem_cons_zero, List.getElem_cons_succ, List.setIfInBounds_toArray, List.set_cons_zero, List.set_cons_succ]
      refine wpAnyH_take (i := 3) (v := ?v22) rfl (by kernel_rfl) (by kernel_rfl) (by kernel_rfl) (fun _ _ _ h => h) (Or.inl ⟨by rfl, ?hy22⟩) (by assumption) ?rest22
      case hy22 => (intro wy hSw; (try dsimp only at hSw); go_simp; (first | done | with_reducible rfl))
      try simp only [Act.put, List.getElem_toArray, List.getElem_cons_zero, List.getElem_cons_succ, List.setIfInBounds_toArray, List.set_cons_zero, List.set_cons_succ]
      refine wpAnyH_take (i := 4) (v := ?v23) rfl (by kernel_rfl) (by kernel_rfl) (by kernel_rfl) (fun _ _ _ h => h) (Or.inl ⟨by rfl, ?hy23⟩) (by assumption) ?rest23
      case hy23 => (intro wy hSw; (try dsimp only at hSw); go_simp; (first | done | with_reducible rfl))
      try simp only [Act.put, List.getElem_toArray, List.getElem_cons_zero, List.getElem_cons_succ, List.setIfInBounds_toArray, List.set_cons_zero, List.set_cons_succ]
      refine wpAnyH_take (i := 5) (v := ?v24) rfl (by kernel_rfl) (by kernel_rfl) (by kernel_rfl) (fun _ _ _ h => h) (Or.inl ⟨by rfl, ?hy24⟩) (by assumption) ?rest24
      case hy24 => (intro wy hSw; (try dsimp only at hSw); go_simp; (first | done | with_reducible rfl))
      try simp only [Act.put, List.getElem_toArray, List.getElem_cons_zero, List.getElem_cons_succ, List.setIfInBounds_toArray, List.set_cons_zero, List.set_cons_succ]
      refine wpAnyH_take (i := 6) (v := ?v25) rfl (by kernel_rfl) (by kernel_rfl) (by kernel_rfl) (fun _ _ _ h => h) (Or.inl ⟨by rfl, ?hy25⟩) (by assumption) ?rest25
      case hy25 => (intro wy hSw; (try dsimp only at hSw); go_simp; (first | done | with_reducible rfl))
      try simp only [Act.put, List.getElem_toArray, List.getElem_cons_zero, List.getElem_cons_succ, List.setIfInBounds_toArray, List.set_cons_zero, List.set_cons_succ]
      refine wpAnyH_take (i := 7) (v := ?v26) rfl (by kernel_rfl) (by kernel_rfl) (by kernel_rfl) (fun _ _ _ h => h) (Or.inl ⟨by rfl, ?hy26⟩) (by assumption) ?rest26
      case hy26 => (intro wy hSw; (try dsimp only at hSw); go_simp; (first | done | with_reducible rfl))
      try simp only [Act.put, List.getElem_toArray, List.getElem_cons_zero, List.getElem_cons_succ, List.setIfInBounds_toArray, List.set_cons_zero, List.set_cons_succ]
      refine wpAnyH_take (i := 8) (v := ?v27) rfl (by kernel_rfl) (by kernel_rfl) (by kernel_rfl) (fun _ _ _ h => h) (Or.inl ⟨by rfl, ?hy27⟩) (by assumption) ?rest27
      case hy27 => (intro wy hSw; (try dsimp only at hSw); go_simp; (first | done | with_reducible rfl))
      try simp only [Act.put, List.getElem_toArray, List.getElem_cons_zero, List.getElem_cons_succ, List.setIfInBounds_toArray, List.set_cons_zero, List.set_cons_succ]
      refine wpAnyH_done (by kernel_rfl) ?_ _
      have eM : (M ++ [q]).length = M.length + [q].length := List.length_append
      have HO9 : Hid (w8.drew.ownsRow w5.heap.size 37 6 (.slice va8 (M.length + [q].length) vc8) (runM κ cap s0 (is.take (j + 1))).1.length (flatG rqC (runM κ cap s0 (is.take (j + 1))).1)) := by
        rw [HT.out]
        show World.ownsRow _ _ _ _ _ _ _
        rw [eM, flatG_app]
        exact HO8.out
      have HM9 : Hid (M2 w w8.drew ra rb n cap κ kk s1 (runM κ cap s0 (is.take (j + 1))).2 F5 G7) := by
        rw [HT.out]
        exact HM8.out.drewN 1
      have HX9 : Hid (w8.drew.ownsRow wi.heap.size 37 6 (.slice xa rs.length xc) rs.length (flatG rqC rs)) := HX8.out
      have HI9 : Hid (w8.drew.ownsRow w3.heap.size 41 4 (.slice (some ⟨gi, 0, none⟩) is.length ic) is.length (flatG itC is)) := HI8.out
      go_wp2
      first
        | (go_roundw
           case rel => exact ⟨j + 1, by omega, by go_num, HO9, G7, HM9, HX9, HI9, hz8⟩
           case measure => simp [intOf]; omega)
        | exact ⟨⟨j + 1, by omega, by go_num, HO9, G7, HM9, HX9, HI9, hz8⟩, by simp [intOf]; omega⟩
    · have hltI : ¬ (j : Int) < is.length := by omega
      have hT : is.take j = is := List.take_of_length_le (by omega)
      have HR1 : Hid ((runM κ cap s0 (is.take j)).1 = rs) := by show _ = _; rw [hT, HR.out]
      have HR2 : Hid ((runM κ cap s0 (is.take j)).2 = s1) := by show _ = _; rw [hT, HR.out]
      rw [HR1.out] at HY ⊢
      rw [HR2.out] at HM
      clear hT
      obtain ⟨W, HW⟩ : ∃ W, Hid (walkM s1 = W) := ⟨_, rfl⟩
      have hW64 : W.length ≤ 64 := by rw [← HW.out]; exact HM.out.walk64
      have HWL : Hid ((walkM s1).length = W.length) := by show _ = _; rw [HW.out]
      go_wp2_with (go_at_call 15; go_must (refine (HM.out.walk HW).mono ?_); rintro e wx ⟨ux, rfl, hux, hbx⟩; go_must (have HUX := keepG hux; obtain ⟨pa, pc, rfl⟩ := own_shape hux; clear hux))
      go_loopw [16] (fun i wr3 => ∃ q : Nat, q ≤ W.length ∧ i = .int .i64 q ∧ (∃ L : List Pp, L.length = W.length ∧ Hid (wr3.ownsRow wr.heap.size 64 2 (.slice pa W.length pc) L.length (flatG ppC L))) ∧ Below wr.heap.size wr wr3) (fun i _ => W.length - (intOf i).toNat)
      case atStart => exact ⟨0, by omega, rfl, ⟨W, rfl, HUX.out⟩, hbx⟩
      case round =>
        obtain ⟨q, hq, rfl, ⟨L, hL, HO⟩, hbw⟩ := hrel
        rename World => wv
        have hzw := hbw.size
        by_cases hlt2 : q < W.length
        · have hlt2I : (q : Int) < W.length := by omega
          rw [← hL] at HO
          obtain ⟨g8, c8, ev8, hgB, hgw, hgc, hcm, hat8⟩ := own_atG ppC_len Pp.nil HO.out (by omega)
          simp only [Value.slice.injEq, true_and] at ev8
          obtain ⟨rfl, rfl⟩ := ev8
          have d0 := hat8 q (by omega) 0 (by omega)
          have d1 := hat8 q (by omega) 1 (by omega)
          simp only [List.getElem?_cons_zero, List.getElem?_cons_succ, Nat.add_zero] at d0 d1
          obtain ⟨d0, f0⟩ := d0
          obtain ⟨d1, f1⟩ := d1
          have HS2 := keepG (own_setPairC ⟨7777, 0⟩ HO.out (i := q) (by omega))
          clear hat8
          go_wp2
          go_roundw
          case rel => exact ⟨q + 1, by omega, by go_num, ⟨L.set q ⟨7777, 0⟩, by simpa using hL, by have hh := HS2.out.1; rw [hL] at hh; exact hh⟩, hbw.trans (HS2.out.2.below (fun k e => by omega) hzw)⟩
          case measure => simp [intOf]; omega
        · have hlt2I : ¬ (q : Int) < W.length := by omega
          rw [← hL] at HO
          have hX16 : L.length ≤ 64 := by omega
          have hXI : (L.length : Int) = (W.length : Int) := by omega
          have hXw : IntKind.i64.wrap ((W.length : Int) + 1) = (W.length : Int) + 1 := by rw [IntKind.wrap_i64]; omega
          have P6 : True := trivial
          go_wp2_with (first
            | (at_builtin; go_must (refine wpList_append_own_at _ rfl (.tmp 110) (.tmp 112) 43 rfl wr.heap.size 64 l0 _ 2 16 Try.underlying43 hl0 hw0 hws hwb rfl (by decide) _ L.length (flatG ppC L) (by rw [hL]; rfl) (HO.out.alloc _) ⟨_, 0, none⟩ 1 1 (ppC ⟨0, 0⟩) rfl rfl (cells_new wv (ppC ⟨0, 0⟩) _ _ rfl) (pp_oneC ⟨0, 0⟩) (by unfold maxLen; omega) (by omega) (by simp; omega) ?_); intro v' w' hown hgr _ hnew; go_must (obtain ⟨va, vc, rfl⟩ := own_shape hown; have hbw2 : Below wr.heap.size wr w' := hbw.trans ((chg_append hgr).below (fun k e => (HO.out.lt k e).1) hzw); have HTa := keepG (HM.out.below hbw2); have HXa := keepG ((own_seesG rqC_len Rq.nil HXW.out).below hbw2 (Nat.le_refl _)); have HYa := keepG ((own_seesG rqC_len Rq.nil HY.out).below hbw2 (Nat.le_refl _)); clear hown hgr hnew))
            | (go_at_call 23; go_must (refine (wres15 HXa.out HYa.out).mono ?_); rintro e wb ⟨rfl, mb, rfl⟩; go_must (have HTb := keepG (HTa.out.drewN mb)))
            | (go_at_call 15; have hq := P6; clear hq; go_must (refine (HTb.out.walk HW).mono ?_); rintro e wc ⟨uc, rfl, huc, hbc⟩; go_must (have HTc := keepG (HTb.out.below hbc); have HUc := keepG (own_seesG ppC_len Pp.nil huc); clear huc P6))
            | (go_at_call 15; go_must (refine (HTc.out.swap.walk HW).mono ?_); rintro e wd ⟨ud, rfl, hud, hbd⟩; go_must (have HTd := keepG (HTc.out.below hbd); have HUd := keepG (own_seesG ppC_len Pp.nil hud); have HVd := keepG (HUc.out.below hbd (Nat.le_refl _)); clear hud))
            | (go_at_call 14; go_must (refine (wpairs15 HVd.out HUd.out).mono ?_); rintro e we ⟨rfl, me, rfl⟩; go_must (have HTe := keepG (HTd.out.drewN me)))
            | (go_at_call 22; go_must (refine (HTe.out.batch (is := []) (rs := []) (s' := s1) (SeesG.nil It.nil _) (fun x hx => by cases hx) (by simp) (fun k _ e => by cases e) (show Hid _ from rfl)).mono ?_); rintro e wf ⟨uf, rfl, Ff, huf, htf, _⟩; go_must (have HTf := keepG htf; obtain ⟨fa, fc, rfl⟩ := own_shape huf; clear htf huf))
            | (go_at_call 16; go_must (refine (HTf.out.lenM HWL).mono ?_); rintro e wg ⟨rfl, rfl⟩))
          go_ret
          exact ⟨rfl, HTf.out.be⟩
/-- CmapBatches. -/
theorem cmapBatches_walk (k c n : Int) (sv : Value) (is : List It) (w : World) {P0 : Prop} (_ : P0) (hs : SeesG itC 4 It.nil w sv is) (hwf : ∀ x ∈ is, It.wf x) (_ : is.length * 32 ≤ 140737488351232) :
    Calls Try.prog 5 #[defW k c, .int .i64 n, sv] w fun e w' => e = .returned (.bool true) ∧ Below w.heap.size w w' := by
  by_cases h : (n < 1 ∨ 4 < n) ∨ defNoL k c
  · exact cmapBatches_no k c n sv w h
  · unfold defNoL at h
    obtain ⟨m, rfl⟩ : ∃ m : Nat, n = m := ⟨n.toNat, by omega⟩
    obtain ⟨cap, rfl⟩ : ∃ cap : Nat, c = cap := ⟨c.toNat, by omega⟩
    obtain ⟨κ, HK⟩ : ∃ κ : Bool, Hid (kindJ κ = k) := by
      by_cases h0 : k = 0
      · exact ⟨false, h0.symm⟩
      · exact ⟨true, show (1 : Int) = k by omega⟩
    by_cases hl : 3000 < is.length
    · exact cmapBatches_long κ cap m (by omega) (by omega) (by omega) (by omega) HK sv is w hs hl
    · exact cmapBatches_ok κ cap m (by omega) (by omega) (by omega) (by omega) HK sv is w hs hwf (by omega)
end Go.Proofs.Ytinoelooccmmnaa
