
/-
  CmapParts, walked. Condition: none but the arguments' reading.
-/
import Derived.Test.YtinoelooccmmnaaW15Ms
namespace Go.Proofs.Ytinoelooccmmnaa
open Go.RowKit
set_option linter.unusedVariables false
set_option linter.unusedSimpArgs false
set_option maxRecDepth 100000

theorem M1.make {w0 wi w5 : World} {B E b m n cap : Nat} {κ : Bool} {k : Int} {st st' : List Sr} {F F5 : Ft} {xv : Value} {rs : List Rq} (hbe : Below w0.heap.size w0 wi) (hB : B ≤ wi.heap.size) (hL : Lmo wi B m n cap κ k st F) (hS : Since w0 F) (hbx : Hp wi b 24 [.int .i64 k, .int .i64 cap]) (hL5 : Lmo w5 B m n cap κ k st' F5) (hn : Nx wi w5 F F5) (hrow : w5.ownsRow E 37 6 xv rs.length (flatG rqC rs)) (n1 : 1 ≤ n) (n4 : n ≤ 4) (c16 : cap ≤ 16) (inv : InvM κ cap st') : M1 w0 w5 m n cap κ k st' b E xv rs :=
  ⟨⟨B, F5, Nat.le_trans hB hn.chg.size, hL5, hS.next hbe.size hn⟩, hS.be hbe hn, hbx.chg hn.chg (hL.other hbx (by decide) (by decide) (by decide) (by decide) (by decide) (by decide)), hrow, n1, n4, c16, inv⟩
theorem cmapParts_no (k c n : Int) (sv : Value) (w : World) (h : (n < 1 ∨ 4 < n) ∨ defNoL k c) :
    Calls Try.prog 6 #[defW k c, .int .i64 n, sv] w fun e w' => e = .returned (.bool true) ∧ Below w.heap.size w w' := by
  obtain ⟨X, HX, hbX, HpX⟩ := def_box w k c
  have hzX := hbX.size
  go_enter Try.func6, Try.ntmps6
  go_wp2_with (first
    | (go_at_call 7; rw [HX.out]; go_must (refine (awake15_any X).mono ?_); rintro e w1 ⟨rfl, hb1⟩; go_must (have Hp1 := keepG (HpX.out.below hb1 HpX.out.lt); have c0 := Hp1.out.cell (j := 0) rfl; have c1 := Hp1.out.cell (j := 1) rfl))
    | (go_at_call 8; go_must (refine (lnewM_no k c n h w1).mono ?_); rintro e w2 ⟨rfl, hb2⟩))
  go_ret
  exact ⟨rfl, (hbX.trans (hb1.mono hzX)).trans (hb2.mono (Nat.le_trans hzX hb1.size))⟩
set_option maxHeartbeats 8000000 in
theorem cmapParts_long (κ : Bool) (cap n : Nat) (h1 : 1 ≤ cap) (h2 : cap ≤ 16) (hn : 1 ≤ n) (hn4 : n ≤ 4) {kk : Int} (HKK : Hid (kindJ κ = kk)) (sv : Value) (is : List It) (w : World) (hs : SeesG itC 4 It.nil w sv is) (hl : 3000 < is.length) :
    Calls Try.prog 6 #[defW kk cap, .int .i64 n, sv] w fun e w' => e = .returned (.bool true) ∧ Below w.heap.size w w' := by
  obtain ⟨a, c, rfl, hc, hm, _, _⟩ := hs
  have hm' : c ≤ 9223372036854775807 := by unfold maxLen at hm; omega
  have h3I : (3000 : Int) < is.length := by omega
  obtain ⟨X, HX, hbX, HpX⟩ := def_box w kk cap
  have hzX := hbX.size
  have HNW : Hid (∀ wx, Calls Try.prog 8 #[defW kk cap, .int .i64 n] wx fun e w' => ∃ r G, e = .returned (.tuple #[.pointer (some ⟨r, 0, none⟩), .int .i64 0]) ∧ Lmo w' wx.heap.size r n cap κ kk (List.replicate n Sr.nil) G ∧ Since wx G ∧ Below wx.heap.size wx w') := fun wx => by
    have := lnewM_ok κ cap n h1 h2 hn hn4 wx
    rw [HKK.out] at this
    exact this
  go_enter Try.func6, Try.ntmps6
  go_wp2_with (first
    | (go_at_call 7; rw [HX.out]; go_must (refine (awake15_any X).mono ?_); rintro e w1 ⟨rfl, hb1⟩; go_must (have Hp1 := keepG (HpX.out.below hb1 HpX.out.lt); have c0 := Hp1.out.cell (j := 0) rfl; have c1 := Hp1.out.cell (j := 1) rfl))
    | (go_at_call 8; go_must (refine (HNW.out w1).mono ?_); rintro e w2 ⟨r, G, rfl, hL, hS, hb2⟩; go_must (clear hL hS)))
  go_ret
  exact ⟨rfl, (hbX.trans (hb1.mono hzX)).trans (hb2.mono (Nat.le_trans hzX hb1.size))⟩
set_option maxHeartbeats 16000000 in
theorem cmapParts_ok (κ : Bool) (cap n : Nat) (h1 : 1 ≤ cap) (h2 : cap ≤ 16) (hn : 1 ≤ n) (hn4 : n ≤ 4) {kk : Int} (HKK : Hid (kindJ κ = kk)) (sv : Value) (is : List It) (w : World) (hs : SeesG itC 4 It.nil w sv is) (hwf : ∀ x ∈ is, It.wf x) (hl : is.length ≤ 3000) :
    Calls Try.prog 6 #[defW kk cap, .int .i64 n, sv] w fun e w' => e = .returned (.bool true) ∧ Below w.heap.size w w' := by
  have HSS : Hid (∀ wr, Below w.heap.size w wr → SeesG itC 4 It.nil wr sv is) := fun wr hb => hs.below hb (Nat.le_refl _)
  obtain ⟨a, c, rfl, hc, hm, _, _⟩ := hs
  have hm' : c ≤ 9223372036854775807 := by unfold maxLen at hm; omega
  have h3I : ¬ (3000 : Int) < is.length := by omega
  obtain ⟨i0, hi0, hz0, hzs, hzb⟩ := info_parts infoIt
  obtain ⟨X, HX, hbX, HpX⟩ := def_box w kk cap
  have hzX := hbX.size
  have HNW : Hid (∀ wx, Calls Try.prog 8 #[defW kk cap, .int .i64 n] wx fun e w' => ∃ r G, e = .returned (.tuple #[.pointer (some ⟨r, 0, none⟩), .int .i64 0]) ∧ Lmo w' wx.heap.size r n cap κ kk (List.replicate n Sr.nil) G ∧ Since wx G ∧ Below wx.heap.size wx w') := fun wx => by
    have := lnewM_ok κ cap n h1 h2 hn hn4 wx
    rw [HKK.out] at this
    exact this
  have HMK : Hid (∀ wx, Calls Try.prog 19 #[defW kk cap] wx fun e w' => ∃ v F, e = .returned (.tuple #[v, .int .i64 0]) ∧ Sh w' wx.heap.size v κ cap Sr.nil F ∧ Since wx F ∧ Below wx.heap.size wx w') := fun wx => by
    have := lmake_ok κ cap h1 h2 wx
    rw [show (if κ = true then (1 : Int) else 0) = kk from HKK.out] at this
    exact this
  obtain ⟨s0, HS0⟩ : ∃ s0, Hid (List.replicate n Sr.nil = s0) := ⟨_, rfl⟩
  obtain ⟨rs, s1, HR⟩ : ∃ rs s1, Hid (runM κ cap s0 is = (rs, s1)) := ⟨_, _, rfl⟩
  have HRL : Hid (rs.length = is.length) := by have := (runM_len κ cap is s0).1; rw [HR.out] at this; exact this
  have hrl2 : ((rs.length : Int) != is.length) = false := by rw [HRL.out]; simp
  have HZ0 : Hid (∀ s, s0.getD s Sr.nil = Sr.nil) := fun s => by
    rw [← HS0.out, List.getD_eq_getElem?_getD, List.getElem?_replicate]
    split <;> rfl
  have HI0 : Hid (InvM κ cap s0) := by
    have := InvM.new (κ := κ) (n := n) h1
    unfold newM at this
    rw [HS0.out] at this
    exact this
  have HN0 : Hid (s0.length = n) := by show _ = _; rw [← HS0.out]; simp
  have HI1 : Hid (InvM κ cap s1) := by
    have := runM_inv hn is hwf HN0.out HI0.out
    rw [HR.out] at this
    exact this
  have HN1 : Hid (s1.length = n) := by
    have := (runM_len κ cap is s0).2
    rw [HR.out, HN0.out] at this
    exact this
  go_enter Try.func6, Try.ntmps6
  go_wp2_with (first
    | (go_at_call 7; rw [HX.out]; go_must (refine (awake15_any X).mono ?_); rintro e w1 ⟨rfl, hb1⟩; go_must (have Hp1 := keepG (HpX.out.below hb1 HpX.out.lt); have c0 := Hp1.out.cell (j := 0) rfl; have c1 := Hp1.out.cell (j := 1) rfl; have hbw1 : Below w.heap.size w w1 := hbX.trans (hb1.mono hzX)))
    | (go_at_call 8; go_must (refine (HNW.out w1).mono ?_); rintro e w2 ⟨ra, Fa, rfl, hL, hS, hb2⟩; go_must (have Hp2 := keepG (Hp1.out.below hb2 Hp1.out.lt); have hbw2 : Below w.heap.size w w2 := hbw1.trans (hb2.mono hbw1.size); rw [HS0.out] at hL; have HL2 := keepG hL; have HS2 : Hid (Since w Fa) := fun k hk => Nat.le_trans hbw1.size (hS k hk); obtain ⟨vi, wi, hri, hoi, hgi, hni⟩ := run_append_seesG (P := Try.prog) (w2.alloc (.cells #[] 41)) w2.heap.size 25 25 41 i0 _ 4 32 Try.underlying25 hi0 hz0 hzs hzb rfl (by decide) _ 0 [] (own_emptyT w2 _ 4) itC_len (HSS.out _ (hbw2.trans ((below_allocG _ _).mono hbw2.size))) (flat_oneI is) (by unfold maxLen; omega) (by omega) (by simp); clear hL hS))
    | (at_builtin; go_must (refine wpList_appG _ rfl (.tmp 40) (.tmp 41) 25 25 rfl _ _ rfl rfl hri ?_; rw [Nat.zero_add, List.nil_append] at hoi; obtain ⟨ia, ic, rfl⟩ := own_shape hoi; have hbi : Below w2.heap.size w2 wi := (chg_append hgi).below (fun k e => by cases e; exact Nat.le_refl _) (Nat.le_refl _); have HL4 := keepG (HL2.out.below hbi); have HIN := keepG hoi; have HAP := keepG (Apt.made HL2.out.lies (own_since hoi (Nat.le_refl _))); have hz2 := hb2.size; have hzi := hbi.size; have Hpi := keepG (Hp2.out.below hbi Hp2.out.lt); clear hri hoi hgi hni))
    | (go_at_call 22; go_must (refine (HL4.out.batch HI0.out hn hn4 h2 (by omega) (own_seesG itC_len It.nil HIN.out) hwf (by omega) HAP.out HR).mono ?_); rintro e w5 ⟨xv, rfl, F5, hx5, ht5, hn5⟩; go_must (have HM5 := keepG (M1.make (hbw2.trans (hbi.mono hbw2.size)) (by omega) HL4.out HS2.out Hpi.out ht5 hn5 hx5 hn hn4 h2 HI1.out); obtain ⟨xa, xc, rfl⟩ := own_shape hx5; clear hx5 ht5 hn5)))
  go_loopw [10, 11] (fun av i wr => ∃ s : Nat, s ≤ n ∧ i = .int .i64 s ∧ av = .int .i64 ((walkM (s1.take s)).length : Nat) ∧ Hid (M1 w wr ra n cap κ kk s1 w.heap.size wi.heap.size (.slice xa rs.length xc) rs)) (fun _ i _ => n - (intOf i).toNat)
  case atStart => exact ⟨0, by omega, rfl, rfl, HM5.out⟩
  case round =>
    obtain ⟨s, hs, rfl, rfl, HM⟩ := hrel
    rename World => wr
    obtain ⟨A, HA⟩ : ∃ A, Hid ((walkM (s1.take s)).length = A) := ⟨_, rfl⟩
    have hA64 : A ≤ 64 := by
      have h8 := walkL_len (ts := s1) (c := 16) (fun i hi => Nat.le_trans (HI1.out i hi).len h2) s (by rw [HN1.out]; exact hs)
      rw [HA.out] at h8
      omega
    rw [HA.out]
    by_cases hsn : s < n
    · have hsI : (s : Int) < n := by omega
      have f0 := HM.out.box.cell (j := 0) rfl
      have f1 := HM.out.box.cell (j := 1) rfl
      go_wp2_with (go_at_call 19; go_must (refine (HMK.out wr).mono ?_); rintro e wm ⟨v, Fb, rfl, hL, hS, hbm⟩; go_must (obtain ⟨tv, uv, rfl⟩ := hL.shape; have HMm := keepG (HM.out.new h1 hbm hL hbm.size hS); have hnil : ∀ wx, (binOp .eql 55 (.iface tv uv) .nilIface).run Try.prog wx = .ok (.bool false) wx := fun wx => (by rfl); clear hL hS))
      go_loopw [14] (fun i wv => ∃ j : Nat, j ≤ is.length ∧ i = .int .i64 j ∧ Hid (Ms w wv ra n cap κ kk s1 w.heap.size wi.heap.size (.slice xa rs.length xc) rs (.iface tv uv) ((runM κ cap s0 (is.take j)).2.getD s Sr.nil))) (fun i _ => is.length - (intOf i).toNat)
      case atStart => exact ⟨0, by omega, rfl, by show Ms _ _ _ _ _ _ _ _ _ _ _ _ _ _; rw [List.take_zero]; rw [show (runM κ cap s0 []).2 = s0 from rfl, HZ0.out]; exact HMm.out⟩
      case round =>
        obtain ⟨j, hj, rfl, HV⟩ := hrel
        rename World => wv
        by_cases hlt : j < is.length
        · have hltI : (j : Int) < is.length := by omega
          obtain ⟨gr, _, rfl, _⟩ := HV.out.at (j := j) (by rw [HRL.out]; exact hlt)
          have HCC : Hid (∀ wx, Below w.heap.size w wx → ∃ g off, a = some ⟨g, off, none⟩ ∧ wx.cell? ⟨g, off + j * 4 + 1, none⟩ = some (.int .i64 (is.getD j It.nil).op) ∧ wx.cell? ⟨g, off + j * 4 + 2, none⟩ = some (.int .u64 (is.getD j It.nil).k) ∧ wx.cell? ⟨g, off + j * 4 + 3, none⟩ = some (.int .u64 (is.getD j It.nil).v)) := by
            intro wx hb
            obtain ⟨a', c', ev, _, _, _, hcell⟩ := HSS.out wx hb
            simp only [Value.slice.injEq, true_and] at ev
            obtain ⟨rfl, rfl⟩ := ev
            obtain ⟨g, off, rfl, hg, hat⟩ := hcell (fun e => by rw [e] at hlt; simp at hlt)
            exact ⟨g, off, rfl, hat j hlt 1 (by omega), hat j hlt 2 (by omega), hat j hlt 3 (by omega)⟩
          obtain ⟨g, off, rfl, _, _, _⟩ := HCC.out _ HV.out.be
          have HKI : Hid (∀ wx, Below w.heap.size w wx → wx.cell? ⟨g, off + j * 4 + 1, none⟩ = some (.int .i64 (is.getD j It.nil).op) ∧ wx.cell? ⟨g, off + j * 4 + 2, none⟩ = some (.int .u64 (is.getD j It.nil).k) ∧ wx.cell? ⟨g, off + j * 4 + 3, none⟩ = some (.int .u64 (is.getD j It.nil).v)) := by
            intro wx hb
            obtain ⟨g', off', ea, q⟩ := HCC.out wx hb
            simp only [Option.some.injEq, Addr.mk.injEq, true_and, and_true] at ea
            obtain ⟨rfl, rfl⟩ := ea
            exact q
          have hwk := hwf _ (getD_memT hlt)
          have hans := runM_at κ cap is s0 j hlt
          rw [HR.out] at hans
          have hnx : (runM κ cap s0 (is.take (j + 1))).2 = (doM κ cap (runM κ cap s0 (is.take j)).2 (is.getD j It.nil).op (is.getD j It.nil).k (is.getD j It.nil).v).2 := by rw [take_moreT hlt, runM_app]
          obtain ⟨x, HX0⟩ : ∃ x, Hid (is.getD j It.nil = x) := ⟨_, rfl⟩
          obtain ⟨ts, HTS⟩ : ∃ ts, Hid ((runM κ cap s0 (is.take j)).2 = ts) := ⟨_, rfl⟩
          have htl : ts.length = n := by rw [← HTS.out, (runM_len κ cap _ s0).2, HN0.out]
          rw [HX0.out] at hwk HKI hans hnx
          rw [HTS.out] at hans hnx HV
          obtain ⟨i, HI⟩ : ∃ i, Hid (atM x.k n = i) := ⟨_, rfl⟩
          have hil : atM x.k n < n := atM_lt hn hwk.1
          have HOF : Hid (Calls Try.prog 24 #[.int .u64 x.k, .int .i64 n] wv.drew fun e w' => e = .returned (.int .i64 (i : Nat)) ∧ wv.drew = w') := by
            have h8 := lof_any x.k n wv.drew hwk (by omega)
            rw [atM_of hn, HI.out] at h8
            exact h8
          have HVd : Hid (Ms w wv.drew ra n cap κ kk s1 w.heap.size wi.heap.size (.slice (some ⟨gr, 0, none⟩) rs.length xc) rs (.iface tv uv) (ts.getD s Sr.nil)) := HV.out.drewN 1
          by_cases his : i = s
          · subst his
            have hhe := doM_here (κ := κ) (cap := cap) (op := x.op) (val := x.v) htl hil
            rw [HI.out] at hhe
            obtain ⟨q, t', HQ⟩ : ∃ q t', Hid (doSh κ cap (ts.getD i Sr.nil) x.op x.k x.v = (q, t')) := ⟨_, _, rfl⟩
            rw [HQ.out] at hhe
            obtain ⟨hh1, hh2⟩ := hhe
            rw [hh1] at hans
            rw [← hnx] at hh2
            have HN2 : Hid ((runM κ cap s0 (is.take (j + 1))).2.getD i Sr.nil = t') := hh2
            have HAN : Hid (rs.getD j Rq.nil = q) := hans
            clear hans hnx hh1 hh2
            have HKP : Hid (∀ wx t2, Ms w wx ra n cap κ kk s1 w.heap.size wi.heap.size (.slice (some ⟨gr, 0, none⟩) rs.length xc) rs (.iface tv uv) t2 → (wx.cell? ⟨g, off + j * 4 + 1, none⟩ = some (.int .i64 x.op) ∧ wx.cell? ⟨g, off + j * 4 + 2, none⟩ = some (.int .u64 x.k) ∧ wx.cell? ⟨g, off + j * 4 + 3, none⟩ = some (.int .u64 x.v)) ∧ wx.cell? ⟨gr, j * 6, none⟩ = some (.int .i64 q.E) ∧ wx.cell? ⟨gr, j * 6 + 1, none⟩ = some (.bool q.f) ∧ wx.cell? ⟨gr, j * 6 + 2, none⟩ = some (.int .u64 q.v) ∧ wx.cell? ⟨gr, j * 6 + 3, none⟩ = some (.bool q.o) ∧ wx.cell? ⟨gr, j * 6 + 4, none⟩ = some (.int .u64 q.k) ∧ wx.cell? ⟨gr, j * 6 + 5, none⟩ = some (.int .u64 q.u)) := by
              intro wx t2 hx
              obtain ⟨g', _, ea, hat⟩ := hx.at (j := j) (by rw [HRL.out]; exact hlt)
              simp only [Option.some.injEq, Addr.mk.injEq, true_and, and_true] at ea
              subst ea
              rw [HAN.out] at hat
              exact ⟨HKI.out wx hx.be, hat 0 (by omega), hat 1 (by omega), hat 2 (by omega), hat 3 (by omega), hat 4 (by omega), hat 5 (by omega)⟩
            obtain ⟨fd, xd, hvd, hcd⟩ := HVd.out.doS HQ
            obtain ⟨hmd, hfd⟩ := hvd.fix
            have HCD := keepG hcd
            have hah := HV.out.ahead
            have hjr : j < rs.length := by rw [HRL.out]; exact hlt
            clear hvd hcd
            go_wp2
            refine wp_region_held_drew (S := fun w' => (w'.cell? ⟨g, off + j * 4 + 1, none⟩ = some (.int .i64 x.op) ∧ w'.cell? ⟨g, off + j * 4 + 2, none⟩ = some (.int .u64 x.k) ∧ w'.cell? ⟨g, off + j * 4 + 3, none⟩ = some (.int .u64 x.v)) ∧ w'.cell? ⟨gr, j * 6, none⟩ = some (.int .i64 q.E) ∧ w'.cell? ⟨gr, j * 6 + 1, none⟩ = some (.bool q.f) ∧ w'.cell? ⟨gr, j * 6 + 2, none⟩ = some (.int .u64 q.v) ∧ w'.cell? ⟨gr, j * 6 + 3, none⟩ = some (.bool q.o) ∧ w'.cell? ⟨gr, j * 6 + 4, none⟩ = some (.int .u64 q.k) ∧ w'.cell? ⟨gr, j * 6 + 5, none⟩ = some (.int .u64 q.u)) (by kernel_rfl) (HKP.out _ _ HVd.out) (fun hHeld => ?_)
            refine wpAnyH_take (i := 0) (v := ?v1) rfl (by kernel_rfl) (by kernel_rfl) (by kernel_rfl) (fun _ _ _ h => h) (Or.inl ⟨by rfl, ?hy1⟩) (by assumption) ?rest1
            case hy1 => (intro wy hSw; (try dsimp only at hSw); go_simp; (first | done | with_reducible rfl))
            try simp only [Act.put, List.getElem_toArray, List.getElem_cons_zero, List.getElem_cons_succ, List.setIfInBounds_toArray, List.set_cons_zero, List.set_cons_succ]
            refine wpAnyH_take (i := 1) (v := ?v2) rfl (by kernel_rfl) (by kernel_rfl) (by kernel_rfl) (fun _ _ _ h => h) (Or.inl ⟨by rfl, ?hy2⟩) (by assumption) ?rest2
            case hy2 => (intro wy hSw; (try dsimp only at hSw); go_simp; (first | done | with_reducible rfl))
            try simp only [Act.put, List.getElem_toArray, List.getElem_cons_zero, List.getElem_cons_succ, List.setIfInBounds_toArray, List.set_cons_zero, List.set_cons_succ]
            refine wpAnyH_take (i := 2) (v := ?v3) rfl (by kernel_rfl) (by kernel_rfl) (by kernel_rfl) (fun _ _ _ h => h) (Or.inl ⟨by rfl, ?hy3⟩) (by assumption) ?rest3
            case hy3 => (intro wy hSw; (try dsimp only at hSw); go_simp; (first | done | with_reducible rfl))
            try simp only [Act.put, List.getElem_toArray, List.getElem_cons_zero, List.getElem_cons_succ, List.setIfInBounds_toArray, List.set_cons_zero, List.set_cons_succ]
            refine wpAnyH_take (i := 3) (v := ?v4) rfl (by kernel_rfl) (by kernel_rfl) (by kernel_rfl) (fun _ _ _ h => h) (Or.inl ⟨by rfl, ?hy4⟩) (by assumption) ?rest4
            case hy4 => (intro wy hSw; (try dsimp only at hSw); go_simp; (first | done | with_reducible rfl))
            try simp only [Act.put, List.getElem_toArray, List.getElem_cons_zero, List.getElem_cons_succ, List.setIfInBounds_toArray, List.set_cons_zero, List.set_cons_succ]
            refine wpAnyH_take (i := 4) (v := ?v5) rfl (by kernel_rfl) (by kernel_rfl) (by kernel_rfl) (fun _ _ _ h => h) (Or.inl ⟨by rfl, ?hy5⟩) (by assumption) ?rest5
            case hy5 => (intro wy hSw; (try dsimp only at hSw); go_simp; (first | done | with_reducible rfl))
            try simp only [Act.put, List.getElem_toArray, List.getElem_cons_zero, List.getElem_cons_succ, List.setIfInBounds_toArray, List.set_cons_zero, List.set_cons_succ]
            refine wpAnyH_take (i := 5) (v := ?v6) rfl (by kernel_rfl) (by kernel_rfl) (by kernel_rfl) (fun _ _ _ h => h) (Or.inl ⟨by rfl, ?hy6⟩) (by assumption) ?rest6
            case hy6 => (intro wy hSw; (try dsimp only at hSw); go_simp; (first | done | with_reducible rfl))
            try simp only [Act.put, List.getElem_toArray, List.getElem_cons_zero, List.getElem_cons_succ, List.setIfInBounds_toArray, List.set_cons_zero, List.set_cons_succ]
            refine wpAnyH_take (i := 7) (v := ?v7) rfl (by kernel_rfl) (by kernel_rfl) (by kernel_rfl) (fun _ _ _ h => h) (Or.inl ⟨by rfl, ?hy7⟩) (by assumption) ?rest7
            case hy7 => (intro wy hSw; (try dsimp only at hSw); go_simp; (first | done | with_reducible rfl))
            try simp only [Act.put, List.getElem_toArray, List.getElem_cons_zero, List.getElem_cons_succ, List.setIfInBounds_toArray, List.set_cons_zero, List.set_cons_succ]
            refine wpAnyH_ready (rs := [6]) (by kernel_rfl) (by simp) ?_
            refine AllReadyH.cons rfl (fun KK hK => ?_) AllReadyH.nil
            rw [if_pos (by rfl)]
            go_simp
            go_at_call 24
            refine HOF.out.mono ?_
            rintro e w7 ⟨rfl, rfl⟩
            go_simp
            refine hK.out _ _ (HKP.out _ _ HVd.out) (fun hHeld => ?_)
            clear hK KK
            try simp only [Act.put, List.getElem_toArray, List.getElem_cons_zero, List.getElem_cons_succ, List.setIfInBounds_toArray, List.set_cons_zero, List.set_cons_succ]
            refine wpAnyH_take (i := 8) (v := ?v8) rfl (by kernel_rfl) (by kernel_rfl) (by kernel_rfl) (fun _ _ _ h => h) (Or.inl ⟨by rfl, ?hy8⟩) (by assumption) ?rest8
            case hy8 => (intro wy hSw; (try dsimp only at hSw); go_simp; (first | done | with_reducible rfl))
            try simp only [Act.put, List.getElem_toArray, List.getElem_cons_zero, List.getElem_cons_succ, List.setIfInBounds_toArray, List.set_cons_zero, List.set_cons_succ]
            refine wpAnyH_take (i := 9) (v := ?v9) rfl (by kernel_rfl) (by kernel_rfl) (by kernel_rfl) (fun _ _ _ h => h) (Or.inl ⟨by rfl, ?hy9⟩) (by assumption) ?rest9
            case hy9 => (intro wy hSw; (try dsimp only at hSw); go_simp; (first | done | with_reducible rfl))
            try simp only [Act.put, List.getElem_toArray, List.getElem_cons_zero, List.getElem_cons_succ, List.setIfInBounds_toArray, List.set_cons_zero, List.set_cons_succ]
            refine wpAnyH_take (i := 10) (v := ?v10) rfl (by kernel_rfl) (by kernel_rfl) (by kernel_rfl) (fun _ _ _ h => h) (Or.inl ⟨by rfl, ?hy10⟩) (by assumption) ?rest10
            case hy10 => (intro wy hSw; (try dsimp only at hSw); go_simp; (first | done | with_reducible rfl))
            try simp only [Act.put, List.getElem_toArray, List.getElem_cons_zero, List.getElem_cons_succ, List.setIfInBounds_toArray, List.set_cons_zero, List.set_cons_succ]
            refine wpAnyH_take (i := 11) (v := ?v11) rfl (by kernel_rfl) (by kernel_rfl) (by kernel_rfl) (fun _ _ _ h => h) (Or.inl ⟨by rfl, ?hy11⟩) (by assumption) ?rest11
            case hy11 => (intro wy hSw; (try dsimp only at hSw); go_simp; (first | done | with_reducible rfl))
            try simp only [Act.put, List.getElem_toArray, List.getElem_cons_zero, List.getElem_cons_succ, List.setIfInBounds_toArray, List.set_cons_zero, List.set_cons_succ]
            refine wpAnyH_take (i := 12) (v := ?v12) rfl (by kernel_rfl) (by kernel_rfl) (by kernel_rfl) (fun _ _ _ h => h) (Or.inl ⟨by rfl, ?hy12⟩) (by assumption) ?rest12
            case hy12 => (intro wy hSw; (try dsimp only at hSw); go_simp; (first | done | with_reducible rfl))
            try simp only [Act.put, List.getElem_toArray, List.getElem_cons_zero, List.getElem_cons_succ, List.setIfInBounds_toArray, List.set_cons_zero, List.set_cons_succ]
            refine wpAnyH_take (i := 13) (v := ?v13) rfl (by kernel_rfl) (by kernel_rfl) (by kernel_rfl) (fun _ _ _ h => h) (Or.inl ⟨by rfl, ?hy13⟩) (by assumption) ?rest13
            case hy13 => (intro wy hSw; (try dsimp only at hSw); go_simp; (first | done | with_reducible rfl))
            try simp only [Act.put, List.getElem_toArray, List.getElem_cons_zero, List.getElem_cons_succ, List.setIfInBounds_toArray, List.set_cons_zero, List.set_cons_succ]
            refine wpAnyH_take (i := 14) (v := ?v14) rfl (by kernel_rfl) (by kernel_rfl) (by kernel_rfl) (fun _ _ _ h => h) (Or.inl ⟨by rfl, ?hy14⟩) (by assumption) ?rest14
            case hy14 => (intro wy hSw; (try dsimp only at hSw); go_simp; (first | done | with_reducible rfl))
            try simp only [Act.put, List.getElem_toArray, List.getElem_cons_zero, List.getElem_cons_succ, List.setIfInBounds_toArray, List.set_cons_zero, List.set_cons_succ]
            refine wpAnyH_take (i := 15) (v := ?v15) rfl (by kernel_rfl) (by kernel_rfl) (by kernel_rfl) (fun _ _ _ h => h) (Or.inl ⟨by rfl, ?hy15⟩) (by assumption) ?rest15
            case hy15 => (intro wy hSw; (try dsimp only at hSw); go_simp; (first | done | with_reducible rfl))
            try simp only [Act.put, List.getElem_toArray, List.getElem_cons_zero, List.getElem_cons_succ, List.setIfInBounds_toArray, List.set_cons_zero, List.set_cons_succ]
            refine wpAnyH_take (i := 16) (v := ?v16) rfl (by kernel_rfl) (by kernel_rfl) (by kernel_rfl) (fun _ _ _ h => h) (Or.inl ⟨by rfl, ?hy16⟩) (by assumption) ?rest16
            case hy16 => (intro wy hSw; (try dsimp only at hSw); go_simp; (first | done | with_reducible rfl))
            try simp only [Act.put, List.getElem_toArray, List.getElem_cons_zero, List.getElem_cons_succ, List.setIfInBounds_toArray, List.set_cons_zero, List.set_cons_succ]
            refine wpAnyH_take (i := 17) (v := ?v17) rfl (by kernel_rfl) (by kernel_rfl) (by kernel_rfl) (fun _ _ _ h => h) (Or.inl ⟨by rfl, ?hy17⟩) (by assumption) ?rest17
            case hy17 => (intro wy hSw; (try dsimp only at hSw); go_simp; (first | done | with_reducible rfl))
            try simp only [Act.put, List.getElem_toArray, List.getElem_cons_zero, List.getElem_cons_succ, List.setIfInBounds_toArray, List.set_cons_zero, List.set_cons_succ]
            refine wpAnyH_take (i := 18) (v := ?v18) rfl (by kernel_rfl) (by kernel_rfl) (by kernel_rfl) (fun _ _ _ h => h) (Or.inl ⟨by rfl, ?hy18⟩) (by assumption) ?rest18
            case hy18 => (intro wy hSw; (try dsimp only at hSw); go_simp; (first | done | with_reducible rfl))
            try simp only [Act.put, List.getElem_toArray, List.getElem_cons_zero, List.getElem_cons_succ, List.setIfInBounds_toArray, List.set_cons_zero, List.set_cons_succ]
            refine wpAnyH_take (i := 19) (v := ?v19) rfl (by kernel_rfl) (by kernel_rfl) (by kernel_rfl) (fun _ _ _ h => h) (Or.inl ⟨by rfl, ?hy19⟩) (by assumption) ?rest19
            case hy19 => (intro wy hSw; (try dsimp only at hSw); go_simp; (first | done | with_reducible rfl))
            try simp only [Act.put, List.getElem_toArray, List.getElem_cons_zero, List.getElem_cons_succ, List.setIfInBounds_toArray, List.set_cons_zero, List.set_cons_succ]
            refine wpAnyH_take (i := 20) (v := ?v20) rfl (by kernel_rfl) (by kernel_rfl) (by kernel_rfl) (fun _ _ _ h => h) (Or.inl ⟨by rfl, ?hy20⟩) (by assumption) ?rest20
            case hy20 => (intro wy hSw; (try dsimp only at hSw); go_simp; (first | done | with_reducible rfl))
            try simp only [Act.put, List.getElem_toArray, List.getElem_cons_zero, List.getElem_cons_succ, List.setIfInBounds_toArray, List.set_cons_zero, List.set_cons_succ]
            refine wpAnyH_take (i := 21) (v := ?v21) rfl (by kernel_rfl) (by kernel_rfl) (by kernel_rfl) (fun _ _ _ h => h) (Or.inl ⟨by rfl, ?hy21⟩) (by assumption) ?rest21
            case hy21 => (intro wy hSw; (try dsimp only at hSw); go_simp; (first | done | with_reducible rfl))
            try simp only [Act.put, List.getElem_toArray, List.getElem_cons_zero, List.getElem_cons_succ, List.setIfInBounds_toArray, List.set_cons_zero, List.set_cons_succ]
            refine wpAnyH_take (i := 22) (v := ?v22) rfl (by kernel_rfl) (by kernel_rfl) (by kernel_rfl) (fun _ _ _ h => h) (Or.inl ⟨by rfl, ?hy22⟩) (by assumption) ?rest22
            case hy22 => (intro wy hSw; (try dsimp only at hSw); go_simp; (first | done | with_reducible rfl))
            try simp only [Act.put, List.getElem_toArray, List.getElem_cons_zero, List.getElem_cons_succ, List.setIfInBounds_toArray, List.set_cons_zero, List.set_cons_succ]
            refine wpAnyH_take (i := 23) (v := ?v23) rfl (by kernel_rfl) (by kernel_rfl) (by kernel_rfl) (fun _ _ _ h => h) (Or.inl ⟨by rfl, ?hy23⟩) (by assumption) ?rest23
            case hy23 => (intro wy hSw; (try dsimp only at hSw); go_simp; (first | done | with_reducible rfl))
            try simp only [Act.put, List.getElem_toArray, List.getElem_cons_zero, List.getElem_cons_succ, List.setIfInBounds_toArray, List.set_cons_zero, List.set_cons_succ]
            refine wpAnyH_take (i := 24) (v := ?v24) rfl (by kernel_rfl) (by kernel_rfl) (by kernel_rfl) (fun _ _ _ h => h) (Or.inl ⟨by rfl, ?hy24⟩) (by assumption) ?rest24
            case hy24 => (intro wy hSw; (try dsimp only at hSw); go_simp; (first | done | with_reducible rfl))
            try simp only [Act.put, List.getElem_toArray, List.getElem_cons_zero, List.getElem_cons_succ, List.setIfInBounds_toArray, List.set_cons_zero, List.set_cons_succ]
            refine wpAnyH_take (i := 25) (v := ?v25) rfl (by kernel_rfl) (by kernel_rfl) (by kernel_rfl) (fun _ _ _ h => h) (Or.inl ⟨by rfl, ?hy25⟩) (by assumption) ?rest25
            case hy25 => (intro wy hSw; (try dsimp only at hSw); go_simp; (first | done | with_reducible rfl))
            try simp only [Act.put, List.getElem_toArray, List.getElem_cons_zero, List.getElem_cons_succ, List.setIfInBounds_toArray, List.set_cons_zero, List.set_cons_succ]
            refine wpAnyH_take (i := 26) (v := ?v26) rfl (by kernel_rfl) (by kernel_rfl) (by kernel_rfl) (fun _ _ _ h => h) (Or.inl ⟨by rfl, ?hy26⟩) (by assumption) ?rest26
            case hy26 => (intro wy hSw; (try dsimp only at hSw); go_simp; (first | done | with_reducible rfl))
            try simp only [Act.put, List.getElem_toArray, List.getElem_cons_zero, List.getElem_cons_succ, List.setIfInBounds_toArray, List.set_cons_zero, List.set_cons_succ]
            refine wpAnyH_take (i := 27) (v := ?v27) rfl (by kernel_rfl) (by kernel_rfl) (by kernel_rfl) (fun _ _ _ h => h) (Or.inl ⟨by rfl, ?hy27⟩) (by assumption) ?rest27
            case hy27 => (intro wy hSw; (try dsimp only at hSw); go_simp; (first | done | with_reducible rfl))
            try simp only [Act.put, List.getElem_toArray, List.getElem_cons_zero, List.getElem_cons_succ, List.setIfInBounds_toArray, List.set_cons_zero, List.set_cons_succ]
            refine wpAnyH_take (i := 28) (v := ?v28) rfl (by kernel_rfl) (by kernel_rfl) (by kernel_rfl) (fun _ _ _ h => h) (Or.inl ⟨by rfl, ?hy28⟩) (by assumption) ?rest28
            case hy28 => (intro wy hSw; (try dsimp only at hSw); go_simp; (first | done | with_reducible rfl))
            try simp only [Act.put, List.getElem_toArray, List.getElem_cons_zero, List.getElem_cons_succ, List.setIfInBounds_toArray, List.set_cons_zero, List.set_cons_succ]
            refine wpAnyH_take (i := 30) (v := ?v29) rfl (by kernel_rfl) (by kernel_rfl) (by kernel_rfl) (fun _ _ _ h => h) (Or.inl ⟨by rfl, ?hy29⟩) (by assumption) ?rest29
            case hy29 => (intro wy hSw; (try dsimp only at hSw); go_simp; (first | done | with_reducible rfl))
            try simp only [Act.put, List.getElem_toArray, List.getElem_cons_zero, List.getElem_cons_succ, List.setIfInBounds_toArray, List.set_cons_zero, List.set_cons_succ]
            refine wpAnyH_take (i := 31) (v := ?v30) rfl (by kernel_rfl) (by kernel_rfl) (by kernel_rfl) (fun _ _ _ h => h) (Or.inl ⟨by rfl, ?hy30⟩) (by assumption) ?rest30
            case hy30 => (intro wy hSw; (try dsimp only at hSw); go_simp; (first | done | with_reducible rfl))
            try simp only [Act.put, List.getElem_toArray, List.getElem_cons_zero, List.getElem_cons_succ, List.setIfInBounds_toArray, List.set_cons_zero, List.set_cons_succ]
            refine wpAnyH_take (i := 32) (v := ?v31) rfl (by kernel_rfl) (by kernel_rfl) (by kernel_rfl) (fun _ _ _ h => h) (Or.inl ⟨by rfl, ?hy31⟩) (by assumption) ?rest31
            case hy31 => (intro wy hSw; (try dsimp only at hSw); go_simp; (first | done | with_reducible rfl))
            try simp only [Act.put, List.getElem_toArray, List.getElem_cons_zero, List.getElem_cons_succ, List.setIfInBounds_toArray, List.set_cons_zero, List.set_cons_succ]
            refine wpAnyH_take (i := 33) (v := ?v32) rfl (by kernel_rfl) (by kernel_rfl) (by kernel_rfl) (fun _ _ _ h => h) (Or.inl ⟨by rfl, ?hy32⟩) (by assumption) ?rest32
            case hy32 => (intro wy hSw; (try dsimp only at hSw); go_simp; (first | done | with_reducible rfl))
            try simp only [Act.put, List.getElem_toArray, List.getElem_cons_zero, List.getElem_cons_succ, List.setIfInBounds_toArray, List.set_cons_zero, List.set_cons_succ]
            refine wpAnyH_ready (rs := [29]) (by kernel_rfl) (by simp) ?_
            refine AllReadyH.cons rfl (fun KK hK => ?_) AllReadyH.nil
            rw [if_pos (by rfl)]
            go_simp
            refine HCD.out.mono ?_
            rintro e w7 ⟨rfl, ht7⟩
            have HM7 := keepG ht7
            clear ht7
            go_simp
            refine hK.out _ _ (HKP.out _ _ HM7.out) (fun hHeld => ?_)
            clear hK KK
            try simp only [Act.put, List.getElem_toArray, List.getElem_cons_zero, List.getElem_cons_succ, List.setIfInBounds_toArray, List.set_cons_zero, List.set_cons_succ]
            dsimp only [resG]
            refine wpAnyH_take (i := 34) (v := ?v33) rfl (by kernel_rfl) (by kernel_rfl) (by kernel_rfl) (fun _ _ _ h => h) (Or.inl ⟨by rfl, ?hy33⟩) (by assumption) ?rest33
            case hy33 => (intro wy hSw; (try dsimp only at hSw); go_simp; (first | done | with_reducible rfl))
            try simp only [Act.put, List.getElem_toArray, List.getElem_cons_zero, List.getElem_cons_succ, List.setIfInBounds_toArray, List.set_cons_zero, List.set_cons_succ]
            refine wpAnyH_take (i := 35) (v := ?v34) rfl (by kernel_rfl) (by kernel_rfl) (by kernel_rfl) (fun _ _ _ h => h) (Or.inl ⟨by rfl, ?hy34⟩) (by assumption) ?rest34
            case hy34 => (intro wy hSw; (try dsimp only at hSw); go_simp; (first | done | with_reducible rfl))
            try simp only [Act.put, List.getElem_toArray, List.getElem_cons_zero, List.getElem_cons_succ, List.setIfInBounds_toArray, List.set_cons_zero, List.set_cons_succ]
            refine wpAnyH_done (by kernel_rfl) ?_ _
            go_wp2
            go_roundw
            case rel => exact ⟨j + 1, by omega, by go_num, by rw [HN2.out]; exact HM7.out⟩
            case measure => simp [intOf]; omega
          · have hisI : ¬ (i : Int) = s := by omega
            have hisB : ((i : Int) == s) = false := by simpa using hisI
            have HN2 : Hid ((runM κ cap s0 (is.take (j + 1))).2.getD s Sr.nil = ts.getD s Sr.nil) := by
              show _ = _
              rw [hnx]
              exact doM_there htl (by rw [HI.out]; exact his)
            clear hans hnx
            go_wp2
            refine wp_region_held_drew (S := fun w' => w'.cell? ⟨g, off + j * 4 + 1, none⟩ = some (.int .i64 x.op) ∧ w'.cell? ⟨g, off + j * 4 + 2, none⟩ = some (.int .u64 x.k) ∧ w'.cell? ⟨g, off + j * 4 + 3, none⟩ = some (.int .u64 x.v)) (by kernel_rfl) (HKI.out _ HVd.out.be) (fun hHeld => ?_)
            refine wpAnyH_take (i := 0) (v := ?v35) rfl (by kernel_rfl) (by kernel_rfl) (by kernel_rfl) (fun _ _ _ h => h) (Or.inl ⟨by rfl, ?hy35⟩) (by assumption) ?rest35
            case hy35 => (intro wy hSw; (try dsimp only at hSw); go_simp; (first | done | with_reducible rfl))
            try simp only [Act.put, List.getElem_toArray, List.getElem_cons_zero, List.getElem_cons_succ, List.setIfInBounds_toArray, List.set_cons_zero, List.set_cons_succ]
            refine wpAnyH_take (i := 1) (v := ?v36) rfl (by kernel_rfl) (by kernel_rfl) (by kernel_rfl) (fun _ _ _ h => h) (Or.inl ⟨by rfl, ?hy36⟩) (by assumption) ?rest36
            case hy36 => (intro wy hSw; (try dsimp only at hSw); go_simp; (first | done | with_reducible rfl))
            try simp only [Act.put, List.getElem_toArray, List.getElem_cons_zero, List.getElem_cons_succ, List.setIfInBounds_toArray, List.set_cons_zero, List.set_cons_succ]
            refine wpAnyH_take (i := 2) (v := ?v37) rfl (by kernel_rfl) (by kernel_rfl) (by kernel_rfl) (fun _ _ _ h => h) (Or.inl ⟨by rfl, ?hy37⟩) (by assumption) ?rest37
            case hy37 => (intro wy hSw; (try dsimp only at hSw); go_simp; (first | done | with_reducible rfl))
            try simp only [Act.put, List.getElem_toArray, List.getElem_cons_zero, List.getElem_cons_succ, List.setIfInBounds_toArray, List.set_cons_zero, List.set_cons_succ]
            refine wpAnyH_take (i := 3) (v := ?v38) rfl (by kernel_rfl) (by kernel_rfl) (by kernel_rfl) (fun _ _ _ h => h) (Or.inl ⟨by rfl, ?hy38⟩) (by assumption) ?rest38
            case hy38 => (intro wy hSw; (try dsimp only at hSw); go_simp; (first | done | with_reducible rfl))
            try simp only [Act.put, List.getElem_toArray, List.getElem_cons_zero, List.getElem_cons_succ, List.setIfInBounds_toArray, List.set_cons_zero, List.set_cons_succ]
            refine wpAnyH_take (i := 4) (v := ?v39) rfl (by kernel_rfl) (by kernel_rfl) (by kernel_rfl) (fun _ _ _ h => h) (Or.inl ⟨by rfl, ?hy39⟩) (by assumption) ?rest39
            case hy39 => (intro wy hSw; (try dsimp only at hSw); go_simp; (first | done | with_reducible rfl))
            try simp only [Act.put, List.getElem_toArray, List.getElem_cons_zero, List.getElem_cons_succ, List.setIfInBounds_toArray, List.set_cons_zero, List.set_cons_succ]
            refine wpAnyH_take (i := 5) (v := ?v40) rfl (by kernel_rfl) (by kernel_rfl) (by kernel_rfl) (fun _ _ _ h => h) (Or.inl ⟨by rfl, ?hy40⟩) (by assumption) ?rest40
            case hy40 => (intro wy hSw; (try dsimp only at hSw); go_simp; (first | done | with_reducible rfl))
            try simp only [Act.put, List.getElem_toArray, List.getElem_cons_zero, List.getElem_cons_succ, List.setIfInBounds_toArray, List.set_cons_zero, List.set_cons_succ]
            refine wpAnyH_take (i := 7) (v := ?v41) rfl (by kernel_rfl) (by kernel_rfl) (by kernel_rfl) (fun _ _ _ h => h) (Or.inl ⟨by rfl, ?hy41⟩) (by assumption) ?rest41
            case hy41 => (intro wy hSw; (try dsimp only at hSw); go_simp; (first | done | with_reducible rfl))
            try simp only [Act.put, List.getElem_toArray, List.getElem_cons_zero, List.getElem_cons_succ, List.setIfInBounds_toArray, List.set_cons_zero, List.set_cons_succ]
            refine wpAnyH_ready (rs := [6]) (by kernel_rfl) (by simp) ?_
            refine AllReadyH.cons rfl (fun KK hK => ?_) AllReadyH.nil
            rw [if_pos (by rfl)]
            go_simp
            go_at_call 24
            refine HOF.out.mono ?_
            rintro e w7 ⟨rfl, rfl⟩
            go_simp
            refine hK.out _ _ (HKI.out _ HVd.out.be) (fun hHeld => ?_)
            clear hK KK
            try simp only [Act.put, List.getElem_toArray, List.getElem_cons_zero, List.getElem_cons_succ, List.setIfInBounds_toArray, List.set_cons_zero, List.set_cons_succ]
            refine wpAnyH_take (i := 8) (v := ?v42) rfl (by kernel_rfl) (by kernel_rfl) (by kernel_rfl) (fun _ _ _ h => h) (Or.inl ⟨by rfl, ?hy42⟩) (by assumption) ?rest42
            case hy42 => (intro wy hSw; (try dsimp only at hSw); go_simp; (first | done | with_reducible rfl))
            try simp only [Act.put, List.getElem_toArray, List.getElem_cons_zero, List.getElem_cons_succ, List.setIfInBounds_toArray, List.set_cons_zero, List.set_cons_succ]
            refine wpAnyH_take (i := 9) (v := ?v43) rfl (by kernel_rfl) (by kernel_rfl) (by kernel_rfl) (fun _ _ _ h => h) (Or.inl ⟨by rfl, ?hy43⟩) (by assumption) ?rest43
            case hy43 => (intro wy hSw; (try dsimp only at hSw); go_simp; (first | done | with_reducible rfl))
            try simp only [Act.put, List.getElem_toArray, List.getElem_cons_zero, List.getElem_cons_succ, List.setIfInBounds_toArray, List.set_cons_zero, List.set_cons_succ]
            refine wpAnyH_take (i := 10) (v := undef) rfl (by kernel_rfl) (by kernel_rfl) (by kernel_rfl) (fun _ _ _ h => h) (Or.inr ⟨by rfl, rfl⟩) (by assumption) ?_
            try simp only [Act.put, List.getElem_toArray, List.getElem_cons_zero, List.getElem_cons_succ, List.setIfInBounds_toArray, List.set_cons_zero, List.set_cons_succ]
            refine wpAnyH_take (i := 11) (v := undef) rfl (by kernel_rfl) (by kernel_rfl) (by kernel_rfl) (fun _ _ _ h => h) (Or.inr ⟨by rfl, rfl⟩) (by assumption) ?_
            try simp only [Act.put, List.getElem_toArray, List.getElem_cons_zero, List.getElem_cons_succ, List.setIfInBounds_toArray, List.set_cons_zero, List.set_cons_succ]
            refine wpAnyH_take (i := 12) (v := undef) rfl (by kernel_rfl) (by kernel_rfl) (by kernel_rfl) (fun _ _ _ h => h) (Or.inr ⟨by rfl, rfl⟩) (by assumption) ?_
            try simp only [Act.put, List.getElem_toArray, List.getElem_cons_zero, List.getElem_cons_succ, List.setIfInBounds_toArray, List.set_cons_zero, List.set_cons_succ]
            refine wpAnyH_take (i := 13) (v := undef) rfl (by kernel_rfl) (by kernel_rfl) (by kernel_rfl) (fun _ _ _ h => h) (Or.inr ⟨by rfl, rfl⟩) (by assumption) ?_
            try simp only [Act.put, List.getElem_toArray, List.getElem_cons_zero, List.getElem_cons_succ, List.setIfInBounds_toArray, List.set_cons_zero, List.set_cons_succ]
            refine wpAnyH_take (i := 14) (v := undef) rfl (by kernel_rfl) (by kernel_rfl) (by kernel_rfl) (fun _ _ _ h => h) (Or.inr ⟨by rfl, rfl⟩) (by assumption) ?_
            try simp only [Act.put, List.getElem_toArray, List.getElem_cons_zero, List.getElem_cons_succ, List.setIfInBounds_toArray, List.set_cons_zero, List.set_cons_succ]
            refine wpAnyH_take (i := 15) (v := undef) rfl (by kernel_rfl) (by kernel_rfl) (by kernel_rfl) (fun _ _ _ h => h) (Or.inr ⟨by rfl, rfl⟩) (by assumption) ?_
            try simp only [Act.put, List.getElem_toArray, List.getElem_cons_zero, List.getElem_cons_succ, List.setIfInBounds_toArray, List.set_cons_zero, List.set_cons_succ]
            refine wpAnyH_take (i := 16) (v := undef) rfl (by kernel_rfl) (by kernel_rfl) (by kernel_rfl) (fun _ _ _ h => h) (Or.inr ⟨by rfl, rfl⟩) (by assumption) ?_
            try simp only [Act.put, List.getElem_toArray, List.getElem_cons_zero, List.getElem_cons_succ, List.setIfInBounds_toArray, List.set_cons_zero, List.set_cons_succ]
            refine wpAnyH_take (i := 17) (v := undef) rfl (by kernel_rfl) (by kernel_rfl) (by kernel_rfl) (fun _ _ _ h => h) (Or.inr ⟨by rfl, rfl⟩) (by assumption) ?_
            try simp only [Act.put, List.getElem_toArray, List.getElem_cons_zero, List.getElem_cons_succ, List.setIfInBounds_toArray, List.set_cons_zero, List.set_cons_succ]
            refine wpAnyH_take (i := 18) (v := undef) rfl (by kernel_rfl) (by kernel_rfl) (by kernel_rfl) (fun _ _ _ h => h) (Or.inr ⟨by rfl, rfl⟩) (by assumption) ?_
            try simp only [Act.put, List.getElem_toArray, List.getElem_cons_zero, List.getElem_cons_succ, List.setIfInBounds_toArray, List.set_cons_zero, List.set_cons_succ]
            refine wpAnyH_take (i := 19) (v := undef) rfl (by kernel_rfl) (by kernel_rfl) (by kernel_rfl) (fun _ _ _ h => h) (Or.inr ⟨by rfl, rfl⟩) (by assumption) ?_
            try simp only [Act.put, List.getElem_toArray, List.getElem_cons_zero, List.getElem_cons_succ, List.setIfInBounds_toArray, List.set_cons_zero, List.set_cons_succ]
            refine wpAnyH_take (i := 20) (v := undef) rfl (by kernel_rfl) (by kernel_rfl) (by kernel_rfl) (fun _ _ _ h => h) (Or.inr ⟨by rfl, rfl⟩) (by assumption) ?_
            try simp only [Act.put, List.getElem_toArray, List.getElem_cons_zero, List.getElem_cons_succ, List.setIfInBounds_toArray, List.set_cons_zero, List.set_cons_succ]
            refine wpAnyH_take (i := 21) (v := undef) rfl (by kernel_rfl) (by kernel_rfl) (by kernel_rfl) (fun _ _ _ h => h) (Or.inr ⟨by rfl, rfl⟩) (by assumption) ?_
            try simp only [Act.put, List.getElem_toArray, List.getElem_cons_zero, List.getElem_cons_succ, List.setIfInBounds_toArray, List.set_cons_zero, List.set_cons_succ]
            refine wpAnyH_take (i := 22) (v := undef) rfl (by kernel_rfl) (by kernel_rfl) (by kernel_rfl) (fun _ _ _ h => h) (Or.inr ⟨by rfl, rfl⟩) (by assumption) ?_
            try simp only [Act.put, List.getElem_toArray, List.getElem_cons_zero, List.getElem_cons_succ, List.setIfInBounds_toArray, List.set_cons_zero, List.set_cons_succ]
            refine wpAnyH_take (i := 23) (v := undef) rfl (by kernel_rfl) (by kernel_rfl) (by kernel_rfl) (fun _ _ _ h => h) (Or.inr ⟨by rfl, rfl⟩) (by assumption) ?_
            try simp only [Act.put, List.getElem_toArray, List.getElem_cons_zero, List.getElem_cons_succ, List.setIfInBounds_toArray, List.set_cons_zero, List.set_cons_succ]
            refine wpAnyH_take (i := 24) (v := undef) rfl (by kernel_rfl) (by kernel_rfl) (by kernel_rfl) (fun _ _ _ h => h) (Or.inr ⟨by rfl, rfl⟩) (by assumption) ?_
            try simp only [Act.put, List.getElem_toArray, List.getElem_cons_zero, List.getElem_cons_succ, List.setIfInBounds_toArray, List.set_cons_zero, List.set_cons_succ]
            refine wpAnyH_take (i := 25) (v := undef) rfl (by kernel_rfl) (by kernel_rfl) (by kernel_rfl) (fun _ _ _ h => h) (Or.inr ⟨by rfl, rfl⟩) (by assumption) ?_
            try simp only [Act.put, List.getElem_toArray, List.getElem_cons_zero, List.getElem_cons_succ, List.setIfInBounds_toArray, List.set_cons_zero, List.set_cons_succ]
            refine wpAnyH_take (i := 26) (v := undef) rfl (by kernel_rfl) (by kernel_rfl) (by kernel_rfl) (fun _ _ _ h => h) (Or.inr ⟨by rfl, rfl⟩) (by assumption) ?_
            try simp only [Act.put, List.getElem_toArray, List.getElem_cons_zero, List.getElem_cons_succ, List.setIfInBounds_toArray, List.set_cons_zero, List.set_cons_succ]
            refine wpAnyH_take (i := 27) (v := undef) rfl (by kernel_rfl) (by kernel_rfl) (by kernel_rfl) (fun _ _ _ h => h) (Or.inr ⟨by rfl, rfl⟩) (by assumption) ?_
            try simp only [Act.put, List.getElem_toArray, List.getElem_cons_zero, List.getElem_cons_succ, List.setIfInBounds_toArray, List.set_cons_zero, List.set_cons_succ]
            refine wpAnyH_take (i := 28) (v := undef) rfl (by kernel_rfl) (by kernel_rfl) (by kernel_rfl) (fun _ _ _ h => h) (Or.inr ⟨by rfl, rfl⟩) (by assumption) ?_
            try simp only [Act.put, List.getElem_toArray, List.getElem_cons_zero, List.getElem_cons_succ, List.setIfInBounds_toArray, List.set_cons_zero, List.set_cons_succ]
            refine wpAnyH_take (i := 29) (v := undef) rfl (by kernel_rfl) (by kernel_rfl) (by kernel_rfl) (fun _ _ _ h => h) (Or.inr ⟨by rfl, rfl⟩) (by assumption) ?_
            try simp only [Act.put, List.getElem_toArray, List.getElem_cons_zero, List.getElem_cons_succ, List.setIfInBounds_toArray, List.set_cons_zero, List.set_cons_succ]
            refine wpAnyH_take (i := 30) (v := undef) rfl (by kernel_rfl) (by kernel_rfl) (by kernel_rfl) (fun _ _ _ h => h) (Or.inr ⟨by rfl, rfl⟩) (by assumption) ?_
            try simp only [Act.put, List.getElem_toArray, List.getElem_cons_zero, List.getElem_cons_succ, List.setIfInBounds_toArray, List.set_cons_zero, List.set_cons_succ]
            refine wpAnyH_take (i := 31) (v := undef) rfl (by kernel_rfl) (by kernel_rfl) (by kernel_rfl) (fun _ _ _ h => h) (Or.inr ⟨by rfl, rfl⟩) (by assumption) ?_
            try simp only [Act.put, List.getElem_toArray, List.getElem_cons_zero, List.getElem_cons_succ, List.setIfInBounds_toArray, List.set_cons_zero, List.set_cons_succ]
            refine wpAnyH_take (i := 32) (v := undef) rfl (by kernel_rfl) (by kernel_rfl) (by kernel_rfl) (fun _ _ _ h => h) (Or.inr ⟨by rfl, rfl⟩) (by assumption) ?_
            try simp only [Act.put, List.getElem_toArray, List.getElem_cons_zero, List.getElem_cons_succ, List.setIfInBounds_toArray, List.set_cons_zero, List.set_cons_succ]
            refine wpAnyH_take (i := 33) (v := undef) rfl (by kernel_rfl) (by kernel_rfl) (by kernel_rfl) (fun _ _ _ h => h) (Or.inr ⟨by rfl, rfl⟩) (by assumption) ?_
            try simp only [Act.put, List.getElem_toArray, List.getElem_cons_zero, List.getElem_cons_succ, List.setIfInBounds_toArray, List.set_cons_zero, List.set_cons_succ]
            refine wpAnyH_take (i := 34) (v := undef) rfl (by kernel_rfl) (by kernel_rfl) (by kernel_rfl) (fun _ _ _ h => h) (Or.inr ⟨by rfl, rfl⟩) (by assumption) ?_
            try simp only [Act.put, List.getElem_toArray, List.getElem_cons_zero, List.getElem_cons_succ, List.setIfInBounds_toArray, List.set_cons_zero, List.set_cons_succ]
            refine wpAnyH_take (i := 35) (v := ?v44) rfl (by kernel_rfl) (by kernel_rfl) (by kernel_rfl) (fun _ _ _ h => h) (Or.inl ⟨by rfl, ?hy44⟩) (by assumption) ?rest44
            case hy44 => (intro wy hSw; (try dsimp only at hSw); go_simp; (first | done | with_reducible rfl))
            try simp only [Act.put, List.getElem_toArray, List.getElem_cons_zero, List.getElem_cons_succ, List.setIfInBounds_toArray, List.set_cons_zero, List.set_cons_succ]
            refine wpAnyH_done (by kernel_rfl) ?_ _
            go_wp2
            go_roundw
            case rel => exact ⟨j + 1, by omega, by go_num, by rw [HN2.out]; exact HVd.out⟩
            case measure => simp [intOf]; omega
        · have hltI : ¬ (j : Int) < is.length := by omega
          have hrun : (runM κ cap s0 (is.take j)).2 = s1 := by rw [List.take_of_length_le (by omega), HR.out]
          rw [hrun] at HV
          clear hrun
          obtain ⟨T, HT⟩ : ∃ T, Hid ((s1.getD s Sr.nil).1 = T) := ⟨_, rfl⟩
          have hTc : T.length ≤ cap := by rw [← HT.out]; exact HV.out.ish.len
          have hTI : ¬ (cap : Int) < T.length := by omega
          have HAT : Hid ((walkM (s1.take (s + 1))).length = A + T.length) := by
            show _ = _
            rw [walkL_more (by rw [HN1.out]; exact hsn), List.length_append, HA.out, HT.out]
          go_wp2_with (go_at_call 17; go_must (refine (HV.out.part hsn HT).mono ?_); rintro e we ⟨ue, rfl, hue, hbe⟩; go_must (have HMe := keepG (HV.out.below hbe); have HUe := keepG (own_seesG ppC_len Pp.nil hue); obtain ⟨pa, pc, rfl⟩ := own_shape hue; clear hue))
          have HMd : Hid (Ms w we.drew ra n cap κ kk s1 w.heap.size wi.heap.size (.slice xa rs.length xc) rs (.iface tv uv) (s1.getD s Sr.nil)) := HMe.out.drewN 1
          obtain ⟨fp, xp, hvp, hcp⟩ := HMd.out.pairs HT
          obtain ⟨hmp, hfp⟩ := hvp.fix
          have HCP := keepG hcp
          clear hvp hcp
          refine wp_region_held_drew (S := fun w' => w'.cell? ⟨w.heap.size, 1, none⟩ = some (.int .i64 cap)) (by kernel_rfl) (HMe.out.box.cell (j := 1) rfl) (fun hHeld => ?_)
          refine wpAnyH_take (i := 0) (v := ?v45) rfl (by kernel_rfl) (by kernel_rfl) (by kernel_rfl) (fun _ _ _ h => h) (Or.inl ⟨by rfl, ?hy45⟩) (by assumption) ?rest45
          case hy45 => (intro wy hSw; (try dsimp only at hSw); go_simp; (first | done | with_reducible rfl))
          try simp only [Act.put, List.getElem_toArray, List.getElem_cons_zero, List.getElem_cons_succ, List.setIfInBounds_toArray, List.set_cons_zero, List.set_cons_succ]
          refine wpAnyH_take (i := 1) (v := ?v46) rfl (by kernel_rfl) (by kernel_rfl) (by kernel_rfl) (fun _ _ _ h => h) (Or.inl ⟨by rfl, ?hy46⟩) (by assumption) ?rest46
          case hy46 => (intro wy hSw; (try dsimp only at hSw); go_simp; (first | done | with_reducible rfl))
          try simp only [Act.put, List.getElem_toArray, List.getElem_cons_zero, List.getElem_cons_succ, List.setIfInBounds_toArray, List.set_cons_zero, List.set_cons_succ]
          refine wpAnyH_take (i := 2) (v := ?v47) rfl (by kernel_rfl) (by kernel_rfl) (by kernel_rfl) (fun _ _ _ h => h) (Or.inl ⟨by rfl, ?hy47⟩) (by assumption) ?rest47
          case hy47 => (intro wy hSw; (try dsimp only at hSw); go_simp; (first | done | with_reducible rfl))
          try simp only [Act.put, List.getElem_toArray, List.getElem_cons_zero, List.getElem_cons_succ, List.setIfInBounds_toArray, List.set_cons_zero, List.set_cons_succ]
          refine wpAnyH_take (i := 3) (v := ?v48) rfl (by kernel_rfl) (by kernel_rfl) (by kernel_rfl) (fun _ _ _ h => h) (Or.inl ⟨by rfl, ?hy48⟩) (by assumption) ?rest48
          case hy48 => (intro wy hSw; (try dsimp only at hSw); go_simp; (first | done | with_reducible rfl))
          try simp only [Act.put, List.getElem_toArray, List.getElem_cons_zero, List.getElem_cons_succ, List.setIfInBounds_toArray, List.set_cons_zero, List.set_cons_succ]
          refine wpAnyH_take (i := 4) (v := ?v49) rfl (by kernel_rfl) (by kernel_rfl) (by kernel_rfl) (fun _ _ _ h => h) (Or.inl ⟨by rfl, ?hy49⟩) (by assumption) ?rest49
          case hy49 => (intro wy hSw; (try dsimp only at hSw); go_simp; (first | done | with_reducible rfl))
          try simp only [Act.put, List.getElem_toArray, List.getElem_cons_zero, List.getElem_cons_succ, List.setIfInBounds_toArray, List.set_cons_zero, List.set_cons_succ]
          refine wpAnyH_ready (rs := [5]) (by kernel_rfl) (by simp) ?_
          refine AllReadyH.cons rfl (fun KK hK => ?_) AllReadyH.nil
          rw [if_pos (by rfl)]
          go_simp
          refine HCP.out.mono ?_
          rintro e wf ⟨uf, rfl, huf, hbf⟩
          have HMf := keepG (HMd.out.below hbf)
          have HUf := keepG (own_seesG ppC_len Pp.nil huf)
          have HVf := keepG (SeesG.below (w := we.drew) HUe.out hbf (Nat.le_refl _))
          clear huf
          go_simp
          refine hK.out _ _ (HMf.out.box.cell (j := 1) rfl) (fun hHeld => ?_)
          clear hK KK
          try simp only [Act.put, List.getElem_toArray, List.getElem_cons_zero, List.getElem_cons_succ, List.setIfInBounds_toArray, List.set_cons_zero, List.set_cons_succ]
          refine wpAnyH_ready (rs := [6]) (by kernel_rfl) (by simp) ?_
          refine AllReadyH.cons rfl (fun KK hK => ?_) AllReadyH.nil
          rw [if_pos (by rfl)]
          go_simp
          go_at_call 14
          refine (wpairs15 HVf.out HUf.out).mono ?_
          rintro e wg ⟨rfl, mg, rfl⟩
          have HMg := keepG (HMf.out.drewN mg)
          obtain ⟨fl, xl, hvl, hcl⟩ := HMg.out.len HT
          obtain ⟨hml, hfl⟩ := hvl.fix
          have HCL := keepG hcl
          clear hvl hcl
          go_simp
          refine hK.out _ _ (HMg.out.box.cell (j := 1) rfl) (fun hHeld => ?_)
          clear hK KK
          try simp only [Act.put, List.getElem_toArray, List.getElem_cons_zero, List.getElem_cons_succ, List.setIfInBounds_toArray, List.set_cons_zero, List.set_cons_succ]
          refine wpAnyH_take (i := 7) (v := ?v50) rfl (by kernel_rfl) (by kernel_rfl) (by kernel_rfl) (fun _ _ _ h => h) (Or.inl ⟨by rfl, ?hy50⟩) (by assumption) ?rest50
          case hy50 => (intro wy hSw; (try dsimp only at hSw); go_simp; (first | done | with_reducible rfl))
          try simp only [Act.put, List.getElem_toArray, List.getElem_cons_zero, List.getElem_cons_succ, List.setIfInBounds_toArray, List.set_cons_zero, List.set_cons_succ]
          refine wpAnyH_take (i := 8) (v := ?v51) rfl (by kernel_rfl) (by kernel_rfl) (by kernel_rfl) (fun _ _ _ h => h) (Or.inl ⟨by rfl, ?hy51⟩) (by assumption) ?rest51
          case hy51 => (intro wy hSw; (try dsimp only at hSw); go_simp; (first | done | with_reducible rfl))
          try simp only [Act.put, List.getElem_toArray, List.getElem_cons_zero, List.getElem_cons_succ, List.setIfInBounds_toArray, List.set_cons_zero, List.set_cons_succ]
          refine wpAnyH_take (i := 9) (v := ?v52) rfl (by kernel_rfl) (by kernel_rfl) (by kernel_rfl) (fun _ _ _ h => h) (Or.inl ⟨by rfl, ?hy52⟩) (by assumption) ?rest52
          case hy52 => (intro wy hSw; (try dsimp only at hSw); go_simp; (first | done | with_reducible rfl))
          try simp only [Act.put, List.getElem_toArray, List.getElem_cons_zero, List.getElem_cons_succ, List.setIfInBounds_toArray, List.set_cons_zero, List.set_cons_succ]
          refine wpAnyH_take (i := 10) (v := ?v53) rfl (by kernel_rfl) (by kernel_rfl) (by kernel_rfl) (fun _ _ _ h => h) (Or.inl ⟨by rfl, ?hy53⟩) (by assumption) ?rest53
          case hy53 => (intro wy hSw; (try dsimp only at hSw); go_simp; (first | done | with_reducible rfl))
          try simp only [Act.put, List.getElem_toArray, List.getElem_cons_zero, List.getElem_cons_succ, List.setIfInBounds_toArray, List.set_cons_zero, List.set_cons_succ]
          refine wpAnyH_take (i := 12) (v := ?v54) rfl (by kernel_rfl) (by kernel_rfl) (by kernel_rfl) (fun _ _ _ h => h) (Or.inl ⟨by rfl, ?hy54⟩) (by assumption) ?rest54
          case hy54 => (intro wy hSw; (try dsimp only at hSw); go_simp; (first | done | with_reducible rfl))
          try simp only [Act.put, List.getElem_toArray, List.getElem_cons_zero, List.getElem_cons_succ, List.setIfInBounds_toArray, List.set_cons_zero, List.set_cons_succ]
          refine wpAnyH_take (i := 13) (v := ?v55) rfl (by kernel_rfl) (by kernel_rfl) (by kernel_rfl) (fun _ _ _ h => h) (Or.inl ⟨by rfl, ?hy55⟩) (by assumption) ?rest55
          case hy55 => (intro wy hSw; (try dsimp only at hSw); go_simp; (first | done | with_reducible rfl))
          try simp only [Act.put, List.getElem_toArray, List.getElem_cons_zero, List.getElem_cons_succ, List.setIfInBounds_toArray, List.set_cons_zero, List.set_cons_succ]
          refine wpAnyH_ready (rs := [11]) (by kernel_rfl) (by simp) ?_
          refine AllReadyH.cons rfl (fun KK hK => ?_) AllReadyH.nil
          rw [if_pos (by rfl)]
          go_simp
          refine HCL.out.mono ?_
          rintro e wh ⟨rfl, rfl⟩
          go_simp
          refine hK.out _ _ (HMg.out.box.cell (j := 1) rfl) (fun hHeld => ?_)
          clear hK KK
          try simp only [Act.put, List.getElem_toArray, List.getElem_cons_zero, List.getElem_cons_succ, List.setIfInBounds_toArray, List.set_cons_zero, List.set_cons_succ]
          refine wpAnyH_take (i := 14) (v := ?v56) rfl (by kernel_rfl) (by kernel_rfl) (by kernel_rfl) (fun _ _ _ h => h) (Or.inl ⟨by rfl, ?hy56⟩) (by assumption) ?rest56
          case hy56 => (intro wy hSw; (try dsimp only at hSw); go_simp; (first | done | with_reducible rfl))
          try simp only [Act.put, List.getElem_toArray, List.getElem_cons_zero, List.getElem_cons_succ, List.setIfInBounds_toArray, List.set_cons_zero, List.set_cons_succ]
          refine wpAnyH_take (i := 15) (v := ?v57) rfl (by kernel_rfl) (by kernel_rfl) (by kernel_rfl) (fun _ _ _ h => h) (Or.inl ⟨by rfl, ?hy57⟩) (by assumption) ?rest57
          case hy57 => (intro wy hSw; (try dsimp only at hSw); go_simp; (first | done | with_reducible rfl))
          try simp only [Act.put, List.getElem_toArray, List.getElem_cons_zero, List.getElem_cons_succ, List.setIfInBounds_toArray, List.set_cons_zero, List.set_cons_succ]
          refine wpAnyH_done (by kernel_rfl) ?_ _
          go_wp2
          go_roundw
          case rel => exact ⟨s + 1, by omega, by go_num, by rw [HAT.out]; go_num, HMg.out.one⟩
          case measure => simp [intOf]; omega
    · have hsI : ¬ (s : Int) < n := by omega
      have HL : Hid ((walkM s1).length = A) := by
        have h9 := HA.out
        rw [List.take_of_length_le (by rw [HN1.out]; omega)] at h9
        exact h9
      go_wp2_with (go_at_call 16; go_must (refine (HM.out.lenM HL).mono ?_); rintro e w9 ⟨rfl, rfl⟩)
      go_ret
      exact ⟨rfl, HM.out.be⟩
/-- CmapParts. -/
theorem cmapParts_walk (k c n : Int) (sv : Value) (is : List It) (w : World) {P0 : Prop} (_ : P0) (hs : SeesG itC 4 It.nil w sv is) (hwf : ∀ x ∈ is, It.wf x) (hlen : is.length * 32 ≤ 140737488351232) :
    Calls Try.prog 6 #[defW k c, .int .i64 n, sv] w fun e w' => e = .returned (.bool true) ∧ Below w.heap.size w w' := by
  by_cases h : (n < 1 ∨ 4 < n) ∨ defNoL k c
  · exact cmapParts_no k c n sv w h
  · unfold defNoL at h
    obtain ⟨m, rfl⟩ : ∃ m : Nat, n = m := ⟨n.toNat, by omega⟩
    obtain ⟨cap, rfl⟩ : ∃ cap : Nat, c = cap := ⟨c.toNat, by omega⟩
    obtain ⟨κ, HK⟩ : ∃ κ : Bool, Hid (kindJ κ = k) := by
      by_cases h0 : k = 0
      · exact ⟨false, h0.symm⟩
      · exact ⟨true, show (1 : Int) = k by omega⟩
    by_cases hl : 3000 < is.length
    · exact cmapParts_long κ cap m (by omega) (by omega) (by omega) (by omega) HK sv is w hs hl
    · exact cmapParts_ok κ cap m (by omega) (by omega) (by omega) (by omega) HK sv is w hs hwf (by omega)
end Go.Proofs.Ytinoelooccmmnaa
