
/-
  BookPlays, walked. Condition: none but the arguments' reading.
-/
import Derived.Test.YtlinfpnkeiahlaaW13Pl
namespace Go.Proofs.Ytlinfpnkeiahlaa
open Go.RowKit
set_option linter.unusedVariables false
set_option linter.unusedSimpArgs false
set_option maxRecDepth 100000

theorem bookPlays_no (cap : Int) (sv : Value) (w : World) (hc : cap < 1 ∨ 16 < cap) :
    Calls Try.prog 3 #[.int .i64 cap, sv] w fun e w' => e = .returned (.bool true) ∧ Below w.heap.size w w' := by
  go_enter Try.func3, Try.ntmps3
  go_wp2_with (first
    | (go_at_call 7; go_must (refine (wawake w).mono ?_); rintro e w1 ⟨rfl, hb1⟩)
    | (go_at_call 8; go_must (refine (lnew_no cap hc w1).mono ?_); rintro e w2 ⟨rfl, rfl⟩)
    | (go_at_call 9; go_must (refine (rnew_no cap hc w1).mono ?_); rintro e w2 ⟨rfl, rfl⟩))
  go_ret
  exact ⟨rfl, hb1⟩
/-- Calls of the document's book, one behind the other. -/
def runP (cap : Nat) : List Pp → List Dc → List Pp
  | L, [] => L
  | L, d :: ds => runP cap (doP cap L d.op d.k d.v).2 ds
theorem runP_app (cap : Nat) (ds : List Dc) (d : Dc) : ∀ L, runP cap L (ds ++ [d]) = (doP cap (runP cap L ds) d.op d.k d.v).2 := by
  induction ds with
  | nil => intro L; rfl
  | cons q qs ih => intro L; rw [List.cons_append, runP, ih, runP]
theorem run_same {cap : Nat} (ds : List Dc) : ∀ {S D : List Pp}, Srt S → S.Perm D → (runS cap S ds).Perm (runP cap D ds) := by
  induction ds with
  | nil => intro S D _ h; exact h
  | cons d ds ih => intro S D hs h; exact ih (srt_do hs _ _ _) (do_same hs h _ _ _).2
theorem runS_len {cap : Nat} (ds : List Dc) : ∀ {L : List Pp}, L.length ≤ cap → (runS cap L ds).length ≤ cap := by
  induction ds with
  | nil => intro L h; exact h
  | cons d ds ih => intro L h; exact ih (doS_len h)
set_option maxHeartbeats 8000000 in
theorem bookPlays_ok (n : Nat) (h1 : 1 ≤ n) (h2 : n ≤ 16) (sv : Value) (ds : List Dc) (w : World) (hs : SeesG dcC 3 Dc.nil w sv ds) (hlen : ds.length ≤ 4611686018427387904) :
    Calls Try.prog 3 #[.int .i64 n, sv] w fun e w' => e = .returned (.bool true) ∧ Below w.heap.size w w' := by
  have HSS : Hid (∀ wr, Below w.heap.size w wr → SeesG dcC 3 Dc.nil wr sv ds) := fun wr hb => hs.below hb (Nat.le_refl _)
  obtain ⟨a, c, rfl, hc, hm, _, _⟩ := hs
  have hm' : c ≤ 9223372036854775807 := by unfold maxLen at hm; omega
  go_enter Try.func3, Try.ntmps3
  go_wp2_with (first
    | (go_at_call 7; go_must (refine (wawake w).mono ?_); rintro e w1 ⟨rfl, hb1⟩)
    | (go_at_call 8; go_must (refine (lnew_ok n h1 h2 w1).mono ?_); rintro e w2 ⟨rfl, hp2', hb2, hz2⟩; go_must (have hp2 := keepG hp2'; clear hp2' hz2))
    | (go_at_call 9; go_must (refine (rnew_ok n h1 h2 w2).mono ?_); rintro e w3 ⟨rfl, hp3, hb3, hz3⟩; go_must (have HT3 := keepG (Pl.new hb1 hb2 hp2.out hb3 hp3 h2); clear hp3 hz3))
    | (go_at_call 10; go_must (refine HT3.out.cap_any.mono ?_); rintro e w4 ⟨rfl, rfl⟩))
  go_loopw [9] (fun i wr => ∃ j : Nat, j ≤ ds.length ∧ i = .int .i64 j ∧ Hid (Pl w wr w1.heap.size w2.heap.size n (runS n [] (ds.take j)) (runP n [] (ds.take j)))) (fun i _ => ds.length - (intOf i).toNat)
  case atStart => exact ⟨0, by omega, rfl, HT3.out⟩
  case round =>
    obtain ⟨j, hj, rfl, HT⟩ := hrel
    have HPR := keepG (run_same (cap := n) (ds.take j) (S := []) (D := []) List.Pairwise.nil (List.Perm.refl _))
    have HSR := keepG (srt_run (cap := n) (ds.take j) (L := []) List.Pairwise.nil)
    by_cases hlt : j < ds.length
    · have hltI : (j : Int) < ds.length := by omega
      have HTS : Hid (runS n [] (ds.take (j + 1)) = (doS n (runS n [] (ds.take j)) (ds.getD j Dc.nil).op (ds.getD j Dc.nil).k (ds.getD j Dc.nil).v).2) := by show _ = _; rw [take_moreD hlt, runS_app]
      have HTD : Hid (runP n [] (ds.take (j + 1)) = (doP n (runP n [] (ds.take j)) (ds.getD j Dc.nil).op (ds.getD j Dc.nil).k (ds.getD j Dc.nil).v).2) := by show _ = _; rw [take_moreD hlt, runP_app]
      have HPR2 := keepG (run_same (cap := n) (ds.take (j + 1)) (S := []) (D := []) List.Pairwise.nil (List.Perm.refl _))
      have HSR2 := keepG (srt_run (cap := n) (ds.take (j + 1)) (L := []) List.Pairwise.nil)
      have hLS := runS_len (cap := n) (ds.take (j + 1)) (L := []) (by simp)
      have hDl := HPR2.out.length_eq
      obtain ⟨S, HS⟩ : ∃ S, Hid (runS n [] (ds.take j) = S) := ⟨_, rfl⟩
      obtain ⟨D, HD⟩ : ∃ D, Hid (runP n [] (ds.take j) = D) := ⟨_, rfl⟩
      obtain ⟨S2, HS2⟩ : ∃ S2, Hid (runS n [] (ds.take (j + 1)) = S2) := ⟨_, rfl⟩
      obtain ⟨D2, HD2⟩ : ∃ D2, Hid (runP n [] (ds.take (j + 1)) = D2) := ⟨_, rfl⟩
      rw [HS2.out] at HTS HPR2 HSR2 hLS hDl
      rw [HD2.out] at HTD HPR2 hDl
      rw [HS.out] at HTS HPR HSR HT
      rw [HD.out] at HTD HPR HT
      have hcells : ∃ g off, a = some ⟨g, off, none⟩ ∧ wr.cell? ⟨g, off + j * 3, none⟩ = some (.int .i64 (ds.getD j Dc.nil).op) ∧ wr.cell? ⟨g, off + j * 3 + 1, none⟩ = some (.int .u64 (ds.getD j Dc.nil).k) ∧ wr.cell? ⟨g, off + j * 3 + 2, none⟩ = some (.int .u64 (ds.getD j Dc.nil).v) := by
        obtain ⟨a', c', ev, _, _, _, hcell⟩ := HSS.out wr HT.out.be
        simp only [Value.slice.injEq, true_and] at ev
        obtain ⟨rfl, rfl⟩ := ev
        obtain ⟨g, off, rfl, hg, hat⟩ := hcell (fun e => by rw [e] at hlt; simp at hlt)
        exact ⟨g, off, rfl, hat j hlt 0 (by omega), hat j hlt 1 (by omega), hat j hlt 2 (by omega)⟩
      obtain ⟨g, off, rfl, d0, d1, d2⟩ := hcells
      obtain ⟨d, HDD⟩ : ∃ d, Hid (ds.getD j Dc.nil = d) := ⟨_, rfl⟩
      rw [HDD.out] at d0 d1 d2 HTS HTD
      obtain ⟨R, HR⟩ : ∃ R, Hid ((doS n S d.op d.k d.v).1 = R) := ⟨_, rfl⟩
      have HR2 : Hid ((doP n D d.op d.k d.v).1 = R) := by show _ = _; rw [← HR.out]; exact (do_same HSR.out HPR.out d.op d.k d.v).1.symm
      obtain ⟨X, HX, hbX, hpX⟩ : ∃ X, Hid (wr.alloc (.cells #[.int .i64 d.op, .int .u64 d.k, .int .u64 d.v] 34) = X) ∧ Below wr.heap.size wr X ∧ Hid (Hp X wr.heap.size 34 (dcC d)) := ⟨_, rfl, below_allocG _ _, Hp.new wr (dcC d) _⟩
      have HTX := keepG (HT.out.below hbX)
      have HKP : Hid (∀ wx, Hp wx wr.heap.size 34 (dcC d) → wx.cell? ⟨wr.heap.size, 0, none⟩ = some (.int .i64 d.op) ∧ wx.cell? ⟨wr.heap.size, 1, none⟩ = some (.int .u64 d.k) ∧ wx.cell? ⟨wr.heap.size, 2, none⟩ = some (.int .u64 d.v)) := fun wx hp => ⟨hp.cell (j := 0) rfl, hp.cell (j := 1) rfl, hp.cell (j := 2) rfl⟩
      go_wp2
      rw [HX.out]
      refine wp_region_held_drew (S := fun w' => w'.cell? ⟨wr.heap.size, 0, none⟩ = some (.int .i64 d.op) ∧ w'.cell? ⟨wr.heap.size, 1, none⟩ = some (.int .u64 d.k) ∧ w'.cell? ⟨wr.heap.size, 2, none⟩ = some (.int .u64 d.v)) (by kernel_rfl) (HKP.out _ hpX.out.drew) (fun hHeld => ?_)
      refine wpAnyH_take (i := 0) (v := ?v2) rfl (by kernel_rfl) (by kernel_rfl) (by kernel_rfl) (fun _ _ _ h => h) (Or.inl ⟨by rfl, ?hy2⟩) (by assumption) ?rest2
      case hy2 => (intro wy hSw; (try dsimp only at hSw); go_simp; (first | done | with_reducible rfl))
      try simp only [Act.put, List.getElem_toArray, List.getElem_cons_zero, List.getElem_cons_succ, List.setIfInBounds_toArray, List.set_cons_zero, List.set_cons_succ]
      refine wpAnyH_take (i := 1) (v := ?v3) rfl (by kernel_rfl) (by kernel_rfl) (by kernel_rfl) (fun _ _ _ h => h) (Or.inl ⟨by rfl, ?hy3⟩) (by assumption) ?rest3
      case hy3 => (intro wy hSw; (try dsimp only at hSw); go_simp; (first | done | with_reducible rfl))
      try simp only [Act.put, List.getElem_toArray, List.getElem_cons_zero, List.getElem_cons_succ, List.setIfInBounds_toArray, List.set_cons_zero, List.set_cons_succ]
      refine wpAnyH_take (i := 2) (v := ?v4) rfl (by kernel_rfl) (by kernel_rfl) (by kernel_rfl) (fun _ _ _ h => h) (Or.inl ⟨by rfl, ?hy4⟩) (by assumption) ?rest4
      case hy4 => (intro wy hSw; (try dsimp only at hSw); go_simp; (first | done | with_reducible rfl))
      try simp only [Act.put, List.getElem_toArray, List.getElem_cons_zero, List.getElem_cons_succ, List.setIfInBounds_toArray, List.set_cons_zero, List.set_cons_succ]
      refine wpAnyH_take (i := 3) (v := ?v5) rfl (by kernel_rfl) (by kernel_rfl) (by kernel_rfl) (fun _ _ _ h => h) (Or.inl ⟨by rfl, ?hy5⟩) (by assumption) ?rest5
      case hy5 => (intro wy hSw; (try dsimp only at hSw); go_simp; (first | done | with_reducible rfl))
      try simp only [Act.put, List.getElem_toArray, List.getElem_cons_zero, List.getElem_cons_succ, List.setIfInBounds_toArray, List.set_cons_zero, List.set_cons_succ]
      refine wpAnyH_take (i := 4) (v := ?v6) rfl (by kernel_rfl) (by kernel_rfl) (by kernel_rfl) (fun _ _ _ h => h) (Or.inl ⟨by rfl, ?hy6⟩) (by assumption) ?rest6
      case hy6 => (intro wy hSw; (try dsimp only at hSw); go_simp; (first | done | with_reducible rfl))
      try simp only [Act.put, List.getElem_toArray, List.getElem_cons_zero, List.getElem_cons_succ, List.setIfInBounds_toArray, List.set_cons_zero, List.set_cons_succ]
      refine wpAnyH_take (i := 5) (v := ?v7) rfl (by kernel_rfl) (by kernel_rfl) (by kernel_rfl) (fun _ _ _ h => h) (Or.inl ⟨by rfl, ?hy7⟩) (by assumption) ?rest7
      case hy7 => (intro wy hSw; (try dsimp only at hSw); go_simp; (first | done | with_reducible rfl))
      try simp only [Act.put, List.getElem_toArray, List.getElem_cons_zero, List.getElem_cons_succ, List.setIfInBounds_toArray, List.set_cons_zero, List.set_cons_succ]
      refine wpAnyH_take (i := 6) (v := ?v8) rfl (by kernel_rfl) (by kernel_rfl) (by kernel_rfl) (fun _ _ _ h => h) (Or.inl ⟨by rfl, ?hy8⟩) (by assumption) ?rest8
      case hy8 => (intro wy hSw; (try dsimp only at hSw); go_simp; (first | done | with_reducible rfl))
      try simp only [Act.put, List.getElem_toArray, List.getElem_cons_zero, List.getElem_cons_succ, List.setIfInBounds_toArray, List.set_cons_zero, List.set_cons_succ]
      refine wpAnyH_take (i := 8) (v := ?v9) rfl (by kernel_rfl) (by kernel_rfl) (by kernel_rfl) (fun _ _ _ h => h) (Or.inl ⟨by rfl, ?hy9⟩) (by assumption) ?rest9
      case hy9 => (intro wy hSw; (try dsimp only at hSw); go_simp; (first | done | with_reducible rfl))
      try simp only [Act.put, List.getElem_toArray, List.getElem_cons_zero, List.getElem_cons_succ, List.setIfInBounds_toArray, List.set_cons_zero, List.set_cons_succ]
      refine wpAnyH_take (i := 9) (v := ?v10) rfl (by kernel_rfl) (by kernel_rfl) (by kernel_rfl) (fun _ _ _ h => h) (Or.inl ⟨by rfl, ?hy10⟩) (by assumption) ?rest10
      case hy10 => (intro wy hSw; (try dsimp only at hSw); go_simp; (first | done | with_reducible rfl))
      try simp only [Act.put, List.getElem_toArray, List.getElem_cons_zero, List.getElem_cons_succ, List.setIfInBounds_toArray, List.set_cons_zero, List.set_cons_succ]
      refine wpAnyH_take (i := 10) (v := ?v11) rfl (by kernel_rfl) (by kernel_rfl) (by kernel_rfl) (fun _ _ _ h => h) (Or.inl ⟨by rfl, ?hy11⟩) (by assumption) ?rest11
      case hy11 => (intro wy hSw; (try dsimp only at hSw); go_simp; (first | done | with_reducible rfl))
      try simp only [Act.put, List.getElem_toArray, List.getElem_cons_zero, List.getElem_cons_succ, List.setIfInBounds_toArray, List.set_cons_zero, List.set_cons_succ]
      refine wpAnyH_take (i := 11) (v := ?v12) rfl (by kernel_rfl) (by kernel_rfl) (by kernel_rfl) (fun _ _ _ h => h) (Or.inl ⟨by rfl, ?hy12⟩) (by assumption) ?rest12
      case hy12 => (intro wy hSw; (try dsimp only at hSw); go_simp; (first | done | with_reducible rfl))
      try simp only [Act.put, List.getElem_toArray, List.getElem_cons_zero, List.getElem_cons_succ, List.setIfInBounds_toArray, List.set_cons_zero, List.set_cons_succ]
      refine wpAnyH_take (i := 12) (v := ?v13) rfl (by kernel_rfl) (by kernel_rfl) (by kernel_rfl) (fun _ _ _ h => h) (Or.inl ⟨by rfl, ?hy13⟩) (by assumption) ?rest13
      case hy13 => (intro wy hSw; (try dsimp only at hSw); go_simp; (first | done | with_reducible rfl))
      try simp only [Act.put, List.getElem_toArray, List.getElem_cons_zero, List.getElem_cons_succ, List.setIfInBounds_toArray, List.set_cons_zero, List.set_cons_succ]
      refine wpAnyH_take (i := 13) (v := ?v14) rfl (by kernel_rfl) (by kernel_rfl) (by kernel_rfl) (fun _ _ _ h => h) (Or.inl ⟨by rfl, ?hy14⟩) (by assumption) ?rest14
      case hy14 => (intro wy hSw; (try dsimp only at hSw); go_simp; (first | done | with_reducible rfl))
      try simp only [Act.put, List.getElem_toArray, List.getElem_cons_zero, List.getElem_cons_succ, List.setIfInBounds_toArray, List.set_cons_zero, List.set_cons_succ]
      refine wpAnyH_take (i := 14) (v := ?v15) rfl (by kernel_rfl) (by kernel_rfl) (by kernel_rfl) (fun _ _ _ h => h) (Or.inl ⟨by rfl, ?hy15⟩) (by assumption) ?rest15
      case hy15 => (intro wy hSw; (try dsimp only at hSw); go_simp; (first | done | with_reducible rfl))
      try simp only [Act.put, List.getElem_toArray, List.getElem_cons_zero, List.getElem_cons_succ, List.setIfInBounds_toArray, List.set_cons_zero, List.set_cons_succ]
      refine wpAnyH_ready (rs := [7]) (by kernel_rfl) (by simp) ?_
      refine AllReadyH.cons rfl (fun KK hK => ?_) AllReadyH.nil
      rw [if_pos (by rfl)]
      go_simp
      go_at_call 11
      refine ((HTX.out.drewN 1).doB d.op d.k d.v).mono ?_
      rintro e w5 ⟨rfl, ht5, hk5⟩
      have HP5 := keepG (hk5 _ _ _ (by decide) (by decide) (by decide) hpX.out.drew)
      rw [HR.out]
      have HT5 : Hid (Pl w w5 w1.heap.size w2.heap.size n S2 D) := by rw [HTS.out]; exact ht5
      clear ht5 hk5
      go_simp
      refine hK.out _ _ (HKP.out w5 HP5.out) (fun hHeld => ?_)
      clear hK KK
      try simp only [Act.put, List.getElem_toArray, List.getElem_cons_zero, List.getElem_cons_succ, List.setIfInBounds_toArray, List.set_cons_zero, List.set_cons_succ]
      refine wpAnyH_ready (rs := [15]) (by kernel_rfl) (by simp) ?_
      refine AllReadyH.cons rfl (fun KK hK => ?_) AllReadyH.nil
      rw [if_pos (by rfl)]
      go_simp
      go_at_call 12
      refine (HT5.out.doR d.op d.k d.v (by rw [← HTD.out]; omega)).mono ?_
      rintro e w6 ⟨rfl, ht6, hk6⟩
      have HP6 := keepG (hk6 _ _ _ (by decide) (by decide) (by decide) HP5.out)
      rw [HR2.out]
      have HT6 : Hid (Pl w w6 w1.heap.size w2.heap.size n S2 D2) := by rw [HTD.out]; exact ht6
      clear ht6 hk6
      go_simp
      refine hK.out _ _ (HKP.out w6 HP6.out) (fun hHeld => ?_)
      clear hK KK
      try simp only [Act.put, List.getElem_toArray, List.getElem_cons_zero, List.getElem_cons_succ, List.setIfInBounds_toArray, List.set_cons_zero, List.set_cons_succ]
      dsimp only [resG]
      refine wpAnyH_take (i := 16) (v := ?v16) rfl (by kernel_rfl) (by kernel_rfl) (by kernel_rfl) (fun _ _ _ h => h) (Or.inl ⟨by rfl, ?hy16⟩) (by assumption) ?rest16
      case hy16 => (intro wy hSw; (try dsimp only at hSw); go_simp; (first | done | with_reducible rfl))
      try simp only [Act.put, List.getElem_toArray, List.getElem_cons_zero, List.getElem_cons_succ, List.setIfInBounds_toArray, List.set_cons_zero, List.set_cons_succ]
      refine wpAnyH_take (i := 17) (v := ?v17) rfl (by kernel_rfl) (by kernel_rfl) (by kernel_rfl) (fun _ _ _ h => h) (Or.inl ⟨by rfl, ?hy17⟩) (by assumption) ?rest17
      case hy17 => (intro wy hSw; (try dsimp only at hSw); go_simp; (first | done | with_reducible rfl))
      try simp only [Act.put, List.getElem_toArray, List.getElem_cons_zero, List.getElem_cons_succ, List.setIfInBounds_toArray, List.set_cons_zero, List.set_cons_succ]
      refine wpAnyH_take (i := 18) (v := ?v18) rfl (by kernel_rfl) (by kernel_rfl) (by kernel_rfl) (fun _ _ _ h => h) (Or.inl ⟨by rfl, ?hy18⟩) (by assumption) ?rest18
      case hy18 => (intro wy hSw; (try dsimp only at hSw); go_simp; (first | done | with_reducible rfl))
      try simp only [Act.put, List.getElem_toArray, List.getElem_cons_zero, List.getElem_cons_succ, List.setIfInBounds_toArray, List.set_cons_zero, List.set_cons_succ]
      refine wpAnyH_take (i := 20) (v := ?v19) rfl (by kernel_rfl) (by kernel_rfl) (by kernel_rfl) (fun _ _ _ h => h) (Or.inl ⟨by rfl, ?hy19⟩) (by assumption) ?rest19
      case hy19 => (intro wy hSw; (try dsimp only at hSw); go_simp; (first | done | with_reducible rfl))
      try simp only [Act.put, List.getElem_toArray, List.getElem_cons_zero, List.getElem_cons_succ, List.setIfInBounds_toArray, List.set_cons_zero, List.set_cons_succ]
      refine wpAnyH_take (i := 21) (v := ?v20) rfl (by kernel_rfl) (by kernel_rfl) (by kernel_rfl) (fun _ _ _ h => h) (Or.inl ⟨by rfl, ?hy20⟩) (by assumption) ?rest20
      case hy20 => (intro wy hSw; (try dsimp only at hSw); go_simp; (first | done | with_reducible rfl))
      try simp only [Act.put, List.getElem_toArray, List.getElem_cons_zero, List.getElem_cons_succ, List.setIfInBounds_toArray, List.set_cons_zero, List.set_cons_succ]
      refine wpAnyH_take (i := 22) (v := ?v21) rfl (by kernel_rfl) (by kernel_rfl) (by kernel_rfl) (fun _ _ _ h => h) (Or.inl ⟨by rfl, ?hy21⟩) (by assumption) ?rest21
      case hy21 => (intro wy hSw; (try dsimp only at hSw); go_simp; (first | done | with_reducible rfl))
      try simp only [Act.put, List.getElem_toArray, List.getElem_cons_zero, List.getElem_cons_succ, List.setIfInBounds_toArray, List.set_cons_zero, List.set_cons_succ]
      obtain ⟨ra, rc, cr⟩ := HT6.out.list
      have hlS : (S2.length : Int) = (D2.length : Int) := by omega
      refine wpAnyH_ready (rs := [19, 23]) (by kernel_rfl) (by simp) ?_
      refine AllReadyH.cons rfl (fun KK hK => ?_) (AllReadyH.cons rfl (fun KK hK => ?_) AllReadyH.nil) <;> rw [if_pos (by rfl)]
      · go_simp
        go_at_call 13
        refine HT6.out.len_any.mono ?_
        rintro e w7 ⟨rfl, rfl⟩
        go_simp
        refine hK.out _ _ (HKP.out _ HP6.out) (fun hHeld => ?_)
        clear hK KK
        try simp only [Act.put, List.getElem_toArray, List.getElem_cons_zero, List.getElem_cons_succ, List.setIfInBounds_toArray, List.set_cons_zero, List.set_cons_succ]
        refine wpAnyH_ready (rs := [23]) (by kernel_rfl) (by simp) ?_
        refine AllReadyH.cons rfl (fun KK hK => ?_) AllReadyH.nil
        rw [if_pos (by rfl)]
        go_simp
        refine hK.out _ _ (HKP.out _ HP6.out) (fun hHeld => ?_)
        clear hK KK
        try simp only [Act.put, List.getElem_toArray, List.getElem_cons_zero, List.getElem_cons_succ, List.setIfInBounds_toArray, List.set_cons_zero, List.set_cons_succ]
        refine wpAnyH_take (i := 24) (v := ?v22) rfl (by kernel_rfl) (by kernel_rfl) (by kernel_rfl) (fun _ _ _ h => h) (Or.inl ⟨by rfl, ?hy22⟩) (by assumption) ?rest22
        case hy22 => (intro wy hSw; (try dsimp only at hSw); go_simp; (first | done | with_reducible rfl))
        try simp only [Act.put, List.getElem_toArray, List.getElem_cons_zero, List.getElem_cons_succ, List.setIfInBounds_toArray, List.set_cons_zero, List.set_cons_succ]
        refine wpAnyH_take (i := 25) (v := ?v23) rfl (by kernel_rfl) (by kernel_rfl) (by kernel_rfl) (fun _ _ _ h => h) (Or.inl ⟨by rfl, ?hy23⟩) (by assumption) ?rest23
        case hy23 => (intro wy hSw; (try dsimp only at hSw); go_simp; (first | done | with_reducible rfl))
        try simp only [Act.put, List.getElem_toArray, List.getElem_cons_zero, List.getElem_cons_succ, List.setIfInBounds_toArray, List.set_cons_zero, List.set_cons_succ]
        refine wpAnyH_take (i := 26) (v := ?v24) rfl (by kernel_rfl) (by kernel_rfl) (by kernel_rfl) (fun _ _ _ h => h) (Or.inl ⟨by rfl, ?hy24⟩) (by assumption) ?rest24
        case hy24 => (intro wy hSw; (try dsimp only at hSw); go_simp; (first | done | with_reducible rfl))
        try simp only [Act.put, List.getElem_toArray, List.getElem_cons_zero, List.getElem_cons_succ, List.setIfInBounds_toArray, List.set_cons_zero, List.set_cons_succ]
        refine wpAnyH_done (by kernel_rfl) ?_ _
        by_cases h8 : (j : Int) % 8 = 7
        · have hrem : Int.tmod (j : Int) 8 = 7 := by rw [Int.tmod_eq_emod_of_nonneg (by omega)]; exact h8
          go_wp2_with (first
            | (go_at_call 15; go_must (refine HT6.out.pairsB.mono ?_); rintro e wz ⟨uz, rfl, huz, hbz⟩; go_must (have HTb := keepG (HT6.out.below hbz); have HUb := keepG (own_seesG ppC_len Pp.nil huz); clear huz))
            | (go_at_call 16; go_must (refine (HTb.out.pairsR HPR2.out HSR2.out).mono ?_); rintro e wy ⟨uy, rfl, huy, hby⟩; go_must (have HTc := keepG (HTb.out.below hby); have HUy := keepG (own_seesG ppC_len Pp.nil huy); have HUz := keepG (HUb.out.below hby (Nat.le_refl _)); clear huy))
            | (go_at_call 14; go_must (refine (wpairs_same HUz.out HUy.out).mono ?_); rintro e wp ⟨rfl, mp, rfl⟩; go_must (have HTd := keepG (HTc.out.drewN mp))))
          rw [← HS2.out, ← HD2.out] at HTd
          go_roundw
          case rel => exact ⟨j + 1, by omega, by go_num, HTd.out⟩
          case measure => simp [intOf]; omega
        · have hrem : ¬ Int.tmod (j : Int) 8 = 7 := by rw [Int.tmod_eq_emod_of_nonneg (by omega)]; exact h8
          have hremb : (Int.tmod (j : Int) 8 == 7) = false := by simpa using hrem
          go_wp2
          rw [← HS2.out, ← HD2.out] at HT6
          go_roundw
          case rel => exact ⟨j + 1, by omega, by go_num, HT6.out⟩
          case measure => simp [intOf]; omega
      · go_simp
        refine hK.out _ _ (HKP.out _ HP6.out) (fun hHeld => ?_)
        clear hK KK
        try simp only [Act.put, List.getElem_toArray, List.getElem_cons_zero, List.getElem_cons_succ, List.setIfInBounds_toArray, List.set_cons_zero, List.set_cons_succ]
        refine wpAnyH_take (i := 24) (v := ?v1) rfl (by kernel_rfl) (by kernel_rfl) (by kernel_rfl) (fun _ _ _ h => h) (Or.inl ⟨by rfl, ?hy1⟩) (by assumption) ?rest1
        case hy1 => (intro wy hSw; (try dsimp only at hSw); go_simp; (first | done | with_reducible rfl))
        try simp only [Act.put, List.getElem_toArray, List.getElem_cons_zero, List.getElem_cons_succ, List.setIfInBounds_toArray, List.set_cons_zero, List.set_cons_succ]
        refine wpAnyH_ready (rs := [19]) (by kernel_rfl) (by simp) ?_
        refine AllReadyH.cons rfl (fun KK hK => ?_) AllReadyH.nil
        rw [if_pos (by rfl)]
        go_simp
        go_at_call 13
        refine HT6.out.len_any.mono ?_
        rintro e w7 ⟨rfl, rfl⟩
        go_simp
        refine hK.out _ _ (HKP.out _ HP6.out) (fun hHeld => ?_)
        clear hK KK
        try simp only [Act.put, List.getElem_toArray, List.getElem_cons_zero, List.getElem_cons_succ, List.setIfInBounds_toArray, List.set_cons_zero, List.set_cons_succ]
        refine wpAnyH_take (i := 25) (v := ?v25) rfl (by kernel_rfl) (by kernel_rfl) (by kernel_rfl) (fun _ _ _ h => h) (Or.inl ⟨by rfl, ?hy25⟩) (by assumption) ?rest25
        case hy25 => (intro wy hSw; (try dsimp only at hSw); go_simp; (first | done | with_reducible rfl))
        try simp only [Act.put, List.getElem_toArray, List.getElem_cons_zero, List.getElem_cons_succ, List.setIfInBounds_toArray, List.set_cons_zero, List.set_cons_succ]
        refine wpAnyH_take (i := 26) (v := ?v26) rfl (by kernel_rfl) (by kernel_rfl) (by kernel_rfl) (fun _ _ _ h => h) (Or.inl ⟨by rfl, ?hy26⟩) (by assumption) ?rest26
        case hy26 => (intro wy hSw; (try dsimp only at hSw); go_simp; (first | done | with_reducible rfl))
        try simp only [Act.put, List.getElem_toArray, List.getElem_cons_zero, List.getElem_cons_succ, List.setIfInBounds_toArray, List.set_cons_zero, List.set_cons_succ]
        refine wpAnyH_done (by kernel_rfl) ?_ _
        by_cases h8 : (j : Int) % 8 = 7
        · have hrem : Int.tmod (j : Int) 8 = 7 := by rw [Int.tmod_eq_emod_of_nonneg (by omega)]; exact h8
          go_wp2_with (first
            | (go_at_call 15; go_must (refine HT6.out.pairsB.mono ?_); rintro e wz ⟨uz, rfl, huz, hbz⟩; go_must (have HTb := keepG (HT6.out.below hbz); have HUb := keepG (own_seesG ppC_len Pp.nil huz); clear huz))
            | (go_at_call 16; go_must (refine (HTb.out.pairsR HPR2.out HSR2.out).mono ?_); rintro e wy ⟨uy, rfl, huy, hby⟩; go_must (have HTc := keepG (HTb.out.below hby); have HUy := keepG (own_seesG ppC_len Pp.nil huy); have HUz := keepG (HUb.out.below hby (Nat.le_refl _)); clear huy))
            | (go_at_call 14; go_must (refine (wpairs_same HUz.out HUy.out).mono ?_); rintro e wp ⟨rfl, mp, rfl⟩; go_must (have HTd := keepG (HTc.out.drewN mp))))
          rw [← HS2.out, ← HD2.out] at HTd
          go_roundw
          case rel => exact ⟨j + 1, by omega, by go_num, HTd.out⟩
          case measure => simp [intOf]; omega
        · have hrem : ¬ Int.tmod (j : Int) 8 = 7 := by rw [Int.tmod_eq_emod_of_nonneg (by omega)]; exact h8
          have hremb : (Int.tmod (j : Int) 8 == 7) = false := by simpa using hrem
          go_wp2
          rw [← HS2.out, ← HD2.out] at HT6
          go_roundw
          case rel => exact ⟨j + 1, by omega, by go_num, HT6.out⟩
          case measure => simp [intOf]; omega
    · have hltI : ¬ (j : Int) < ds.length := by omega
      go_wp2_with (first
        | (go_at_call 15; go_must (refine HT.out.pairsB.mono ?_); rintro e wz ⟨uz, rfl, huz, hbz⟩; go_must (have HTb := keepG (HT.out.below hbz); have HUb := keepG (own_seesG ppC_len Pp.nil huz); clear huz))
        | (go_at_call 16; go_must (refine (HTb.out.pairsR HPR.out HSR.out).mono ?_); rintro e wy ⟨uy, rfl, huy, hby⟩; go_must (have HTc := keepG (HTb.out.below hby); have HUy := keepG (own_seesG ppC_len Pp.nil huy); have HUz := keepG (HUb.out.below hby (Nat.le_refl _)); clear huy))
        | (go_at_call 14; go_must (refine (wpairs_same HUz.out HUy.out).mono ?_); rintro e wp ⟨rfl, mp, rfl⟩; go_must (have HTd := keepG (HTc.out.drewN mp))))
      go_ret
      exact ⟨rfl, HTd.out.be⟩
/-- BookPlays. -/
theorem bookPlays_walk (cap : Int) (sv : Value) (ds : List Dc) (w : World) {P0 : Prop} (_ : P0) (hs : SeesG dcC 3 Dc.nil w sv ds) (hlen : ds.length * 24 ≤ 140737488351232) :
    Calls Try.prog 3 #[.int .i64 cap, sv] w fun e w' => e = .returned (.bool true) ∧ Below w.heap.size w w' := by
  by_cases h : cap < 1 ∨ 16 < cap
  · exact bookPlays_no cap sv w h
  · obtain ⟨n, rfl⟩ : ∃ n : Nat, cap = n := ⟨cap.toNat, by omega⟩
    exact bookPlays_ok n (by omega) (by omega) sv ds w hs (by omega)
end Go.Proofs.Ytlinfpnkeiahlaa
