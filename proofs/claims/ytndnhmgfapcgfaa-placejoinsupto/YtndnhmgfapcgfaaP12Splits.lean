
/-
  PlaceSplits, walked: the answer is true. Condition: at most 17592186044416 keys.
-/
import Derived.Test.YtndnhmgfapcgfaaP12Laws
namespace Go.Proofs.Ytndnhmgfapcgfaa
open Go.RowKit Go.Deep
set_option linter.unusedVariables false
set_option maxRecDepth 20000

theorem own_empty (w : World) (e : TypeId) : (w.alloc (.cells #[] e)).ownsRow w.heap.size e 1 (.slice (some ⟨w.heap.size, 0, none⟩) 0 0) ([] : List Int).length (([] : List Int).map (Value.int .u64)) :=
  World.ownsRow_lit w #[] 0 (Nat.le_refl _) (by simp [maxLen]) rfl
set_option maxHeartbeats 3200000 in
theorem splits_ok (d : Int) (N : Nat) (v : Value) (xs : List Int) (w : World) (hN1 : 1 ≤ N) (hN4 : N ≤ 4) (hs : Sees .u64 w v xs) (hlen : xs.length ≤ 17592186043904) :
    Calls Try.prog 4 #[.int .i64 d, .int .i64 N, v] w fun e w' => e = .returned (.bool true) ∧ Below w.heap.size w w' := by
  obtain ⟨i0, hi, hz0, hz1, hz2⟩ := info_parts Try.info64p
  have HS : Hid (Sees .u64 w v xs) := hs
  have HWf : Hid (∀ x ∈ xs, (Lit.int .u64 x).wf = true) := hs.wf
  have HSB : Hid (-9223372036854775808 ≤ (N : Int) ∧ (N : Int) ≤ 9223372036854775807) := ⟨by omega, by omega⟩
  have HL : Hid (xs.length ≤ 17592186044416) := by show _ ≤ _; omega
  obtain ⟨a, cap, rfl⟩ := hs.shape
  clear hs
  have P1 : Hid True := trivial
  go_enter Try.func4, Try.ntmps4
  go_wp2_with (first
    | (go_at_call 7; go_must (refine (awake_any _).mono ?_); rintro e w1 ⟨rfl, hbe⟩; have hs1 := HS.out.below hbe (Nat.le_refl _))
    | (at_builtin; have hq := hs1; clear hq; go_must (refine wpList_append_sees rfl (.tmp 13) (.tmp 14) 26 rfl w1.heap.size 22 i0 (.int .u64 0) 8 Try.underlying26 hi hz0 hz1 hz2 rfl .u64 _ [] rfl (own_empty w1 _) _ _ rfl (hs1.alloc _) (by simp [maxLen]; omega) (by simp; omega) (by simp) ?_); intro v2 w2 hown hg; go_must (have hb2 := below_grown (own_empty w1 _) hg (by simp); have hb2 : Below w1.heap.size w1 w2 := ((Below.refl _ _).alloc (Nat.le_refl _) _).trans hb2; have hz := hbe.size; have hbe2 := hbe.trans (hb2.mono hz); have hs2 := hs1.below hb2 (Nat.le_refl _); clear hg hs1 hb2 hbe hz; simp only [List.nil_append] at hown; have hsin := Sees.own hown HWf.out; clear hown; obtain ⟨a2, c2, rfl⟩ := hsin.shape))
    | (go_at_call 10; go_must (refine (lsplit_ok N _ xs _ hN1 hN4 hsin HL.out).mono ?_); rintro e w3 ⟨V, rfl, hR⟩; go_must (have hin3 := hsin.below hR.g (Nat.le_refl _); have hs3 := hs2.below hR.g (Nat.le_refl _); have hz2 := hbe2.size; have hbe3 := hbe2.trans (hR.g.mono hz2); clear hsin hs2 hz2))
    | (go_at_call 11; go_must (refine (rsplit_ok N _ xs _ hN1 hN4 hs3 HL.out).mono ?_); rintro e w4 ⟨u, vs, rfl, hL⟩; go_must (have hR4 := hR.next hL.g; have hin4 := hin3.below hL.g (Nat.le_refl _); have hs4 := hs3.below hL.g (Nat.le_refl _); have hz3 := hbe3.size; have hbe4 := hbe3.trans (hL.g.mono hz3); clear hin3 hs3 hz3 hbe2 hR hbe3; obtain ⟨au, cu, rfl, hcu⟩ := own_shapep hL.row))
    | (go_at_call 12; have hq := P1; clear hq; go_must (refine (numbers_any _ _ xs xs _ hin4 hs4).mono ?_); rintro e w5 ⟨rfl, n5, rfl⟩; rw [eqB_true (rfl : xs = xs)]; clear P1)
    | (go_at_call 13; go_must (refine (lmine_any d N _ xs _ (hin4.drewN n5) HL.out HSB.out).mono ?_); rintro e w6 ⟨v6, rfl, hown6, hb6⟩; obtain ⟨a6, c6, rfl, hc6⟩ := own_shapep hown6)
    | (go_at_call 14; go_must (refine (rmine_any d N _ xs _ ((hs4.drewN n5).below hb6 (Nat.le_refl _)) HL.out HSB.out).mono ?_); rintro e w7 ⟨v7, rfl, hown7, hb7⟩; obtain ⟨a7, c7, rfl, hc7⟩ := own_shapep hown7; have h67 := Sees.own (own_below hown6 hb7 (Nat.le_refl _)) (mine_wf HWf.out); have h77 := Sees.own hown7 (mine_wf HWf.out))
    | (go_at_call 12; go_must (refine (numbers_any _ _ (mineL d N xs) (mineL d N xs) _ h67 h77).mono ?_); rintro e w8 ⟨rfl, n8, rfl⟩; rw [eqB_true (rfl : mineL d N xs = mineL d N xs)]; clear h67 h77 hown6 hown7))
  have hbw : Below (w4.drewN n5).heap.size (w4.drewN n5) w7 := hb6.trans (hb7.mono hb6.size)
  have hbw' : Below w4.heap.size w4 w7 := ⟨hbw.os, hbw.tape, hbw.output, hbw.size, hbw.block⟩
  have hz4 := hbe4.size
  have HB : Hid (Below w.heap.size w w7) := hbe4.trans (hbw'.mono hz4)
  have HR : Hid (Rw w2 N V (fun p => mineL p N xs) w7) := hR4.next hbw'
  have HR' : Hid (Rl w3 N (.slice au N cu) (fun p => mineL p N xs) vs w7) := hL.next hbw'
  clear hbw hbw' hb6 hb7 hbe4 hL hR4 hin4 hs4 hz4
  go_loopw [10] (fun i wr => ∃ k m : Nat, k ≤ N ∧ i = .int .i64 k ∧ wr = w7.drewN m) (fun i _ => N - (intOf i).toNat)
  case atStart => exact ⟨0, n8, by omega, rfl, rfl⟩
  case round =>
    obtain ⟨k, m, hk, rfl, rfl⟩ := hrel
    by_cases hlt : k < N
    · have c1 := HR.out.out.cell hlt
      have hb1 := HR.out.out.lt
      have h1 := HR.out.sees hlt (mine_wf HWf.out)
      obtain ⟨Y, HY⟩ : ∃ Y, Hid (mineL (k : Int) N xs = Y) := ⟨_, rfl⟩
      have h2 := Sees.own (HR'.out.own k hlt) (mine_wf HWf.out)
      simp only [HY.out] at h1 h2
      obtain ⟨g, cp, eg, _, hg, _, _, hcs⟩ := own_open HR'.out.row (by omega)
      injection eg with eg1 _ eg3
      subst eg1 eg3
      have hvl : vs.length = N := by have := HR'.out.row.1; omega
      have c2 := hcs k (vs.getD k (.slice none 0 0)) (by simp [List.getD, show k < vs.length by omega])
      obtain ⟨x1, y1, e1⟩ := h1.shape
      obtain ⟨x2, y2, e2⟩ := h2.shape
      rw [e1] at c1 h1
      rw [e2] at c2 h2
      have HS1 := keepP h1
      have HS2 := keepP h2
      clear h1 h2 hcs hvl e1 e2 hcu hc6 hc7
      have hltI : (k : Int) < N := by omega
      go_wp2
      go_region_held3 (fun w' => w'.cell? ⟨w2.heap.size, k, none⟩ = some (.slice x1 Y.length y1) ∧ w'.cell? ⟨g, k, none⟩ = some (.slice x2 Y.length y2)) (exact ⟨c1, c2⟩)
        (first | (go_at_call 12; go_must (refine (numbers_any _ _ Y Y _ ((HS1.out.drewN m).drew) ((HS2.out.drewN m).drew)).mono ?_); rintro e w8 ⟨rfl, n8, rfl⟩; rw [eqB_true (rfl : Y = Y)]))
      all_goals go_wp2
      all_goals go_roundw
      case rel => exact ⟨k + 1, _, by omega, by go_num, rfl⟩
      case measure => simp [intOf]; omega
    · go_wp2
      go_ret
      exact ⟨rfl, below_drewN HB.out _⟩
set_option maxHeartbeats 3200000 in
theorem splits_no (d s : Int) (v : Value) (xs : List Int) (w : World) (hs1 : s < 1 ∨ 4 < s) (hsb : -9223372036854775808 ≤ s ∧ s ≤ 9223372036854775807) (hs : Sees .u64 w v xs) (hlen : xs.length ≤ 17592186043904) :
    Calls Try.prog 4 #[.int .i64 d, .int .i64 s, v] w fun e w' => e = .returned (.bool true) ∧ Below w.heap.size w w' := by
  obtain ⟨i0, hi, hz0, hz1, hz2⟩ := info_parts Try.info64p
  have HS : Hid (Sees .u64 w v xs) := hs
  have HWf : Hid (∀ x ∈ xs, (Lit.int .u64 x).wf = true) := hs.wf
  have HSB : Hid (-9223372036854775808 ≤ s ∧ s ≤ 9223372036854775807) := hsb
  have HL : Hid (xs.length ≤ 17592186044416) := by show _ ≤ _; omega
  have HD : Hid (s < 1 ∨ 4 < s) := hs1
  obtain ⟨a, cap, rfl⟩ := hs.shape
  clear hs hs1 hsb
  have P1 : Hid True := trivial
  go_enter Try.func4, Try.ntmps4
  go_wp2_with (first
    | (go_at_call 7; go_must (refine (awake_any _).mono ?_); rintro e w1 ⟨rfl, hbe⟩; have hs1 := HS.out.below hbe (Nat.le_refl _))
    | (at_builtin; have hq := hs1; clear hq; go_must (refine wpList_append_sees rfl (.tmp 13) (.tmp 14) 26 rfl w1.heap.size 22 i0 (.int .u64 0) 8 Try.underlying26 hi hz0 hz1 hz2 rfl .u64 _ [] rfl (own_empty w1 _) _ _ rfl (hs1.alloc _) (by simp [maxLen]; omega) (by simp; omega) (by simp) ?_); intro v2 w2 hown hg; go_must (have hb2 := below_grown (own_empty w1 _) hg (by simp); have hb2 : Below w1.heap.size w1 w2 := ((Below.refl _ _).alloc (Nat.le_refl _) _).trans hb2; have hz := hbe.size; have hbe2 := hbe.trans (hb2.mono hz); have hs2 := hs1.below hb2 (Nat.le_refl _); clear hg hs1 hb2 hbe hz; simp only [List.nil_append] at hown; have hsin := Sees.own hown HWf.out; clear hown; obtain ⟨a2, c2, rfl⟩ := hsin.shape))
    | (go_at_call 10; go_must (refine (lsplit_no s _ _ HD.out HSB.out).mono ?_); rintro e w3 ⟨rfl, rfl⟩)
    | (go_at_call 11; go_must (refine (rsplit_no s _ _ HD.out HSB.out).mono ?_); rintro e w4 ⟨rfl, rfl⟩)
    | (go_at_call 12; have hq := P1; clear hq; go_must (refine (numbers_any _ _ xs xs _ hsin hs2).mono ?_); rintro e w5 ⟨rfl, n5, rfl⟩; rw [eqB_true (rfl : xs = xs)]; clear P1)
    | (go_at_call 13; go_must (refine (lmine_any d s _ xs _ (hsin.drewN n5) HL.out HSB.out).mono ?_); rintro e w6 ⟨v6, rfl, hown6, hb6⟩; obtain ⟨a6, c6, rfl, hc6⟩ := own_shapep hown6)
    | (go_at_call 14; go_must (refine (rmine_any d s _ xs _ ((hs2.drewN n5).below hb6 (Nat.le_refl _)) HL.out HSB.out).mono ?_); rintro e w7 ⟨v7, rfl, hown7, hb7⟩; obtain ⟨a7, c7, rfl, hc7⟩ := own_shapep hown7; have h67 := Sees.own (own_below hown6 hb7 (Nat.le_refl _)) (mine_wf HWf.out); have h77 := Sees.own hown7 (mine_wf HWf.out))
    | (go_at_call 12; go_must (refine (numbers_any _ _ (mineL d s xs) (mineL d s xs) _ h67 h77).mono ?_); rintro e w8 ⟨rfl, n8, rfl⟩; rw [eqB_true (rfl : mineL d s xs = mineL d s xs)]; clear h67 h77 hown6 hown7))
  have hbw : Below (w2.drewN n5).heap.size (w2.drewN n5) w7 := hb6.trans (hb7.mono hb6.size)
  have hbw' : Below w2.heap.size w2 w7 := ⟨hbw.os, hbw.tape, hbw.output, hbw.size, hbw.block⟩
  have hz4 := hbe2.size
  have HB : Hid (Below w.heap.size w w7) := hbe2.trans (hbw'.mono hz4)
  clear hbw hbw' hb6 hb7 hbe2 hsin hs2 hz4
  refine wp_loop_rounds 1 ?_
  rw [rounds_succ]
  go_wp2
  go_ret
  exact ⟨rfl, below_drewN HB.out _⟩
theorem splits_walk (d s : Int) (v : Value) (xs : List Int) (w : World) (hd : -9223372036854775808 ≤ d ∧ d ≤ 9223372036854775807) (hsb : -9223372036854775808 ≤ s ∧ s ≤ 9223372036854775807) (hs : Sees .u64 w v xs) (z : xs.length * Try.prog.bytesOf 22 ≤ reachBytes) :
    Calls Try.prog 4 #[.int .i64 d, .int .i64 s, v] w fun e w' => e = .returned (.bool true) ∧ Below w.heap.size w w' := by
  have hlen := len_of z
  by_cases h : s < 1 ∨ 4 < s
  · exact splits_no d s v xs w h hsb hs hlen
  · obtain ⟨N, rfl⟩ : ∃ N : Nat, s = N := ⟨s.toNat, by omega⟩
    exact splits_ok d N v xs w (by omega) (by omega) hs hlen
end Go.Proofs.Ytndnhmgfapcgfaa
