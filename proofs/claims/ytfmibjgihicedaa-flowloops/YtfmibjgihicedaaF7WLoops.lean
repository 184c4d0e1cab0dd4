/-
  FlowLoops, walked: it answers true. Condition: the code takes up no more bytes than an argument may.
-/
import Derived.Test.YtfmibjgihicedaaF7WKit
namespace Go.Proofs.Ytfmibjgihicedaa
open Go.RowKit Go.Deep
set_option linter.unusedVariables false
set_option maxRecDepth 20000

theorem loopsA_ok {xs : List In} : (loopsA xs).length ≤ 64 ∧ ∀ l ∈ loopsA xs, 1 ≤ l.b ∧ l.b ≤ 255 := by
  unfold loopsA
  by_cases h : errL xs = 0
  · rw [if_pos h]
    have T := check_ok.1 h
    have h1 := loopsU_len xs xs.length
    have h2 := T.top
    exact ⟨by unfold loopsL; omega, bnd_ok T.place⟩
  · rw [if_neg h]; simp
/-- Own loops, whose bounds may be written. -/
theorem own_cells {w : World} {base : Nat} {e : TypeId} {v : Value} {xs : List Lp} (h : w.ownsRow base e 3 v xs.length (flatL xs)) (hne : xs ≠ []) : ∃ g cap, v = .slice (some ⟨g, 0, none⟩) xs.length cap ∧ base ≤ g ∧ g < w.heap.size ∧ xs.length ≤ cap ∧ (∀ k, k < xs.length → AtL w g (k * 3) (xs.getD k Lp.nil)) ∧ ∀ i, w.frozen? ⟨g, i, none⟩ = false := by
  have hs := own_seesL h
  rcases h with ⟨h1, ⟨rfl, h2⟩ | ⟨g, cap, cur, rfl, hb, hh, h3, h4, h5, h6⟩⟩
  · exact absurd (List.eq_nil_of_length_eq_zero h2) hne
  · obtain ⟨a, cap', ev, _, _, _, hc⟩ := hs
    injection ev with e1 e2 e3
    subst e1 e3
    obtain ⟨b, off, ea, _, hat⟩ := hc hne
    injection ea with ea
    injection ea with ea1 ea2 _
    subst ea1 ea2
    refine ⟨g, cap, rfl, hb, (Array.getElem?_eq_some_iff.1 hh).1, h3, fun k hk => ?_, fun i => ?_⟩
    · have := hat k hk
      rwa [Nat.zero_add] at this
    · simp [World.frozen?, hh]
set_option maxHeartbeats 3200000 in
theorem loops_walk (v : Value) (xs : List In) (w : World) (hs : SeesI w v xs) (hz : xs.length * 40 ≤ 140737488355328) :
    Calls Try.prog 5 #[v] w fun e w' => e = .returned (.bool true) ∧ Below w.heap.size w w' := by
  have HS : Hid (SeesI w v xs) := hs
  obtain ⟨a, cap, rfl⟩ := hs.shape
  clear hs
  have HZ : Hid (xs.length * 40 ≤ 140737488355328) := hz
  clear hz
  obtain ⟨E, HE⟩ : ∃ E, Hid (E = errL xs) := ⟨_, rfl⟩
  obtain ⟨C, HC⟩ : ∃ C, Hid (C = costA xs) := ⟨_, rfl⟩
  obtain ⟨ls, HL⟩ : ∃ ls, Hid (loopsA xs = ls) := ⟨_, rfl⟩
  have hll : ls.length ≤ 64 := by rw [← HL.out]; exact loopsA_ok.1
  have HLb : Hid (∀ l ∈ ls, 1 ≤ l.b ∧ l.b ≤ 255) := by rw [← HL.out]; exact loopsA_ok.2
  have K1 : Hid True := trivial
  have K2 : Hid True := trivial
  have K3 : Hid True := trivial
  have K4 : Hid True := trivial
  go_enter Try.func5, Try.ntmps5
  go_wp2_with (first
    | (go_at_call 8; go_must (refine (awake_any _).mono ?_); rintro e w1 ⟨rfl, hb1⟩)
    | (go_at_call 9; (have hq := K1; clear hq); go_must (refine (copied_any _ xs _ (HS.out.below hb1) HZ.out).mono ?_); rintro e w2 ⟨u, rfl, hown, hb2⟩; go_must (have HU : Hid (SeesI w2 u xs) := own_seesI hown; have hB2 := hb1.trans (hb2.mono hb1.size); obtain ⟨au, cu, rfl⟩ := HU.out.shape; clear hb2 hown K1))
    | (go_at_call 17; (have hq := K2; clear hq); go_must (refine (lloops_any _ xs _ HU.out HE).mono ?_); rintro e w3 ⟨l1, rfl, ho3, hb3⟩; go_must (rw [HL.out] at ho3; have hB3 := hB2.trans (hb3.mono hB2.size); have O3 : Hid (w3.ownsRow w2.heap.size 47 3 l1 ls.length (flatL ls)) := ho3; have hsz2 := hB2.size; clear hb3 ho3 K2 HU))
    | (go_at_call 9; (have hq := K3; clear hq); go_must (refine (copied_any _ xs _ (HS.out.below hB3) HZ.out).mono ?_); rintro e w4 ⟨u4, rfl, hown, hb4⟩; go_must (have HU4 : Hid (SeesI w4 u4 xs) := own_seesI hown; have hB4 := hB3.trans (hb4.mono hB3.size); have O4 : Hid (w4.ownsRow w2.heap.size 47 3 l1 ls.length (flatL ls)) := own_below O3.out hb4 (Nat.le_refl _); obtain ⟨au4, cu4, rfl⟩ := HU4.out.shape; clear hb4 hown K3 O3))
    | (go_at_call 17; go_must (refine (lloops_any _ xs _ HU4.out HE).mono ?_); rintro e w5 ⟨l2, rfl, ho5, hb5⟩; go_must (rw [HL.out] at ho5; have hB5 := hB4.trans (hb5.mono hB4.size); have O5 : Hid (w5.ownsRow w2.heap.size 47 3 l1 ls.length (flatL ls) ∧ w5.ownsRow w4.heap.size 47 3 l2 ls.length (flatL ls) ∧ w4.ownsRow w2.heap.size 47 3 l1 ls.length (flatL ls)) := ⟨own_below O4.out hb5 (Nat.le_refl _), ho5, O4.out⟩; clear hb5 ho5 HU4 O4))
    | (go_at_call 18; go_must (refine (rloops_any _ xs _ (HS.out.below hB5) HE).mono ?_); rintro e w6 ⟨l3, rfl, ho6, hb6⟩; go_must (rw [HL.out] at ho6; have hB6 := hB5.trans (hb6.mono hB5.size); have O6 : Hid (w6.ownsRow w2.heap.size 47 3 l1 ls.length (flatL ls) ∧ w6.ownsRow w4.heap.size 47 3 l2 ls.length (flatL ls) ∧ w4.ownsRow w2.heap.size 47 3 l1 ls.length (flatL ls) ∧ w6.ownsRow w5.heap.size 47 3 l3 ls.length (flatL ls)) := ⟨own_below O5.out.1 hb6 (Nat.le_refl _), own_below O5.out.2.1 hb6 (Nat.le_refl _), O5.out.2.2, ho6⟩; have HW5 : Hid (w5.ownsRow w4.heap.size 47 3 l2 ls.length (flatL ls)) := O5.out.2.1; clear hb6 ho6 O5))
    | (go_at_call 9; (have hq := K4; clear hq); go_must (refine (copied_any _ xs _ (HS.out.below hB6) HZ.out).mono ?_); rintro e w7 ⟨u7, rfl, hown, hb7⟩; go_must (have HU7 : Hid (SeesI w7 u7 xs) := own_seesI hown; have hB7 := hB6.trans (hb7.mono hB6.size); have O7 : Hid (w7.ownsRow w2.heap.size 47 3 l1 ls.length (flatL ls) ∧ w7.ownsRow w4.heap.size 47 3 l2 ls.length (flatL ls) ∧ w7.ownsRow w5.heap.size 47 3 l3 ls.length (flatL ls)) := ⟨own_below O6.out.1 hb7 (Nat.le_refl _), own_below O6.out.2.1 hb7 (Nat.le_refl _), own_below O6.out.2.2.2 hb7 (Nat.le_refl _)⟩; obtain ⟨au7, cu7, rfl⟩ := HU7.out.shape; clear hb7 hown K4))
    | (go_at_call 19; go_must (refine (lcost_any _ xs _ HU7.out HC HE).mono ?_); rintro e w8 ⟨rfl, hb8⟩; go_must (have hB8 := hB7.trans (hb8.mono hB7.size); have O8 : Hid (w8.ownsRow w2.heap.size 47 3 l1 ls.length (flatL ls) ∧ w8.ownsRow w4.heap.size 47 3 l2 ls.length (flatL ls) ∧ w8.ownsRow w5.heap.size 47 3 l3 ls.length (flatL ls)) := ⟨own_below O7.out.1 hb8 (Nat.le_refl _), own_below O7.out.2.1 hb8 (Nat.le_refl _), own_below O7.out.2.2 hb8 (Nat.le_refl _)⟩; clear hb8 O7))
    | (go_at_call 20; go_must (refine (rcostf_any _ xs _ (HS.out.below hB8) HC HE).mono ?_); rintro e w9 ⟨rfl, hb9⟩; go_must (have hB9 := hB8.trans (hb9.mono hB8.size); have O9 : Hid (w9.ownsRow w2.heap.size 47 3 l1 ls.length (flatL ls) ∧ w9.ownsRow w4.heap.size 47 3 l2 ls.length (flatL ls) ∧ w9.ownsRow w5.heap.size 47 3 l3 ls.length (flatL ls)) := ⟨own_below O8.out.1 hb9 (Nat.le_refl _), own_below O8.out.2.1 hb9 (Nat.le_refl _), own_below O8.out.2.2 hb9 (Nat.le_refl _)⟩; clear hb9 O8; obtain ⟨q1, p1, ev1, _⟩ := own_seesL O9.out.1; obtain ⟨q2, p2, ev2, _⟩ := own_seesL O9.out.2.1; obtain ⟨q3, p3, ev3, _⟩ := own_seesL O9.out.2.2; subst ev1 ev2 ev3)))
  by_cases hne : ls = []
  · subst hne
    go_loopw [13] (fun i wr => i = .int .i64 0 ∧ Below w.heap.size w wr) (fun i _ => 0)
    case atStart => exact ⟨rfl, hB9⟩
    case round =>
      obtain ⟨rfl, hbr⟩ := hrel
      rename World => w0
      go_wp2
      go_loopw [14] (fun i wr => i = .int .i64 0 ∧ Below w.heap.size w wr) (fun i _ => 0)
      case atStart => exact ⟨rfl, hbr⟩
      case round =>
        obtain ⟨rfl, hbq⟩ := hrel
        go_wp2
        go_ret
        exact ⟨rfl, hbq⟩
  · obtain ⟨g1, cap1, e1, b1, t1, cc1, at1, fz1⟩ := own_cells O9.out.1 hne
    obtain ⟨g2, cap2, e2, b2, t2, cc2, at2, fz2⟩ := own_cells O9.out.2.1 hne
    obtain ⟨g3, cap3, e3, b3, t3, cc3, at3, fz3⟩ := own_cells O9.out.2.2 hne
    injection e1 with e11 _ e13
    injection e2 with e21 _ e23
    injection e3 with e31 _ e33
    subst e11 e13 e21 e23 e31 e33
    have hg14 : g1 < w4.heap.size := by
      obtain ⟨g, cp, ev, _, hg, _⟩ := own_cells O6.out.2.2.1 hne
      injection ev with ev _ _
      injection ev with ev
      injection ev with ev _ _
      subst ev
      exact hg
    have hz45 : w4.heap.size ≤ w5.heap.size := by
      obtain ⟨g, cp, ev, hg0, hg, _⟩ := own_cells HW5.out hne
      omega
    have hz29 := hB2.size
    have HN : Hid (ls ≠ []) := hne
    have HA1 : Hid (∀ k, k < ls.length → AtL w9 g1 (k * 3) (ls.getD k Lp.nil)) := at1
    have HA2 : Hid (∀ k, k < ls.length → AtL w9 g2 (k * 3) (ls.getD k Lp.nil)) := at2
    have HA3 : Hid (∀ k, k < ls.length → AtL w9 g3 (k * 3) (ls.getD k Lp.nil)) := at3
    have HF1 : Hid (∀ i, w9.frozen? ⟨g1, i, none⟩ = false) := fz1
    clear at1 at2 at3 fz1 fz2 fz3 hne
    go_loopw [13] (fun i wr => ∃ j : Nat, j ≤ ls.length ∧ i = .int .i64 j ∧ Hid (w9.grownBy wr (some g1)) ∧ Hid (∀ k, j ≤ k → k < ls.length → wr.cell? ⟨g1, k * 3 + 2, none⟩ = some (.int .i64 (ls.getD k Lp.nil).b)) ∧ Hid (∀ i, wr.frozen? ⟨g1, i, none⟩ = false)) (fun i _ => ls.length - (intOf i).toNat)
    case atStart => exact ⟨0, by omega, rfl, grown_refl _ _, fun k _ hk => (HA1.out k hk).2.2, HF1⟩
    case round =>
      rename World => w0
      obtain ⟨j, hj, rfl, HG, HK, HF⟩ := hrel
      by_cases hjn : j < ls.length
      · obtain ⟨x, HX⟩ : ∃ x, Hid ((ls.getD j Lp.nil).b = x) := ⟨_, rfl⟩
        have hxb : 1 ≤ x ∧ x ≤ 255 := by
          rw [← HX.out]
          have e : ls.getD j Lp.nil = ls[j] := by simp [hjn]
          rw [e]
          exact HLb.out _ (List.getElem_mem hjn)
        have c0 := HK.out j (Nat.le_refl _) hjn
        rw [HX.out] at c0
        have f0 := HF.out (j * 3 + 2)
        have hlt0 : g1 < w0.heap.size := Nat.lt_of_lt_of_le t1 HG.out.size
        go_wp2
        go_roundw
        case rel =>
          refine ⟨j + 1, by omega, by go_num, grown_trans HG.out (grown_setc w0 _ _), fun k hk1 hk2 => ?_, fun i => (World.frozen?_setCell _ _ _ _).trans (HF.out i)⟩
          rw [World.cell?_setCell_other _ _ _ _ (fun e => by injection e with _ e2; omega)]
          exact HK.out k (by omega) hk2
        case measure => simp [intOf]; omega
      · obtain rfl : j = ls.length := by omega
        have hbw : Below w.heap.size w w0 := hB9.grown HG.out hB9.size (fun k hk => by injection hk with hk; omega)
        have HC2 : Hid (∀ k, k < ls.length → AtL w0 g2 (k * 3) (ls.getD k Lp.nil)) := fun k hk => by
          have h := HA2.out k hk
          have hc : ∀ i, w0.cell? ⟨g2, i, none⟩ = w9.cell? ⟨g2, i, none⟩ := fun i => by
            unfold World.cell?
            rw [HG.out.block g2 t2 (fun e => by injection e with e; omega)]
          unfold AtL
          rw [hc, hc, hc]
          exact h
        have HC3 : Hid (∀ k, k < ls.length → AtL w0 g3 (k * 3) (ls.getD k Lp.nil)) := fun k hk => by
          have h := HA3.out k hk
          have hc : ∀ i, w0.cell? ⟨g3, i, none⟩ = w9.cell? ⟨g3, i, none⟩ := fun i => by
            unfold World.cell?
            rw [HG.out.block g3 t3 (fun e => by injection e with e; omega)]
          unfold AtL
          rw [hc, hc, hc]
          exact h
        have hlt2 : g2 < w0.heap.size := Nat.lt_of_lt_of_le t2 HG.out.size
        have hlt3 : g3 < w0.heap.size := Nat.lt_of_lt_of_le t3 HG.out.size
        clear HK HF
        go_wp2
        go_loopw [14] (fun i wr => ∃ j m : Nat, j ≤ ls.length ∧ i = .int .i64 j ∧ wr = w0.drewN m) (fun i _ => ls.length - (intOf i).toNat)
        case atStart => exact ⟨0, 0, by omega, rfl, rfl⟩
        case round =>
          obtain ⟨j, m, hj, rfl, rfl⟩ := hrel
          by_cases hjn : j < ls.length
          · obtain ⟨⟨lh, lt, lb⟩, HX⟩ : ∃ l, Hid (ls.getD j Lp.nil = l) := ⟨_, rfl⟩
            have h1 := HC2.out j hjn
            have h2 := HC3.out j hjn
            rw [HX.out] at h1 h2
            obtain ⟨c0, c1, c2⟩ := h1
            obtain ⟨d0, d1, d2⟩ := h2
            simp only at c0 c1 c2 d0 d1 d2
            go_wp2
            go_region_held3 (fun w' => (w'.cell? ⟨g2, j * 3, none⟩ = some (.int .i64 lh) ∧ w'.cell? ⟨g2, j * 3 + 1, none⟩ = some (.int .i64 lt) ∧ w'.cell? ⟨g2, j * 3 + 2, none⟩ = some (.int .i64 lb)) ∧ w'.cell? ⟨g3, j * 3, none⟩ = some (.int .i64 lh) ∧ w'.cell? ⟨g3, j * 3 + 1, none⟩ = some (.int .i64 lt) ∧ w'.cell? ⟨g3, j * 3 + 2, none⟩ = some (.int .i64 lb)) (exact ⟨⟨c0, c1, c2⟩, d0, d1, d2⟩) (fail)
            go_wp2
            go_roundw
            case rel => exact ⟨j + 1, _, by omega, by go_num, rfl⟩
            case measure => simp [intOf]; omega
          · go_wp2
            go_ret
            exact ⟨rfl, below_drewN hbw m⟩
end Go.Proofs.Ytfmibjgihicedaa
