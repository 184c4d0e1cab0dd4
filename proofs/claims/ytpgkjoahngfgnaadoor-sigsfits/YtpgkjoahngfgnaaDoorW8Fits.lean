/-
  The law SigsFits, walked: it answers true. Condition: the package-level variable 'names' reads as it is laid.
-/
import Derived.Test.YtpgkjoahngfgnaaDoorW8Step
import Derived.Deep.RegionHeldLaw
namespace Go.Proofs.YtpgkjoahngfgnaaDoor
open Go.RowKit
set_option linter.unusedVariables false
set_option maxRecDepth 100000

set_option maxHeartbeats 1600000 in
theorem fits_none (h : Int) (t : Ty) (w : World) (c : ¬ (0 ≤ h ∧ h < 7)) (hn : Named w) : Calls Tryd.prog 6 #[.int .i64 h, tyV t] w fun e w' => e = .returned (.bool true) ∧ Below w.heap.size w w' := by
  obtain ⟨tk, tl, th, tm⟩ := t
  have HN : Hid (Named w) := hn
  have h0 := hn.1
  have HR : Hid (34 = checkL h [⟨tk, tl, th, tm⟩]) := (check_none c _).symm
  have HT : Hid (⟨#[]⟩ = nameF h) := (name_none c).symm
  have HZ : Hid ((argsL h).length = 0) := args_zero c
  obtain ⟨Z, HZ', hX, hBZ, hzz⟩ : ∃ Z, Hid (Z = w.alloc (tyO ⟨tk, tl, th, tm⟩)) ∧ AtT Z w.heap.size 0 ⟨tk, tl, th, tm⟩ ∧ Below w.heap.size w Z ∧ w.heap.size < Z.heap.size :=
    ⟨_, rfl, ⟨by go_cell, by go_cell, by go_cell, by go_cell⟩, (Below.refl _ _).alloc (Nat.le_refl _) _, by simp⟩
  clear hn c
  go_enter Tryd.func6, Tryd.ntmps6
  go_wp2_with (first
    | (go_at_call 8; rw [← HZ'.out]; go_must (refine (awake_any _ (HN.out.below hBZ h0)).mono ?_); rintro e w1 ⟨rfl, hb1⟩; go_must (have hz1 := hb1.size))
    | (go_at_call 17; go_must (refine (args_any h _).mono ?_); rintro e w2 ⟨u2, rfl, hown2, hb2⟩; go_must (obtain ⟨a2, c2, rfl⟩ := own_shapeT hown2; rw [HZ.out]; have hB2 := hBZ.trans ((hb1.trans (hb2.mono hz1)).mono (by omega)); obtain ⟨d0, d1, d2, d3⟩ := hX.below (hb1.trans (hb2.mono hz1)) hzz; simp only [Nat.zero_add] at d0 d1 d2 d3; clear hown2 hb2 hb1))
    | (go_at_call 20; go_must (refine (check_as (SeesT.lit _ _ [⟨tk, tl, th, tm⟩] _ _ rfl rfl (by simp)) HR).mono ?_); rintro e w3 ⟨rfl, hb3⟩; go_must (have hB3 : Below w.heap.size w w3 := (hB2.alloc hB2.size _).trans (hb3.mono (by have := hB2.size; simp; omega)); clear hb3))
    | (go_at_call 15; go_must (refine (oname_as HT _ (HN.out.below hB3 h0)).mono ?_); rintro e w' ⟨rfl, rfl⟩))
  go_ret
  exact ⟨rfl, hB3⟩
/-- The box of the type that is handed in. -/
abbrev BoxM (w : World) (n : Nat) (tk tl th tm : Int) : Prop := w.cell? ⟨n, 0, none⟩ = some (.int .i64 tk) ∧ w.cell? ⟨n, 1, none⟩ = some (.int .u64 tl) ∧ w.cell? ⟨n, 2, none⟩ = some (.int .u64 th) ∧ w.cell? ⟨n, 3, none⟩ = some (.int .i64 tm)
theorem below_dr {B : Nat} {w Z : World} (h : Below B w Z) : Below B w Z.drew := ⟨h.os, h.tape, h.output, h.size, h.block⟩
set_option maxHeartbeats 8000000 in
theorem fits_some (h : Int) (t : Ty) (w : World) (c : 0 ≤ h ∧ h < 7) (hn : Named w) : Calls Tryd.prog 6 #[.int .i64 h, tyV t] w fun e w' => e = .returned (.bool true) ∧ Below w.heap.size w w' := by
  obtain ⟨tk, tl, th, tm⟩ := t
  have HN : Hid (Named w) := hn
  have HCc : Hid (0 ≤ h ∧ h < 7) := c
  have h0 := hn.1
  obtain ⟨i0, hi, hz0, hz1, hz2⟩ := infoT_parts
  obtain ⟨ts, HTS⟩ : ∃ ts, Hid (ts = argsL h) := ⟨_, rfl⟩
  obtain ⟨n, HL⟩ : ∃ n, Hid (ts.length = n) := ⟨_, rfl⟩
  have hn3 : n ≤ 3 := by rw [← HL.out, HTS.out]; exact argsL_len _
  have hn0 : 0 < n := by rw [← HL.out, HTS.out]; exact args_pos c
  have HNE : Hid (ts ≠ []) := fun e => by have := HL.out; rw [e] at this; simp at this; omega
  obtain ⟨s, HT⟩ : ∃ s, Hid (s = nameF h) := ⟨_, rfl⟩
  have HF : Hid (findL s = (h, true)) := by show _ = _; rw [HT.out]; exact find_name c
  obtain ⟨ak, ab, HA⟩ : ∃ k b, Hid (asksL h = (k, b)) := ⟨_, _, rfl⟩
  have HR0 : Hid (0 = checkL h ts) := by show _ = _; rw [HTS.out]; exact (check_own c).symm
  have HRM : Hid (2 = checkL h (ts ++ [⟨tk, tl, th, tm⟩])) := (check_count c (by rw [← HTS.out]; simp)).symm
  have HRL : Hid (2 = checkL h ((ts.take n).drop 1)) := (check_count c (by have := HL.out; rw [← HTS.out]; simp; omega)).symm
  obtain ⟨Z, HZ', hX, hBZ, hzz⟩ : ∃ Z, Hid (Z = w.alloc (tyO ⟨tk, tl, th, tm⟩)) ∧ AtT Z w.heap.size 0 ⟨tk, tl, th, tm⟩ ∧ Below w.heap.size w Z ∧ w.heap.size < Z.heap.size :=
    ⟨_, rfl, ⟨by go_cell, by go_cell, by go_cell, by go_cell⟩, (Below.refl _ _).alloc (Nat.le_refl _) _, by simp⟩
  clear hn c
  have K1 : Hid True := trivial
  have K2 : Hid True := trivial
  have K3 : Hid True := trivial
  go_enter Tryd.func6, Tryd.ntmps6
  go_wp2_with (first
    | (go_at_call 8; rw [← HZ'.out]; go_must (refine (awake_any _ (HN.out.below hBZ h0)).mono ?_); rintro e w1 ⟨rfl, hb1⟩; go_must (have hz1' := hb1.size))
    | (go_at_call 17; go_must (refine (args_any h _).mono ?_); rintro e w2 ⟨u2, rfl, hown2, hb2⟩; go_must (rw [← HTS.out, HL.out] at hown2; obtain ⟨a2, c2, rfl⟩ := own_shapeT hown2; have hB2z := hb1.trans (hb2.mono hz1'); have hz2' := hB2z.size; have HS2 : Hid (SeesT w2 (Value.slice a2 n c2) ts) := own_seesN HL.out hown2; have HN2 : Hid (Named w2) := (HN.out.below hBZ h0).below hB2z (by omega); have HX2 : Hid (AtT w2 w.heap.size 0 ⟨tk, tl, th, tm⟩) := hX.below hB2z hzz; clear hown2 hb2 hb1))
    | (go_at_call 15; go_must (refine (oname_as HT _ HN2.out).mono ?_); rintro e w' ⟨rfl, rfl⟩)
    | (go_at_call 9; go_must (refine (ofind_as HF _ HN2.out).mono ?_); rintro e w' ⟨rfl, rfl⟩))
  have hB2 : Below w.heap.size w w2 := hBZ.trans (hB2z.mono (by omega))
  have hw2 : w.heap.size < w2.heap.size := by omega
  have HC : Hid (∀ w', Below w2.heap.size w2 w' → BoxM w' w.heap.size tk tl th tm) := fun w' hb => HX2.out.below hb hw2
  obtain ⟨hc2, hm2⟩ : n ≤ c2 ∧ c2 ≤ 9223372036854775807 := by
    obtain ⟨a', c', e, h1, h2, _⟩ := HS2.out
    injection e with e1 e2 e3
    rw [HL.out] at h1
    unfold maxLen at h2
    omega
  have hsl : ∀ wx : World, (Instr.slice 39 (.slice a2 n c2) (some (.int .i64 1)) none none).run Tryd.prog wx = .ok (cutT a2 1 n c2) wx := fun wx => run_fromT Tryd.underlying39 sizeT a2 n c2 1 hn0 wx
  have HCut : Hid (∀ wx, SeesT wx (Value.slice a2 n c2) ts → SeesT wx (cutT a2 1 n c2) ((ts.take n).drop 1)) := fun wx hx => by
    have := SeesT.cut (xs := ts) (a := a2) (cap := c2) (w := wx) (by rw [HL.out]; exact hx) 1 n c2 hn0 (by rw [HL.out]; exact Nat.le_refl _) hc2 (Nat.le_refl _)
    exact this
  clear hBZ hzz hX HZ' hB2z hz2' hz1' HX2
  go_region_held_law (fun w' => w'.cell? ⟨w.heap.size, 0, none⟩ = some (.int .i64 tk) ∧ w'.cell? ⟨w.heap.size, 1, none⟩ = some (.int .u64 tl) ∧ w'.cell? ⟨w.heap.size, 2, none⟩ = some (.int .u64 th) ∧ w'.cell? ⟨w.heap.size, 3, none⟩ = some (.int .i64 tm))
    (first | exact HC.out _ hb8 | exact HC.out _ hb7 | exact HC.out _ hb6 | exact HC.out _ (hb5.alloc hz5 _) | exact HC.out _ hb5 | exact HC.out _ ((hb3.alloc hz3 _).alloc (by simp; omega) _) | exact HC.out _ (hb3.alloc hz3 _) | exact HC.out _ hb3 | exact HC.out _ (below_dr (Below.refl _ _)))
    (first
      | (go_at_call 20; (have hq := K1; clear hq); refine (check_as (w := w2.drew) HS2.out HR0).mono ?_; rintro e w3 ⟨rfl, hb3'⟩; have hb3 : Below w2.heap.size w2 w3 := below_undrew hb3'; have hz3 := hb3.size; have HS3 : Hid (SeesT w3 (Value.slice a2 n c2) ts) := HS2.out.below hb3; clear hb3' K1)
      | (refine step_append_seesT _ (by rfl) (.tmp 41) (.tmp 42) 39 (by rfl) w3.heap.size 30 i0 (tyV Ty.nil) Tryd.underlying39 hi hz0 hz1 hz2 (by rfl) (.slice (some ⟨w3.heap.size, 0, none⟩) 0 0) [] (by first | rfl | simp [Act.eval]) (by exact own_emptyT w3 w3.heap.size _ (Nat.le_refl _) rfl) (.slice a2 n c2) ts (by first | rfl | simp [Act.eval]) (by exact HS3.out.below ((Below.refl w3.heap.size w3).alloc (Nat.le_refl _) _)) HNE.out (by have := HL.out; unfold maxLen; simp; omega) (by have := HL.out; simp; omega) (by first | omega | (simp; omega) | simp) ?_; intro v5 w5 hown5 hg5; rw [List.nil_append] at hown5; (have hb5 : Below w2.heap.size w2 w5 := hb3.trans (Below.mono (B := w3.heap.size) (Below.grown (B := w3.heap.size) ((Below.refl w3.heap.size w3).alloc (Nat.le_refl _) _) hg5 (by first | omega | (simp; omega) | simp) (fun j hj => by (have hj' : w3.heap.size = j := Option.some.inj hj); omega)) hz3)); have hz5 := hb5.size; (have hown5z : w3.heap.size ≤ w5.heap.size := by have := hg5.size; simp at this; omega); clear hg5)
      | (refine step_append_seesT _ (by rfl) (.tmp 41) (.tmp 42) 39 (by rfl) w3.heap.size 30 i0 (tyV Ty.nil) Tryd.underlying39 hi hz0 hz1 hz2 (by rfl) (.slice (some ⟨w3.heap.size, 0, none⟩) 0 0) [] (by first | rfl | simp [Act.eval]) (by exact (own_emptyT w3 w3.heap.size _ (Nat.le_refl _) rfl).alloc _) (.slice a2 n c2) ts (by first | rfl | simp [Act.eval]) (by exact (HS3.out.below ((Below.refl w3.heap.size w3).alloc (Nat.le_refl _) _)).below ((Below.refl _ _).alloc (Nat.le_refl _) _)) HNE.out (by have := HL.out; unfold maxLen; simp; omega) (by have := HL.out; simp; omega) (by first | omega | (simp; omega) | simp) ?_; intro v5 w5 hown5 hg5; rw [List.nil_append] at hown5; (have hb5 : Below w2.heap.size w2 w5 := hb3.trans (Below.mono (B := w3.heap.size) (Below.grown (B := w3.heap.size) (((Below.refl w3.heap.size w3).alloc (Nat.le_refl _) _).alloc (by simp) _) hg5 (by first | omega | (simp; omega) | simp) (fun j hj => by (have hj' : w3.heap.size = j := Option.some.inj hj); omega)) hz3)); have hz5 := hb5.size; (have hown5z : w3.heap.size ≤ w5.heap.size := by have := hg5.size; simp at this; omega); (have hL5 : w5.ownsRow w3.heap.size 30 4 (.slice (some ⟨w3.heap.size + 1, 0, none⟩) 1 1) 1 (flatT [⟨tk, tl, th, tm⟩]) := own_far (ownT_lit (w3.alloc (.cells #[] 30)) w3.heap.size 30 [⟨tk, tl, th, tm⟩] _ 1 (w3.heap.size + 1) (by simp) (by simp) rfl rfl (by simp)) hg5 (fun j hj e => by (have h1 : w3.heap.size + 1 = j := Option.some.inj hj); (have h2 : j = w3.heap.size := Option.some.inj e); omega)); clear hg5)
      | (refine step_append_seesT _ (by rfl) (.tmp 41) (.tmp 42) 39 (by rfl) w3.heap.size 30 i0 (tyV Ty.nil) Tryd.underlying39 hi hz0 hz1 hz2 (by rfl) (.slice (some ⟨w3.heap.size + 1, 0, none⟩) 0 0) [] (by first | rfl | simp [Act.eval]) (by exact own_emptyT (w3.alloc (.cells #[.int .i64 tk, .int .u64 tl, .int .u64 th, .int .i64 tm] 30)) w3.heap.size (w3.heap.size + 1) (by simp) (by simp)) (.slice a2 n c2) ts (by first | rfl | simp [Act.eval]) (by exact (HS3.out.below ((Below.refl w3.heap.size w3).alloc (Nat.le_refl _) _)).below ((Below.refl _ _).alloc (Nat.le_refl _) _)) HNE.out (by have := HL.out; unfold maxLen; simp; omega) (by have := HL.out; simp; omega) (by first | omega | (simp; omega) | simp) ?_; intro v5 w5 hown5 hg5; rw [List.nil_append] at hown5; (have hb5 : Below w2.heap.size w2 w5 := hb3.trans (Below.mono (B := w3.heap.size) (Below.grown (B := w3.heap.size) (((Below.refl w3.heap.size w3).alloc (Nat.le_refl _) _).alloc (by simp) _) hg5 (by first | omega | (simp; omega) | simp) (fun j hj => by (have hj' : w3.heap.size + 1 = j := Option.some.inj hj); omega)) hz3)); have hz5 := hb5.size; (have hown5z : w3.heap.size ≤ w5.heap.size := by have := hg5.size; simp at this; omega); (have hL5 : w5.ownsRow w3.heap.size 30 4 (.slice (some ⟨w3.heap.size, 0, none⟩) 1 1) 1 (flatT [⟨tk, tl, th, tm⟩]) := own_far ((ownT_lit w3 w3.heap.size 30 [⟨tk, tl, th, tm⟩] _ 1 w3.heap.size rfl (Nat.le_refl _) rfl rfl (by simp)).alloc _) hg5 (fun j hj e => by (have h1 : w3.heap.size = j := Option.some.inj hj); (have h2 : j = w3.heap.size + 1 := Option.some.inj e); omega)); clear hg5)
      | (refine step_append_seesT _ (by rfl) (.tmp 43) (.tmp 45) 39 (by rfl) w3.heap.size 30 i0 (tyV Ty.nil) Tryd.underlying39 hi hz0 hz1 hz2 (by rfl) v5 ts (by first | rfl | simp [Act.eval]) (by exact hown5.alloc _) (.slice (some ⟨w5.heap.size, 0, none⟩) 1 1) [⟨tk, tl, th, tm⟩] (by first | rfl | simp [Act.eval]) (by exact SeesT.lit w5 30 [⟨tk, tl, th, tm⟩] _ 1 rfl rfl (by simp)) (by simp) (by have := HL.out; unfold maxLen; simp; omega) (by have := HL.out; simp; omega) (by (have := hown5z); first | omega | (simp; omega) | simp) ?_; intro v6 w6 hown6 hg6; (have hb6 : Below w2.heap.size w2 w6 := Below.grown (B := w2.heap.size) (hb5.alloc hz5 _) hg6 (by first | omega | (simp; omega) | simp) (fun j hj => by (have := (hown5.lt j hj).1); omega)); have hz6 := hb6.size; clear hg6 hown5)
      | (refine step_append_seesT _ (by rfl) (.tmp 43) (.tmp 45) 39 (by rfl) w3.heap.size 30 i0 (tyV Ty.nil) Tryd.underlying39 hi hz0 hz1 hz2 (by rfl) v5 ts (by first | rfl | simp [Act.eval]) (by exact hown5) (.slice (some ⟨w3.heap.size + 1, 0, none⟩) 1 1) [⟨tk, tl, th, tm⟩] (by first | rfl | simp [Act.eval]) (by exact own_seesT (xs := [⟨tk, tl, th, tm⟩]) hL5) (by simp) (by have := HL.out; unfold maxLen; simp; omega) (by have := HL.out; simp; omega) (by (have := hown5z); first | omega | (simp; omega) | simp) ?_; intro v6 w6 hown6 hg6; (have hb6 : Below w2.heap.size w2 w6 := Below.grown (B := w2.heap.size) hb5 hg6 (by first | omega | (simp; omega) | simp) (fun j hj => by (have := (hown5.lt j hj).1); omega)); have hz6 := hb6.size; clear hg6 hown5)
      | (refine step_append_seesT _ (by rfl) (.tmp 43) (.tmp 45) 39 (by rfl) w3.heap.size 30 i0 (tyV Ty.nil) Tryd.underlying39 hi hz0 hz1 hz2 (by rfl) v5 ts (by first | rfl | simp [Act.eval]) (by exact hown5) (.slice (some ⟨w3.heap.size, 0, none⟩) 1 1) [⟨tk, tl, th, tm⟩] (by first | rfl | simp [Act.eval]) (by exact own_seesT (xs := [⟨tk, tl, th, tm⟩]) hL5) (by simp) (by have := HL.out; unfold maxLen; simp; omega) (by have := HL.out; simp; omega) (by (have := hown5z); first | omega | (simp; omega) | simp) ?_; intro v6 w6 hown6 hg6; (have hb6 : Below w2.heap.size w2 w6 := Below.grown (B := w2.heap.size) hb5 hg6 (by first | omega | (simp; omega) | simp) (fun j hj => by (have := (hown5.lt j hj).1); omega)); have hz6 := hb6.size; clear hg6 hown5)
      | (go_at_call 20; (have hq := hown6; clear hq); refine (check_as (own_seesT hown6) HRM).mono ?_; rintro e w7 ⟨rfl, hb7'⟩; (have hb7 : Below w2.heap.size w2 w7 := hb6.trans (hb7'.mono hz6)); clear hb7' hown6)
      | (go_at_call 20; (have hq := hb7; clear hq); refine (check_as (HCut.out w7 (HS2.out.below hb7)) HRL).mono ?_; rintro e w8 ⟨rfl, hb8'⟩; (have hb8 : Below w2.heap.size w2 w8 := hb7.trans (hb8'.mono hb7.size)); clear hb8'))
  all_goals clear K2 K3
  all_goals
    clear hsl HCut HRL HRM HR0 hb3 hz3 HS3 hb5 hz5 hown5z hb6 hz6 hb7 HC
    have hz8 := hb8.size
    have HS8 : Hid (SeesT w8 (Value.slice a2 n c2) ts) := HS2.out.below hb8
    have hB8 : Below w.heap.size w w8 := hB2.trans (hb8.mono (by omega))
    obtain ⟨b2, off2, rfl, hbb, hat⟩ : ∃ b off, a2 = some ⟨b, off, none⟩ ∧ b < w8.heap.size ∧ ∀ k, k < ts.length → AtT w8 b (off + k * 4) (ts.getD k Ty.nil) := by
      obtain ⟨a', c', e, h1, h2, h3, h4⟩ := HS8.out
      injection e with e1 e2 e3
      subst e1
      exact h4 HNE.out
    have HAT : Hid (∀ k, k < ts.length → AtT w8 b2 (off2 + k * 4) (ts.getD k Ty.nil)) := hat
    obtain ⟨q0, HQ0⟩ : ∃ q, Hid (q = (ts.getD 0 Ty.nil).k) := ⟨_, rfl⟩
    have hq0 : (q0 == 2) = ab := by
      have := asks_first HCc.out
      rw [HA.out, ← HTS.out, ← HQ0.out] at this
      exact this.symm
    have d0 := (hat 0 (by rw [HL.out]; exact hn0)).1
    rw [← HQ0.out, Nat.zero_mul, Nat.add_zero] at d0
    clear hat HN2 hB2 hb8 HS2
    go_wp2_with (go_at_call 13; go_must (refine (lasks_as HA _).mono ?_); rintro e w' ⟨rfl, rfl⟩)
    clear d0 hq0
    have hB8z := hB8.size
    go_loopw [10] (fun i wr => ∃ m : Nat, m ≤ n ∧ i = .int .i64 m ∧ Below w8.heap.size w8 wr) (fun i _ => n - (intOf i).toNat)
    case atStart => exact ⟨0, by omega, rfl, Below.refl _ _⟩
    case round =>
      obtain ⟨m, hm, rfl, hbr⟩ := hrel
      have hzr := hbr.size
      by_cases hmn : m < n
      case neg =>
        obtain rfl : m = n := by omega
        go_wp2
        go_ret
        exact ⟨rfl, hB8.trans (hbr.mono hB8z)⟩
      have hmt : m < ts.length := by rw [HL.out]; exact hmn
      obtain ⟨x, HX⟩ : ∃ x, Hid (x = ts.getD m Ty.nil) := ⟨_, rfl⟩
      have hAr : AtT wr b2 (off2 + m * 4) x := by rw [HX.out]; exact (HAT.out m hmt).below hbr hbb
      have hxk : 1 ≤ x.k ∧ x.k ≤ 2 := by
        have := kind_in HCc.out (i := m) (by rw [← HTS.out]; exact hmt)
        rw [← HTS.out, ← HX.out] at this
        exact this
      obtain ⟨xk, xl, xh, xm⟩ := x
      simp only at hxk
      have hwrap : IntKind.i64.wrap (3 - xk) = 3 - xk := by rw [IntKind.wrap_i64]; omega
      have HRo : Hid (33 = checkL h (ts.set m ⟨3 - xk, xl, xh, 2⟩)) := by
        have := check_other HCc.out (i := m) (by rw [← HTS.out]; exact hmt)
        rw [← HTS.out, ← HX.out] at this
        exact this.symm
      have HRu : Hid (33 = checkL h (ts.set m Ty.nil)) := by
        have := check_unset HCc.out (i := m) (by rw [← HTS.out]; exact hmt)
        rw [← HTS.out] at this
        exact this.symm
      have HSr : Hid (SeesT wr (Value.slice (some ⟨b2, off2, none⟩) n c2) ts) := HS8.out.below hbr
      go_wp2_with (first
        | (at_builtin; go_must (refine wpList_append_seesT rfl (.tmp 84) (.tmp 85) 39 rfl wr.heap.size 30 i0 (tyV Ty.nil) Tryd.underlying39 hi hz0 hz1 hz2 rfl _ [] rfl (ownT_empty wr 30) _ ts rfl (HSr.out.below ((Below.refl _ _).alloc (Nat.le_refl _) _)) (by have := HL.out; unfold maxLen; simp; omega) (by have := HL.out; simp; omega) (by simp) ?_); intro v9 w9 hown9 hg9; go_must (have hb9 : Below wr.heap.size wr w9 := ((Below.refl _ _).alloc (Nat.le_refl _) _).grown hg9 (by simp) (fun j hj => by (have hj' : wr.heap.size = j := Option.some.inj hj); omega); rw [List.nil_append, HL.out] at hown9; clear hg9)))
      obtain ⟨g, c9, rfl⟩ : ∃ g c, v9 = .slice (some ⟨g, 0, none⟩) n c := by
        rcases hown9.2 with ⟨_, hh⟩ | ⟨g, cap, cur, hv, _⟩
        · omega
        · exact ⟨g, cap, hv⟩
      have hc9 : n ≤ c9 ∧ c9 ≤ 9223372036854775807 := by
        rcases hown9.2 with ⟨_, hh⟩ | ⟨g', cap, cur, hv, _, _, h1, h2, _⟩
        · omega
        · injection hv with _ _ e3
          unfold maxLen at h2
          omega
      have hg9 := hown9.lt g rfl
      have hA9 := hAr.below hb9 (by omega)
      obtain ⟨e0, e1, e2, e3⟩ := id hA9
      simp only at e0 e1 e2 e3
      obtain ⟨y0, y1, y2, y3, p0, p1, p2, p3⟩ := own_cells4 hown9 hmn
      have f0 := hown9.frozenAt (m * 4)
      have f1 := hown9.frozenAt (m * 4 + 1)
      have f2 := hown9.frozenAt (m * 4 + 2)
      have f3 := hown9.frozenAt (m * 4 + 3)
      obtain ⟨R1, R2⟩ := own_setT (w := w9.drew) hown9.drew m hmt ⟨3 - xk, xl, xh, 2⟩
      have HO1 : Hid ((setT w9.drew g (m * 4) ⟨3 - xk, xl, xh, 2⟩).ownsRow wr.heap.size 30 4 (.slice (some ⟨g, 0, none⟩) n c9) n (flatT (ts.set m ⟨3 - xk, xl, xh, 2⟩))) := R1
      have HS1 : Hid (SeesT (setT w9.drew g (m * 4) ⟨3 - xk, xl, xh, 2⟩) (.slice (some ⟨g, 0, none⟩) n c9) (ts.set m ⟨3 - xk, xl, xh, 2⟩)) := own_seesN (by rw [List.length_set]; exact HL.out) R1
      have hb1S : Hid (Below wr.heap.size wr (setT w9.drew g (m * 4) ⟨3 - xk, xl, xh, 2⟩)) := below_setT (below_dr hb9) hg9.1
      have hne : g ≠ b2 := by omega
      have HK : Hid (∀ wx : World, (wx.cell? ⟨b2, off2 + m * 4, none⟩ = some (.int .i64 xk) ∧ wx.cell? ⟨b2, off2 + m * 4 + 1, none⟩ = some (.int .u64 xl) ∧ wx.cell? ⟨b2, off2 + m * 4 + 2, none⟩ = some (.int .u64 xh)) → ((setT wx g (m * 4) ⟨3 - xk, xl, xh, 2⟩).cell? ⟨b2, off2 + m * 4, none⟩ = some (.int .i64 xk) ∧ (setT wx g (m * 4) ⟨3 - xk, xl, xh, 2⟩).cell? ⟨b2, off2 + m * 4 + 1, none⟩ = some (.int .u64 xl) ∧ (setT wx g (m * 4) ⟨3 - xk, xl, xh, 2⟩).cell? ⟨b2, off2 + m * 4 + 2, none⟩ = some (.int .u64 xh))) := fun wx hh => ⟨(setT_far hne).trans hh.1, (setT_far hne).trans hh.2.1, (setT_far hne).trans hh.2.2⟩
      have hS9 : w9.cell? ⟨b2, off2 + m * 4, none⟩ = some (.int .i64 xk) ∧ w9.cell? ⟨b2, off2 + m * 4 + 1, none⟩ = some (.int .u64 xl) ∧ w9.cell? ⟨b2, off2 + m * 4 + 2, none⟩ = some (.int .u64 xh) := ⟨e0, e1, e2⟩
      clear hown9 R1 R2 hA9 e0 e1 e2 e3
      go_wp2
      go_region_held3 (fun w' => w'.cell? ⟨b2, off2 + m * 4, none⟩ = some (.int .i64 xk) ∧ w'.cell? ⟨b2, off2 + m * 4 + 1, none⟩ = some (.int .u64 xl) ∧ w'.cell? ⟨b2, off2 + m * 4 + 2, none⟩ = some (.int .u64 xh))
        (first | exact hS9 | exact HK.out w9.drew hS9)
        (first | (fail))
      have K1 : Hid True := trivial
      go_wp2_with (first
        | (go_at_call 20; (have hq := K1; clear hq); go_must (refine (check_as HS1.out HRo).mono ?_); rintro e w10 ⟨rfl, hb10'⟩; go_must (have hown10 := own_below HO1.out hb10' (Nat.le_refl _); (have hb10 : Below wr.heap.size wr w10 := hb1S.out.trans (hb10'.mono hb1S.out.size)); obtain ⟨z0, z1, z2, z3, p0, p1, p2, p3⟩ := own_cells4 hown10 hmn; have f0 := hown10.frozenAt (m * 4); have f1 := hown10.frozenAt (m * 4 + 1); have f2 := hown10.frozenAt (m * 4 + 2); have f3 := hown10.frozenAt (m * 4 + 3); obtain ⟨R1, R2⟩ := own_setT hown10 m (by rw [List.length_set]; exact hmt) Ty.nil; rw [List.set_set] at R1; (have HS2' : Hid (SeesT (setT w10 g (m * 4) Ty.nil) (.slice (some ⟨g, 0, none⟩) n c9) (ts.set m Ty.nil)) := own_seesN (by rw [List.length_set]; exact HL.out) R1); (have hb2S : Hid (Below wr.heap.size wr (setT w10 g (m * 4) Ty.nil)) := below_setT hb10 hg9.1); clear hb10' K1 hown10 R1 R2))
        | (go_at_call 20; (have hq := HS2'; clear hq); go_must (refine (check_as HS2'.out HRu).mono ?_); rintro e w11 ⟨rfl, hb11'⟩; go_must (have hb11 : Below wr.heap.size wr w11 := hb2S.out.trans (hb11'.mono hb2S.out.size))))
      go_roundw
      case rel => exact ⟨m + 1, by omega, by go_num, hbr.trans (hb11.mono hzr)⟩
      case measure => simp [intOf]; omega
theorem fits_walk (h : Int) (t : Ty) (w : World) (_ : -9223372036854775808 ≤ h ∧ h ≤ 9223372036854775807) (_ : wfT t) (hn : Named w) : Calls Tryd.prog 6 #[.int .i64 h, tyV t] w fun e w' => e = .returned (.bool true) ∧ Below w.heap.size w w' := by
  by_cases c : 0 ≤ h ∧ h < 7
  · exact fits_some h t w c hn
  · exact fits_none h t w c hn
end Go.Proofs.YtpgkjoahngfgnaaDoor
