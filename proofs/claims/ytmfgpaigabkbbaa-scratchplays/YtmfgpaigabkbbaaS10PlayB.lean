
/-
  A call played: Wipe, and Mark. Condition: scratch and book say the same.
-/
import Derived.Test.YtmfgpaigabkbbaaS10PlayA
namespace Go.Proofs.Ytmfgpaigabkbbaa
open Go.RowKit
set_option linter.unusedVariables false
set_option linter.unusedSimpArgs false
set_option maxRecDepth 100000

set_option maxHeartbeats 1600000 in
theorem plays2 (on a n : Int) (u : Value) {B s c : Nat} {v : Value} {ks : List Ak} {ws cs : List Int} (w : World) (h : Pr w B s c v ks ws cs) (hB : B ≤ w.heap.size) (hk : ks.length ≤ 90000) :
    Calls Try.prog 9 #[.pointer (some ⟨s, 0, none⟩), .pointer (some ⟨c, 0, none⟩), opV 2 on a n u] w fun e w' => e = .returned (.bool true) ∧ Played w w' B s c v ks := by
  obtain ⟨W, HW, HB, hz, b0, b2, b3, b4⟩ := box_cells w 2 on a n u 35
  have HPW : Hid (Pr W B s c v ks ws cs) := h.below HB.out
  clear h
  unfold opV
  go_enter Try.func9, Try.ntmps9
  go_wp2_with (first
    | (go_at_call 16; rw [← HW.out]; go_must (refine (wipe_any _ HPW.out.sc).mono ?_); rintro e w5 ⟨rfl, hs5, hg5⟩; have HS5 : Hid (Sc w5 s nought cs) := hs5; have HG5 : Hid (W.grownBy w5 (some s)) := hg5; clear hs5 hg5)
    | (go_at_call 21; go_must (refine (bwipe_any _ (HPW.out.bk_grown HG5.out) (by have := HG5.out.size; omega) (by omega)).mono ?_); rintro e w6 ⟨rfl, v6, hb6, hc6, hn6⟩; have HB6 : Hid _ := hb6; have HC6 : Hid _ := hc6; have HN6 : Hid _ := hn6; clear hb6 hc6 hn6))
  go_ret
  refine ⟨rfl, v6, _, nought, cs, ⟨HS5.out.chg HC6.out HPW.out.not_bkS, HB6.out, HPW.out.tie.wipe, HPW.out.bs, HPW.out.bc⟩, ?_, ?_, by simp⟩
  · exact (Chg.of_below HB.out).trans ((chg_s HG5.out).trans (chg_b HC6.out) (fun k _ hk => hk)) (fun k _ hk => hk)
  · exact (RowNew.trans (w1 := w5) (.inl rfl) HN6.out (by have := HG5.out.size; omega))
set_option maxHeartbeats 1600000 in
theorem plays3 (on a n : Int) (u : Value) {B s c : Nat} {v : Value} {ks : List Ak} {ws cs : List Int} (w : World) (h : Pr w B s c v ks ws cs) (hB : B ≤ w.heap.size) (hk : ks.length ≤ 90000) :
    Calls Try.prog 9 #[.pointer (some ⟨s, 0, none⟩), .pointer (some ⟨c, 0, none⟩), opV 3 on a n u] w fun e w' => e = .returned (.bool true) ∧ Played w w' B s c v ks := by
  have HP : Hid (Pr w B s c v ks ws cs) := h
  obtain ⟨x, HX⟩ : ∃ x, Hid ((if inB a then addW (cs.getD a.toNat 0) 1 else 0) = x) := ⟨_, rfl⟩
  obtain ⟨us, HU⟩ : ∃ us, Hid ((if inB a then oneUp cs a.toNat else cs) = us) := ⟨_, rfl⟩
  obtain ⟨r, HR⟩ : ∃ r, Hid ((if inB a then 0 else 35 : Int) = r) := ⟨_, rfl⟩
  obtain ⟨W, HW, HB, hz, b0, b2, b3, b4⟩ := box_cells w 3 on a n u 35
  have HPW : Hid (Pr W B s c v ks ws cs) := h.below HB.out
  clear h
  have HD : Hid (∀ w5, Sc w5 s ws us → W.grownBy w5 (some s) → Calls Try.prog 22 #[.pointer (some ⟨c, 0, none⟩), .int .i64 a] w5 fun e w' => e = .returned (.tuple #[.int .u64 x, .int .i64 r]) ∧ Played w w' B s c v ks) := fun w5 hs5 hg5 => by
    have hbk := HPW.out.bk_grown hg5
    have hz5 := hg5.size
    have hc5 : Chg w w5 (prS s c v) := (Chg.of_below HB.out).trans (chg_s hg5) (fun k _ hk => hk)
    cases hi : inB a with
    | true =>
      have hr : r = 0 := by rw [← HR.out, hi]; rfl
      subst hr
      refine (bmark_in a hi _ hbk (by omega) (by omega) (mark_new HPW.out.tie hi HX.out)).mono ?_
      rintro e w6 ⟨rfl, v6, hb6, hc6, hn6⟩
      refine ⟨rfl, v6, _, ws, us, ⟨hs5.chg hc6 HPW.out.not_bkS, hb6, mark_tie HPW.out.tie hi HU.out, HPW.out.bs, HPW.out.bc⟩, hc5.trans (chg_b hc6) (fun k _ hk => hk), RowNew.trans (w1 := w5) (.inl rfl) hn6 (by omega), by simp⟩
    | false =>
      have hr : r = 35 := by rw [← HR.out, hi]; rfl
      have hx : x = 0 := by rw [← HX.out, hi]; rfl
      have hus : us = cs := by rw [← HU.out, hi]; rfl
      subst hr
      subst hx
      subst hus
      refine (bmark_out a hi _).mono ?_
      rintro e w6 ⟨rfl, rfl⟩
      exact ⟨rfl, v, ks, ws, us, ⟨hs5, hbk, HPW.out.tie, HPW.out.bs, HPW.out.bc⟩, hc5, .inl rfl, by omega⟩
  unfold opV
  go_enter Try.func9, Try.ntmps9
  go_wp2
  rw [← HW.out]
  have HS2 : Hid (∀ w', W.grownBy w' (some s) → w'.cell? ⟨w.heap.size, 2, none⟩ = some (.int .i64 a)) := fun w' hg => cell_chg (Chg.of_grown (S := fun k => k = s) hg rfl) b2 (fun e => by have := HP.out.sc.lt; omega)
  go_region_held3 (fun w' => w'.cell? ⟨w.heap.size, 2, none⟩ = some (.int .i64 a))
    (first | (with_reducible exact hS5) | exact b2)
    (first | (go_at_call 18; go_must (refine (mark_as HX HU HR _ HPW.out.sc.drew).mono ?_); rintro e w5 ⟨rfl, hs5, hg5', hz5'⟩; go_must (have hg5 := grown_undrew hg5'; have hS5 := HS2.out w5 hg5; have HS5 : Hid (Sc w5 s ws us) := hs5; have HG5 : Hid (W.grownBy w5 (some s)) := hg5; clear hs5 hg5' hg5 hz5')))
  go_wp2_with (go_at_call 22; go_must (refine (HD.out w5 HS5.out HG5.out).mono ?_); rintro e w6 ⟨rfl, hp6⟩; have HP6 : Hid (Played w w6 B s c v ks) := hp6; clear hp6)
  go_ret
  exact ⟨rfl, HP6.out⟩
end Go.Proofs.Ytmfgpaigabkbbaa
