
/-
  A call played: Store. Condition: scratch and book say the same.
-/
import Derived.Test.YtmfgpaigabkbbaaS10PlayA
namespace Go.Proofs.Ytmfgpaigabkbbaa
open Go.RowKit
set_option linter.unusedVariables false
set_option linter.unusedSimpArgs false
set_option maxRecDepth 100000

set_option maxHeartbeats 3200000 in
theorem plays1 (on a n : Int) (u : Value) {B s c : Nat} {v : Value} {ks : List Ak} {ws cs : List Int} (w : World) (h : Pr w B s c v ks ws cs) (hB : B ≤ w.heap.size) (hk : ks.length ≤ 90000) :
    Calls Try.prog 9 #[.pointer (some ⟨s, 0, none⟩), .pointer (some ⟨c, 0, none⟩), opV 1 on a n u] w fun e w' => e = .returned (.bool true) ∧ Played w w' B s c v ks := by
  have HP : Hid (Pr w B s c v ks ws cs) := h
  obtain ⟨us, HU⟩ : ∃ us, Hid ((if inB a then ws.set a.toNat n else ws) = us) := ⟨_, rfl⟩
  obtain ⟨r, HR⟩ : ∃ r, Hid ((if inB a then 0 else 35 : Int) = r) := ⟨_, rfl⟩
  obtain ⟨W, HW, HB, hz, b0, b2, b3, b4⟩ := box_cells w 1 on a n u 35
  have HPW : Hid (Pr W B s c v ks ws cs) := h.below HB.out
  have hnb : Hid (¬ prS s c v w.heap.size) := fun e => by
    have h1 := h.sc.lt
    have h2 := h.bk.hp.lt
    rcases e with e | e | e
    · omega
    · omega
    · have := (h.bk.row.lt _ e).2; omega
  clear h
  have HD : Hid (∀ w5, Sc w5 s us cs → W.grownBy w5 (some s) → Calls Try.prog 20 #[.pointer (some ⟨c, 0, none⟩), .int .i64 a, .int .u64 n] w5 fun e w' => e = .returned (.int .i64 r) ∧ Played w w' B s c v ks ∧ Chg W w' (prS s c v)) := fun w5 hs5 hg5 => by
    have hbk := HPW.out.bk_grown hg5
    have hz5 := hg5.size
    have hc5 : Chg w w5 (prS s c v) := (Chg.of_below HB.out).trans (chg_s hg5) (fun k _ hk => hk)
    cases hi : inB a with
    | true =>
      have hr : r = 0 := by rw [← HR.out, hi]; rfl
      subst hr
      refine (bstore_in a n hi _ hbk (by omega) (by omega)).mono ?_
      rintro e w6 ⟨rfl, v6, hb6, hc6, hn6⟩
      refine ⟨rfl, ⟨v6, _, us, cs, ⟨hs5.chg hc6 HPW.out.not_bkS, hb6, store_tie HPW.out.tie hi HU.out, HPW.out.bs, HPW.out.bc⟩, hc5.trans (chg_b hc6) (fun k _ hk => hk), RowNew.trans (w1 := w5) (.inl rfl) hn6 (by omega), by simp⟩, (chg_s hg5).trans (chg_b hc6) (fun k _ hk => hk)⟩
    | false =>
      have hr : r = 35 := by rw [← HR.out, hi]; rfl
      have hus : us = ws := by rw [← HU.out, hi]; rfl
      subst hr
      subst hus
      refine (bstore_out a n hi _).mono ?_
      rintro e w6 ⟨rfl, rfl⟩
      exact ⟨rfl, ⟨v, ks, us, cs, ⟨hs5, hbk, HPW.out.tie, HPW.out.bs, HPW.out.bc⟩, hc5, .inl rfl, by omega⟩, chg_s hg5⟩
  unfold opV
  go_enter Try.func9, Try.ntmps9
  go_wp2
  rw [← HW.out]
  have HS2 : Hid (∀ w', Chg W w' (prS s c v) → w'.cell? ⟨w.heap.size, 2, none⟩ = some (.int .i64 a) ∧ w'.cell? ⟨w.heap.size, 3, none⟩ = some (.int .u64 n)) := fun w' hg => ⟨cell_chg hg b2 hnb.out, cell_chg hg b3 hnb.out⟩
  have hS0 : W.cell? ⟨w.heap.size, 2, none⟩ = some (.int .i64 a) ∧ W.cell? ⟨w.heap.size, 3, none⟩ = some (.int .u64 n) := ⟨b2, b3⟩
  clear b0 b2 b3 b4
  go_region_held3 (fun w' => w'.cell? ⟨w.heap.size, 2, none⟩ = some (.int .i64 a) ∧ w'.cell? ⟨w.heap.size, 3, none⟩ = some (.int .u64 n))
    (first | (with_reducible exact hS6) | (with_reducible exact hS5) | exact hS0)
    (first
      | (go_at_call 14; go_must (refine (store_as HU HR _ HPW.out.sc.drew).mono ?_); rintro e w5 ⟨rfl, hs5, hg5', hz5'⟩; go_must (have hg5 := grown_undrew hg5'; have hS5 := HS2.out w5 (chg_s hg5); have HS5 : Hid (Sc w5 s us cs) := hs5; have HG5 : Hid (W.grownBy w5 (some s)) := hg5; clear hs5 hg5' hg5 hz5'))
      | (go_at_call 20; go_must (refine (HD.out w5 HS5.out HG5.out).mono ?_); rintro e w6 ⟨rfl, hp6, hc6⟩; go_must (have HP6 : Hid (Played w w6 B s c v ks) := hp6; have hS6 := HS2.out w6 hc6; clear hp6 hc6)))
  go_wp2
  go_ret
  exact ⟨rfl, HP6.out⟩
end Go.Proofs.Ytmfgpaigabkbbaa
