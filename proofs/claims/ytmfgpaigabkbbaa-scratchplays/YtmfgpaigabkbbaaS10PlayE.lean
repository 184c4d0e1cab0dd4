
/-
  A call played: Totals. Condition: scratch and book say the same.
-/
import Derived.Test.YtmfgpaigabkbbaaS10PlayA
namespace Go.Proofs.Ytmfgpaigabkbbaa
open Go.RowKit
set_option linter.unusedVariables false
set_option linter.unusedSimpArgs false
set_option maxRecDepth 100000

theorem one_lit_at {w : World} {T : TypeId} {u : Value} {x : Option (List Int)} {g : Nat} (hg : g = w.heap.size) (h1 : PtrIs (w.alloc (.cells #[u] T)) u x) : SeesP (w.alloc (.cells #[u] T)) (.slice (some ⟨g, 0, none⟩) 1 1) [x] := by
  subst hg
  exact one_lit h1
set_option maxHeartbeats 1600000 in
theorem plays6 (k on a n : Int) (u : Value) {B s c : Nat} {v : Value} {ks : List Ak} {ws cs : List Int} (w : World) (h : Pr w B s c v ks ws cs) (hk0 : ¬ k = 0) (hk1 : ¬ k = 1) (hk2 : ¬ k = 2) (hk3 : ¬ k = 3) (hk4 : ¬ k = 4) (hk5 : ¬ k = 5) :
    Calls Try.prog 9 #[.pointer (some ⟨s, 0, none⟩), .pointer (some ⟨c, 0, none⟩), opV k on a n u] w fun e w' => e = .returned (.bool true) ∧ Played w w' B s c v ks := by
  have HP : Hid (Pr w B s c v ks ws cs) := h
  obtain ⟨W, HW, HB, hz, b0, b2, b3, b4⟩ := box_cells w k on a n u 35
  have HPW : Hid (Pr W B s c v ks ws cs) := h.below HB.out
  have HZ1 : Hid (w.heap.size + 1 = W.heap.size) := by rw [HW.out]; show _ = _; simp
  have HE : Hid (totL [some cs] = totL [some (csA ks)]) := by rw [← h.tie.cs]; rfl
  clear h
  unfold opV
  go_enter Try.func9, Try.ntmps9
  go_wp2_with (first
    | (go_at_call 11; rw [← HW.out]; go_must (refine (totals_any _ (one_lit_at HZ1.out (PtrIs.sc (HPW.out.sc.alloc _)))).mono ?_); rintro e w5 ⟨u5, rfl, ho5, hb5'⟩; go_must (have hb5 : Below W.heap.size W w5 := (below_alloc _ _).trans (hb5'.mono (by simp)); have HO5 : Hid (Sees .u64 w5 u5 (totL [some cs])) := Sees.own (by rw [tot_len]; exact ho5) (W64L.tot _).wf; have HB5 : Hid (Below w.heap.size w w5) := HB.out.trans (hb5.mono (by omega)); have HK5 : Hid (Bk w5 B c v ks) := HPW.out.bk.below hb5; clear ho5 hb5' hb5))
    | (go_at_call 12; go_must (refine (rtotals_any _ (oneK_lit (PtrB.bk (HK5.out.alloc _)))).mono ?_); rintro e w6 ⟨u6, rfl, ho6, hb6'⟩; go_must (have hb6 : Below w5.heap.size w5 w6 := (below_alloc _ _).trans (hb6'.mono (by simp)); have HO6 : Hid (Sees .u64 w6 u6 (totL [some (csA ks)])) := Sees.own (by rw [tot_len]; exact ho6) (W64L.tot _).wf; have HO56 : Hid (Sees .u64 w6 u5 (totL [some cs])) := HO5.out.below hb6 (Nat.le_refl _); have HB6 : Hid (Below w.heap.size w w6) := HB5.out.trans (hb6.mono HB5.out.size); clear ho6 hb6' hb6))
    | (go_at_call 10; go_must (refine (numbers_any u5 u6 _ _ _ HO56.out HO6.out).mono ?_); rintro e w7 ⟨rfl, n7, rfl⟩; rw [eqB_true HE.out]))
  go_ret
  exact ⟨rfl, HP.out.idle (below_drewN HB6.out _)⟩
end Go.Proofs.Ytmfgpaigabkbbaa
