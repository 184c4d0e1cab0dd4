
/-
  A call played: Raise. Condition: scratch and book say the same, and the numbers lie below both.
-/
import Derived.Test.YtmfgpaigabkbbaaS10PlayA
namespace Go.Proofs.Ytmfgpaigabkbbaa
open Go.RowKit
set_option linter.unusedVariables false
set_option linter.unusedSimpArgs false
set_option maxRecDepth 100000

theorem raise_tie {ks : List Ak} {ws cs : List Int} (h : Tie ks ws cs) (xs : List Int) {m : Nat} (hm : (m : Int) = min (xs.length : Int) 16) : Tie (raiseAs ks xs m) ws (raiseL cs xs) := by
  rw [← raise_all hm]
  exact h.raise xs m (by omega) (by omega)
set_option maxHeartbeats 3200000 in
theorem plays5 (on a n : Int) (u : Value) (xs : List Int) {B s c : Nat} {v : Value} {ks : List Ak} {ws cs : List Int} (w : World) (h : Pr w B s c v ks ws cs) (hB : B ≤ w.heap.size) (hk : ks.length ≤ 80000) (hu : ∀ w', Below B w w' → Sees .u64 w' u xs) (hb : xs.length * 8 ≤ 219902325555200) :
    Calls Try.prog 9 #[.pointer (some ⟨s, 0, none⟩), .pointer (some ⟨c, 0, none⟩), opV 5 on a n u] w fun e w' => e = .returned (.bool true) ∧ Played w w' B s c v ks := by
  have HP : Hid (Pr w B s c v ks ws cs) := h
  obtain ⟨m, hm⟩ : ∃ m : Nat, (m : Int) = min (xs.length : Int) 16 := ⟨min xs.length 16, by omega⟩
  have HMM : Hid ((m : Int) = min (xs.length : Int) 16) := hm
  have HXS : Hid (∀ w', Below B w w' → Sees .u64 w' u xs) := hu
  obtain ⟨ua, ucap, rfl⟩ := (hu w (Below.refl _ _)).shape
  obtain ⟨W, HW, HB, hz, b0, b2, b3, b4⟩ := box_cells w 5 on a n (.slice ua xs.length ucap) 35
  have HPW : Hid (Pr W B s c v ks ws cs) := h.below HB.out
  obtain ⟨i8, hi8, hz80, hz81, hz82⟩ := info_parts (P := Try.prog) (e := 32) (z := .int .u64 0) (size := 1) (bytes := 8) rfl
  have HBW : Hid (Below B w W) := HB.out.mono hB
  clear h hu hm
  unfold opV
  go_enter Try.func9, Try.ntmps9
  go_wp2
  rw [← HW.out]
  refine wp_region_held_drew (S := fun w' => w'.cell? ⟨w.heap.size, 4, none⟩ = some (.slice ua xs.length ucap)) (by kernel_rfl) b4 (fun hHeld => ?_)
  refine wpAnyH_take (i := 0) (v := ?v1) rfl (by kernel_rfl) (by kernel_rfl) (by kernel_rfl) (fun _ _ _ h => h) (Or.inl ⟨by rfl, ?hy1⟩) (by assumption) ?rest1
  case hy1 => (intro wy hSw; (try dsimp only at hSw); go_simp; (first | done | with_reducible rfl))
  try simp only [Act.put, List.getElem_toArray, List.getElem_cons_zero, List.getElem_cons_succ, List.setIfInBounds_toArray, List.set_cons_zero, List.set_cons_succ]
  refine wpAnyH_take (i := 1) (v := ?v2) rfl (by kernel_rfl) (by kernel_rfl) (by kernel_rfl) (fun _ _ _ h => h) (Or.inl ⟨by rfl, ?hy2⟩) (by assumption) ?rest2
  case hy2 => (intro wy hSw; (try dsimp only at hSw); go_simp; (first | done | with_reducible rfl))
  try simp only [Act.put, List.getElem_toArray, List.getElem_cons_zero, List.getElem_cons_succ, List.setIfInBounds_toArray, List.set_cons_zero, List.set_cons_succ]
  refine wpAnyH_take (i := 2) (v := ?v3) rfl (by kernel_rfl) (by kernel_rfl) (by kernel_rfl) (fun _ _ _ h => h) (Or.inl ⟨by rfl, ?hy3⟩) (by assumption) ?rest3
  case hy3 => (intro wy hSw; (try dsimp only at hSw); go_simp; (first | done | with_reducible rfl))
  try simp only [Act.put, List.getElem_toArray, List.getElem_cons_zero, List.getElem_cons_succ, List.setIfInBounds_toArray, List.set_cons_zero, List.set_cons_succ]
  refine wpAnyH_take (i := 4) (v := ?v4) rfl (by kernel_rfl) (by kernel_rfl) (by kernel_rfl) (fun _ _ _ h => h) (Or.inl ⟨by rfl, ?hy4⟩) (by assumption) ?rest4
  case hy4 => (intro wy hSw; (try dsimp only at hSw); go_simp; (first | done | with_reducible rfl))
  try simp only [Act.put, List.getElem_toArray, List.getElem_cons_zero, List.getElem_cons_succ, List.setIfInBounds_toArray, List.set_cons_zero, List.set_cons_succ]
  refine wpAnyH_take (i := 5) (v := ?v5) rfl (by kernel_rfl) (by kernel_rfl) (by kernel_rfl) (fun _ _ _ h => h) (Or.inl ⟨by rfl, ?hy5⟩) (by assumption) ?rest5
  case hy5 => (intro wy hSw; (try dsimp only at hSw); go_simp; (first | done | with_reducible rfl))
  try simp only [Act.put, List.getElem_toArray, List.getElem_cons_zero, List.getElem_cons_succ, List.setIfInBounds_toArray, List.set_cons_zero, List.set_cons_succ]
  refine wpAnyH_ready (rs := [3]) (by kernel_rfl) (by simp) ?_
  refine AllReadyH.cons rfl (fun KK hK => ?_) AllReadyH.nil
  rw [if_pos (by rfl)]
  go_simp
  have hb1 : Below W.heap.size W (W.alloc (Obj.cells #[] 32)) := below_alloc _ _
  refine hK.out _ _ (Lib.cell?_alloc_some _ b4) (fun hHeld => ?_)
  clear hK KK
  try simp only [Act.put, List.getElem_toArray, List.getElem_cons_zero, List.getElem_cons_succ, List.setIfInBounds_toArray, List.set_cons_zero, List.set_cons_succ]
  refine wpAnyH_ready (rs := [6]) (by kernel_rfl) (by simp) ?_
  refine AllReadyH.cons rfl (fun KK hK => ?_) AllReadyH.nil
  rw [if_pos (by rfl)]
  refine wp_append_sees (.tmp 129) (.tmp 131) 33 rfl W.heap.size 32 i8 (.int .u64 0) 8 Try.underlying33 hi8 hz80 hz81 hz82 rfl .u64 _ [] rfl (World.ownsRow_lit W #[] 0 (Nat.le_refl _) (by simp [maxLen]) rfl) _ xs rfl (HXS.out _ (below_drew10 (HBW.out.trans (hb1.mono (by omega))))) (by simp [maxLen]; omega) (by simp; omega) (by simp) ?_
  intro v9 w9 hown9 hg9
  rw [List.nil_append] at hown9
  have hb9 : Below W.heap.size W w9 := hb1.trans (grown_to_below (grown_undrew hg9) (Nat.le_refl _) (by simp))
  have hz9 := hb9.size
  have hS9 : w9.cell? ⟨w.heap.size, 4, none⟩ = some (.slice ua xs.length ucap) := (hb9.cell (p := ⟨w.heap.size, 4, none⟩) hz).trans b4
  have HP9 : Hid (Pr w9 B s c v ks ws cs) := HPW.out.below hb9
  have HO9 : Hid (w9.ownsRow W.heap.size 32 1 v9 xs.length (xs.map (Value.int .u64))) := hown9
  have HB9 : Hid (Below B w w9) := HBW.out.trans (hb9.mono (by omega))
  have HC9 : Hid (Chg w w9 (prS s c v)) := (Chg.of_below HB.out).trans (Chg.of_below (S := prS s c v) hb9) (fun k _ hk => hk)
  obtain ⟨va9, vc9, rfl⟩ := own_shape hown9
  refine hK.out _ _ hS9 (fun hHeld => ?_)
  clear hK KK hown9 hg9 hb1 b4 hb9
  try simp only [Act.put, List.getElem_toArray, List.getElem_cons_zero, List.getElem_cons_succ, List.setIfInBounds_toArray, List.set_cons_zero, List.set_cons_succ]
  refine wpAnyH_ready (rs := [7]) (by kernel_rfl) (by simp) ?_
  refine AllReadyH.cons rfl (fun KK hK => ?_) AllReadyH.nil
  rw [if_pos (by rfl)]
  go_simp
  go_at_call 13
  refine (raise_any w9 HP9.out.sc (fun w' hg => Sees.own (own_chg HO9.out (Chg.of_grown (S := fun k => k = s) hg rfl) (fun k hk e => own_type10 HO9.out HP9.out.sc.hp (by decide) (e ▸ hk))) (HXS.out w (Below.refl _ _)).wf)).mono ?_
  rintro e wA ⟨rfl, hsA, hgA, hzA'⟩
  have hSA : wA.cell? ⟨w.heap.size, 4, none⟩ = some (.slice ua xs.length ucap) := cell_chg (Chg.of_grown (S := fun k => k = s) hgA rfl) hS9 (fun e => by have := HP.out.sc.lt; omega)
  have HSA : Hid (Sc wA s ws (raiseL cs xs)) := hsA
  have HKA : Hid (Bk wA B c v ks) := HP9.out.bk_grown hgA
  have HBA : Hid (Below B w wA) := HB9.out.trans (grown_to_below hgA HP9.out.bs (by have := HB9.out.size; omega))
  have HCA : Hid (Chg w wA (prS s c v)) := HC9.out.trans (chg_s hgA) (fun k _ hk => hk)
  have hzA : B ≤ wA.heap.size := by have := hgA.size; have := HB9.out.size; omega
  have HNB : Hid (¬ bkS c v s) := HPW.out.not_bkS
  refine hK.out _ _ hSA (fun hHeld => ?_)
  clear hK KK hsA hgA hzA' hS9 HO9
  try simp only [Act.put, List.getElem_toArray, List.getElem_cons_zero, List.getElem_cons_succ, List.setIfInBounds_toArray, List.set_cons_zero, List.set_cons_succ]
  refine wpAnyH_done (by kernel_rfl) ?_ _
  go_wp2_with (go_at_call 24; go_must (refine (braise_any _ HKA.out hzA (by omega) (HXS.out _ HBA.out) (fun w' hb' => HXS.out w' (HBA.out.trans hb')) HPW.out.bc HMM.out).mono ?_); rintro e w6 ⟨rfl, v6, hb6, hc6, hn6⟩; have HB6 : Hid _ := hb6; have HC6 : Hid _ := hc6; have HN6 : Hid _ := hn6; clear hb6 hc6 hn6)
  go_ret
  refine ⟨rfl, v6, _, ws, _, ⟨HSA.out.chg HC6.out HNB.out, HB6.out, raise_tie HPW.out.tie xs HMM.out, HPW.out.bs, HPW.out.bc⟩, HCA.out.trans (chg_b HC6.out) (fun k _ hk => hk), RowNew.trans (w1 := wA) (.inl rfl) HN6.out HCA.out.size, ?_⟩
  rw [raiseAs_len]
  have := HMM.out
  omega
end Go.Proofs.Ytmfgpaigabkbbaa
