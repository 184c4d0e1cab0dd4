
/-
  The landed scratch: Raise. Condition: the numbers don't lie in the scratch itself.
-/
import Derived.Test.YtmfgpaigabkbbaaS10Meth
namespace Go.Proofs.Ytmfgpaigabkbbaa
open Go.RowKit
set_option linter.unusedVariables false
set_option linter.unusedSimpArgs false
set_option maxRecDepth 100000

/-- The first k counters are raised. -/
def raiseU (cs xs : List Int) (k : Nat) : List Int := (List.range 16).map fun i => if i < k ∧ i < xs.length then addW (cs.getD i 0) (xs.getD i 0) else cs.getD i 0
def raiseL (cs xs : List Int) : List Int := raiseU cs xs 16
theorem raiseU_len (cs xs : List Int) (k : Nat) : (raiseU cs xs k).length = 16 := by simp [raiseU]
theorem raiseU_at (cs xs : List Int) (k : Nat) {i : Nat} (h : i < 16) : (raiseU cs xs k).getD i 0 = if i < k ∧ i < xs.length then addW (cs.getD i 0) (xs.getD i 0) else cs.getD i 0 := by
  simp [raiseU, List.getD, List.getElem?_range h]
theorem list16 {xs ys : List Int} (h1 : xs.length = 16) (h2 : ys.length = 16) (h : ∀ i, i < 16 → xs.getD i 0 = ys.getD i 0) : xs = ys := by
  apply List.ext_getElem (by omega)
  intro i hi hj
  have := h i (by omega)
  simpa [List.getD, List.getElem?_eq_getElem hi, List.getElem?_eq_getElem hj] using this
theorem getD_set {xs : List Int} (k i : Nat) (n : Int) (h : k < xs.length) : (xs.set k n).getD i 0 = if i = k then n else xs.getD i 0 := by
  by_cases hik : i = k
  · subst hik; simp [List.getD, h]
  · simp [List.getD, List.getElem?_set, hik, Ne.symm hik]
theorem raise_zero {cs : List Int} (xs : List Int) (h : cs.length = 16) : raiseU cs xs 0 = cs := list16 (raiseU_len _ _ _) h fun i hi => by rw [raiseU_at _ _ _ hi, if_neg (by omega)]
theorem raise_step {cs xs : List Int} {k : Nat} (hk : k < 16) (hx : k < xs.length) : (raiseU cs xs k).set k (addW ((raiseU cs xs k).getD k 0) (xs.getD k 0)) = raiseU cs xs (k + 1) := list16 (by simp [raiseU_len]) (raiseU_len _ _ _) fun i hi => by
  rw [getD_set _ _ _ (by rw [raiseU_len]; exact hk), raiseU_at _ _ _ hi, raiseU_at _ _ _ hi, raiseU_at _ _ _ hk]
  by_cases hik : i = k
  · subst hik
    rw [if_pos rfl, if_neg (by omega), if_pos (by omega)]
  · rw [if_neg hik]
    by_cases h : i < k ∧ i < xs.length
    · rw [if_pos h, if_pos (by omega)]
    · rw [if_neg h, if_neg (by omega)]
theorem raise_all {cs xs : List Int} {m : Nat} (h : (m : Int) = min (xs.length : Int) 16) : raiseU cs xs m = raiseL cs xs := list16 (raiseU_len _ _ _) (raiseU_len _ _ _) fun i hi => by
  unfold raiseL
  rw [raiseU_at _ _ _ hi, raiseU_at _ _ _ hi]
  by_cases h2 : i < m ∧ i < xs.length
  · rw [if_pos h2, if_pos (by omega)]
  · rw [if_neg h2, if_neg (by omega)]
theorem Sees.grown {k : IntKind} {w w' : World} {g o n c b : Nat} {xs : List Int} (h : Sees k w (.slice (some ⟨g, o, none⟩) n c) xs) (hg : w.grownBy w' (some b)) (hne : g ≠ b) : Sees k w' (.slice (some ⟨g, o, none⟩) n c) xs := by
  obtain ⟨a, cap, hv, hl, hm, hn0, hw, hs⟩ := h
  refine ⟨a, cap, hv, hl, hm, hn0, hw, fun hn => ?_⟩
  obtain ⟨b', off, rfl, hlt, hc⟩ := hs hn
  injection hv with e1 e2 e3
  injection e1 with e1
  injection e1 with e1 e4
  subst e1 e4
  exact ⟨_, _, rfl, Nat.lt_of_lt_of_le hlt hg.size, fun i hi => (World.cell?_of_block (hg.block _ hlt (fun e => hne (by injection e)))).trans (hc i hi)⟩
set_option maxHeartbeats 800000 in
theorem raise_any {b : Nat} {ws cs xs : List Int} {v : Value} (w : World) (h : Sc w b ws cs) (hs : ∀ w', w.grownBy w' (some b) → Sees .u64 w' v xs) : Calls Try.prog 13 #[.pointer (some ⟨b, 16, none⟩), v] w fun e w' => e = .returned (.tuple #[]) ∧ Sc w' b ws (raiseL cs xs) ∧ w.grownBy w' (some b) ∧ w'.heap.size = w.heap.size := by
  obtain ⟨a, cap, rfl, hlc, hmx, hn0, hwf, hse⟩ := hs w (grownJ_refl _ _)
  unfold maxLen at hmx
  have HS : Hid (∀ w', w.grownBy w' (some b) → Sees .u64 w' (.slice a xs.length cap) xs) := hs
  have HH : Hid (Sc w b ws cs) := h
  obtain ⟨m, hm⟩ : ∃ m : Nat, min (xs.length : Int) 16 = m := ⟨min xs.length 16, by omega⟩
  have hml : m ≤ xs.length := by omega
  have hm16 : m ≤ 16 := by omega
  clear hs h hse hwf hn0
  go_enter Try.func13, Try.ntmps13
  go_wp2
  go_loopw [4, 8] (fun _ i wr => ∃ k : Nat, k ≤ m ∧ i = .int .i64 k ∧ Hid (Sc wr b ws (raiseU cs xs k)) ∧ Hid (w.grownBy wr (some b)) ∧ Hid (wr.heap.size = w.heap.size)) (fun _ i _ => m - (intOf i).toNat)
  case atStart => exact ⟨0, by omega, rfl, by rw [raise_zero _ HH.out.lc]; exact HH.out, grownJ_refl _ _, rfl⟩
  case round =>
    obtain ⟨k, hk, rfl, HR, HG, HZ⟩ := hrel
    by_cases hlt : k < m
    · obtain ⟨a', cap', hv, _, _, _, _, hse⟩ := HS.out wr HG.out
      obtain ⟨g, off, ha, hgl, hc⟩ := hse (fun e => by rw [e] at hml; simp at hml; omega)
      injection hv with e1 e2 e3
      subst e1 e3
      subst ha
      have c1 := hc k (by omega)
      have c2 := HR.out.count (k := k) (by omega)
      have f := HR.out.hp.frozen (16 + k)
      have h16 : (k : Int) < 16 := by omega
      have hkl : (k : Int) < xs.length := by omega
      obtain ⟨x, HX⟩ : ∃ x, Hid (xs.getD k 0 = x) := ⟨_, rfl⟩
      obtain ⟨y, HY⟩ : ∃ y, Hid ((raiseU cs xs k).getD k 0 = y) := ⟨_, rfl⟩
      rw [HX.out] at c1
      rw [HY.out] at c2
      have HR2 : Hid (Sc (wr.setCell ⟨b, 16 + k, none⟩ (.int .u64 (addW y x))) b ws (raiseU cs xs (k + 1))) := by
        have := HR.out.setC (k := k) (by omega) (addW y x)
        rw [← HX.out, ← HY.out, raise_step (by omega) (by omega)] at this
        rw [← HX.out, ← HY.out]
        exact this
      clear hc hse
      go_wp2
      go_region
      all_goals go_wp2
      all_goals go_roundw
      case rel => exact ⟨k + 1, by omega, by go_num, HR2.out.drew, grownJ_trans HG.out (grown_drew (grown_set _ _ _ _)), by have := HZ.out; show _ = _; simpa [World.setCell] using this⟩
      case measure => simp [intOf]; omega
    · obtain rfl : k = m := by omega
      go_wp2
      refine bodyPost_end (results_none rfl _ _ _) rfl ⟨rfl, ?_, HG.out, HZ.out⟩
      rw [← raise_all hm.symm]
      exact HR.out
end Go.Proofs.Ytmfgpaigabkbbaa
