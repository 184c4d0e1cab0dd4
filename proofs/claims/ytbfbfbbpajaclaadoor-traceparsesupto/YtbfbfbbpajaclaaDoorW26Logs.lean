
/-
  What the law's comparison of entries does where both are the same. Condition: the slices read as entries.
-/
import Derived.Test.YtbfbfbbpajaclaaDoorTk
import Derived.Test.YtbfbfbbpajaclaaDoorR26F
namespace Go.Proofs.YtbfbfbbpajaclaaDoor
open Go.RowKit
set_option linter.unusedVariables false
set_option linter.unusedSimpArgs false
set_option maxRecDepth 100000
set_option maxHeartbeats 6400000 in
theorem logs26 (u v : Value) (xs : List En) (w : World) (hu : SeesG enC 22 En.nil w u xs) (hv : SeesG enC 22 En.nil w v xs) : Calls Tryd.prog 15 #[u, v] w fun r w' => r = .returned (.bool true) ∧ Below w.heap.size w w' := by
  have HU := keepG hu
  have HV := keepG hv
  obtain ⟨a, cap, rfl, hlc, hmx⟩ := hu.shape
  obtain ⟨a', cap', rfl, hlc', hmx'⟩ := hv.shape
  clear hu hv
  go_enter Tryd.func15, Tryd.ntmps15
  go_wp2_with fail
  go_loopw [5] (fun i wr => ∃ k : Nat, k ≤ xs.length ∧ i = .int .i64 k ∧ Hid (Below w.heap.size w wr)) (fun i _ => xs.length - (intOf i).toNat)
  case atStart => exact ⟨0, by omega, rfl, Below.refl _ _⟩
  case round =>
    rename World => wr
    obtain ⟨k, hk, rfl, HB⟩ := hrel
    by_cases hlt : k < xs.length
    · have hltI : (k : Int) < xs.length := by omega
      obtain ⟨p, off, ea, hat⟩ := enAt26 HU.out hlt
      subst ea
      obtain ⟨p', off', ea, hat'⟩ := enAt26 HV.out hlt
      subst ea
      obtain ⟨e, HE⟩ : ∃ e, Hid (xs.getD k En.nil = e) := ⟨_, rfl⟩
      have h1 := hat wr e HB.out HE.out
      have h2 := hat' wr e HB.out HE.out
      clear hat hat'
      go_wp2
      refine wp_region_held_drew (S := fun w' => w'.rangeAt p (off + k * 22) (enC e) ∧ w'.rangeAt p' (off' + k * 22) (enC e)) (by kernel_rfl) ⟨h1, h2⟩ (fun hHeld => ?_)
      refine tkGo [0, 1, 2] ?_
      repeat (refine tkO (v := ?_) rfl ?_ ?_; rotate_left; (intro wy hSw; (try dsimp only at hSw); go_simp; (first | done | with_reducible rfl)); try simp only [Act.put, p1q, p2q, p3q, p4q, p5q, p6q])
      refine tkEnd ?_
      refine wpAnyH_take (i := 3) rfl (by kernel_rfl) (by kernel_rfl) (by kernel_rfl) (fun _ _ _ h => h) (yieldsIf_load_mid (by rfl) _ _ rfl _ _ rfl (enC e) _ (fun w h => h.1) Tryd.underlying36 rfl (sizeEn e)) (by assumption) ?_
      try simp only [Act.put, p1q, p2q, p3q, p4q, p5q, p6q]
      refine tkGo [4, 5, 6] ?_
      repeat (refine tkO (v := ?_) rfl ?_ ?_; rotate_left; (intro wy hSw; (try dsimp only at hSw); go_simp; (first | done | with_reducible rfl)); try simp only [Act.put, p1q, p2q, p3q, p4q, p5q, p6q])
      refine tkEnd ?_
      refine wpAnyH_take (i := 7) rfl (by kernel_rfl) (by kernel_rfl) (by kernel_rfl) (fun _ _ _ h => h) (yieldsIf_load_mid (by rfl) _ _ rfl _ _ rfl (enC e) _ (fun w h => h.2) Tryd.underlying36 rfl (sizeEn e)) (by assumption) ?_
      try simp only [Act.put, p1q, p2q, p3q, p4q, p5q, p6q]
      refine wpAnyH_take (i := 8) (v := .bool false) rfl (by kernel_rfl) (by kernel_rfl) (by kernel_rfl) (fun _ _ _ h => h) (Or.inl ⟨by rfl, fun wy hSw => ?_⟩) (by assumption) ?_
      · go_simp
      try simp only [Act.put, p1q, p2q, p3q, p4q, p5q, p6q]
      refine wpAnyH_done (by kernel_rfl) ?_ _
      go_wp2
      go_roundw
      case rel => exact ⟨k + 1, by omega, by go_num, HB.out.trans ((below_drG (Below.refl _ _)).mono HB.out.size)⟩
      case measure => simp [intOf]; omega
    · obtain rfl : k = xs.length := by omega
      go_wp2
      go_ret
      exact ⟨rfl, HB.out⟩
end Go.Proofs.YtbfbfbbpajaclaaDoor
