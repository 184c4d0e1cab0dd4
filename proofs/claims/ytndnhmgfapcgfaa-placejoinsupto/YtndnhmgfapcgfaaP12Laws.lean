
/-
  PlaceOf and PlaceSplits, walked: the answer is true. Condition: at most 17592186044416 keys.
-/
import Derived.Test.YtndnhmgfapcgfaaP12Split
import Derived.Deep.RegionHeld3
namespace Go.Proofs.Ytndnhmgfapcgfaa
open Go.RowKit Go.Deep
set_option linter.unusedVariables false
set_option maxRecDepth 20000

theorem keepP {p : Prop} (h : p) : Hid p := h
theorem Sees.drew {k : IntKind} {w : World} {v : Value} {xs : List Int} (h : Sees k w v xs) : Sees k w.drew v xs := h
theorem Rw.sees {w wr : World} {N : Nat} {V : Nat → Value} {R : Nat → List Int} (h : Rw w N V R wr) {p : Nat} (hp : p < N) (hw : ∀ x ∈ R p, (Lit.int .u64 x).wf = true) : Sees .u64 wr (V p) (R p) := Sees.own (h.own p hp) hw
theorem mine_wf {d s : Int} {xs : List Int} (h : ∀ x ∈ xs, (Lit.int .u64 x).wf = true) : ∀ x ∈ mineL d s xs, (Lit.int .u64 x).wf = true := fun x hx => h x (mine_mem.1 hx).1
theorem Rw.shape {w wr : World} {N : Nat} {V : Nat → Value} {R : Nat → List Int} (h : Rw w N V R wr) {p : Nat} (hp : p < N) : ∃ a cap, V p = .slice a (R p).length cap ∧ (R p).length ≤ cap ∧ cap ≤ maxLen := own_shapep (h.own p hp)
theorem awake_any (w : World) : Calls Try.prog 7 #[] w fun e w' => e = .returned (.bool true) ∧ Below w.heap.size w w' := by
  have K1 : Hid ((3 : Int) = ofL 5 4) := by show _ = _; decide
  have K2 : Hid ((1 : Int) = ofL 1 4) := by show _ = _; decide
  go_enter Try.func7, Try.ntmps7
  go_wp2_with (first
    | (go_at_call 8; have hq := K1; clear hq; go_must (refine (of_as (by decide) (by decide) K1).mono ?_); rintro e w1 ⟨rfl, rfl⟩; clear K1)
    | (go_at_call 8; have hq := K2; clear hq; go_must (refine (of_as (by decide) (by decide) K2).mono ?_); rintro e w1 ⟨rfl, rfl⟩; clear K2)
    | (go_at_call 10; go_must (refine (lsplit_ok 2 _ [0, 1, 2, 3] _ (by decide) (by decide) (Sees.lit _ .u64 _ [0, 1, 2, 3] _ 4 rfl rfl (by decide) (by decide)) (by decide)).mono ?_); rintro e w2 ⟨V, rfl, hR⟩; have hb := hR.g; clear hR))
  go_ret
  exact ⟨rfl, ((Below.refl _ _).alloc (Nat.le_refl _) _).trans (hb.mono (by simp))⟩
set_option maxHeartbeats 800000 in
theorem placeOf_walk (k s : Int) (w : World) (hk : 0 ≤ k ∧ k ≤ 18446744073709551615) (hs : -9223372036854775808 ≤ s ∧ s ≤ 9223372036854775807) :
    Calls Try.prog 3 #[.int .u64 k, .int .i64 s] w fun e w' => e = .returned (.bool true) ∧ Below w.heap.size w w' := by
  obtain ⟨n, HN⟩ : ∃ n, Hid (n = ofL k s) := ⟨_, rfl⟩
  have HK : Hid (0 ≤ k ∧ k < 18446744073709551616) := ⟨hk.1, by omega⟩
  have HS : Hid (-9223372036854775808 ≤ s ∧ s ≤ 9223372036854775807) := hs
  obtain ⟨hb0, hb1⟩ := ofL_bd k s hk.1
  rw [← HN.out] at hb0 hb1
  clear hk
  obtain ⟨hs0, hs1⟩ := hs
  go_enter Try.func3, Try.ntmps3
  go_wp2_with (go_at_call 7; go_must (refine (awake_any _).mono ?_); rintro e w1 ⟨rfl, hbe⟩; have HB : Hid (Below w.heap.size w w1) := hbe; clear hbe)
  go_loopw [5] (fun i wr => ∃ j : Int, -1 ≤ j ∧ j ≤ 9 ∧ i = .int .i64 j ∧ w1 = wr) (fun i _ => (9 - intOf i).toNat)
  case atStart => exact ⟨-1, by omega, by omega, rfl, rfl⟩
  case round =>
    obtain ⟨j, hj0, hj1, rfl, rfl⟩ := hrel
    by_cases hlt : j < 9
    · obtain ⟨m, HM⟩ : ∃ m, Hid (m = ofL k j) := ⟨_, rfl⟩
      have HJ : Hid (-9223372036854775808 ≤ j ∧ j ≤ 9223372036854775807) := ⟨by omega, by omega⟩
      clear hb0 hb1
      go_wp2_with (first
        | (go_at_call 8; go_must (refine (of_as HK.out HJ.out HM).mono ?_); rintro e w' ⟨rfl, rfl⟩)
        | (go_at_call 9; go_must (refine (rof_as HK.out HJ.out HM).mono ?_); rintro e w' ⟨rfl, rfl⟩))
      go_roundw
      case rel => exact ⟨j + 1, by omega, by omega, by go_num, trivial⟩
      case measure => simp [intOf]; omega
    · by_cases h1 : n < s
      · clear hb1
        go_wp2_with (first
          | (go_at_call 8; go_must (refine (of_as HK.out HS.out HN).mono ?_); rintro e w' ⟨rfl, rfl⟩)
          | (go_at_call 9; go_must (refine (rof_as HK.out HS.out HN).mono ?_); rintro e w' ⟨rfl, rfl⟩))
        go_ret
        exact ⟨rfl, HB.out⟩
      · obtain ⟨h2, rfl⟩ : s < 1 ∧ n = 0 := by omega
        clear hb1
        go_wp2_with (first
          | (go_at_call 8; go_must (refine (of_as HK.out HS.out HN).mono ?_); rintro e w' ⟨rfl, rfl⟩)
          | (go_at_call 9; go_must (refine (rof_as HK.out HS.out HN).mono ?_); rintro e w' ⟨rfl, rfl⟩))
        go_ret
        exact ⟨rfl, HB.out⟩
theorem len_of {xs : List Int} (z : xs.length * Try.prog.bytesOf 22 ≤ reachBytes) : xs.length ≤ 17592186043904 := by
  have b : Try.prog.bytesOf 22 = 8 := by kernel_rfl
  rw [b] at z
  unfold reachBytes at z
  omega
end Go.Proofs.Ytndnhmgfapcgfaa
