
/-
  The keys of one shard: the landed Mine and the document's. Condition: at most 17592186044416 keys.
-/
import Derived.Test.YtndnhmgfapcgfaaP12Of
namespace Go.Proofs.Ytndnhmgfapcgfaa
open Go.RowKit
set_option linter.unusedVariables false
set_option maxRecDepth 20000

/-- The keys of a shard, in their order. -/
def mineL (d s : Int) (xs : List Int) : List Int := xs.filter fun k => decide (ofL k s = d)
theorem mine_take {d s : Int} {xs : List Int} {j : Nat} (h : j < xs.length) : mineL d s (xs.take (j + 1)) = if ofL (xs.getD j 0) s = d then mineL d s (xs.take j) ++ [xs.getD j 0] else mineL d s (xs.take j) := by
  unfold mineL
  rw [take_at xs j h, List.filter_append]
  by_cases e : ofL (xs.getD j 0) s = d
  · rw [if_pos e, List.filter_cons_of_pos (by simpa using e), List.filter_nil]
  · rw [if_neg e, List.filter_cons_of_neg (by simpa using e), List.filter_nil, List.append_nil]
theorem mine_len (d s : Int) (xs : List Int) : (mineL d s xs).length ≤ xs.length := List.length_filter_le _ _
theorem mine_mem {d s : Int} {xs : List Int} {x : Int} : x ∈ mineL d s xs ↔ x ∈ xs ∧ ofL x s = d := by simp [mineL]
theorem ofL_bd (k s : Int) (hk : 0 ≤ k) : 0 ≤ ofL k s ∧ (ofL k s < s ∨ s < 1 ∧ ofL k s = 0) := by
  unfold ofL
  by_cases h : s < 1
  · rw [if_pos h]; omega
  · rw [if_neg h]
    exact ⟨Int.emod_nonneg _ (by omega), .inl (Int.emod_lt_of_pos _ (by omega))⟩
theorem of_as {k s n : Int} {w : World} (hk : 0 ≤ k ∧ k < 18446744073709551616) (hs : -9223372036854775808 ≤ s ∧ s ≤ 9223372036854775807) (hn : Hid (n = ofL k s)) :
    Calls Try.prog 8 #[.int .u64 k, .int .i64 s] w fun e w' => e = .returned (.int .i64 n) ∧ w = w' := by rw [hn.out]; exact lof_any k s w hk hs
theorem rof_as {k s n : Int} {w : World} (hk : 0 ≤ k ∧ k < 18446744073709551616) (hs : -9223372036854775808 ≤ s ∧ s ≤ 9223372036854775807) (hn : Hid (n = ofL k s)) :
    Calls Try.prog 9 #[.int .u64 k, .int .i64 s] w fun e w' => e = .returned (.int .i64 n) ∧ w = w' := by rw [hn.out]; exact rof_any k s w hk hs
theorem Try.info64p : (Try.prog.info? 22).map (fun i => (i.zero, i.size, i.bytes)) = some (some (.int .u64 0), 1, 8) := by kernel_rfl
theorem lmine_any (d s : Int) (v : Value) (xs : List Int) (w : World) (hs : Sees .u64 w v xs) (hlen : xs.length ≤ 17592186044416) (hsb : -9223372036854775808 ≤ s ∧ s ≤ 9223372036854775807) :
    Calls Try.prog 13 #[.int .i64 d, .int .i64 s, v] w fun e w' => ∃ v', e = .returned v' ∧ w'.ownsRow w.heap.size 22 1 v' (mineL d s xs).length ((mineL d s xs).map (Value.int .u64)) ∧ Below w.heap.size w w' := by
  obtain ⟨i0, hi, hz0, hz1, hz2⟩ := info_parts Try.info64p
  have HW := hs.words
  obtain ⟨a, cap, rfl, hc, hm, hn0, hw, hcell⟩ := hs
  have HC : Hid (xs ≠ [] → ∃ b off, a = some ⟨b, off, none⟩ ∧ b < w.heap.size ∧ ∀ i, i < xs.length → w.cell? ⟨b, off + i, none⟩ = some (.int .u64 (xs.getD i 0))) := hcell
  clear hcell hn0 hw
  unfold maxLen at hm
  have HSB : Hid (-9223372036854775808 ≤ s ∧ s ≤ 9223372036854775807) := hsb
  clear hsb
  go_enter Try.func13, Try.ntmps13
  go_wp2
  go_loopw [7, 12] (fun u i wr => ∃ j : Nat, j ≤ xs.length ∧ i = .int .i64 j ∧ Hid (wr.ownsRow w.heap.size 22 1 u (mineL d s (xs.take j)).length ((mineL d s (xs.take j)).map (Value.int .u64))) ∧ Hid (Below w.heap.size w wr)) (fun _ i _ => xs.length - (intOf i).toNat)
  case atStart => exact ⟨0, by omega, rfl, World.ownsRow_nil _ _ _ _, Below.refl _ _⟩
  case round =>
    rename World => w0
    rename_i u
    obtain ⟨j, hj, rfl, HO, HB⟩ := hrel
    by_cases hjn : j < xs.length
    · obtain ⟨b, off, rfl, hb, hat⟩ := HC.out (fun h => by rw [h] at hjn; simp at hjn)
      have hcell := (HB.out.cell (p := ⟨b, off + j, none⟩) hb).trans (hat j hjn)
      clear hat
      have hx0 := HW _ (getD_mem xs j hjn)
      obtain ⟨x, HX⟩ : ∃ x, Hid (xs.getD j 0 = x) := ⟨_, rfl⟩
      rw [HX.out] at hcell hx0
      obtain ⟨n, HN⟩ : ∃ n, Hid (n = ofL x s) := ⟨_, rfl⟩
      obtain ⟨ys, HY⟩ : ∃ ys, Hid (mineL d s (xs.take j) = ys) := ⟨_, rfl⟩
      have hown := HO.out
      rw [HY.out] at hown
      have hyl : ys.length ≤ j := by rw [← HY.out]; have := mine_len d s (xs.take j); rw [List.length_take] at this; omega
      have hz := HB.out.size
      by_cases hd : n = d
      · have HT : Hid (mineL d s (xs.take (j + 1)) = ys ++ [x]) := by
          show _ = _
          rw [mine_take hjn, HX.out, ← HN.out, if_pos hd, HY.out]
        have hdb : (n == d) = true := by simpa using hd
        clear hd
        go_wp2_with (first
          | (go_at_call 8; go_must (refine (of_as hx0 HSB.out HN).mono ?_); rintro e w' ⟨rfl, rfl⟩)
          | (at_builtin; go_must (refine wpList_append_wide _ rfl _ _ 26 rfl w.heap.size 22 i0 (.int .u64 0) 1 8 Try.underlying26 hi hz0 hz1 hz2 rfl (by decide) _ _ _ rfl (hown.alloc _) ⟨_, 0, none⟩ 1 1 [.int .u64 x] rfl rfl (cell_one_new _ _ _) (one_cell _ _) (by unfold maxLen; omega) (by omega) (by simp; omega) ?_); intro v' w5 hown' hgrow _; have R := step_append hown HB.out (Nat.le_refl _) hown' hgrow; clear hown' hgrow))
        go_roundw
        case rel => exact ⟨j + 1, by omega, by go_num, by rw [HT.out]; exact R.1, R.2⟩
        case measure => simp [intOf]; omega
      · have HT : Hid (mineL d s (xs.take (j + 1)) = ys) := by
          show _ = _
          rw [mine_take hjn, HX.out, ← HN.out, if_neg hd, HY.out]
        have hdb : (n == d) = false := by simpa using hd
        clear hd
        go_wp2_with (go_at_call 8; go_must (refine (of_as hx0 HSB.out HN).mono ?_); rintro e w' ⟨rfl, rfl⟩)
        go_roundw
        case rel => exact ⟨j + 1, by omega, by go_num, by rw [HT.out]; exact hown, HB.out⟩
        case measure => simp [intOf]; omega
    · obtain rfl : j = xs.length := by omega
      have hown := HO.out
      rw [List.take_length] at hown
      go_wp2
      go_ret
      exact ⟨_, rfl, hown, HB.out⟩
theorem rmine_any (d s : Int) (v : Value) (xs : List Int) (w : World) (hs : Sees .u64 w v xs) (hlen : xs.length ≤ 17592186044416) (hsb : -9223372036854775808 ≤ s ∧ s ≤ 9223372036854775807) :
    Calls Try.prog 14 #[.int .i64 d, .int .i64 s, v] w fun e w' => ∃ v', e = .returned v' ∧ w'.ownsRow w.heap.size 22 1 v' (mineL d s xs).length ((mineL d s xs).map (Value.int .u64)) ∧ Below w.heap.size w w' := by
  obtain ⟨i0, hi, hz0, hz1, hz2⟩ := info_parts Try.info64p
  have HW := hs.words
  obtain ⟨a, cap, rfl, hc, hm, hn0, hw, hcell⟩ := hs
  have HC : Hid (xs ≠ [] → ∃ b off, a = some ⟨b, off, none⟩ ∧ b < w.heap.size ∧ ∀ i, i < xs.length → w.cell? ⟨b, off + i, none⟩ = some (.int .u64 (xs.getD i 0))) := hcell
  clear hcell hn0 hw
  unfold maxLen at hm
  have HSB : Hid (-9223372036854775808 ≤ s ∧ s ≤ 9223372036854775807) := hsb
  clear hsb
  go_enter Try.func14, Try.ntmps14
  go_wp2
  go_loopw [7, 8] (fun u i wr => ∃ j : Nat, j ≤ xs.length ∧ i = .int .i64 j ∧ Hid (wr.ownsRow w.heap.size 22 1 u (mineL d s (xs.take j)).length ((mineL d s (xs.take j)).map (Value.int .u64))) ∧ Hid (Below w.heap.size w wr)) (fun _ i _ => xs.length - (intOf i).toNat)
  case atStart => exact ⟨0, by omega, rfl, World.ownsRow_nil _ _ _ _, Below.refl _ _⟩
  case round =>
    rename World => w0
    rename_i u
    obtain ⟨j, hj, rfl, HO, HB⟩ := hrel
    by_cases hjn : j < xs.length
    · obtain ⟨b, off, rfl, hb, hat⟩ := HC.out (fun h => by rw [h] at hjn; simp at hjn)
      have hcell := (HB.out.cell (p := ⟨b, off + j, none⟩) hb).trans (hat j hjn)
      clear hat
      have hx0 := HW _ (getD_mem xs j hjn)
      obtain ⟨x, HX⟩ : ∃ x, Hid (xs.getD j 0 = x) := ⟨_, rfl⟩
      rw [HX.out] at hcell hx0
      obtain ⟨n, HN⟩ : ∃ n, Hid (n = ofL x s) := ⟨_, rfl⟩
      obtain ⟨ys, HY⟩ : ∃ ys, Hid (mineL d s (xs.take j) = ys) := ⟨_, rfl⟩
      have hown := HO.out
      rw [HY.out] at hown
      have hyl : ys.length ≤ j := by rw [← HY.out]; have := mine_len d s (xs.take j); rw [List.length_take] at this; omega
      have hz := HB.out.size
      by_cases hd : n = d
      · have HT : Hid (mineL d s (xs.take (j + 1)) = ys ++ [x]) := by
          show _ = _
          rw [mine_take hjn, HX.out, ← HN.out, if_pos hd, HY.out]
        have hdb : (n == d) = true := by simpa using hd
        clear hd
        go_wp2_with (first
          | (go_at_call 9; go_must (refine (rof_as hx0 HSB.out HN).mono ?_); rintro e w' ⟨rfl, rfl⟩)
          | (at_builtin; go_must (refine wpList_append_wide _ rfl _ _ 26 rfl w.heap.size 22 i0 (.int .u64 0) 1 8 Try.underlying26 hi hz0 hz1 hz2 rfl (by decide) _ _ _ rfl (hown.alloc _) ⟨_, 0, none⟩ 1 1 [.int .u64 x] rfl rfl (cell_one_new _ _ _) (one_cell _ _) (by unfold maxLen; omega) (by omega) (by simp; omega) ?_); intro v' w5 hown' hgrow _; have R := step_append hown HB.out (Nat.le_refl _) hown' hgrow; clear hown' hgrow))
        go_roundw
        case rel => exact ⟨j + 1, by omega, by go_num, by rw [HT.out]; exact R.1, R.2⟩
        case measure => simp [intOf]; omega
      · have HT : Hid (mineL d s (xs.take (j + 1)) = ys) := by
          show _ = _
          rw [mine_take hjn, HX.out, ← HN.out, if_neg hd, HY.out]
        have hdb : (n == d) = false := by simpa using hd
        clear hd
        go_wp2_with (go_at_call 9; go_must (refine (rof_as hx0 HSB.out HN).mono ?_); rintro e w' ⟨rfl, rfl⟩)
        go_roundw
        case rel => exact ⟨j + 1, by omega, by go_num, by rw [HT.out]; exact hown, HB.out⟩
        case measure => simp [intOf]; omega
    · obtain rfl : j = xs.length := by omega
      have hown := HO.out
      rw [List.take_length] at hown
      go_wp2
      go_ret
      exact ⟨_, rfl, hown, HB.out⟩
end Go.Proofs.Ytndnhmgfapcgfaa
