/-
  ArithFolds answers true at every operation and every list of numbers; memory that was there stays. Condition: at most 17592186043904 numbers.
-/
import Derived.Test.YtppdpleknbdeaaaA5Folds
import Derived.Deep.Draws
namespace Go.Proofs.Ytppdpleknbdeaaa
open Go.RowKit
set_option linter.unusedVariables false

theorem fold_as {op n : Int} {c : Bool} {v : Value} {xs : List Int} {w : World} (h : Sees .u64 w v xs) (h1 : Hid (n = foldL op xs)) (h2 : Hid (c = foldB op xs)) :
    Calls Try.prog 13 #[.int .i64 op, v] w fun e w' => e = .returned (.tuple #[.int .u64 n, .bool c]) ∧ w = w' := by
  rw [h1.out, h2.out]; exact fold_any op v xs w h
theorem rfold_as {op n : Int} {c : Bool} {v : Value} {xs : List Int} {w : World} (h : Sees .u64 w v xs) (h1 : Hid (n = foldL op xs)) (h2 : Hid (c = foldB op xs)) :
    Calls Try.prog 14 #[.int .i64 op, v] w fun e w' => e = .returned (.tuple #[.int .u64 n, .bool c]) ∧ w = w' := by
  rw [h1.out, h2.out]; exact rfold_any op v xs w h

set_option maxRecDepth 20000 in
set_option maxHeartbeats 800000 in
theorem folds_some (op : Int) (b off cap : Nat) (xs : List Int) (w : World) (hs : Sees .u64 w (.slice (some ⟨b, off, none⟩) xs.length cap) xs) (hpos : 0 < xs.length) (hlen : xs.length ≤ 17592186043904) (hb : b < w.heap.size)
    (hc : ∀ i, i < xs.length → w.cell? ⟨b, off + i, none⟩ = some (.int .u64 (xs.getD i 0))) :
    Calls Try.prog 4 #[.int .i64 op, .slice (some ⟨b, off, none⟩) xs.length cap] w fun e w' => e = .returned (.bool true) ∧ Below w.heap.size w w' := by
  obtain ⟨i0, hi, hz0, hz1, hz2⟩ := info_parts Try.info64
  obtain ⟨n, H1⟩ : ∃ n, Hid (n = foldL op xs) := ⟨_, rfl⟩
  obtain ⟨c, H2⟩ : ∃ c, Hid (c = foldB op xs) := ⟨_, rfl⟩
  have HC : Hid (∀ i, i < xs.length → w.cell? ⟨b, off + i, none⟩ = some (.int .u64 (xs.getD i 0))) := hc
  have HS : Hid (Sees .u64 w (.slice (some ⟨b, off, none⟩) xs.length cap) xs) := hs
  clear hc hs
  go_enter Try.func4, Try.ntmps4
  go_wp2_with (first
    | (go_at_call 8; go_must (refine (awake_any _).mono ?_); rintro e w1 ⟨rfl, hbe⟩; have hs1 := HS.out.below hbe (Nat.le_refl _))
    | (at_builtin; have hq := hs1; clear hq; refine wpList_append_sees rfl (.tmp 13) (.tmp 14) 32 rfl w1.heap.size 22 i0 (.int .u64 0) 8 Try.underlying32 hi hz0 hz1 hz2 rfl .u64 _ [] rfl (World.ownsRow_lit w1 #[] 0 (Nat.le_refl _) (by simp [maxLen]) rfl) _ _ rfl (hs1.alloc _) (by simp [maxLen]; omega) (by simp; omega) (by simp) ?_; intro v2 w2 hown hg; go_must (have hb2 := below_grown (World.ownsRow_lit w1 #[] 0 (Nat.le_refl w1.heap.size) (by simp [maxLen]) rfl) hg (by simp); have hb2 : Below w1.heap.size w1 w2 := ((Below.refl _ _).alloc (Nat.le_refl _) _).trans hb2; have hz := hbe.size; have hbe2 := hbe.trans (hb2.mono hz); have hs2 := hs1.below hb2 (Nat.le_refl _); clear hg hs1 hb2 hbe; simp only [List.nil_append] at hown; have hsin := Sees.own hown (HS.out.wf); obtain ⟨g, cap2, rfl, hgb, hglt, hl2, hm2, hcg⟩ := own_open hown hpos; clear hown))
    | (go_at_call 13; go_must (refine (fold_as hsin H1 H2).mono ?_); rintro e w' ⟨rfl, rfl⟩)
    | (go_at_call 14; go_must (refine (rfold_as hs2 H1 H2).mono ?_); rintro e w' ⟨rfl, rfl⟩))
  have HG : Hid (∀ i, i < xs.length → w2.cell? ⟨g, i, none⟩ = some (.int .u64 (xs.getD i 0))) := fun i hi => hcg i _ (by simp [List.getD, hi])
  have HX : Hid (∀ i, i < xs.length → w2.cell? ⟨b, off + i, none⟩ = some (.int .u64 (xs.getD i 0))) := fun i hi => (hbe2.cell (p := ⟨b, off + i, none⟩) hb).trans (HC.out i hi)
  have HB : Hid (Below w.heap.size w w2) := hbe2
  clear hcg hsin hs2 HC HS hbe2
  unfold maxLen at hm2
  go_loopw [10] (fun i wr => ∃ k m : Nat, k ≤ xs.length ∧ i = .int .i64 k ∧ wr = w2.drewN m) (fun i _ => xs.length - (intOf i).toNat)
  case atStart => exact ⟨0, 0, by omega, rfl, rfl⟩
  case round =>
    obtain ⟨k, m, hk, rfl, rfl⟩ := hrel
    by_cases hlt : k < xs.length
    · obtain ⟨x, hx, hy⟩ : ∃ x, w2.cell? ⟨g, k, none⟩ = some (.int .u64 x) ∧ w2.cell? ⟨b, off + k, none⟩ = some (.int .u64 x) := ⟨_, HG.out k hlt, HX.out k hlt⟩
      go_wp2
      go_region
      all_goals go_wp2
      all_goals go_roundw
      case rel => exact ⟨k + 1, _, by omega, by go_num, rfl⟩
      case measure => simp [intOf]; omega
    · go_wp2
      go_ret
      exact ⟨retb (by simp), below_drewN HB.out _⟩
theorem folds_nil (op : Int) (a : Option Addr) (cap : Nat) (w : World) (hs : Sees .u64 w (.slice a 0 cap) []) :
    Calls Try.prog 4 #[.int .i64 op, .slice a 0 cap] w fun e w' => e = .returned (.bool true) ∧ Below w.heap.size w w' := by
  obtain ⟨i0, hi, hz0, hz1, hz2⟩ := info_parts Try.info64
  obtain ⟨n, H1⟩ : ∃ n, Hid (n = foldL op []) := ⟨_, rfl⟩
  obtain ⟨c, H2⟩ : ∃ c, Hid (c = foldB op []) := ⟨_, rfl⟩
  have HS : Hid (Sees .u64 w (.slice a 0 cap) []) := hs
  clear hs
  go_enter Try.func4, Try.ntmps4
  go_wp2_with (first
    | (go_at_call 8; go_must (refine (awake_any _).mono ?_); rintro e w1 ⟨rfl, hbe⟩; have hs1 := HS.out.below hbe (Nat.le_refl _))
    | (at_builtin; have hq := hs1; clear hq; refine wpList_append_sees rfl (.tmp 13) (.tmp 14) 32 rfl w1.heap.size 22 i0 (.int .u64 0) 8 Try.underlying32 hi hz0 hz1 hz2 rfl .u64 _ [] rfl (World.ownsRow_lit w1 #[] 0 (Nat.le_refl _) (by simp [maxLen]) rfl) _ _ rfl (hs1.alloc _) (by simp [maxLen]) (by simp) (by simp) ?_; intro v2 w2 hown hg; go_must (have hb2 := below_grown (World.ownsRow_lit w1 #[] 0 (Nat.le_refl w1.heap.size) (by simp [maxLen]) rfl) hg (by simp); have hb2 : Below w1.heap.size w1 w2 := ((Below.refl _ _).alloc (Nat.le_refl _) _).trans hb2; have hz := hbe.size; have hbe2 := hbe.trans (hb2.mono hz); have hs2 := hs1.below hb2 (Nat.le_refl _); clear hg hs1 hb2 hbe; simp only [List.nil_append] at hown; have hsin := Sees.own hown (HS.out.wf); clear hown))
    | (go_at_call 13; go_must (refine (fold_as hsin H1 H2).mono ?_); rintro e w' ⟨rfl, rfl⟩)
    | (go_at_call 14; go_must (refine (rfold_as hs2 H1 H2).mono ?_); rintro e w' ⟨rfl, rfl⟩))
  refine wp_loop_rounds 1 ?_
  rw [rounds_succ]
  go_wp2
  go_ret
  exact ⟨retb (by simp), hbe2⟩
theorem folds_walk (op : Int) (v : Value) (xs : List Int) (w : World) (hop : -9223372036854775808 ≤ op ∧ op ≤ 9223372036854775807) (hs : Sees .u64 w v xs) (z : xs.length * Try.prog.bytesOf 22 ≤ reachBytes) :
    Calls Try.prog 4 #[.int .i64 op, v] w fun e w' => e = .returned (.bool true) ∧ Below w.heap.size w w' := by
  have hlen : xs.length ≤ 17592186043904 := by
    have b : Try.prog.bytesOf 22 = 8 := by kernel_rfl
    rw [b] at z
    unfold reachBytes at z
    omega
  have h0 := hs
  obtain ⟨a, cap, rfl, hl, hm, hn0, hw, hc⟩ := hs
  by_cases hne : xs = []
  · subst hne
    exact folds_nil op a cap w h0
  · obtain ⟨b, off, rfl, hb, hcell⟩ := hc hne
    exact folds_some op b off cap xs w h0 (List.length_pos_iff.2 hne) hlen hb hcell
end Go.Proofs.Ytppdpleknbdeaaa
