/-
  ArithParts answers true at every two lists of numbers; memory that was there stays. Condition: at most 1048576 numbers each.
-/
import Derived.Test.YtppdpleknbdeaaaA5Order
namespace Go.Proofs.Ytppdpleknbdeaaa
open Go.RowKit
set_option linter.unusedVariables false

theorem own_cons {w : World} {base : Nat} {e : TypeId} {v : Value} {x : Int} {ys : List Int} (h : w.ownsRow base e 1 v ([x] ++ ys).length (([x] ++ ys).map (Value.int .u64))) : w.ownsRow base e 1 v (x :: ys).length ((x :: ys).map (Value.int .u64)) := h
theorem back_next (xs : List Int) (m : Nat) (h : m < xs.length) : (xs.drop (m + 1)).reverse ++ [xs.getD m 0] = (xs.drop m).reverse := by
  rw [List.drop_eq_getElem_cons h, List.reverse_cons]
  simp [List.getD, h]

set_option maxRecDepth 20000 in
set_option maxHeartbeats 1600000 in
theorem parts_some (b off cap : Nat) (xs : List Int) (vy : Value) (ys : List Int) (w : World) (hs : Sees .u64 w (.slice (some ⟨b, off, none⟩) xs.length cap) xs) (hy : Sees .u64 w vy ys) (hpos : 0 < xs.length) (hlen : xs.length + ys.length ≤ 2097152) (hb : b < w.heap.size)
    (hc : ∀ i, i < xs.length → w.cell? ⟨b, off + i, none⟩ = some (.int .u64 (xs.getD i 0))) :
    Calls Try.prog 7 #[.slice (some ⟨b, off, none⟩) xs.length cap, vy] w fun e w' => e = .returned (.bool true) ∧ Below w.heap.size w w' := by
  obtain ⟨i0, hi, hz0, hz1, hz2⟩ := info_parts Try.info64
  have HC : Hid (∀ i, i < xs.length → w.cell? ⟨b, off + i, none⟩ = some (.int .u64 (xs.getD i 0))) := hc
  have HS : Hid (Sees .u64 w (.slice (some ⟨b, off, none⟩) xs.length cap) xs) := hs
  have HY : Hid (Sees .u64 w vy ys) := hy
  have hne : xs ≠ [] := List.length_pos_iff.1 hpos
  have HNE : Hid (xs ≠ []) := hne
  have hz : ((xs.length : Int) == 0) = false := by
    have : (xs.length : Int) ≠ 0 := by omega
    simpa using this
  obtain ⟨ay, capy, rfl⟩ := hy.shape
  clear hc hs hne hy
  go_enter Try.func7, Try.ntmps7
  go_wp2_with (go_at_call 8; go_must (refine (awake_any _).mono ?_); rintro e w1 ⟨rfl, hbe⟩)
  go_loopw [7] (fun i wr => ∃ o : Nat, 1 ≤ o ∧ o ≤ 11 ∧ i = .int .i64 o ∧ Below w.heap.size w wr) (fun i _ => 11 - (intOf i).toNat)
  case atStart => exact ⟨1, by omega, by omega, rfl, hbe⟩
  case round =>
    clear hbe
    obtain ⟨o, ho1, ho11, rfl, hbe⟩ := hrel
    by_cases hlt : o ≤ 10
    · have HO : Hid (1 ≤ (o : Int) ∧ (o : Int) ≤ 10) := by show _ ∧ _; omega
      obtain ⟨n1, H1⟩ : ∃ n, Hid (n = foldL o xs) := ⟨_, rfl⟩
      obtain ⟨n2, H2⟩ : ∃ n, Hid (n = foldL o (xs ++ ys)) := ⟨_, rfl⟩
      have H3 : Hid (n2 = foldL o (n1 :: ys)) := by rw [H2.out, H1.out]; exact foldL_app HO.out HNE.out ys
      have C1 : Hid (true = foldB o xs) := foldB_some HO.out HNE.out
      have C2 : Hid (true = foldB o (xs ++ ys)) := foldB_some HO.out (by have := HNE.out; simp [this])
      have C3 : Hid (true = foldB o (n1 :: ys)) := foldB_some HO.out (by simp)
      have hW1 : W64 n1 := by rw [H1.out]; exact foldL_in xs HS.out.in64
      have HW1 : Hid (∀ x ∈ [n1], (Lit.int .u64 x).wf = true) := by
        intro x hx; simp at hx; subst hx; exact WalkArith.wf_u64 (by unfold W64 at hW1; omega)
      clear hW1
      have hsx := HS.out.below hbe (Nat.le_refl _)
      have hsy := HY.out.below hbe (Nat.le_refl _)
      have hz0' := hbe.size
      have K1 := H1
      go_wp2_with (first
        | (go_at_call 13; have hq := K1; clear hq; go_must (refine (fold_as hsx H1 C1).mono ?_); rintro e w' ⟨rfl, rfl⟩; clear K1)
        | (at_builtin; have hq := hsx; clear hq; refine wpList_append_sees rfl (.tmp 46) (.tmp 47) 32 rfl wr.heap.size 22 i0 (.int .u64 0) 8 Try.underlying32 hi hz0 hz1 hz2 rfl .u64 _ [] rfl (World.ownsRow_lit wr #[] 0 (Nat.le_refl _) (by simp [maxLen]) rfl) _ _ rfl (hsx.alloc _) (by simp [maxLen]; omega) (by simp; omega) (by simp) ?_; intro v2 w2 hown hg; go_must (have hb2 := below_grown (World.ownsRow_lit wr #[] 0 (Nat.le_refl wr.heap.size) (by simp [maxLen]) rfl) hg (by simp); have hb2 : Below wr.heap.size wr w2 := ((Below.refl _ _).alloc (Nat.le_refl _) _).trans hb2; have hz2' := hb2.size; have hsy2 := hsy.below hb2 (Nat.le_refl _); clear hg hsx hsy; simp only [List.nil_append] at hown))
        | (at_builtin; have hq := hsy2; clear hq; refine wpList_append_sees rfl (.tmp 48) (.tmp 49) 32 rfl wr.heap.size 22 i0 (.int .u64 0) 8 Try.underlying32 hi hz0 hz1 hz2 rfl .u64 _ xs rfl hown _ _ rfl hsy2 (by unfold maxLen; omega) (by omega) (by omega) ?_; intro v3 w3 hown3 hg; go_must (have hb3 := below_grown hown hg (by omega); have hb3' := hb2.trans hb3; have hz3 := hb3'.size; have hbe3 := hbe.trans (hb3'.mono hz0'); have hsy3 := HY.out.below hbe3 (Nat.le_refl _); have hsj := Sees.own hown3 (fun x hx => by rcases List.mem_append.1 hx with hx | hx; exact HS.out.wf x hx; exact HY.out.wf x hx); clear hg hsy2 hown hown3 hb2 hb3 hb3' hbe))
        | (go_at_call 13; have hq := hsj; clear hq; go_must (refine (fold_as hsj H2 C2).mono ?_); rintro e w' ⟨rfl, rfl⟩; clear hsj)
        | (at_builtin; have hq := hsy3; clear hq; refine wpList_append_sees rfl (.tmp 57) (.tmp 58) 32 rfl w3.heap.size 22 i0 (.int .u64 0) 8 Try.underlying32 hi hz0 hz1 hz2 rfl .u64 _ [n1] rfl (World.ownsRow_lit w3 #[.int .u64 n1] 1 (Nat.le_refl _) (by simp [maxLen]) rfl) _ _ rfl (hsy3.alloc _) (by simp [maxLen]; omega) (by simp; omega) (by simp) ?_; intro v4 w4 hown4 hg; go_must (have hb4 := below_grown (World.ownsRow_lit w3 #[.int .u64 n1] 1 (Nat.le_refl w3.heap.size) (by simp [maxLen]) rfl) hg (by simp); have hb4 : Below w3.heap.size w3 w4 := ((Below.refl _ _).alloc (Nat.le_refl _) _).trans hb4; have hz4 := hbe3.size; have hbe4 := hbe3.trans (hb4.mono hz4); have hsk := Sees.own (own_cons hown4) (fun x hx => by rcases List.mem_cons.1 hx with hx | hx; exact HW1.out x (by simp [hx]); exact HY.out.wf x hx); clear hg hsy3 hown4 hb4 hbe3))
        | (go_at_call 13; have hq := hsk; clear hq; go_must (refine (fold_as hsk H3 C3).mono ?_); rintro e w' ⟨rfl, rfl⟩; clear hsk))
      clear hb2 hz2' hb4 hz3 hz4 hz0' H2 H3 C1 C2 C3
      go_loopw [14, 15] (fun v i wq => ∃ (j : Nat) (I : Int) (zs : List Int), j ≤ xs.length ∧ i = .int .i64 I ∧ I = j - 1 ∧ Hid (zs = (xs.drop j).reverse) ∧ wq.ownsRow w4.heap.size 22 1 v zs.length (zs.map (Value.int .u64)) ∧ Below w4.heap.size w4 wq) (fun _ i _ => (intOf i + 1).toNat)
      case atStart => exact ⟨xs.length, _, [], Nat.le_refl _, rfl, rfl, by show _ = _; simp, World.ownsRow_nil _ _ _ _, Below.refl _ _⟩
      case round =>
        obtain ⟨j, I, zs, hj, rfl, hI, HZ, hown, hbq⟩ := hrel
        have hzl : zs.length + j = xs.length := by rw [HZ.out]; simp; omega
        have hz4 := hbe4.size
        have hzq := hbq.size
        have HBQ : Hid (Below w.heap.size w wr) := hbe4.trans (hbq.mono hz4)
        cases j with
        | zero =>
          obtain rfl : I = -1 := by omega
          clear hI
          have HR : Hid (zs = xs.reverse) := by rw [HZ.out]; rfl
          have hsz := Sees.own hown (by rw [HR.out]; intro x hx; exact HS.out.wf x (List.mem_reverse.1 hx))
          obtain ⟨n4, H4⟩ : ∃ n, Hid (n = foldL o zs) := ⟨_, rfl⟩
          obtain ⟨c4, C4⟩ : ∃ c, Hid (c = foldB o zs) := ⟨_, rfl⟩
          by_cases hfree : (o : Int) = 1 ∨ (o : Int) = 3 ∨ (o : Int) = 6 ∨ (o : Int) = 7 ∨ (o : Int) = 8
          · obtain rfl : n4 = n1 := by rw [H4.out, H1.out, HR.out]; exact foldL_rev hfree xs
            clear hfree hown hbq HZ hzl
            go_wp2_with (go_at_call 13; go_must (refine (fold_as hsz H4 C4).mono ?_); rintro e w' ⟨rfl, rfl⟩)
            all_goals go_roundw
            all_goals first
              | exact ⟨o + 1, by omega, by omega, congrArg _ (by omega), HBQ.out⟩
              | (simp [intOf]; omega)
          · have e1 : ((o : Int) == 1) = false := by simp; omega
            have e3 : ((o : Int) == 3) = false := by simp; omega
            have e6 : ((o : Int) == 6) = false := by simp; omega
            have e7 : ((o : Int) == 7) = false := by simp; omega
            have e8 : ((o : Int) == 8) = false := by simp; omega
            clear hfree hown hbq HZ hzl
            go_wp2_with (go_at_call 13; go_must (refine (fold_as hsz H4 C4).mono ?_); rintro e w' ⟨rfl, rfl⟩)
            all_goals go_roundw
            all_goals first
              | exact ⟨o + 1, by omega, by omega, congrArg _ (by omega), HBQ.out⟩
              | (simp [intOf]; omega)
        | succ m =>
          obtain rfl : I = (m : Int) := by omega
          clear hI
          obtain ⟨c, hcell, HD⟩ : ∃ c, wr.cell? ⟨b, off + m, none⟩ = some (.int .u64 c) ∧ Hid (zs ++ [c] = (xs.drop m).reverse) := ⟨_, (HBQ.out.cell (p := ⟨b, off + m, none⟩) hb).trans (HC.out m (by omega)), by rw [HZ.out]; exact back_next xs m (by omega)⟩
          go_wp2_with (at_builtin; go_must (refine wpList_append_wide _ rfl _ _ 32 rfl w4.heap.size 22 i0 (.int .u64 0) 1 8 Try.underlying32 hi hz0 hz1 hz2 rfl (by decide) _ _ _ rfl (hown.alloc _) ⟨_, 0, none⟩ 1 1 [.int .u64 c] rfl rfl (cell_one_new _ _ _) (one_cell _ _) (by unfold maxLen; omega) (by omega) (by simp; omega) ?_); intro v' w5 hown' hgrow _; have R := step_append hown hbq (Nat.le_refl _) hown' hgrow; clear hown' hgrow)
          go_roundw
          case rel => exact ⟨m, _, zs ++ [c], by omega, rfl, rfl, HD.out, R.1, R.2⟩
          case measure => simp [intOf] <;> omega
    · go_wp2
      go_ret
      exact ⟨rfl, hbe⟩
theorem parts_nil (a : Option Addr) (cap : Nat) (vy : Value) (w : World) :
    Calls Try.prog 7 #[.slice a 0 cap, vy] w fun e w' => e = .returned (.bool true) ∧ Below w.heap.size w w' := by
  have H1 : Hid ((0 : Int) = foldL 1 []) := rfl
  have C1 : Hid (false = foldB 1 []) := rfl
  go_enter Try.func7, Try.ntmps7
  go_wp2_with (first
    | (go_at_call 8; go_must (refine (awake_any _).mono ?_); rintro e w1 ⟨rfl, hbe⟩)
    | (go_at_call 13; go_must (refine (fold_as (Sees.nil .u64 _) H1 C1).mono ?_); rintro e w' ⟨rfl, rfl⟩))
  go_ret
  exact ⟨rfl, hbe⟩
theorem parts_all (v : Value) (xs : List Int) (u : Value) (ys : List Int) (w : World) (hs : Sees .u64 w v xs) (hx1 : xs.length ≤ 1048576) (hy : Sees .u64 w u ys) (hy1 : ys.length ≤ 1048576) :
    Calls Try.prog 7 #[v, u] w fun e w' => e = .returned (.bool true) ∧ Below w.heap.size w w' := by
  have h0 := hs
  obtain ⟨a, cap, rfl, hl, hm, hn0, hw, hc⟩ := hs
  by_cases hne : xs = []
  · subst hne
    exact parts_nil a cap u w
  · obtain ⟨b, off, rfl, hb, hcell⟩ := hc hne
    exact parts_some b off cap xs u ys w h0 hy (List.length_pos_iff.2 hne) (by omega) hb hcell
end Go.Proofs.Ytppdpleknbdeaaa
