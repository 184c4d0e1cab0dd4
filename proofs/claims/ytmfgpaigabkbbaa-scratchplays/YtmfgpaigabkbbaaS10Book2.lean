
/-
  The document's book: Store, Wipe, Count, Mark, Word. Condition: the book lies where the pointer says, its row is the call's own.
-/
import Derived.Test.YtmfgpaigabkbbaaS10Book
namespace Go.Proofs.Ytmfgpaigabkbbaa
open Go.RowKit
set_option linter.unusedVariables false
set_option linter.unusedSimpArgs false
set_option maxRecDepth 100000

theorem out_cases {a : Int} (h : inB a = false) : a < 0 ∨ (¬ a < 0 ∧ 15 < a) := by
  have : ¬ (0 ≤ a ∧ a < 16) := of_decide_eq_false h
  omega
theorem bstore_out (a n : Int) (hi : Hid (inB a = false)) {c : Nat} (w : World) : Calls Try.prog 20 #[.pointer (some ⟨c, 0, none⟩), .int .i64 a, .int .u64 n] w fun e w' => e = .returned (.int .i64 35) ∧ w' = w := by
  rcases out_cases hi.out with h | ⟨h, h'⟩
  · go_enter Try.func20, Try.ntmps20
    go_wp2
    go_ret
    exact ⟨rfl, rfl⟩
  · go_enter Try.func20, Try.ntmps20
    go_wp2
    go_ret
    exact ⟨rfl, rfl⟩
set_option maxHeartbeats 800000 in
theorem bwipe_any {B c : Nat} {v : Value} {ks : List Ak} (w : World) (h : Bk w B c v ks) (hB : B ≤ w.heap.size) (hk : ks.length ≤ 100000) : Calls Try.prog 21 #[.pointer (some ⟨c, 0, none⟩)] w fun e w' => e = .returned (.tuple #[]) ∧ ∃ v', Bk w' B c v' (ks ++ [⟨2, 0, 0⟩]) ∧ Chg w w' (bkS c v) ∧ RowNew w v v' := by
  obtain ⟨i6, hi6, hz60, hz61, hz62⟩ := info_parts (P := Try.prog) (e := 65) (z := .agg #[.int .i64 0, .int .i64 0, .int .u64 0]) (size := 3) (bytes := 24) rfl
  have HH : Hid (Bk w B c v ks) := h
  have c0 : w.cell? ⟨c, 0, none⟩ = some v := h.hp.cell rfl
  clear h
  go_enter Try.func21, Try.ntmps21
  go_wp2_with (at_builtin; have hq := c0; clear hq; go_must (refine wpList_append_own_at _ rfl (.tmp 6) (.tmp 8) 28 rfl B 65 i6 _ 3 24 Try.underlying28 hi6 hz60 hz61 hz62 rfl (by decide) v ks.length (flatA ks) rfl (HH.out.row.alloc _) ⟨w.heap.size, 0, none⟩ 1 1 (akC ⟨2, 0, 0⟩) rfl rfl (three_lit w ⟨2, 0, 0⟩ _) (three_cell _) (by unfold maxLen; omega) (by omega) (by simp; omega) ?_); intro v' w' hown hg _ hnew; go_must (obtain ⟨va, vc, rfl⟩ := own_shape hown; obtain ⟨r1, r2, r3, r4, r5⟩ := HH.out.put (a := ⟨2, 0, 0⟩) hg hown hnew; have R1 : Hid _ := r1; have R2 : Hid _ := r2; have R3 : Hid _ := r3; clear r1 r2 r3 hown hg hnew c0))
  exact bodyPost_end (results_none rfl _ _ _) rfl ⟨rfl, _, R1.out, R2.out, R3.out⟩
theorem bcount_out (a : Int) (hi : Hid (inB a = false)) {c : Nat} (w : World) : Calls Try.prog 23 #[.pointer (some ⟨c, 0, none⟩), .int .i64 a] w fun e w' => e = .returned (.tuple #[.int .u64 0, .int .i64 35]) ∧ w' = w := by
  rcases out_cases hi.out with h | ⟨h, h'⟩
  · go_enter Try.func23, Try.ntmps23
    go_wp2
    go_ret2
    exact ⟨rfl, rfl⟩
  · go_enter Try.func23, Try.ntmps23
    go_wp2
    go_ret2
    exact ⟨rfl, rfl⟩
theorem bmark_out (a : Int) (hi : Hid (inB a = false)) {c : Nat} (w : World) : Calls Try.prog 22 #[.pointer (some ⟨c, 0, none⟩), .int .i64 a] w fun e w' => e = .returned (.tuple #[.int .u64 0, .int .i64 35]) ∧ w' = w := by
  rcases out_cases hi.out with h | ⟨h, h'⟩
  · go_enter Try.func22, Try.ntmps22
    go_wp2
    go_ret2
    exact ⟨rfl, rfl⟩
  · go_enter Try.func22, Try.ntmps22
    go_wp2
    go_ret2
    exact ⟨rfl, rfl⟩
theorem bword_out (a : Int) (hi : Hid (inB a = false)) {c : Nat} (w : World) : Calls Try.prog 19 #[.pointer (some ⟨c, 0, none⟩), .int .i64 a] w fun e w' => e = .returned (.tuple #[.int .u64 0, .int .i64 35]) ∧ w' = w := by
  rcases out_cases hi.out with h | ⟨h, h'⟩
  · go_enter Try.func19, Try.ntmps19
    go_wp2
    go_ret2
    exact ⟨rfl, rfl⟩
  · go_enter Try.func19, Try.ntmps19
    go_wp2
    go_ret2
    exact ⟨rfl, rfl⟩
theorem count_step (ks : List Ak) (a : Int) {k : Nat} (h : k < ks.length) {kk aa nn : Int} (hk : ks.getD k Ak.nil = ⟨kk, aa, nn⟩) : countA (ks.take (k + 1)) a = if kk = 3 ∧ aa = a then addW (countA (ks.take k) a) nn else countA (ks.take k) a := by
  rw [ak_take ks h, countA_snoc, hk]
  rfl
theorem word_step (ks : List Ak) (a : Int) {k : Nat} (h : k < ks.length) {kk aa nn : Int} (hk : ks.getD k Ak.nil = ⟨kk, aa, nn⟩) : wordA (ks.take (k + 1)) a = if kk = 2 then 0 else if kk = 1 ∧ aa = a then nn else wordA (ks.take k) a := by
  rw [ak_take ks h, wordA_snoc, hk]
set_option maxHeartbeats 1600000 in
theorem bcount_in (a : Int) (hi : Hid (inB a = true)) {B c : Nat} {v : Value} {ks : List Ak} (w : World) (h : Bk w B c v ks) {x : Int} (hx : Hid (countA ks a = x)) : Calls Try.prog 23 #[.pointer (some ⟨c, 0, none⟩), .int .i64 a] w fun e w' => e = .returned (.tuple #[.int .u64 x, .int .i64 0]) ∧ w' = w := by
  obtain ⟨h0, h1⟩ : 0 ≤ a ∧ a < 16 := of_decide_eq_true hi.out
  have hn1 : ¬ a < 0 := by omega
  have hn2 : ¬ 15 < a := by omega
  obtain ⟨va, vcap, rfl, hl, hm, c0, hcl⟩ := h.open
  have HCL : Hid (0 < ks.length → ∃ g, va = some ⟨g, 0, none⟩ ∧ g < w.heap.size ∧ ∀ k, k < ks.length → w.cell? ⟨g, k * 3, none⟩ = some (.int .i64 (ks.getD k Ak.nil).k) ∧ w.cell? ⟨g, k * 3 + 1, none⟩ = some (.int .i64 (ks.getD k Ak.nil).a) ∧ w.cell? ⟨g, k * 3 + 2, none⟩ = some (.int .u64 (ks.getD k Ak.nil).n)) := hcl
  clear hcl h
  go_enter Try.func23, Try.ntmps23
  go_wp2
  go_loopw [6, 7] (fun s i wr => ∃ k : Nat, k ≤ ks.length ∧ s = .int .u64 (countA (ks.take k) a) ∧ i = .int .i64 k ∧ w = wr) (fun _ i _ => ks.length - (intOf i).toNat)
  case atStart => exact ⟨0, by omega, rfl, rfl, rfl⟩
  case round =>
    obtain ⟨k, hk, rfl, rfl, rfl⟩ := hrel
    obtain ⟨y, HY⟩ : ∃ y, Hid (countA (ks.take k) a = y) := ⟨_, rfl⟩
    rw [HY.out]
    by_cases hlt : k < ks.length
    · obtain ⟨g, rfl, hgl, hc⟩ := HCL.out (by omega)
      obtain ⟨kk, aa, nn, HK⟩ : ∃ kk aa nn, Hid (ks.getD k Ak.nil = ⟨kk, aa, nn⟩) := ⟨_, _, _, rfl⟩
      obtain ⟨c1, c2, c3⟩ := hc k hlt
      rw [HK.out] at c1 c2 c3
      simp only at c1 c2 c3
      have HST := count_step ks a hlt HK.out
      rw [HY.out] at HST
      have hkI : (k : Int) < ks.length := by omega
      clear hc
      by_cases h3 : kk = 3
      · subst h3
        by_cases haa : aa = a
        · subst haa
          rw [if_pos ⟨rfl, rfl⟩] at HST
          have HST : Hid (countA (ks.take (k + 1)) aa = addW y nn) := HST
          go_wp2
          go_roundw
          case rel => exact ⟨k + 1, by omega, by rw [HST.out]; rfl, by go_num, trivial⟩
          case measure => simp [intOf]; omega
        · rw [if_neg (fun e => haa e.2)] at HST
          have HST : Hid (countA (ks.take (k + 1)) a = y) := HST
          go_wp2
          go_roundw
          case rel => exact ⟨k + 1, by omega, by rw [HST.out], by go_num, trivial⟩
          case measure => simp [intOf]; omega
      · rw [if_neg (fun e => h3 e.1)] at HST
        have HST : Hid (countA (ks.take (k + 1)) a = y) := HST
        go_wp2
        go_roundw
        case rel => exact ⟨k + 1, by omega, by rw [HST.out], by go_num, trivial⟩
        case measure => simp [intOf]; omega
    · obtain rfl : k = ks.length := by omega
      have hyx : y = x := by rw [← HY.out, List.take_length]; exact hx.out
      subst hyx
      clear hlt
      go_wp2
      go_ret2
      exact ⟨rfl, rfl⟩
set_option maxHeartbeats 1600000 in
theorem bword_in (a : Int) (hi : Hid (inB a = true)) {B c : Nat} {v : Value} {ks : List Ak} (w : World) (h : Bk w B c v ks) {x : Int} (hx : Hid (wordA ks a = x)) : Calls Try.prog 19 #[.pointer (some ⟨c, 0, none⟩), .int .i64 a] w fun e w' => e = .returned (.tuple #[.int .u64 x, .int .i64 0]) ∧ w' = w := by
  obtain ⟨h0, h1⟩ : 0 ≤ a ∧ a < 16 := of_decide_eq_true hi.out
  have hn1 : ¬ a < 0 := by omega
  have hn2 : ¬ 15 < a := by omega
  obtain ⟨va, vcap, rfl, hl, hm, c0, hcl⟩ := h.open
  have HCL : Hid (0 < ks.length → ∃ g, va = some ⟨g, 0, none⟩ ∧ g < w.heap.size ∧ ∀ k, k < ks.length → w.cell? ⟨g, k * 3, none⟩ = some (.int .i64 (ks.getD k Ak.nil).k) ∧ w.cell? ⟨g, k * 3 + 1, none⟩ = some (.int .i64 (ks.getD k Ak.nil).a) ∧ w.cell? ⟨g, k * 3 + 2, none⟩ = some (.int .u64 (ks.getD k Ak.nil).n)) := hcl
  clear hcl h
  go_enter Try.func19, Try.ntmps19
  go_wp2
  go_loopw [6] (fun i wr => ∃ k : Nat, k ≤ ks.length ∧ i = .int .i64 ((k : Int) - 1) ∧ Hid (wordA (ks.take k) a = x) ∧ w = wr) (fun i _ => (intOf i + 1).toNat)
  case atStart => exact ⟨ks.length, by omega, by go_num, by show _ = _; rw [List.take_length]; exact hx.out, rfl⟩
  case round =>
    obtain ⟨k, hk, rfl, HW, rfl⟩ := hrel
    cases k with
    | zero =>
      have hx0 : x = 0 := HW.out.symm
      subst hx0
      rw [show ((0 : Nat) : Int) - 1 = -1 by omega]
      go_wp2
      go_ret2
      exact ⟨rfl, rfl⟩
    | succ k =>
      rw [show ((k + 1 : Nat) : Int) - 1 = (k : Int) by omega]
      have hlt : k < ks.length := by omega
      obtain ⟨g, rfl, hgl, hc⟩ := HCL.out (by omega)
      obtain ⟨kk, aa, nn, HK⟩ : ∃ kk aa nn, Hid (ks.getD k Ak.nil = ⟨kk, aa, nn⟩) := ⟨_, _, _, rfl⟩
      obtain ⟨c1, c2, c3⟩ := hc k hlt
      rw [HK.out] at c1 c2 c3
      simp only at c1 c2 c3
      have HST := word_step ks a hlt HK.out
      rw [HW.out] at HST
      have hkI : (k : Int) < ks.length := by omega
      clear hc
      by_cases h2 : kk = 2
      · subst h2
        rw [if_pos rfl] at HST
        subst HST
        go_wp2
        go_ret2
        exact ⟨rfl, rfl⟩
      · rw [if_neg h2] at HST
        by_cases h1 : kk = 1
        · subst h1
          by_cases haa : aa = a
          · subst haa
            rw [if_pos ⟨rfl, rfl⟩] at HST
            subst HST
            go_wp2
            go_ret2
            exact ⟨rfl, rfl⟩
          · rw [if_neg (fun e => haa e.2)] at HST
            have HST : Hid (wordA (ks.take k) a = x) := HST.symm
            go_wp2
            go_roundw
            case rel => exact ⟨k, by omega, by go_num, HST.out, trivial⟩
            case measure => simp [intOf]
        · rw [if_neg (fun e => h1 e.1)] at HST
          have HST : Hid (wordA (ks.take k) a = x) := HST.symm
          go_wp2
          go_roundw
          case rel => exact ⟨k, by omega, by go_num, HST.out, trivial⟩
          case measure => simp [intOf]
set_option maxHeartbeats 800000 in
theorem bmark_in (a : Int) (hi : Hid (inB a = true)) {B c : Nat} {v : Value} {ks : List Ak} (w : World) (h : Bk w B c v ks) (hB : B ≤ w.heap.size) (hk : ks.length ≤ 100000) {x : Int} (hx : Hid (countA (ks ++ [⟨3, a, 1⟩]) a = x)) : Calls Try.prog 22 #[.pointer (some ⟨c, 0, none⟩), .int .i64 a] w fun e w' => e = .returned (.tuple #[.int .u64 x, .int .i64 0]) ∧ ∃ v', Bk w' B c v' (ks ++ [⟨3, a, 1⟩]) ∧ Chg w w' (bkS c v) ∧ RowNew w v v' := by
  obtain ⟨h0, h1⟩ : 0 ≤ a ∧ a < 16 := of_decide_eq_true hi.out
  have hn1 : ¬ a < 0 := by omega
  have hn2 : ¬ 15 < a := by omega
  obtain ⟨i6, hi6, hz60, hz61, hz62⟩ := info_parts (P := Try.prog) (e := 65) (z := .agg #[.int .i64 0, .int .i64 0, .int .u64 0]) (size := 3) (bytes := 24) rfl
  have HH : Hid (Bk w B c v ks) := h
  have c0 : w.cell? ⟨c, 0, none⟩ = some v := h.hp.cell rfl
  clear h
  go_enter Try.func22, Try.ntmps22
  go_wp2_with (first
    | (at_builtin; have hq := c0; clear hq; go_must (refine wpList_append_own_at _ rfl (.tmp 16) (.tmp 19) 28 rfl B 65 i6 _ 3 24 Try.underlying28 hi6 hz60 hz61 hz62 rfl (by decide) v ks.length (flatA ks) rfl (HH.out.row.alloc _) ⟨w.heap.size, 0, none⟩ 1 1 (akC ⟨3, a, 1⟩) rfl rfl (three_lit w ⟨3, a, 1⟩ _) (three_cell _) (by unfold maxLen; omega) (by omega) (by simp; omega) ?_); intro v' w' hown hg _ hnew; go_must (obtain ⟨va, vc, rfl⟩ := own_shape hown; obtain ⟨r1, r2, r3, r4, r5⟩ := HH.out.put (a := ⟨3, a, 1⟩) hg hown hnew; have R1 : Hid _ := r1; have R2 : Hid _ := r2; have R3 : Hid _ := r3; clear r1 r2 r3 hown hg hnew c0))
    | (go_at_call 23; go_must (refine (bcount_in a hi _ R1.out hx).mono ?_); rintro e w7 ⟨rfl, hw7⟩; go_must (subst hw7)))
  go_ret2
  exact ⟨rfl, _, R1.out, R2.out, R3.out⟩
end Go.Proofs.Ytmfgpaigabkbbaa
