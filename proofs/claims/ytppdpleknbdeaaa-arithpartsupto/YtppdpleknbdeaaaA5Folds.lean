/-
  What arith.Fold and the document's Fold answer at every operation and every list; the examples that each law asks first. Memory that was there stays. Condition: numbers of 64 bits lie where the slice says.
-/
import Derived.Test.YtppdpleknbdeaaaA5Fold
namespace Go.Proofs.Ytppdpleknbdeaaa
open Go.RowKit
set_option linter.unusedVariables false

theorem fold_none (op : Int) (a : Option Addr) (len cap : Nat) (w : World) (ho : isOp op = false) :
    Calls Try.prog 13 #[.int .i64 op, .slice a len cap] w fun e w' => e = .returned (.tuple #[.int .u64 0, .bool false]) ∧ w = w' := by
  go_enter Try.func13, Try.ntmps13
  go_wp2_with (go_at_call 9; refine (do_any _ _ _ _ (by omega) (by omega)).mono ?_; rintro e w' ⟨rfl, rfl⟩)
  go_ret2
  exact ⟨rfl, rfl⟩
theorem fold_nil (op : Int) (a : Option Addr) (cap : Nat) (w : World) (ho : isOp op = true) :
    Calls Try.prog 13 #[.int .i64 op, .slice a 0 cap] w fun e w' => e = .returned (.tuple #[.int .u64 0, .bool false]) ∧ w = w' := by
  go_enter Try.func13, Try.ntmps13
  go_wp2_with (go_at_call 9; refine (do_any _ _ _ _ (by omega) (by omega)).mono ?_; rintro e w' ⟨rfl, rfl⟩)
  go_ret2
  exact ⟨rfl, rfl⟩
theorem Sees.in64 {w : World} {v : Value} {xs : List Int} (h : Sees .u64 w v xs) : ∀ x ∈ xs, W64 x := fun x hx => by
  have := h.words x hx
  unfold W64
  omega
/-- arith.Fold. -/
theorem fold_any (op : Int) (v : Value) (xs : List Int) (w : World) (h : Sees .u64 w v xs) :
    Calls Try.prog 13 #[.int .i64 op, v] w fun e w' => e = .returned (.tuple #[.int .u64 (foldL op xs), .bool (foldB op xs)]) ∧ w = w' := by
  have hin := h.in64
  obtain ⟨a, cap, rfl, hl, hm, hn0, hw, hs⟩ := h
  cases ho : isOp op with
  | false =>
    have h1 : foldL op xs = 0 := by unfold foldL; rw [ho]; rfl
    have h2 : foldB op xs = false := by unfold foldB; rw [ho]; rfl
    rw [h1, h2]
    exact fold_none op a _ cap w ho
  | true =>
    cases xs with
    | nil =>
      have h1 : foldL op [] = 0 := by unfold foldL; rw [ho]; rfl
      have h2 : foldB op [] = false := by unfold foldB; rw [ho]; rfl
      rw [h1, h2]
      exact fold_nil op a cap w ho
    | cons x r =>
      have h1 : foldL op (x :: r) = r.foldl (doL op) x := by unfold foldL; rw [ho]; rfl
      have h2 : foldB op (x :: r) = true := by unfold foldB; rw [ho]; rfl
      rw [h1, h2]
      obtain ⟨b, off, rfl, hb, hc⟩ := hs (by simp)
      refine fold_some op b off cap x r w ho (hin x (by simp)) (fun y hy => hin y (by simp [hy])) (by simpa using hl) hm hb ?_ ?_
      · simpa using hc 0 (by simp)
      · intro i hi
        have := hc (i + 1) (by simp; omega)
        rw [Nat.add_assoc, Nat.add_comm 1 i]
        simpa using this

theorem rfold_some (op : Int) (b off cap : Nat) (x : Int) (r : List Int) (w : World) (ho : 1 ≤ op ∧ op ≤ 10) (hx : W64 x) (hr : ∀ y ∈ r, W64 y) (hm : r.length + 1 ≤ cap) (hm2 : cap ≤ maxLen)
    (h0 : w.cell? ⟨b, off, none⟩ = some (.int .u64 x)) (hc : ∀ i, i < r.length → w.cell? ⟨b, off + (i + 1), none⟩ = some (.int .u64 (r.getD i 0))) :
    Calls Try.prog 14 #[.int .i64 op, .slice (some ⟨b, off, none⟩) (r.length + 1) cap] w fun e w' =>
      e = .returned (.tuple #[.int .u64 (r.foldl (doL op) x), .bool true]) ∧ w = w' := by
  have HC : Hid (∀ i, i < r.length → w.cell? ⟨b, off + (i + 1), none⟩ = some (.int .u64 (r.getD i 0))) := hc
  have HW : Hid (∀ y ∈ r, W64 y) := hr
  clear hc hr
  unfold maxLen at hm2
  unfold W64 at hx
  have hne0 : (((r.length : Int) + 1) == 0) = false := by
    have : (r.length : Int) + 1 ≠ 0 := by omega
    simpa using this
  go_enter Try.func14, Try.ntmps14
  go_wp2
  go_loop [6, 7] (fun n i => ∃ (k : Nat) (N : Int), k ≤ r.length ∧ i = .int .i64 (k + 1 : Nat) ∧ n = .int .u64 N ∧ 0 ≤ N ∧ N ≤ 18446744073709551615 ∧ N = (r.take k).foldl (doL op) x) (fun _ i => r.length + 1 - (intOf i).toNat)
  case atStart => exact ⟨0, x, by omega, rfl, rfl, by omega, by omega, rfl⟩
  case round =>
    obtain ⟨k, N, hk, rfl, rfl, hN0, hN1, hN⟩ := hrel
    have HN : Hid (N = (r.take k).foldl (doL op) x) := hN
    clear hN
    by_cases hlt : k < r.length
    · obtain ⟨c, hcell, hc0, hc1, HD⟩ : ∃ c, w.cell? ⟨b, off + (k + 1), none⟩ = some (.int .u64 c) ∧ 0 ≤ c ∧ c ≤ 18446744073709551615 ∧ Hid (doL op N c = (r.take (k + 1)).foldl (doL op) x) :=
        ⟨_, HC.out k hlt, (HW.out _ (getD_mem r k hlt)).1, (HW.out _ (getD_mem r k hlt)).2, by rw [foldl_take op x r k hlt, HN.out]; rfl⟩
      have hin := doL_in op (a := N) (b := c) ⟨hN0, hN1⟩ ⟨hc0, hc1⟩
      have HI : Hid (W64 (doL op N c)) := hin
      clear hin HN
      go_wp2_with (go_at_call 10; refine (rdo_any _ _ _ _ (by omega) (by omega)).mono ?_; rintro e w' ⟨rfl, rfl⟩)
      go_round
      case rel => exact ⟨k + 1, _, by omega, by go_num, rfl, HI.out.1, HI.out.2, HD.out⟩
      case measure => simp [intOf]; omega
    · have HE : Hid (N = r.foldl (doL op) x) := by
        have h := HN.out
        rw [List.take_of_length_le (by omega)] at h
        exact h
      clear HN
      go_wp2
      go_ret2
      exact ⟨ret2 HE.out rfl, rfl⟩
theorem rfold_none (op : Int) (a : Option Addr) (len cap : Nat) (w : World) (ho : op < 1 ∨ 10 < op ∨ len = 0) :
    Calls Try.prog 14 #[.int .i64 op, .slice a len cap] w fun e w' => e = .returned (.tuple #[.int .u64 0, .bool false]) ∧ w = w' := by
  by_cases h1 : op < 1
  · go_enter Try.func14, Try.ntmps14
    go_wp2
    go_ret2
    exact ⟨rfl, rfl⟩
  · by_cases h2 : 10 < op
    · go_enter Try.func14, Try.ntmps14
      go_wp2
      go_ret2
      exact ⟨rfl, rfl⟩
    · obtain rfl : len = 0 := by omega
      clear ho
      go_enter Try.func14, Try.ntmps14
      go_wp2
      go_ret2
      exact ⟨rfl, rfl⟩
/-- The document's Fold. -/
theorem rfold_any (op : Int) (v : Value) (xs : List Int) (w : World) (h : Sees .u64 w v xs) :
    Calls Try.prog 14 #[.int .i64 op, v] w fun e w' => e = .returned (.tuple #[.int .u64 (foldL op xs), .bool (foldB op xs)]) ∧ w = w' := by
  have hin := h.in64
  obtain ⟨a, cap, rfl, hl, hm, hn0, hw, hs⟩ := h
  cases ho : isOp op with
  | false =>
    have h1 : foldL op xs = 0 := by unfold foldL; rw [ho]; rfl
    have h2 : foldB op xs = false := by unfold foldB; rw [ho]; rfl
    rw [h1, h2]
    have := of_decide_eq_false ho
    exact rfold_none op a _ cap w (by omega)
  | true =>
    have hop := of_decide_eq_true ho
    cases xs with
    | nil =>
      have h1 : foldL op [] = 0 := by unfold foldL; rw [ho]; rfl
      have h2 : foldB op [] = false := by unfold foldB; rw [ho]; rfl
      rw [h1, h2]
      exact rfold_none op a _ cap w (.inr (.inr rfl))
    | cons x r =>
      have h1 : foldL op (x :: r) = r.foldl (doL op) x := by unfold foldL; rw [ho]; rfl
      have h2 : foldB op (x :: r) = true := by unfold foldB; rw [ho]; rfl
      rw [h1, h2]
      obtain ⟨b, off, rfl, hb, hc⟩ := hs (by simp)
      refine rfold_some op b off cap x r w hop (hin x (by simp)) (fun y hy => hin y (by simp [hy])) (by simpa using hl) hm ?_ ?_
      · simpa using hc 0 (by simp)
      · intro i hi
        have := hc (i + 1) (by simp; omega)
        simpa using this

/-! The same, what is answered as letters. -/
theorem do_as {op a b n : Int} {c : Bool} (h1 : Hid (n = doL op a b)) (h2 : Hid (c = isOp op)) (w : World) (ha : 0 ≤ a ∧ a ≤ 18446744073709551615) (hb : 0 ≤ b ∧ b ≤ 18446744073709551615) :
    Calls Try.prog 9 #[.int .i64 op, .int .u64 a, .int .u64 b] w fun e w' => e = .returned (.tuple #[.int .u64 n, .bool c]) ∧ w = w' := by
  rw [h1.out, h2.out]; exact do_any op a b w ha hb
theorem rdo_as {op a b n : Int} {c : Bool} (h1 : Hid (n = doL op a b)) (h2 : Hid (c = isOp op)) (w : World) (ha : 0 ≤ a ∧ a ≤ 18446744073709551615) (hb : 0 ≤ b ∧ b ≤ 18446744073709551615) :
    Calls Try.prog 10 #[.int .i64 op, .int .u64 a, .int .u64 b] w fun e w' => e = .returned (.tuple #[.int .u64 n, .bool c]) ∧ w = w' := by
  rw [h1.out, h2.out]; exact rdo_any op a b w ha hb
theorem holds_as {op a b : Int} {n c : Bool} (h1 : Hid (n = holdL op a b)) (h2 : Hid (c = isCond op)) (w : World) (ha : 0 ≤ a ∧ a ≤ 18446744073709551615) (hb : 0 ≤ b ∧ b ≤ 18446744073709551615) :
    Calls Try.prog 11 #[.int .i64 op, .int .u64 a, .int .u64 b] w fun e w' => e = .returned (.tuple #[.bool n, .bool c]) ∧ w = w' := by
  rw [h1.out, h2.out]; exact holds_any op a b w ha hb
theorem rholds_as {op a b : Int} {n c : Bool} (h1 : Hid (n = holdL op a b)) (h2 : Hid (c = isCond op)) (w : World) (ha : 0 ≤ a ∧ a ≤ 18446744073709551615) (hb : 0 ≤ b ∧ b ≤ 18446744073709551615) :
    Calls Try.prog 12 #[.int .i64 op, .int .u64 a, .int .u64 b] w fun e w' => e = .returned (.tuple #[.bool n, .bool c]) ∧ w = w' := by
  rw [h1.out, h2.out]; exact rholds_any op a b w ha hb

/-- The examples. -/
theorem awake_any (w : World) : Calls Try.prog 8 #[] w fun e w' => e = .returned (.bool true) ∧ Below w.heap.size w w' := by
  go_enter Try.func8, Try.ntmps8
  go_wp2_with (first
    | (go_at_call 9; go_must (refine (do_any 5 7 4 _ (by omega) (by omega)).mono ?_); rintro e w' ⟨rfl, rfl⟩)
    | (go_at_call 11; go_must (refine (holds_any 18 1 18446744073709551615 _ (by omega) (by omega)).mono ?_); rintro e w' ⟨rfl, rfl⟩)
    | (go_at_call 13; go_must (refine (fold_any 2 _ [10, 3, 4] _ (Sees.lit w .u64 _ [10, 3, 4] _ 3 rfl rfl (by decide) (by decide))).mono ?_); rintro e w' ⟨rfl, rfl⟩))
  go_ret
  exact ⟨retb (by decide), (Below.refl _ _).alloc (Nat.le_refl _) _⟩
end Go.Proofs.Ytppdpleknbdeaaa
