/-
  The law LebOrders' walk. Conditions: two numbers of 64 bits, at most 17592186043904 numbers.
-/
import Derived.Test.YtbhiaclgakhcdaaVKit
namespace Go.Proofs.Ytbhiaclgakhcdaa
open Go.RowKit
set_option linter.unusedVariables false

set_option maxHeartbeats 1600000 in
theorem orders_walk (a b : Int) (v : Value) (ns : List Int) (w : World) (ha : 0 ≤ a ∧ a ≤ 18446744073709551615) (hb : 0 ≤ b ∧ b ≤ 18446744073709551615) (hs : Sees .u64 w v ns) (hn : ns.length ≤ 17592186043904) :
    Calls Try.prog 5 #[.int .u64 a, .int .u64 b, v] w fun e w' => e = .returned (.bool true) ∧ Below w.heap.size w w' := by
  have la := enc_len a
  have lb := enc_len b
  have ln := (encs_len ns).1
  have hby2 : ∀ x ∈ encs [a, b], 0 ≤ x ∧ x ≤ 255 := encs_byte (by intro x hx; simp at hx; rcases hx with rfl | rfl <;> omega)
  have l2 : (encs [a, b]).length ≤ 20 := by have := (encs_len [a, b]).1; simpa using this
  have hwab : ∀ x ∈ [a, b], (Lit.int .u64 x).wf = true := by intro x hx; simp at hx; rcases hx with rfl | rfl <;> exact WalkArith.wf_u64 (by omega)
  by_cases hab : a < b
  · have hmono := enc_mono (Int.le_of_lt hab)
    have hd1 : decide ((enc b).length < (enc a).length) = false := decide_eq_false (by omega)
    have hd2 : decide (((enc a).length : Int) < 1) = false := decide_eq_false (by omega)
    have hd3 : decide ((10 : Int) < ((enc a).length : Int)) = false := decide_eq_false (by omega)
    obtain ⟨i5, hi5, hz50, hz51, hz52⟩ := info_parts Try.info5
    obtain ⟨i31, hi31, hz310, hz311, hz312⟩ := info_parts Try.info31
    have hby7 : ∀ x ∈ encs (ns ++ [a, b]), 0 ≤ x ∧ x ≤ 255 := encs_byte (by intro x hx; rcases List.mem_append.1 hx with hx | hx; exact hs.words x hx; simp at hx; rcases hx with rfl | rfl <;> omega)
    have hby3 : ∀ x ∈ encs ns ++ encs [a, b], 0 ≤ x ∧ x ≤ 255 := by rw [← encs_append]; exact hby7
    go_enter Try.func5, Try.ntmps5
    go_wp2_with (first
      | (go_at_call 6; go_must (refine (awake_any _).mono ?_); rintro e w1 ⟨rfl, hbe⟩)
      | (go_at_call 11; go_must (refine (width_one _ _ _ (by simp) (by omega)).mono ?_); rintro e w2 ⟨rfl, rfl⟩)
      | (go_at_call 7; fail))
    have hs1 := ((((hs.below hbe (Nat.le_refl _)).alloc (Obj.cells #[Value.int IntKind.u64 a] 31)).alloc (Obj.cells #[Value.int IntKind.u64 b] 31)).alloc (Obj.cells #[Value.int IntKind.u64 a] 31)).alloc (Obj.cells #[Value.int IntKind.u64 a] 31)
    have hB : Below w.heap.size w ((((w1.alloc (Obj.cells #[Value.int IntKind.u64 a] 31)).alloc (Obj.cells #[Value.int IntKind.u64 b] 31)).alloc (Obj.cells #[Value.int IntKind.u64 a] 31)).alloc (Obj.cells #[Value.int IntKind.u64 a] 31)) := by
      have := hbe.size
      exact (((hbe.alloc (by omega) _).alloc (by simp; omega) _).alloc (by simp; omega) _).alloc (by simp; omega) _
    clear hbe hs hd1 hd2 hd3
    generalize ((((w1.alloc (Obj.cells #[Value.int IntKind.u64 a] 31)).alloc (Obj.cells #[Value.int IntKind.u64 b] 31)).alloc (Obj.cells #[Value.int IntKind.u64 a] 31)).alloc (Obj.cells #[Value.int IntKind.u64 a] 31)) = W at hs1 hB ⊢
    refine (put_any v ns W hs1 (by omega)).mono ?_
    rintro e w2 ⟨v1, rfl, hown1, hbe1⟩
    have hz1 := hB.size
    have hz2 := hbe1.size
    go_wp2_with (first
      | (go_at_call 7; have hq := hbe1; clear hq; refine (put_two a b _ w2 rfl (by omega) (by omega)).mono ?_; rintro e w3 ⟨v2, rfl, hown2, hbe2⟩; have hbe3 := hbe1.trans (hbe2.mono hz2); have hown1' := own_below hown1 hbe2 (Nat.le_refl _); have hsee2 := Sees.own hown2 (wf_bytes hby2); have hz3 := hbe2.size; clear hown1 hown2 hbe2 hbe1)
      | (at_builtin; have hq := hown1'; clear hq; refine wpList_append_sees rfl (.tmp 33) (.tmp 37) 25 rfl _ 5 i5 (.int .u8 0) 1 Try.underlying25 hi5 hz50 hz51 hz52 rfl .u8 _ _ rfl hown1' _ _ rfl hsee2 (by unfold maxLen; omega) (by omega) (by omega) ?_; intro v3 w4 hown3 hg3; go_must (have hb4 := below_grown hown1' hg3 (by omega); have hbe4 := hbe3.trans hb4; have hz4 := hb4.size; have hs4 := hs1.below hbe4 (Nat.le_refl _); clear hown1' hsee2 hg3 hb4 hbe3))
      | (at_builtin; have hq := hs4; clear hq; refine wpList_append_sees rfl (.tmp 39) (.tmp 40) 22 rfl w4.heap.size 31 i31 (.int .u64 0) 8 Try.underlying22 hi31 hz310 hz311 hz312 rfl .u64 _ [] rfl (World.ownsRow_lit w4 #[] 0 (Nat.le_refl _) (by simp [maxLen]) rfl) _ _ rfl (hs4.alloc _) (by simp [maxLen]; omega) (by simp; omega) (by simp) ?_; intro v4 w5 hown4 hg4; go_must (have hb5 := below_grown (World.ownsRow_lit w4 #[] 0 (Nat.le_refl w4.heap.size) (by simp [maxLen]) rfl) hg4 (by simp); have hb5 : Below w4.heap.size w4 w5 := ((Below.refl _ _).alloc (Nat.le_refl _) _).trans hb5; have hz5 := hb5.size; clear hg4 hs4; simp only [List.nil_append] at hown4))
      | (at_builtin; have hq := hown4; clear hq; refine wpList_append_sees rfl (.tmp 41) (.tmp 44) 22 rfl w4.heap.size 31 i31 (.int .u64 0) 8 Try.underlying22 hi31 hz310 hz311 hz312 rfl .u64 _ ns rfl (hown4.alloc _) _ [a, b] rfl (Sees.lit w5 .u64 31 [a, b] _ 2 rfl rfl (by simp) hwab) (by simp [maxLen]; omega) (by simp; omega) (by simp; omega) ?_; intro v6 w6 hown6 hg6; go_must (have hb6 := below_grown (hown4.alloc _) hg6 (by simp; omega); have hb6 : Below w4.heap.size w5 w6 := ((Below.refl _ _).alloc (by omega) _).trans hb6; have hb6 := hb5.trans hb6; have hz6 := hb6.size; have hbe6 := hbe4.trans (hb6.mono (by omega)); have hsee6 := Sees.own hown6 (by intro x hx; rcases List.mem_append.1 hx with hx | hx; exact hs1.wf x hx; exact hwab x hx); clear hg6 hown6 hown4))
      | (go_at_call 7; go_must (refine (put_any _ (ns ++ [a, b]) _ hsee6 (by simp; omega)).mono ?_); rintro e w7 ⟨v7, rfl, hown7, hbe7⟩; have hb7 := hb6.trans (hbe7.mono hz6); have hown3' := own_below hown3 hb7 (Nat.le_refl _); clear hown3)
      | (go_at_call 9; go_must (refine (same_any v3 v7 (encs ns ++ encs [a, b]) (encs (ns ++ [a, b])) _ (Sees.own hown3' (wf_bytes hby3)) (Sees.own hown7 (wf_bytes hby7))).mono ?_); rintro e w8 ⟨rfl, n8, rfl⟩))
    have hend : Below w.heap.size w (w7.drewN n8) := below_drewN (hB.trans ((hbe4.trans (hb7.mono (by omega))).mono hz1)) n8
    go_ret
    exact ⟨retb (eqB_true (encs_append ns [a, b]).symm), hend⟩
  by_cases hne : a = b
  · subst hne
    have hd1 : decide ((enc a).length < (enc a).length) = false := decide_eq_false (by omega)
    have hd2 : decide (((enc a).length : Int) < 1) = false := decide_eq_false (by omega)
    have hd3 : decide ((10 : Int) < ((enc a).length : Int)) = false := decide_eq_false (by omega)
    obtain ⟨i5, hi5, hz50, hz51, hz52⟩ := info_parts Try.info5
    obtain ⟨i31, hi31, hz310, hz311, hz312⟩ := info_parts Try.info31
    have hby7 : ∀ x ∈ encs (ns ++ [a, a]), 0 ≤ x ∧ x ≤ 255 := encs_byte (by intro x hx; rcases List.mem_append.1 hx with hx | hx; exact hs.words x hx; simp at hx; rcases hx with rfl | rfl <;> omega)
    have hby3 : ∀ x ∈ encs ns ++ encs [a, a], 0 ≤ x ∧ x ≤ 255 := by rw [← encs_append]; exact hby7
    go_enter Try.func5, Try.ntmps5
    go_wp2_with (first
      | (go_at_call 6; go_must (refine (awake_any _).mono ?_); rintro e w1 ⟨rfl, hbe⟩)
      | (go_at_call 11; go_must (refine (width_one _ _ _ (by simp) (by omega)).mono ?_); rintro e w2 ⟨rfl, rfl⟩)
      | (go_at_call 7; fail))
    have hs1 := ((((hs.below hbe (Nat.le_refl _)).alloc (Obj.cells #[Value.int IntKind.u64 a] 31)).alloc (Obj.cells #[Value.int IntKind.u64 a] 31)).alloc (Obj.cells #[Value.int IntKind.u64 a] 31)).alloc (Obj.cells #[Value.int IntKind.u64 a] 31)
    have hB : Below w.heap.size w ((((w1.alloc (Obj.cells #[Value.int IntKind.u64 a] 31)).alloc (Obj.cells #[Value.int IntKind.u64 a] 31)).alloc (Obj.cells #[Value.int IntKind.u64 a] 31)).alloc (Obj.cells #[Value.int IntKind.u64 a] 31)) := by
      have := hbe.size
      exact (((hbe.alloc (by omega) _).alloc (by simp; omega) _).alloc (by simp; omega) _).alloc (by simp; omega) _
    clear hbe hs hd1 hd2 hd3
    generalize ((((w1.alloc (Obj.cells #[Value.int IntKind.u64 a] 31)).alloc (Obj.cells #[Value.int IntKind.u64 a] 31)).alloc (Obj.cells #[Value.int IntKind.u64 a] 31)).alloc (Obj.cells #[Value.int IntKind.u64 a] 31)) = W at hs1 hB ⊢
    refine (put_any v ns W hs1 (by omega)).mono ?_
    rintro e w2 ⟨v1, rfl, hown1, hbe1⟩
    have hz1 := hB.size
    have hz2 := hbe1.size
    go_wp2_with (first
      | (go_at_call 7; have hq := hbe1; clear hq; refine (put_two a a _ w2 rfl (by omega) (by omega)).mono ?_; rintro e w3 ⟨v2, rfl, hown2, hbe2⟩; have hbe3 := hbe1.trans (hbe2.mono hz2); have hown1' := own_below hown1 hbe2 (Nat.le_refl _); have hsee2 := Sees.own hown2 (wf_bytes hby2); have hz3 := hbe2.size; clear hown1 hown2 hbe2 hbe1)
      | (at_builtin; have hq := hown1'; clear hq; refine wpList_append_sees rfl (.tmp 33) (.tmp 37) 25 rfl _ 5 i5 (.int .u8 0) 1 Try.underlying25 hi5 hz50 hz51 hz52 rfl .u8 _ _ rfl hown1' _ _ rfl hsee2 (by unfold maxLen; omega) (by omega) (by omega) ?_; intro v3 w4 hown3 hg3; go_must (have hb4 := below_grown hown1' hg3 (by omega); have hbe4 := hbe3.trans hb4; have hz4 := hb4.size; have hs4 := hs1.below hbe4 (Nat.le_refl _); clear hown1' hsee2 hg3 hb4 hbe3))
      | (at_builtin; have hq := hs4; clear hq; refine wpList_append_sees rfl (.tmp 39) (.tmp 40) 22 rfl w4.heap.size 31 i31 (.int .u64 0) 8 Try.underlying22 hi31 hz310 hz311 hz312 rfl .u64 _ [] rfl (World.ownsRow_lit w4 #[] 0 (Nat.le_refl _) (by simp [maxLen]) rfl) _ _ rfl (hs4.alloc _) (by simp [maxLen]; omega) (by simp; omega) (by simp) ?_; intro v4 w5 hown4 hg4; go_must (have hb5 := below_grown (World.ownsRow_lit w4 #[] 0 (Nat.le_refl w4.heap.size) (by simp [maxLen]) rfl) hg4 (by simp); have hb5 : Below w4.heap.size w4 w5 := ((Below.refl _ _).alloc (Nat.le_refl _) _).trans hb5; have hz5 := hb5.size; clear hg4 hs4; simp only [List.nil_append] at hown4))
      | (at_builtin; have hq := hown4; clear hq; refine wpList_append_sees rfl (.tmp 41) (.tmp 44) 22 rfl w4.heap.size 31 i31 (.int .u64 0) 8 Try.underlying22 hi31 hz310 hz311 hz312 rfl .u64 _ ns rfl (hown4.alloc _) _ [a, a] rfl (Sees.lit w5 .u64 31 [a, a] _ 2 rfl rfl (by simp) hwab) (by simp [maxLen]; omega) (by simp; omega) (by simp; omega) ?_; intro v6 w6 hown6 hg6; go_must (have hb6 := below_grown (hown4.alloc _) hg6 (by simp; omega); have hb6 : Below w4.heap.size w5 w6 := ((Below.refl _ _).alloc (by omega) _).trans hb6; have hb6 := hb5.trans hb6; have hz6 := hb6.size; have hbe6 := hbe4.trans (hb6.mono (by omega)); have hsee6 := Sees.own hown6 (by intro x hx; rcases List.mem_append.1 hx with hx | hx; exact hs1.wf x hx; exact hwab x hx); clear hg6 hown6 hown4))
      | (go_at_call 7; go_must (refine (put_any _ (ns ++ [a, a]) _ hsee6 (by simp; omega)).mono ?_); rintro e w7 ⟨v7, rfl, hown7, hbe7⟩; have hb7 := hb6.trans (hbe7.mono hz6); have hown3' := own_below hown3 hb7 (Nat.le_refl _); clear hown3)
      | (go_at_call 9; go_must (refine (same_any v3 v7 (encs ns ++ encs [a, a]) (encs (ns ++ [a, a])) _ (Sees.own hown3' (wf_bytes hby3)) (Sees.own hown7 (wf_bytes hby7))).mono ?_); rintro e w8 ⟨rfl, n8, rfl⟩))
    have hend : Below w.heap.size w (w7.drewN n8) := below_drewN (hB.trans ((hbe4.trans (hb7.mono (by omega))).mono hz1)) n8
    go_ret
    exact ⟨retb (eqB_true (encs_append ns [a, a]).symm), hend⟩
  · have hba : b < a := by omega
    have hmono := enc_mono (Int.le_of_lt hba)
    clear hab hne
    have hd1 : decide ((enc a).length < (enc b).length) = false := decide_eq_false (by omega)
    have hd2 : decide (((enc a).length : Int) < 1) = false := decide_eq_false (by omega)
    have hd3 : decide ((10 : Int) < ((enc a).length : Int)) = false := decide_eq_false (by omega)
    obtain ⟨i5, hi5, hz50, hz51, hz52⟩ := info_parts Try.info5
    obtain ⟨i31, hi31, hz310, hz311, hz312⟩ := info_parts Try.info31
    have hby7 : ∀ x ∈ encs (ns ++ [a, b]), 0 ≤ x ∧ x ≤ 255 := encs_byte (by intro x hx; rcases List.mem_append.1 hx with hx | hx; exact hs.words x hx; simp at hx; rcases hx with rfl | rfl <;> omega)
    have hby3 : ∀ x ∈ encs ns ++ encs [a, b], 0 ≤ x ∧ x ≤ 255 := by rw [← encs_append]; exact hby7
    go_enter Try.func5, Try.ntmps5
    go_wp2_with (first
      | (go_at_call 6; go_must (refine (awake_any _).mono ?_); rintro e w1 ⟨rfl, hbe⟩)
      | (go_at_call 11; go_must (refine (width_one _ _ _ (by simp) (by omega)).mono ?_); rintro e w2 ⟨rfl, rfl⟩)
      | (go_at_call 7; fail))
    have hs1 := ((((hs.below hbe (Nat.le_refl _)).alloc (Obj.cells #[Value.int IntKind.u64 b] 31)).alloc (Obj.cells #[Value.int IntKind.u64 a] 31)).alloc (Obj.cells #[Value.int IntKind.u64 a] 31)).alloc (Obj.cells #[Value.int IntKind.u64 a] 31)
    have hB : Below w.heap.size w ((((w1.alloc (Obj.cells #[Value.int IntKind.u64 b] 31)).alloc (Obj.cells #[Value.int IntKind.u64 a] 31)).alloc (Obj.cells #[Value.int IntKind.u64 a] 31)).alloc (Obj.cells #[Value.int IntKind.u64 a] 31)) := by
      have := hbe.size
      exact (((hbe.alloc (by omega) _).alloc (by simp; omega) _).alloc (by simp; omega) _).alloc (by simp; omega) _
    clear hbe hs hd1 hd2 hd3
    generalize ((((w1.alloc (Obj.cells #[Value.int IntKind.u64 b] 31)).alloc (Obj.cells #[Value.int IntKind.u64 a] 31)).alloc (Obj.cells #[Value.int IntKind.u64 a] 31)).alloc (Obj.cells #[Value.int IntKind.u64 a] 31)) = W at hs1 hB ⊢
    refine (put_any v ns W hs1 (by omega)).mono ?_
    rintro e w2 ⟨v1, rfl, hown1, hbe1⟩
    have hz1 := hB.size
    have hz2 := hbe1.size
    go_wp2_with (first
      | (go_at_call 7; have hq := hbe1; clear hq; refine (put_two a b _ w2 rfl (by omega) (by omega)).mono ?_; rintro e w3 ⟨v2, rfl, hown2, hbe2⟩; have hbe3 := hbe1.trans (hbe2.mono hz2); have hown1' := own_below hown1 hbe2 (Nat.le_refl _); have hsee2 := Sees.own hown2 (wf_bytes hby2); have hz3 := hbe2.size; clear hown1 hown2 hbe2 hbe1)
      | (at_builtin; have hq := hown1'; clear hq; refine wpList_append_sees rfl (.tmp 33) (.tmp 37) 25 rfl _ 5 i5 (.int .u8 0) 1 Try.underlying25 hi5 hz50 hz51 hz52 rfl .u8 _ _ rfl hown1' _ _ rfl hsee2 (by unfold maxLen; omega) (by omega) (by omega) ?_; intro v3 w4 hown3 hg3; go_must (have hb4 := below_grown hown1' hg3 (by omega); have hbe4 := hbe3.trans hb4; have hz4 := hb4.size; have hs4 := hs1.below hbe4 (Nat.le_refl _); clear hown1' hsee2 hg3 hb4 hbe3))
      | (at_builtin; have hq := hs4; clear hq; refine wpList_append_sees rfl (.tmp 39) (.tmp 40) 22 rfl w4.heap.size 31 i31 (.int .u64 0) 8 Try.underlying22 hi31 hz310 hz311 hz312 rfl .u64 _ [] rfl (World.ownsRow_lit w4 #[] 0 (Nat.le_refl _) (by simp [maxLen]) rfl) _ _ rfl (hs4.alloc _) (by simp [maxLen]; omega) (by simp; omega) (by simp) ?_; intro v4 w5 hown4 hg4; go_must (have hb5 := below_grown (World.ownsRow_lit w4 #[] 0 (Nat.le_refl w4.heap.size) (by simp [maxLen]) rfl) hg4 (by simp); have hb5 : Below w4.heap.size w4 w5 := ((Below.refl _ _).alloc (Nat.le_refl _) _).trans hb5; have hz5 := hb5.size; clear hg4 hs4; simp only [List.nil_append] at hown4))
      | (at_builtin; have hq := hown4; clear hq; refine wpList_append_sees rfl (.tmp 41) (.tmp 44) 22 rfl w4.heap.size 31 i31 (.int .u64 0) 8 Try.underlying22 hi31 hz310 hz311 hz312 rfl .u64 _ ns rfl (hown4.alloc _) _ [a, b] rfl (Sees.lit w5 .u64 31 [a, b] _ 2 rfl rfl (by simp) hwab) (by simp [maxLen]; omega) (by simp; omega) (by simp; omega) ?_; intro v6 w6 hown6 hg6; go_must (have hb6 := below_grown (hown4.alloc _) hg6 (by simp; omega); have hb6 : Below w4.heap.size w5 w6 := ((Below.refl _ _).alloc (by omega) _).trans hb6; have hb6 := hb5.trans hb6; have hz6 := hb6.size; have hbe6 := hbe4.trans (hb6.mono (by omega)); have hsee6 := Sees.own hown6 (by intro x hx; rcases List.mem_append.1 hx with hx | hx; exact hs1.wf x hx; exact hwab x hx); clear hg6 hown6 hown4))
      | (go_at_call 7; go_must (refine (put_any _ (ns ++ [a, b]) _ hsee6 (by simp; omega)).mono ?_); rintro e w7 ⟨v7, rfl, hown7, hbe7⟩; have hb7 := hb6.trans (hbe7.mono hz6); have hown3' := own_below hown3 hb7 (Nat.le_refl _); clear hown3)
      | (go_at_call 9; go_must (refine (same_any v3 v7 (encs ns ++ encs [a, b]) (encs (ns ++ [a, b])) _ (Sees.own hown3' (wf_bytes hby3)) (Sees.own hown7 (wf_bytes hby7))).mono ?_); rintro e w8 ⟨rfl, n8, rfl⟩))
    have hend : Below w.heap.size w (w7.drewN n8) := below_drewN (hB.trans ((hbe4.trans (hb7.mono (by omega))).mono hz1)) n8
    go_ret
    exact ⟨retb (eqB_true (encs_append ns [a, b]).symm), hend⟩
end Go.Proofs.Ytbhiaclgakhcdaa
