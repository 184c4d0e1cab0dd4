/-
  What fold and PutInt do: signed numbers as numbers without a sign, and their encodings in new memory. Conditions: the numbers fit their kind; at most 17592186044416 of them.
-/
import Derived.Test.YtbhiaclgakhcdaaVAwake
namespace Go.Proofs.Ytbhiaclgakhcdaa
open Go.RowKit
set_option linter.unusedVariables false

/-- A signed number as one without a sign. -/
def foldI (n : Int) : Int := if n < 0 then -2 * n - 1 else 2 * n
/-- The signed number. -/
def unfoldI (u : Int) : Int := if u % 2 = 1 then -(u / 2) - 1 else u / 2
theorem unfold_fold (n : Int) : unfoldI (foldI n) = n := by unfold unfoldI foldI; split <;> split <;> omega
theorem fold_unfold (u : Int) (h : 0 ≤ u) : foldI (unfoldI u) = u := by unfold unfoldI foldI; split <;> split <;> omega
theorem fold_bd {n : Int} (h : -9223372036854775808 ≤ n) (h' : n ≤ 9223372036854775807) : 0 ≤ foldI n ∧ foldI n < 18446744073709551616 := by unfold foldI; split <;> omega

theorem fold_any (n : Int) (w : World) (h : -9223372036854775808 ≤ n) (h' : n ≤ 9223372036854775807) :
    Calls Try.prog 18 #[.int .i64 n] w fun e w' => e = .returned (.int .u64 (foldI n)) ∧ w = w' := by
  unfold foldI
  by_cases h0 : n < 0
  · go_enter Try.func18, Try.ntmps18
    go_wp2
    go_ret
    exact ⟨ret1 (by first | omega | (simp [h0]; omega)), rfl⟩
  · go_enter Try.func18, Try.ntmps18
    go_wp2
    go_ret
    exact ⟨ret1 (by first | omega | (simp [h0]; omega)), rfl⟩

theorem own_base {w : World} {base base' : Nat} {e : TypeId} {size : Nat} {v : Value} {n : Nat} {xs : List Value} (h : w.ownsRow base' e size v n xs) (hb : base ≤ base') : w.ownsRow base e size v n xs := by
  rcases h with ⟨h1, h2 | ⟨g, cap, cur, hv, hg, r⟩⟩
  · exact ⟨h1, .inl h2⟩
  · exact ⟨h1, .inr ⟨g, cap, cur, hv, by omega, r⟩⟩
theorem wf_u64 {n : Int} (h : 0 ≤ n) (h' : n < 18446744073709551616) : (Lit.int .u64 n).wf = true := WalkArith.wf_u64 (by omega)

set_option maxHeartbeats 400000 in
theorem putint_some (b off cap : Nat) (xs : List Int) (w : World) (hb : b < w.heap.size) (hmax : xs.length ≤ 17592186044416)
    (hc : ∀ i, i < xs.length → w.cell? ⟨b, off + i, none⟩ = some (.int .i64 (xs.getD i 0)))
    (hr : ∀ x ∈ xs, -9223372036854775808 ≤ x ∧ x ≤ 9223372036854775807) :
    Calls Try.prog 13 #[.slice (some ⟨b, off, none⟩) xs.length cap] w fun e w' =>
      ∃ v, e = .returned v ∧ w'.ownsRow w.heap.size 5 1 v (encs (xs.map foldI)).length ((encs (xs.map foldI)).map (Value.int .u8)) ∧ Below w.heap.size w w' := by
  obtain ⟨i0, hi, hz0, hz1, hz2⟩ := info_parts Try.info31
  have hwf : ∀ x ∈ xs.map foldI, (Lit.int .u64 x).wf = true := by
    intro x hx
    obtain ⟨y, hy, rfl⟩ := List.mem_map.1 hx
    have := fold_bd (hr y hy).1 (hr y hy).2
    exact wf_u64 this.1 this.2
  go_enter Try.func13, Try.ntmps13
  go_wp2_with (at_make; go_must (refine wpList_make_own _ rfl _ _ 22 rfl w.heap.size 31 i0 (.int .u64 0) 1 Try.underlying22 hi hz0 hz1 .i64 .i64 _ xs.length rfl rfl rfl (by rw [hz2]; omega) (by unfold maxLen; omega) (Nat.le_refl _) ?_); intro w1 hown hgrow)
  have hbe : Below w.heap.size w w1 := (Below.refl _ _).grown hgrow (Nat.le_refl _) (by simp)
  clear hgrow
  go_loopw [3, 11] (fun v i wr => ∃ k : Nat, k ≤ xs.length ∧ i = .int .i64 k ∧ wr.ownsRow w.heap.size 31 1 v ((xs.take k).map foldI).length (((xs.take k).map foldI).map (Value.int .u64)) ∧ Below w.heap.size w wr) (fun _ i _ => xs.length - (intOf i).toNat)
  case atStart => exact ⟨0, by omega, rfl, hown, hbe⟩
  case round =>
    clear hown hbe
    obtain ⟨k, hk, rfl, hown, hbe⟩ := hrel
    have hsz := hbe.size
    by_cases hlt : k < xs.length
    · obtain ⟨c, hcell, hc0, hc1, HD⟩ : ∃ c, wr.cell? ⟨b, off + k, none⟩ = some (.int .i64 c) ∧ -9223372036854775808 ≤ c ∧ c ≤ 9223372036854775807 ∧ Hid (xs.take (k + 1) = xs.take k ++ [c]) :=
        ⟨_, (hbe.cell (p := ⟨b, off + k, none⟩) hb).trans (hc k hlt), (hr _ (getD_mem xs k hlt)).1, (hr _ (getD_mem xs k hlt)).2, take_at xs k hlt⟩
      obtain ⟨ys, HY, hL, hown⟩ : ∃ ys, Hid (ys = (xs.take k).map foldI) ∧ ys.length ≤ 17592186044416 ∧ wr.ownsRow w.heap.size 31 1 u3 ys.length (ys.map (Value.int .u64)) := ⟨_, rfl, by simp; omega, hown⟩
      have HF : Hid ((xs.take (k + 1)).map foldI = ys ++ [foldI c]) := by show _ = _; rw [HD.out, HY.out]; simp
      clear hc hr hwf
      go_wp2_with (first
        | (go_at_call 18; go_must (refine (fold_any c _ hc0 hc1).mono ?_); rintro e w' ⟨rfl, rfl⟩)
        | (at_builtin; go_must (refine wpList_append_wide _ rfl _ _ 22 rfl w.heap.size 31 i0 (.int .u64 0) 1 8 Try.underlying22 hi hz0 hz1 hz2 rfl (by decide) _ _ _ rfl (hown.alloc _) ⟨_, 0, none⟩ 1 1 [.int .u64 (foldI c)] rfl rfl (cell_one_new _ _ _) (one_cell _ _) (by unfold maxLen; omega) (by omega) (by simp; omega) ?_); intro v' w1 hown' hgrow _; have R := step_append hown hbe (Nat.le_refl _) hown' hgrow; clear hown' hgrow))
      rw [← HF.out] at R
      go_roundw
      case rel => exact ⟨k + 1, by omega, by go_num, R.1, R.2⟩
      case measure => simp [intOf]; omega
    · obtain rfl : k = xs.length := by omega
      rw [List.take_length] at hown
      have hsee : Sees .u64 wr u3 (xs.map foldI) := Sees.own hown hwf
      have hl3 : (xs.map foldI).length ≤ 17592186044416 := by simpa using hmax
      clear hc hr hwf hown
      go_wp2_with (go_at_call 7; go_must (refine (put_any _ (xs.map foldI) _ hsee hl3).mono ?_); rintro e w2 ⟨v, rfl, hown2, hbe2⟩)
      go_ret
      exact ⟨_, rfl, own_base hown2 hsz, hbe.trans (hbe2.mono hsz)⟩

/-- leb.PutInt. -/
theorem putint_any (v : Value) (xs : List Int) (w : World) (h : Sees .i64 w v xs) (hmax : xs.length ≤ 17592186044416) :
    Calls Try.prog 13 #[v] w fun e w' => ∃ v, e = .returned v ∧ w'.ownsRow w.heap.size 5 1 v (encs (xs.map foldI)).length ((encs (xs.map foldI)).map (Value.int .u8)) ∧ Below w.heap.size w w' := by
  obtain ⟨a, cap, rfl, hl, hm, hn0, hw, hs⟩ := h
  by_cases hne : xs = []
  · subst hne
    obtain ⟨i0, hi, hz0, hz1, hz2⟩ := info_parts Try.info31
    go_enter Try.func13, Try.ntmps13
    go_wp2_with (at_make; go_must (refine wpList_make_own _ rfl _ _ 22 rfl w.heap.size 31 i0 (.int .u64 0) 1 Try.underlying22 hi hz0 hz1 .i64 .i64 _ 0 rfl rfl rfl (by rw [hz2]; omega) (by unfold maxLen; omega) (Nat.le_refl _) ?_); intro w1 hown hgrow)
    have hbe : Below w.heap.size w w1 := (Below.refl _ _).grown hgrow (Nat.le_refl _) (by simp)
    have hsz := hbe.size
    have hsee : Sees .u64 w1 (.slice (some ⟨w.heap.size, 0, none⟩) 0 0) [] := Sees.own hown (by simp)
    clear hgrow hown
    refine wp_loop_rounds 1 ?_
    rw [rounds_succ]
    go_wp2_with (go_at_call 7; go_must (refine (put_any _ [] _ hsee (by simp)).mono ?_); rintro e w2 ⟨v, rfl, hown2, hbe2⟩)
    go_ret
    exact ⟨_, rfl, own_base hown2 hsz, hbe.trans (hbe2.mono hsz)⟩
  · obtain ⟨b, off, rfl, hlt, hc⟩ := hs hne
    exact putint_some b off cap xs w hlt hmax hc (fun x hx => bounds_i64 (hw x hx))
/-- leb.PutInt of one number. -/
theorem putint_one (x : Int) (n : Nat) (w : World) (hn : n = w.heap.size) (h : -9223372036854775808 ≤ x ∧ x ≤ 9223372036854775807) :
    Calls Try.prog 13 #[.slice (some ⟨n, 0, none⟩) 1 1] (w.alloc (.cells #[.int .i64 x] 2)) fun e w' => ∃ v, e = .returned v ∧ w'.ownsRow w.heap.size 5 1 v (enc (foldI x)).length ((enc (foldI x)).map (Value.int .u8)) ∧ Below w.heap.size w w' := by
  subst hn
  have h2 := putint_any _ [x] _ (Sees.lit w .i64 2 [x] _ 1 rfl rfl (by simp) (by intro y hy; simp at hy; subst hy; exact WalkArith.wf_i64 (by omega))) (by simp)
  have e1 : encs ([x].map foldI) = enc (foldI x) := encs_one (foldI x)
  rw [e1] at h2
  refine h2.mono ?_
  rintro e w' ⟨v, rfl, hown, hbe⟩
  exact ⟨v, rfl, own_base hown (by simp), ((Below.refl _ _).alloc (Nat.le_refl _) _).trans (hbe.mono (by simp))⟩
/-- leb.PutInt of two numbers. -/
theorem putint_two (x y : Int) (n : Nat) (w : World) (hn : n = w.heap.size) (h : -9223372036854775808 ≤ x ∧ x ≤ 9223372036854775807) (h' : -9223372036854775808 ≤ y ∧ y ≤ 9223372036854775807) :
    Calls Try.prog 13 #[.slice (some ⟨n, 0, none⟩) 2 2] (w.alloc (.cells #[.int .i64 x, .int .i64 y] 2)) fun e w' => ∃ v, e = .returned v ∧ w'.ownsRow w.heap.size 5 1 v (enc (foldI x) ++ enc (foldI y)).length ((enc (foldI x) ++ enc (foldI y)).map (Value.int .u8)) ∧ Below w.heap.size w w' := by
  subst hn
  have h2 := putint_any _ [x, y] _ (Sees.lit w .i64 2 [x, y] _ 2 rfl rfl (by simp) (by intro z hz; simp at hz; rcases hz with rfl | rfl <;> exact WalkArith.wf_i64 (by omega))) (by simp)
  have e1 : encs ([x, y].map foldI) = enc (foldI x) ++ enc (foldI y) := by simp [encs]
  rw [e1] at h2
  refine h2.mono ?_
  rintro e w' ⟨v, rfl, hown, hbe⟩
  exact ⟨v, rfl, own_base hown (by simp), ((Below.refl _ _).alloc (Nat.le_refl _) _).trans (hbe.mono (by simp))⟩
end Go.Proofs.Ytbhiaclgakhcdaa
