
/-
  What the law's comparison of numbers does: it says whether two lists are the same, and only draws. Condition: the numbers lie where the slices say.
-/
import Derived.Test.YtndnhmgfapcgfaaGKit
namespace Go.Proofs.Ytndnhmgfapcgfaa
open Go.RowKit
set_option linter.unusedVariables false

set_option maxHeartbeats 400000 in
theorem numbers_some (b off cap b' off' cap' : Nat) (xs ys : List Int) (w : World) (hlen : xs.length = ys.length) (hmax : xs.length ≤ 9223372036854775807)
    (hc : ∀ i, i < xs.length → w.cell? ⟨b, off + i, none⟩ = some (.int .u64 (xs.getD i 0)))
    (hc' : ∀ i, i < ys.length → w.cell? ⟨b', off' + i, none⟩ = some (.int .u64 (ys.getD i 0))) :
    Calls Try.prog 12 #[.slice (some ⟨b, off, none⟩) xs.length cap, .slice (some ⟨b', off', none⟩) ys.length cap'] w fun e w' => e = .returned (.bool (eqB xs ys)) ∧ ∃ n, w' = w.drewN n := by
  obtain ⟨L, HL⟩ : ∃ L, Hid (L = xs.length) := ⟨_, rfl⟩
  rw [← hlen] at hc' ⊢
  rw [← HL.out] at hc hc' hmax ⊢
  go_enter Try.func12, Try.ntmps12
  go_wp2
  go_loopw [5] (fun i wr => ∃ k n : Nat, k ≤ L ∧ i = .int .i64 k ∧ wr = w.drewN n ∧ xs.take k = ys.take k) (fun i _ => L - (intOf i).toNat)
  case atStart => exact ⟨0, 0, by omega, rfl, rfl, rfl⟩
  case round =>
    obtain ⟨k, n, hk, rfl, rfl, ht⟩ := hrel
    have HT : Hid (xs.take k = ys.take k) := ht
    clear ht
    by_cases hlt : k < L
    · obtain ⟨x, hx, HX⟩ : ∃ x, w.cell? ⟨b, off + k, none⟩ = some (.int .u64 x) ∧ Hid (x = xs.getD k 0) := ⟨_, hc k hlt, rfl⟩
      obtain ⟨y, hy, HY⟩ : ∃ y, w.cell? ⟨b', off' + k, none⟩ = some (.int .u64 y) ∧ Hid (y = ys.getD k 0) := ⟨_, hc' k hlt, rfl⟩
      clear hc hc'
      by_cases hxy : x = y
      · subst hxy
        have HT' : Hid (xs.take (k + 1) = ys.take (k + 1)) := by
          rw [take_at xs k (by rw [← HL.out]; omega), take_at ys k (by rw [← hlen, ← HL.out]; omega), HT.out, ← HX.out, ← HY.out]; rfl
        go_wp2
        go_region
        all_goals go_wp2
        all_goals go_roundw
        case rel => exact ⟨k + 1, _, by omega, by go_num, rfl, HT'.out⟩
        case measure => simp [intOf]; omega
      · have hb : (x != y) = true := by simpa using hxy
        have HE : Hid (eqB xs ys = false) := eqB_false fun h => hxy (by rw [HX.out, HY.out, h])
        clear hxy
        go_wp2
        go_region
        all_goals go_wp2
        all_goals go_ret
        all_goals exact ⟨retb HE.out.symm, _, rfl⟩
    · have HE : Hid (eqB xs ys = true) := eqB_true (by
        have h1 : xs.take k = xs := List.take_of_length_le (by rw [← HL.out]; omega)
        have h2 : ys.take k = ys := List.take_of_length_le (by rw [← hlen, ← HL.out]; omega)
        rw [← h1, HT.out, h2])
      clear hc hc'
      go_wp2
      go_ret
      exact ⟨retb HE.out.symm, _, rfl⟩

theorem numbers_any (va vb : Value) (xs ys : List Int) (w : World) (h : Sees .u64 w va xs) (h' : Sees .u64 w vb ys) :
    Calls Try.prog 12 #[va, vb] w fun e w' => e = .returned (.bool (eqB xs ys)) ∧ ∃ n, w' = w.drewN n := by
  obtain ⟨a, cap, rfl, hl, hm, hn0, hw, hs⟩ := h
  obtain ⟨a', cap', rfl, hl', hm', hn0', hw', hs'⟩ := h'
  unfold maxLen at hm hm'
  by_cases hlen : xs.length = ys.length
  · by_cases hne : xs = []
    · subst hne
      obtain rfl : ys = [] := List.eq_nil_of_length_eq_zero (by simpa using hlen.symm)
      go_enter Try.func12, Try.ntmps12
      go_wp2
      refine wp_loop_rounds 1 ?_
      rw [rounds_succ]
      go_wp2
      go_ret
      exact ⟨rfl, 0, rfl⟩
    · obtain ⟨b, off, rfl, _, hc⟩ := hs hne
      obtain ⟨b', off', rfl, _, hc'⟩ := hs' (fun e => hne (List.eq_nil_of_length_eq_zero (by rw [hlen, e]; rfl)))
      exact numbers_some b off cap b' off' cap' xs ys w hlen (by omega) hc hc'
  · have hb : ((xs.length : Int) != (ys.length : Int)) = true := by simp; omega
    have HE : Hid (eqB xs ys = false) := eqB_false fun h => hlen (by rw [h])
    clear hs hs'
    go_enter Try.func12, Try.ntmps12
    go_wp2
    go_ret
    exact ⟨retb HE.out.symm, 0, rfl⟩

end Go.Proofs.Ytndnhmgfapcgfaa
