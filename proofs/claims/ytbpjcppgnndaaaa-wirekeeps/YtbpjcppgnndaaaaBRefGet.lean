/-
  What the document's Get does with any bytes: just what leb.Get does. Condition: the bytes lie where the slice says.
-/
import Derived.Test.YtbpjcppgnndaaaaBGet
namespace Go.Proofs.Ytbpjcppgnndaaaa
open Go.RowKit
set_option linter.unusedVariables false

set_option maxHeartbeats 1000000 in
theorem refget_some (b off cap : Nat) (xs : List Int) (w : World) (hmax : xs.length ≤ 9223372036854775807)
    (hc : ∀ i, i < xs.length → w.cell? ⟨b, off + i, none⟩ = some (.int .u8 (xs.getD i 0)))
    (hr : ∀ x ∈ xs, 0 ≤ x ∧ x ≤ 255) :
    Calls Try.prog 28 #[.slice (some ⟨b, off, none⟩) xs.length cap] w fun e w' =>
      e = .returned (.tuple #[.int .u64 (getL 0 0 xs).1, .int .i64 (getL 0 0 xs).2.1, .int .i64 (getL 0 0 xs).2.2]) ∧ w = w' := by
  have HCS : Hid (∀ i, i < xs.length → w.cell? ⟨b, off + i, none⟩ = some (.int .u8 (xs.getD i 0))) := hc
  clear hc
  go_enter Try.func28, Try.ntmps28
  go_wp2
  go_loop [5] (fun i => ∃ k : Nat, k ≤ xs.length ∧ k ≤ 9 ∧ i = .int .i64 k ∧ ∀ j, j < k → 128 ≤ xs.getD j 0) (fun i => xs.length - (intOf i).toNat)
  case atStart => exact ⟨0, by omega, by omega, rfl, by omega⟩
  case round =>
    obtain ⟨k, hk, hk9, rfl, hall⟩ := hrel
    have HL : Hid (∀ j, j < k → 128 ≤ xs.getD j 0) := hall
    clear hall
    have HD : Hid (getL 0 0 xs = getL k (val (xs.take k)) (xs.drop k)) := getL_run xs k hk hk9 HL.out
    by_cases hlt : k < xs.length
    · obtain ⟨c, hcell, hc0, hc1, HC⟩ : ∃ c, w.cell? ⟨b, off + k, none⟩ = some (.int .u8 c) ∧ 0 ≤ c ∧ c ≤ 255 ∧ Hid (xs.getD k 0 = c) :=
        ⟨_, HCS.out k hlt, (hr _ (getD_mem xs k hlt)).1, (hr _ (getD_mem xs k hlt)).2, rfl⟩
      have HD : Hid (getL 0 0 xs = getL k (val (xs.take k)) (c :: xs.drop (k + 1))) := by show _ = _; rw [HD.out, drop_at xs k hlt, HC.out]
      by_cases hge : 128 ≤ c
      · by_cases h9 : k = 9
        · subst h9
          have HE : Hid (getL 0 0 xs = (0, 0, 12)) := by show _ = _; rw [HD.out, getL_form (.inl ⟨rfl, by omega⟩)]
          clear HD HL
          go_wp2
          go_ret3
          exact ⟨ret3 (by rw [HE.out]) (by rw [HE.out]) (by rw [HE.out]), rfl⟩
        · have HL' : Hid (∀ j, j < k + 1 → 128 ≤ xs.getD j 0) := by
            intro j hj
            rcases Nat.lt_succ_iff_lt_or_eq.1 hj with h | h
            · exact HL.out j h
            · rw [h, HC.out]; exact hge
          have h9b : ((k : Int) == 9) = false := by simp; omega
          clear HD HL
          go_wp2
          go_round
          case rel => exact ⟨k + 1, by omega, by omega, by go_num, HL'.out⟩
          case measure => simp [intOf]; omega
      · have hnl : ((k : Int) == (xs.length : Int)) = false := by simp; omega
        by_cases h9 : k = 9
        · subst h9
          by_cases hf : 1 < c
          · have HE : Hid (getL 0 0 xs = (0, 0, 12)) := by show _ = _; rw [HD.out, getL_form (.inl ⟨rfl, hf⟩)]
            clear HD HL
            go_wp2
            go_ret3
            exact ⟨ret3 (by rw [HE.out]) (by rw [HE.out]) (by rw [HE.out]), rfl⟩
          by_cases hz : c = 0
          · subst hz
            have HE : Hid (getL 0 0 xs = (0, 0, 12)) := by show _ = _; rw [HD.out, getL_form (.inr ⟨by omega, rfl⟩)]
            clear HD HL
            go_wp2
            go_ret3
            exact ⟨ret3 (by rw [HE.out]) (by rw [HE.out]) (by rw [HE.out]), rfl⟩
          obtain rfl : c = 1 := by omega
          have HE : Hid (getL 0 0 xs = (val (xs.take (9 + 1)), 9 + 1, 0)) := by show _ = _; rw [HD.out, getL_done (by omega) (by omega) (by omega), val_take xs 9 hlt, HC.out]; rfl
          have HW : Hid (0 ≤ val (xs.take (9 + 1)) ∧ val (xs.take (9 + 1)) < 18446744073709551616) := val_whole xs 9 hlt (by omega) (fun _ => by rw [HC.out]; omega) (by rw [HC.out]; omega)
          clear HD HL
          go_wp2
          go_loop [6, 7] (fun n i => ∃ j : Nat, j ≤ 9 + 1 ∧ i = .int .i64 ((j : Int) - 1) ∧ n = .int .u64 (val ((xs.take (9 + 1)).drop j))) (fun _ i => (intOf i + 1).toNat)
          case atStart => exact ⟨9 + 1, by omega, by rfl, by rw [List.drop_eq_nil_of_le (by simp only [List.length_take]; omega)]; rfl⟩
          case round =>
            obtain ⟨j, hj, rfl, rfl⟩ := hrel
            by_cases hpos : 0 < j
            · obtain ⟨i, rfl⟩ : ∃ i, j = i + 1 := ⟨j - 1, by omega⟩
              obtain ⟨d, hd, hd0, hd1, HDV⟩ : ∃ d, w.cell? ⟨b, off + i, none⟩ = some (.int .u8 d) ∧ 0 ≤ d ∧ d ≤ 255 ∧ Hid (val ((xs.take (9 + 1)).drop i) = d % 128 + 128 * val ((xs.take (9 + 1)).drop (i + 1))) :=
                ⟨_, HCS.out i (by omega), (hr _ (getD_mem xs i (by omega))).1, (hr _ (getD_mem xs i (by omega))).2, val_drop xs 9 i (by omega) hlt⟩
              obtain ⟨n, HN, hn0, hn1⟩ : ∃ n, Hid (n = val ((xs.take (9 + 1)).drop (i + 1))) ∧ 0 ≤ n ∧ n < 9223372036854775808 := ⟨_, rfl, (val_drop_bd xs 9 (i + 1) (by omega) (by omega)).1, (val_drop_bd xs 9 (i + 1) (by omega) (by omega)).2⟩
              have hall : 128 * n + d % 128 < 18446744073709551616 := by
                rcases Nat.eq_zero_or_pos i with h0 | h0
                · subst h0
                  have := HDV.out
                  rw [← HN.out, List.drop_zero] at this
                  have := HW.out
                  omega
                · have := (val_drop_bd xs 9 i h0 (by omega)).2
                  rw [HDV.out, ← HN.out] at this
                  omega
              rw [← HN.out]
              have e1 : ((i + 1 : Nat) : Int) - 1 = (i : Int) := by omega
              rw [e1]
              clear e1
              go_wp2
              go_round
              case rel => exact ⟨i, by omega, rfl, by rw [HDV.out, ← HN.out]; go_num⟩
              case measure => first | (simp [intOf]; done) | (simp [intOf]; omega)
            · obtain rfl : j = 0 := by omega
              go_wp2
              go_ret3
              exact ⟨ret3 (by rw [HE.out]; first | done | rfl) (by rw [HE.out]; first | done | rfl) (by rw [HE.out]), rfl⟩
        · have h9b : ((k : Int) == 9) = false := by simp; omega
          by_cases hf : 0 < k ∧ c = 0
          · obtain ⟨hf, rfl⟩ := hf
            have HE : Hid (getL 0 0 xs = (0, 0, 12)) := by show _ = _; rw [HD.out, getL_form (.inr ⟨hf, rfl⟩)]
            clear HD HL
            go_wp2
            go_ret3
            exact ⟨ret3 (by rw [HE.out]) (by rw [HE.out]) (by rw [HE.out]), rfl⟩
          have HE : Hid (getL 0 0 xs = (val (xs.take (k + 1)), (k : Int) + 1, 0)) := by show _ = _; rw [HD.out, getL_done (by omega) hf (by omega), val_take xs k hlt, HC.out]
          have HW : Hid (0 ≤ val (xs.take (k + 1)) ∧ val (xs.take (k + 1)) < 18446744073709551616) := val_whole xs k hlt (by omega) (fun h => absurd h h9) (by rw [HC.out]; omega)
          clear HD HL
          by_cases hk0 : 0 < k
          · have hcz : (c == 0) = false := by simp; omega
            go_wp2
            go_loop [6, 7] (fun n i => ∃ j : Nat, j ≤ k + 1 ∧ i = .int .i64 ((j : Int) - 1) ∧ n = .int .u64 (val ((xs.take (k + 1)).drop j))) (fun _ i => (intOf i + 1).toNat)
            case atStart => exact ⟨k + 1, by omega, by go_num, by rw [List.drop_eq_nil_of_le (by simp only [List.length_take]; omega)]; rfl⟩
            case round =>
              obtain ⟨j, hj, rfl, rfl⟩ := hrel
              by_cases hpos : 0 < j
              · obtain ⟨i, rfl⟩ : ∃ i, j = i + 1 := ⟨j - 1, by omega⟩
                obtain ⟨d, hd, hd0, hd1, HDV⟩ : ∃ d, w.cell? ⟨b, off + i, none⟩ = some (.int .u8 d) ∧ 0 ≤ d ∧ d ≤ 255 ∧ Hid (val ((xs.take (k + 1)).drop i) = d % 128 + 128 * val ((xs.take (k + 1)).drop (i + 1))) :=
                  ⟨_, HCS.out i (by omega), (hr _ (getD_mem xs i (by omega))).1, (hr _ (getD_mem xs i (by omega))).2, val_drop xs k i (by omega) hlt⟩
                obtain ⟨n, HN, hn0, hn1⟩ : ∃ n, Hid (n = val ((xs.take (k + 1)).drop (i + 1))) ∧ 0 ≤ n ∧ n < 9223372036854775808 := ⟨_, rfl, (val_drop_bd xs k (i + 1) (by omega) (by omega)).1, (val_drop_bd xs k (i + 1) (by omega) (by omega)).2⟩
                have hall : 128 * n + d % 128 < 18446744073709551616 := by
                  rcases Nat.eq_zero_or_pos i with h0 | h0
                  · subst h0
                    have := HDV.out
                    rw [← HN.out, List.drop_zero] at this
                    have := HW.out
                    omega
                  · have := (val_drop_bd xs k i h0 (by omega)).2
                    rw [HDV.out, ← HN.out] at this
                    omega
                rw [← HN.out]
                have e1 : ((i + 1 : Nat) : Int) - 1 = (i : Int) := by omega
                rw [e1]
                clear e1
                go_wp2
                go_round
                case rel => exact ⟨i, by omega, rfl, by rw [HDV.out, ← HN.out]; go_num⟩
                case measure => first | (simp [intOf]; done) | (simp [intOf]; omega)
              · obtain rfl : j = 0 := by omega
                go_wp2
                go_ret3
                exact ⟨ret3 (by rw [HE.out]; first | done | rfl) (by rw [HE.out]; first | done | rfl) (by rw [HE.out]), rfl⟩
          · obtain rfl : k = 0 := by omega
            have hcell0 : w.cell? ⟨b, off, none⟩ = some (.int .u8 c) := hcell
            clear hcell
            go_wp2
            go_loop [6, 7] (fun n i => ∃ j : Nat, j ≤ 0 + 1 ∧ i = .int .i64 ((j : Int) - 1) ∧ n = .int .u64 (val ((xs.take (0 + 1)).drop j))) (fun _ i => (intOf i + 1).toNat)
            case atStart => exact ⟨0 + 1, by omega, by rfl, by rw [List.drop_eq_nil_of_le (by simp only [List.length_take]; omega)]; rfl⟩
            case round =>
              obtain ⟨j, hj, rfl, rfl⟩ := hrel
              by_cases hpos : 0 < j
              · obtain ⟨i, rfl⟩ : ∃ i, j = i + 1 := ⟨j - 1, by omega⟩
                obtain ⟨d, hd, hd0, hd1, HDV⟩ : ∃ d, w.cell? ⟨b, off + i, none⟩ = some (.int .u8 d) ∧ 0 ≤ d ∧ d ≤ 255 ∧ Hid (val ((xs.take (0 + 1)).drop i) = d % 128 + 128 * val ((xs.take (0 + 1)).drop (i + 1))) :=
                  ⟨_, HCS.out i (by omega), (hr _ (getD_mem xs i (by omega))).1, (hr _ (getD_mem xs i (by omega))).2, val_drop xs 0 i (by omega) hlt⟩
                obtain ⟨n, HN, hn0, hn1⟩ : ∃ n, Hid (n = val ((xs.take (0 + 1)).drop (i + 1))) ∧ 0 ≤ n ∧ n < 9223372036854775808 := ⟨_, rfl, (val_drop_bd xs 0 (i + 1) (by omega) (by omega)).1, (val_drop_bd xs 0 (i + 1) (by omega) (by omega)).2⟩
                have hall : 128 * n + d % 128 < 18446744073709551616 := by
                  rcases Nat.eq_zero_or_pos i with h0 | h0
                  · subst h0
                    have := HDV.out
                    rw [← HN.out, List.drop_zero] at this
                    have := HW.out
                    omega
                  · have := (val_drop_bd xs 0 i h0 (by omega)).2
                    rw [HDV.out, ← HN.out] at this
                    omega
                rw [← HN.out]
                have e1 : ((i + 1 : Nat) : Int) - 1 = (i : Int) := by omega
                rw [e1]
                clear e1
                go_wp2
                go_round
                case rel => exact ⟨i, by omega, rfl, by rw [HDV.out, ← HN.out]; go_num⟩
                case measure => first | (simp [intOf]; done) | (simp [intOf]; omega)
              · obtain rfl : j = 0 := by omega
                go_wp2
                go_ret3
                exact ⟨ret3 (by rw [HE.out]; first | done | rfl) (by rw [HE.out]; first | done | rfl) (by rw [HE.out]), rfl⟩
    · obtain rfl : k = xs.length := by omega
      have HE : Hid (getL 0 0 xs = (0, 0, 10)) := by show _ = _; rw [HD.out, List.drop_length]; rfl
      clear HD HL
      go_wp2
      go_ret3
      exact ⟨ret3 (by rw [HE.out]) (by rw [HE.out]) (by rw [HE.out]), rfl⟩

/-- The document's Get of any slice of bytes. -/
theorem refget_any (v : Value) (xs : List Int) (w : World) (h : Sees .u8 w v xs) :
    Calls Try.prog 28 #[v] w fun e w' =>
      e = .returned (.tuple #[.int .u64 (getL 0 0 xs).1, .int .i64 (getL 0 0 xs).2.1, .int .i64 (getL 0 0 xs).2.2]) ∧ w = w' := by
  obtain ⟨a, cap, rfl, hl, hm, hn0, hw, hs⟩ := h
  unfold maxLen at hm
  by_cases hne : xs = []
  · subst hne
    go_enter Try.func28, Try.ntmps28
    go_wp2
    refine wp_loop_rounds 1 ?_
    rw [rounds_succ]
    go_wp2
    go_ret3
    exact ⟨rfl, rfl⟩
  · obtain ⟨b, off, rfl, _, hc⟩ := hs hne
    exact refget_some b off cap xs w (by omega) hc (fun x hx => bounds_u8 (hw x hx))
theorem refget_eq {v : Value} {xs : List Int} {w : World} (h : Sees .u8 w v xs) {a b c : Int} (hr : getL 0 0 xs = (a, b, c)) :
    Calls Try.prog 28 #[v] w fun e w' => e = .returned (.tuple #[.int .u64 a, .int .i64 b, .int .i64 c]) ∧ w = w' := by
  have := refget_any v xs w h; rw [hr] at this; exact this
end Go.Proofs.Ytbpjcppgnndaaaa
