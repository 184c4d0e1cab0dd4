/-
  The law LebGets' walk: Get and GetInt against the document's, from any place on. No condition beyond the slice's own.
-/
import Derived.Test.YtkfeomgfpokeeaaKit
import Derived.Test.YtkfeomgfpokeeaaUnfold
import Derived.Test.YtkfeomgfpokeeaaRefGet
namespace Go.Proofs.Ytkfeomgfpokeeaa
open Go.RowKit
set_option linter.unusedVariables false

theorem get_eq {v : Value} {xs : List Int} {w : World} (h : Sees .u8 w v xs) {a b c : Int} (hr : getL 0 0 xs = (a, b, c)) :
    Calls Try.prog 18 #[v] w fun e w' => e = .returned (.tuple #[.int .u64 a, .int .i64 b, .int .i64 c]) ∧ w = w' := by
  have := get_any v xs w h; rw [hr] at this; exact this
theorem refget_eq {v : Value} {xs : List Int} {w : World} (h : Sees .u8 w v xs) {a b c : Int} (hr : getL 0 0 xs = (a, b, c)) :
    Calls Try.prog 19 #[v] w fun e w' => e = .returned (.tuple #[.int .u64 a, .int .i64 b, .int .i64 c]) ∧ w = w' := by
  have := refget_any v xs w h; rw [hr] at this; exact this
theorem getint_eq {v : Value} {xs : List Int} {w : World} (h : Sees .u8 w v xs) {a b c : Int} (hr : getL 0 0 xs = (a, b, c)) :
    Calls Try.prog 20 #[v] w fun e w' => e = .returned (.tuple #[.int .i64 (unfoldI a), .int .i64 b, .int .i64 c]) ∧ w = w' := by
  have := getint_any v xs w h; rw [hr] at this; exact this

set_option maxRecDepth 100000 in
set_option maxHeartbeats 1000000 in
theorem gets_walk (v : Value) (xs : List Int) (w : World) (hs : Sees .u8 w v xs) :
    Calls Try.prog 4 #[v] w fun e w' => e = .returned (.bool true) ∧ Below w.heap.size w w' := by
  obtain ⟨a, cap, rfl, hl, hm, hrest⟩ := id hs
  clear hrest
  unfold maxLen at hm
  go_enter Try.func4, Try.ntmps4
  go_wp2_with (go_at_call 9; go_must (refine (awake_any _).mono ?_); rintro e w1 ⟨rfl, hbe⟩)
  have hs1 := hs.below hbe (Nat.le_refl _)
  have HS : Hid (Sees .u8 w1 (.slice a xs.length cap) xs) := hs1
  clear hs hs1
  go_loop [3] (fun i => ∃ k : Nat, k ≤ xs.length + 1 ∧ k ≤ 40 ∧ i = .int .i64 k) (fun i => 41 - (intOf i).toNat)
  case atStart => exact ⟨0, by omega, by omega, rfl⟩
  case round =>
    obtain ⟨k, hk, hk40, rfl⟩ := hrel
    by_cases h1 : k ≤ xs.length
    · by_cases h2 : k < 40
      · obtain ⟨V, hV, HV⟩ : ∃ V, (∀ wx, (Instr.slice 25 (.slice a xs.length cap) (some (.int .i64 k)) none none).run Try.prog wx = .ok V wx) ∧ Hid (Sees .u8 w1 V (xs.drop k)) :=
          ⟨_, run_from Try.underlying25 size_u8 a xs.length cap k h1, by have h := Sees.cut HS.out k xs.length cap h1 (Nat.le_refl _) hl (Nat.le_refl _); rw [List.take_length] at h; exact h⟩
        rcases getL_tells (xs.drop k) 0 0 (by omega) (by omega) (by simp) HV.out.bytes with (hg | hg) | ⟨n, j, hg, hn0, hn1, hj1, hj2, hj3⟩
        · have HG : Hid (getL 0 0 (xs.drop k) = (0, 0, 10)) := hg
          have hu : unfoldI 0 = 0 := rfl
          clear hg
          go_wp2_with (first
            | (go_at_call 18; go_must (refine (get_eq HV.out HG.out).mono ?_); rintro e w2 ⟨rfl, rfl⟩)
            | (go_at_call 19; go_must (refine (refget_eq HV.out HG.out).mono ?_); rintro e w2 ⟨rfl, rfl⟩)
            | (go_at_call 20; go_must (refine (getint_eq HV.out HG.out).mono ?_); rintro e w2 ⟨rfl, rfl⟩))
          go_round
          case rel => exact ⟨k + 1, by omega, by omega, by go_num⟩
          case measure => simp [intOf]; omega
        · have HG : Hid (getL 0 0 (xs.drop k) = (0, 0, 12)) := hg
          have hu : unfoldI 0 = 0 := rfl
          clear hg
          go_wp2_with (first
            | (go_at_call 18; go_must (refine (get_eq HV.out HG.out).mono ?_); rintro e w2 ⟨rfl, rfl⟩)
            | (go_at_call 19; go_must (refine (refget_eq HV.out HG.out).mono ?_); rintro e w2 ⟨rfl, rfl⟩)
            | (go_at_call 20; go_must (refine (getint_eq HV.out HG.out).mono ?_); rintro e w2 ⟨rfl, rfl⟩))
          go_round
          case rel => exact ⟨k + 1, by omega, by omega, by go_num⟩
          case measure => simp [intOf]; omega
        · have HG : Hid (getL 0 0 (xs.drop k) = (n, (j : Int), 0)) := hg
          clear hg
          go_wp2_with (first
            | (go_at_call 18; go_must (refine (get_eq HV.out HG.out).mono ?_); rintro e w2 ⟨rfl, rfl⟩)
            | (go_at_call 19; go_must (refine (refget_eq HV.out HG.out).mono ?_); rintro e w2 ⟨rfl, rfl⟩)
            | (go_at_call 20; go_must (refine (getint_eq HV.out HG.out).mono ?_); rintro e w2 ⟨rfl, rfl⟩)
            | (go_at_call 21; go_must (refine (back_any n _ hn0 hn1).mono ?_); rintro e w2 ⟨rfl, rfl⟩))
          go_round
          case rel => exact ⟨k + 1, by omega, by omega, by go_num⟩
          case measure => simp [intOf]; omega
      · go_wp2
        go_ret
        exact ⟨rfl, hbe⟩
    · go_wp2
      go_ret
      exact ⟨rfl, hbe⟩
end Go.Proofs.Ytkfeomgfpokeeaa
