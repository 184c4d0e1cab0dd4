/-
  What the document's All does with any bytes: just what leb.All does. Condition: at most 16777216 bytes.
-/
import Derived.Test.YtkfeomgfpokeeaaAll
import Derived.Test.YtkfeomgfpokeeaaRefGet
namespace Go.Proofs.Ytkfeomgfpokeeaa
open Go.RowKit
set_option linter.unusedVariables false

set_option maxRecDepth 100000 in
set_option maxHeartbeats 800000 in
theorem refall_any (v : Value) (xs : List Int) (w : World) (h : Sees .u8 w v xs) (hmax : xs.length ≤ 16777216) :
    Calls Try.prog 23 #[v] w fun e w' => ∃ u, e = .returned (.tuple #[u, .int .i64 (allL xs).2]) ∧ w'.ownsRow w.heap.size 31 1 u (allL xs).1.length ((allL xs).1.map (Value.int .u64)) ∧ Below w.heap.size w w' := by
  obtain ⟨i31, hi31, hz310, hz311, hz312⟩ := info_parts Try.info31
  obtain ⟨T, HT⟩ : ∃ T, Hid (T = allL xs) := ⟨_, rfl⟩
  rw [← HT.out]
  have HS : Hid (Sees .u8 w v xs) := h
  obtain ⟨a, cap, rfl, hl, hm, hrest⟩ := h
  clear hrest
  unfold maxLen at hm
  go_enter Try.func23, Try.ntmps23
  go_wp2
  go_loopw [4, 5] (fun ns i wr => ∃ (f k : Nat) (acc : List Int), k ≤ xs.length ∧ i = .int .i64 k ∧ (xs.drop k).length ≤ f ∧ acc.length ≤ k ∧ T = allA f acc (xs.drop k) ∧ wr.ownsRow w.heap.size 31 1 ns acc.length (acc.map (Value.int .u64)) ∧ Below w.heap.size w wr) (fun _ i _ => xs.length - (intOf i).toNat)
  case atStart => exact ⟨xs.length, 0, [], by omega, rfl, by simp, by simp, HT.out, World.ownsRow_nil _ _ _ _, Below.refl _ _⟩
  case round =>
    obtain ⟨f, k, acc, hk, rfl, hf, hlen, hT, hown, hbe⟩ := hrel
    have HT' : Hid (T = allA f acc (xs.drop k)) := hT
    clear hT
    have hsz := hbe.size
    by_cases hlt : k < xs.length
    · have HN : Hid (xs.drop k ≠ []) := by intro e; have := congrArg List.length e; simp at this; omega
      obtain ⟨V, hV, HV⟩ : ∃ V, (∀ wx, (Instr.slice 25 (.slice a xs.length cap) (some (.int .i64 k)) none none).run Try.prog wx = .ok V wx) ∧ Hid (Sees .u8 wr V (xs.drop k)) :=
        ⟨_, run_from Try.underlying25 size_u8 a xs.length cap k hk, by have h := Sees.cut (HS.out.below hbe (Nat.le_refl _)) k xs.length cap hk (Nat.le_refl _) hl (Nat.le_refl _); rw [List.take_length] at h; exact h⟩
      rcases getL_tells (xs.drop k) 0 0 (by omega) (by omega) (by simp) HV.out.bytes with (hg | hg) | ⟨n, j, hg, hn0, hn1, hj1, hj2, hj3⟩
      · have HG : Hid (getL 0 0 (xs.drop k) = (0, 0, 10)) := hg
        have HR : Hid (T = ([], 10)) := by show _ = _; rw [HT'.out, allA_err hf HN.out hg (by decide)]
        clear hg
        go_wp2_with (go_at_call 19; go_must (refine (refget_eq HV.out HG.out).mono ?_); rintro e w2 ⟨rfl, rfl⟩)
        go_ret2
        exact ⟨.slice none 0 0, by rw [HR.out]; rfl, by rw [HR.out]; exact World.ownsRow_nil _ _ _ _, hbe⟩
      · have HG : Hid (getL 0 0 (xs.drop k) = (0, 0, 12)) := hg
        have HR : Hid (T = ([], 12)) := by show _ = _; rw [HT'.out, allA_err hf HN.out hg (by decide)]
        clear hg
        go_wp2_with (go_at_call 19; go_must (refine (refget_eq HV.out HG.out).mono ?_); rintro e w2 ⟨rfl, rfl⟩)
        go_ret2
        exact ⟨.slice none 0 0, by rw [HR.out]; rfl, by rw [HR.out]; exact World.ownsRow_nil _ _ _ _, hbe⟩
      · have HG : Hid (getL 0 0 (xs.drop k) = (n, (j : Int), 0)) := hg
        have HR : Hid (T = allA (f - 1) (acc ++ [n]) (xs.drop (k + j))) := by show _ = _; rw [HT'.out, allA_ok hf HN.out hg, List.drop_drop]
        clear hg
        simp only [List.length_drop] at hj2 hf
        go_wp2_with (first
          | (go_at_call 19; go_must (refine (refget_eq HV.out HG.out).mono ?_); rintro e w2 ⟨rfl, rfl⟩)
          | (at_builtin; go_must (refine wpList_append_own _ rfl _ _ 22 rfl w.heap.size 31 i31 (.int .u64 0) 1 8 Try.underlying22 hi31 hz310 hz311 hz312 rfl (by decide) _ _ _ rfl (hown.alloc _) ⟨_, 0, none⟩ 1 1 [.int .u64 n] rfl rfl (cell_one_new _ _ _) (one_cell _ _) (by unfold maxLen; omega) (by omega) (by simp; omega) ?_); intro v' w1 hown' hgrow _; have R := step_append hown hbe (Nat.le_refl _) hown' hgrow; clear hown' hgrow))
        go_roundw
        case rel => exact ⟨f - 1, k + j, acc ++ [n], by omega, by go_num, by simp; omega, by simp; omega, HR.out, R.1, R.2⟩
        case measure => simp [intOf]; omega
    · have HR : Hid (T = (acc, 0)) := by show _ = _; rw [HT'.out, List.drop_eq_nil_of_le (by omega), allA_nil]
      go_wp2
      go_ret2
      exact ⟨u4, by rw [HR.out]; rfl, by rw [HR.out]; exact hown, hbe⟩
end Go.Proofs.Ytkfeomgfpokeeaa
