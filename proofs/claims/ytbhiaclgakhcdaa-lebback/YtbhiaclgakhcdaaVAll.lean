/-
  What leb.All does with the encodings of numbers: these numbers, in new memory. Condition: at most 17592186044416 numbers.
-/
import Derived.Test.YtbhiaclgakhcdaaVKit
import Derived.Test.YtbhiaclgakhcdaaVPlainBack
namespace Go.Proofs.Ytbhiaclgakhcdaa
open Go.RowKit
set_option linter.unusedVariables false


theorem allA_long : ∀ (f : Nat) (acc xs ns : List Int), allA f acc xs = (ns, 0) → acc.length ≤ ns.length
  | 0, acc, xs, ns, h => by
    have h1 : (acc, (0 : Int)) = (ns, 0) := h
    injection h1 with h1 _
    rw [h1]; exact Nat.le_refl _
  | f + 1, acc, [], ns, h => by
    rw [allA_nil] at h
    injection h with h1 _
    rw [h1]; exact Nat.le_refl _
  | f + 1, acc, c :: r, ns, h => by
    rw [allA] at h
    split at h
    · have h1 := allA_long f _ _ ns h
      simp at h1
      omega
    · rename_i hne
      injection h with _ h2
      exact absurd h2 hne

set_option maxRecDepth 100000 in
set_option maxHeartbeats 800000 in
theorem all_good (v : Value) (xs ns : List Int) (w : World) (h : Sees .u8 w v xs) (hmax : ns.length ≤ 17592186044416) (hgood : allL xs = (ns, 0)) :
    Calls Try.prog 17 #[v] w fun e w' => ∃ u, e = .returned (.tuple #[u, .int .i64 (allL xs).2]) ∧ w'.ownsRow w.heap.size 31 1 u (allL xs).1.length ((allL xs).1.map (Value.int .u64)) ∧ Below w.heap.size w w' := by
  obtain ⟨i31, hi31, hz310, hz311, hz312⟩ := info_parts Try.info31
  obtain ⟨T, HT⟩ : ∃ T, Hid (T = allL xs) := ⟨_, rfl⟩
  rw [← HT.out]
  go_enter Try.func17, Try.ntmps17
  go_wp2
  go_loopw [0, 4] (fun b ns wr => ∃ (f : Nat) (acc rest : List Int), rest.length ≤ f ∧ T = allA f acc rest ∧ Sees .u8 w b rest ∧ wr.ownsRow w.heap.size 31 1 ns acc.length (acc.map (Value.int .u64)) ∧ Below w.heap.size w wr) (fun b _ _ => sLen b)
  case atStart => exact ⟨xs.length, [], xs, Nat.le_refl _, HT.out, h, World.ownsRow_nil _ _ _ _, Below.refl _ _⟩
  case round =>
    clear h
    obtain ⟨f, acc, rest, hf, hT, hsee, hown, hbe⟩ := hrel
    have hlen : acc.length ≤ 17592186044416 := Nat.le_trans (allA_long f acc rest ns (by rw [← hT, HT.out]; exact hgood)) hmax
    have HT' : Hid (T = allA f acc rest) := hT
    clear hT
    have hsz := hbe.size
    have HS : Hid (Sees .u8 w u0 rest) := hsee
    obtain ⟨a, cap, rfl, hl, hm, hrest⟩ := hsee
    clear hrest
    unfold maxLen at hm
    by_cases hne : rest = []
    · subst hne
      have HR : Hid (T = (acc, 0)) := by show _ = _; rw [HT'.out, allA_nil]
      go_wp2
      go_ret2
      exact ⟨u4, by rw [HR.out]; rfl, by rw [HR.out]; exact hown, hbe⟩
    · have hpos : 0 < rest.length := List.length_pos_iff.2 hne
      have HSr : Hid (Sees .u8 wr (.slice a rest.length cap) rest) := HS.out.below hbe (Nat.le_refl _)
      rcases getL_tells rest 0 0 (by omega) (by omega) (by simp) HS.out.bytes with (hg | hg) | ⟨n, j, hg, hn0, hn1, hj1, hj2, hj3⟩
      · have HG : Hid (getL 0 0 rest = (0, 0, 10)) := hg
        have HR : Hid (T = ([], 10)) := by show _ = _; rw [HT'.out, allA_err hf hne hg (by decide)]
        clear hg
        go_wp2_with (go_at_call 15; go_must (refine (get_eq HSr.out HG.out).mono ?_); rintro e w2 ⟨rfl, rfl⟩)
        go_ret2
        exact ⟨.slice none 0 0, by rw [HR.out]; rfl, by rw [HR.out]; exact World.ownsRow_nil _ _ _ _, hbe⟩
      · have HG : Hid (getL 0 0 rest = (0, 0, 12)) := hg
        have HR : Hid (T = ([], 12)) := by show _ = _; rw [HT'.out, allA_err hf hne hg (by decide)]
        clear hg
        go_wp2_with (go_at_call 15; go_must (refine (get_eq HSr.out HG.out).mono ?_); rintro e w2 ⟨rfl, rfl⟩)
        go_ret2
        exact ⟨.slice none 0 0, by rw [HR.out]; rfl, by rw [HR.out]; exact World.ownsRow_nil _ _ _ _, hbe⟩
      · have HG : Hid (getL 0 0 rest = (n, (j : Int), 0)) := hg
        have HR : Hid (T = allA (f - 1) (acc ++ [n]) (rest.drop j)) := by show _ = _; rw [HT'.out, allA_ok hf hne hg]
        clear hg
        have hj : j ≤ rest.length := by omega
        obtain ⟨V, hV, HV⟩ : ∃ V, (∀ wx, (Instr.slice 25 (.slice a rest.length cap) (some (.int .i64 j)) none none).run Try.prog wx = .ok V wx) ∧ Hid (Sees .u8 w V (rest.drop j)) :=
          ⟨_, run_from Try.underlying25 size_u8 a rest.length cap j hj, by have h := Sees.cut HS.out j rest.length cap hj (Nat.le_refl _) hl (Nat.le_refl _); rw [List.take_length] at h; exact h⟩
        go_wp2_with (first
          | (go_at_call 15; go_must (refine (get_eq HSr.out HG.out).mono ?_); rintro e w2 ⟨rfl, rfl⟩)
          | (at_builtin; go_must (refine wpList_append_wide _ rfl _ _ 22 rfl w.heap.size 31 i31 (.int .u64 0) 1 8 Try.underlying22 hi31 hz310 hz311 hz312 rfl (by decide) _ _ _ rfl (hown.alloc _) ⟨_, 0, none⟩ 1 1 [.int .u64 n] rfl rfl (cell_one_new _ _ _) (one_cell _ _) (by unfold maxLen; omega) (by omega) (by simp; omega) ?_); intro v' w1 hown' hgrow _; have R := step_append hown hbe (Nat.le_refl _) hown' hgrow; clear hown' hgrow))
        go_roundw
        case rel => exact ⟨f - 1, acc ++ [n], rest.drop j, by simp; omega, HR.out, HV.out, R.1, R.2⟩
        case measure =>
          obtain ⟨a', cap', e, _⟩ := HV.out
          rw [e]
          simp [sLen]; omega
end Go.Proofs.Ytbhiaclgakhcdaa
