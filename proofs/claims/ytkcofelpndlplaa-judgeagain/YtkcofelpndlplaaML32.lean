/-
  JMaps
  JFour
-/
import Derived.Test.YtkcofelpndlplaaML27
import Derived.Test.YtkcofelpndlplaaML30
import Derived.Test.YtkcofelpndlplaaML2
/-
  What the landed judge's mapsFit answers, with slices.Contains and slices.Index. No condition.
-/
namespace Go.Proofs.Ytkcofelpndlplaa
open Go.RowKit
set_option linter.unusedVariables false
set_option linter.unusedSimpArgs false
set_option maxRecDepth 100000

def hasI (xs : List Int) (x : Int) : Bool := (List.range xs.length).any fun k => decide (xs.getD k 0 = x)
theorem hasI_no {xs : List Int} {x : Int} : hasI xs x = false ↔ ∀ k, k < xs.length → xs.getD k 0 ≠ x := by
  unfold hasI
  rw [List.any_eq_false]
  constructor
  · intro h k hk; simpa using h k (List.mem_range.2 hk)
  · intro h k hk; simpa using h k (List.mem_range.1 hk)
theorem hasI_yes {xs : List Int} {x : Int} {k : Nat} (hk : k < xs.length) (h : xs.getD k 0 = x) : hasI xs x = true := by
  unfold hasI
  rw [List.any_eq_true]
  exact ⟨k, List.mem_range.2 hk, by simpa using h⟩
set_option maxHeartbeats 800000 in
theorem lindex_any (v : Value) (xs : List Int) (x : Int) (w : World) (hs : Sees .i64 w v xs) : Calls Try.prog 42 #[v, .int .i64 x] w fun e w' => ∃ q : Int, e = .returned (.int .i64 q) ∧ Hid (decide (0 ≤ q) = hasI xs x) ∧ w = w' := by
  have HS := keepJ hs
  obtain ⟨a, cap, rfl, h1, h2, h3, h4, h5⟩ := hs
  have hm : xs.length ≤ 9223372036854775807 := by unfold maxLen at h2; omega
  obtain ⟨N, HN⟩ : ∃ N, Hid (xs.length = N) := ⟨_, rfl⟩
  rw [HN.out] at hm h1
  rw [HN.out]
  go_enter Try.func42, Try.ntmps42
  go_wp2
  go_loopw [8] (fun i wr => ∃ k : Nat, k ≤ N ∧ i = .int .i64 k ∧ Hid (∀ j, j < k → xs.getD j 0 ≠ x) ∧ w = wr) (fun i _ => N - (intOf i).toNat)
  case atStart => exact ⟨0, by omega, rfl, fun j hj => by omega, rfl⟩
  case round =>
    obtain ⟨k, hk, rfl, HI, rfl⟩ := hrel
    by_cases hlt : k < N
    · obtain ⟨b, off, rfl, hb, hat⟩ := h5 (fun e => by have := HN.out; rw [e] at this; simp at this; omega)
      obtain ⟨y, HY⟩ : ∃ y, Hid (xs.getD k 0 = y) := ⟨_, rfl⟩
      have c0 := hat k (by have := HN.out; omega)
      rw [HY.out] at c0
      have hkI : (k : Int) < N := by omega
      clear h5 hat
      by_cases hxy : x = y
      · subst hxy
        have HQ : Hid (decide (0 ≤ (k : Int)) = hasI xs x) := by
          show _ = _
          rw [hasI_yes (k := k) (by have := HN.out; omega) HY.out]
          simp
        go_wp2
        go_ret
        exact ⟨_, rfl, HQ.out, rfl⟩
      · go_wp2
        go_roundw
        case rel => exact ⟨k + 1, by omega, by go_num, fun j hj => by
          by_cases h : j = k
          · subst h; rw [HY.out]; exact fun e => hxy e.symm
          · exact HI.out j (by omega), by first | rfl | trivial⟩
        case measure => simp [intOf]; omega
    · obtain rfl : k = N := by omega
      have HQ : Hid (decide (0 ≤ (-1 : Int)) = hasI xs x) := by
        show _ = _
        rw [hasI_no.2 (by rw [HN.out]; exact HI.out)]
        rfl
      go_wp2
      go_ret
      exact ⟨_, rfl, HQ.out, rfl⟩
theorem lcontains_any (v : Value) (xs : List Int) (x : Int) (w : World) (hs : Sees .i64 w v xs) {r : Bool} (hr : Hid (hasI xs x = r)) : Calls Try.prog 23 #[v, .int .i64 x] w fun e w' => e = .returned (.bool r) ∧ w = w' := by
  have HS := keepJ hs
  obtain ⟨a, cap, rfl, _⟩ := hs
  go_enter Try.func23, Try.ntmps23
  go_wp2_with (go_at_call 42; go_must (refine (lindex_any _ xs x _ HS.out).mono ?_); rintro e w' ⟨q, rfl, HQ, rfl⟩)
  go_ret
  refine ⟨?_, rfl⟩
  rw [← hr.out, ← HQ.out]
  rfl
def okM (ms : List Int) (i : Nat) : Bool := decide (0 ≤ ms.getD i 0) && decide (ms.getD i 0 ≤ 3) && ((List.range i).all fun k => decide (ms.getD k 0 ≠ ms.getD i 0))
theorem has_take {ms : List Int} {i : Nat} (hi : i ≤ ms.length) (x : Int) : hasI (ms.take i) x = !((List.range i).all fun k => decide (ms.getD k 0 ≠ x)) := by
  unfold hasI
  rw [List.length_take, Nat.min_eq_left hi, Bool.eq_iff_iff]
  simp only [List.any_eq_true, Bool.not_eq_true', List.all_eq_false, List.mem_range, decide_eq_true_eq]
  constructor
  · rintro ⟨k, hk, h⟩
    exact ⟨k, hk, by simpa [List.getD, List.getElem?_take, hk] using h⟩
  · rintro ⟨k, hk, h⟩
    exact ⟨k, hk, by simpa [List.getD, List.getElem?_take, hk] using h⟩
set_option maxHeartbeats 1600000 in
theorem lmapsFit_any (v : Value) (ms : List Int) (w : World) (hs : Sees .i64 w v ms) {r : Bool} (hr : Hid (mapsJ ms = r)) : Calls Try.prog 15 #[v] w fun e w' => e = .returned (.bool r) ∧ w = w' := by
  have HS := keepJ hs
  obtain ⟨a, cap, rfl, h1, h2, h3, h4, h5⟩ := hs
  obtain ⟨N, HN⟩ : ∃ N, Hid (ms.length = N) := ⟨_, rfl⟩
  have hcap : cap ≤ 9223372036854775807 := by unfold maxLen at h2; omega
  rw [HN.out] at h1 HS ⊢
  by_cases hN : N ≤ 4
  · have HE : Hid (r = (List.range N).all (okM ms)) := by
      show _ = _
      rw [← hr.out]
      unfold mapsJ okM
      rw [HN.out, decide_eq_true hN, Bool.true_and]
    have hNI : (N : Int) ≤ 4 := by omega
    clear hr
    go_enter Try.func15, Try.ntmps15
    go_wp2
    go_loopw [10] (fun i wr => ∃ k : Nat, k ≤ N ∧ i = .int .i64 k ∧ Hid ((List.range k).all (okM ms) = true) ∧ w = wr) (fun i _ => N - (intOf i).toNat)
    case atStart => exact ⟨0, by omega, rfl, rfl, rfl⟩
    case round =>
      obtain ⟨k, hk, rfl, HI, rfl⟩ := hrel
      by_cases hlt : k < N
      · obtain ⟨b, off, rfl, hb, hat⟩ := h5 (fun e => by have := HN.out; rw [e] at this; simp at this; omega)
        obtain ⟨y, HY⟩ : ∃ y, Hid (ms.getD k 0 = y) := ⟨_, rfl⟩
        have c0 := hat k (by have := HN.out; omega)
        rw [HY.out] at c0
        have hkI : (k : Int) < N := by omega
        clear h5 hat
        by_cases hy0 : y < 0
        · have HF : Hid (r = false) := by show _ = _; rw [HE.out]; exact range_no hlt (by unfold okM; rw [HY.out, decide_eq_false (by omega)]; rfl)
          go_wp2
          go_ret
          exact ⟨by rw [HF.out]; rfl, rfl⟩
        by_cases hy4 : 4 ≤ y
        · have HF : Hid (r = false) := by show _ = _; rw [HE.out]; exact range_no hlt (by unfold okM; rw [HY.out, decide_eq_false (show ¬ y ≤ 3 by omega), Bool.and_false]; rfl)
          go_wp2
          go_ret
          exact ⟨by rw [HF.out]; rfl, rfl⟩
        obtain ⟨q, HQ⟩ : ∃ q, Hid (hasI (ms.take k) y = q) := ⟨_, rfl⟩
        have HOK : Hid (okM ms k = !q) := by
          show _ = _
          unfold okM
          rw [HY.out, decide_eq_true (show 0 ≤ y by omega), decide_eq_true (show y ≤ 3 by omega), ← HQ.out, has_take (by have := HN.out; omega)]
          simp
        have HC : Hid (Sees .i64 w (cutV (some ⟨b, off, none⟩) 0 k cap) (ms.take k)) := by
          have := Sees.cut (xs := ms) (a := some ⟨b, off, none⟩) (cap := cap) (by rw [HN.out]; exact HS.out) 0 k cap (by omega) (by have := HN.out; omega) (by omega) (Nat.le_refl _)
          rw [List.drop_zero] at this
          exact this
        have hsl := run_upto (e := 3) Try.underlying22 (fun w => by simp [Go.sizeOf]; rfl) (some ⟨b, off, none⟩) N cap k (by omega)
        cases q with
        | true =>
          have HF : Hid (r = false) := by show _ = _; rw [HE.out]; exact range_no hlt (by rw [HOK.out]; rfl)
          go_wp2_with (go_at_call 23; go_must (refine (lcontains_any _ (ms.take k) y _ HC.out HQ).mono ?_); rintro e w' ⟨rfl, rfl⟩)
          go_ret
          exact ⟨by rw [HF.out]; rfl, rfl⟩
        | false =>
          go_wp2_with (go_at_call 23; go_must (refine (lcontains_any _ (ms.take k) y _ HC.out HQ).mono ?_); rintro e w' ⟨rfl, rfl⟩)
          go_roundw
          case rel => exact ⟨k + 1, by omega, by go_num, by show _ = _; rw [range_all, HI.out, HOK.out]; rfl, by first | rfl | trivial⟩
          case measure => simp [intOf]; omega
      · obtain rfl : k = N := by omega
        have HF : Hid (r = true) := by show _ = _; rw [HE.out]; exact HI.out
        go_wp2
        go_ret
        exact ⟨by rw [HF.out]; rfl, rfl⟩
  · have HF : Hid (r = false) := by
      show _ = _
      rw [← hr.out]
      unfold mapsJ
      rw [HN.out, decide_eq_false hN, Bool.false_and]
    have hNI : 4 < (N : Int) := by omega
    go_enter Try.func15, Try.ntmps15
    go_wp2
    go_ret
    exact ⟨by rw [HF.out]; rfl, rfl⟩
end Go.Proofs.Ytkcofelpndlplaa
/-
  The maps with those of 0 to 3 that are not among them behind them: well-formed, and four. No Go text in sight.
-/
namespace Go.Proofs.Ytkcofelpndlplaa
set_option linter.unusedVariables false
set_option linter.unusedSimpArgs false

def addM (ms : List Int) (n : Int) : List Int := if hasI ms n = true then ms else ms ++ [n]
def fourN (ms : List Int) : Nat → List Int
  | 0 => ms
  | k + 1 => addM (fourN ms k) k
theorem addM_len (ms : List Int) (n : Int) : ms.length ≤ (addM ms n).length := by
  unfold addM
  split <;> simp
theorem fourN_len (ms : List Int) : ∀ k, ms.length ≤ (fourN ms k).length
  | 0 => Nat.le_refl _
  | k + 1 => Nat.le_trans (fourN_len ms k) (addM_len _ _)
def fourB (ms : List Int) : Bool := !mapsJ ms || (mapsJ (fourN ms 4) && decide ((fourN ms 4).length = 4))
def four4 : List Int := [0, 1, 2, 3]
theorem four_0 : fourB [] = true := by decide +kernel
theorem four_1 : (four4.all fun a => fourB [a]) = true := by decide +kernel
theorem four_2 : (four4.all fun a => four4.all fun b => fourB [a, b]) = true := by decide +kernel
theorem four_3 : (four4.all fun a => four4.all fun b => four4.all fun c => fourB [a, b, c]) = true := by decide +kernel
theorem four_4 : (four4.all fun a => four4.all fun b => four4.all fun c => four4.all fun d => fourB [a, b, c, d]) = true := by decide +kernel
theorem in_four {x : Int} (h : 0 ≤ x ∧ x ≤ 3) : x ∈ four4 := by
  have : x = 0 ∨ x = 1 ∨ x = 2 ∨ x = 3 := by omega
  rcases this with rfl | rfl | rfl | rfl <;> decide
theorem maps_each {ms : List Int} (h : mapsJ ms = true) : ms.length ≤ 4 ∧ ∀ i, i < ms.length → 0 ≤ ms.getD i 0 ∧ ms.getD i 0 ≤ 3 := by
  unfold mapsJ at h
  simp only [Bool.and_eq_true, decide_eq_true_eq, List.all_eq_true, List.mem_range] at h
  exact ⟨h.1, fun i hi => (h.2 i hi).1⟩
theorem four_ok {ms : List Int} (h : mapsJ ms = true) : mapsJ (fourN ms 4) = true ∧ (fourN ms 4).length = 4 := by
  obtain ⟨hl, he⟩ := maps_each h
  have key : fourB ms = true → mapsJ (fourN ms 4) = true ∧ (fourN ms 4).length = 4 := by
    intro hb
    unfold fourB at hb
    rw [h] at hb
    simpa using hb
  apply key
  match ms, hl, he with
  | [], _, _ => exact four_0
  | [a], _, he => exact List.all_eq_true.1 four_1 a (in_four (he 0 (by simp)))
  | [a, b], _, he => exact List.all_eq_true.1 (List.all_eq_true.1 four_2 a (in_four (he 0 (by simp)))) b (in_four (he 1 (by simp)))
  | [a, b, c], _, he => exact List.all_eq_true.1 (List.all_eq_true.1 (List.all_eq_true.1 four_3 a (in_four (he 0 (by simp)))) b (in_four (he 1 (by simp)))) c (in_four (he 2 (by simp)))
  | [a, b, c, d], _, he => exact List.all_eq_true.1 (List.all_eq_true.1 (List.all_eq_true.1 (List.all_eq_true.1 four_4 a (in_four (he 0 (by simp)))) b (in_four (he 1 (by simp)))) c (in_four (he 2 (by simp)))) d (in_four (he 3 (by simp)))
  | a :: b :: c :: d :: e :: r, hl, _ => simp at hl
end Go.Proofs.Ytkcofelpndlplaa
