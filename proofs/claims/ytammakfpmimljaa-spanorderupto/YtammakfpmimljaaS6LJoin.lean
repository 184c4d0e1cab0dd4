/-
  What the landed Join answers. Condition: the slice reads as spans of numbers of 64 bits.
-/
import Derived.Test.YtammakfpmimljaaS6RJoin
import Derived.Test.YtammakfpmimljaaS6LAll
import Derived.Lib.MinMax
namespace Go.Proofs.Ytammakfpmimljaa
open Go.RowKit
set_option linter.unusedVariables false
set_option maxRecDepth 20000

theorem size_span (w : World) : (Go.sizeOf 24).run Try.prog w = .ok 2 w := by
  show (Go.sizeOf _).run _ _ = _
  rfl
/-- A slice of spans, cut. -/
def cutS (a : Option Addr) (l h m : Nat) : Value := .slice (if m = l then a else a.map (·.add (l * 2))) (h - l) (m - l)
theorem run_fromI (a : Option Addr) (len cap i : Nat) (hi : i ≤ len) (w : World) :
    (Instr.slice 32 (.slice a len cap) (some (.int .i64 i)) none none).run Try.prog w = .ok (cutS a i len cap) w := by
  have h0 : (i : Int) ≤ (len : Int) := by omega
  simp [Instr.slice, run_underlying Try.underlying32, Instr.sliceBounds, run_sliceBound, h0, cutS]
theorem run_uptoI (a : Option Addr) (len cap i : Nat) (hi : i ≤ cap) (w : World) :
    (Instr.slice 32 (.slice a len cap) none (some (.int .i64 i)) none).run Try.prog w = .ok (cutS a 0 i cap) w := by
  have h0 : (i : Int) ≤ (cap : Int) := by omega
  simp [Instr.slice, run_underlying Try.underlying32, Instr.sliceBounds, run_sliceBound, h0, cutS]
theorem run_fromS (b off len cap : Nat) (h : len + 1 ≤ cap) : ∃ off', (∀ w, (Instr.slice 32 (.slice (some ⟨b, off, none⟩) (len + 1) cap) (some (.int .i64 1)) none none).run Try.prog w = .ok (.slice (some ⟨b, off', none⟩) len (cap - 1)) w) ∧ (0 < len → off' = off + 2) := by
  refine ⟨if cap = 1 then off else off + 2, fun w => ?_, fun h0 => if_neg (by omega)⟩
  refine (run_fromI (some ⟨b, off, none⟩) (len + 1) cap 1 (by omega) w).trans ?_
  unfold cutS
  by_cases hc : cap = 1
  · simp [hc]
  · simp [hc, Addr.add]
theorem Bx.dr {w : World} {n : Nat} {x y : Int} (h : Bx w n x y) : Bx w.drew n x y := h
set_option maxHeartbeats 1600000 in
theorem ljoin_some (bk off cap : Nat) (ss : List (Int × Int)) (w : World) (hpos : 0 < ss.length) (hc : ss.length ≤ cap) (hm : cap ≤ 9223372036854775807) (hbk : bk < w.heap.size)
    (hat : ∀ k, k < ss.length → AtS w bk (off + k * 2) (ss.getD k (0, 0))) :
    Calls Try.prog 18 #[.slice (some ⟨bk, off, none⟩) ss.length cap] w fun e w' => e = .returned (optV (if joinB ss = true then some (joinL ss) else none)) ∧ Below w.heap.size w w' := by
  have HA : Hid (∀ k, k < ss.length → AtS w bk (off + k * 2) (ss.getD k (0, 0))) := hat
  clear hat
  obtain ⟨n, HN⟩ : ∃ n, Hid (ss.length = n + 1) := ⟨ss.length - 1, by show _ = _; omega⟩
  obtain ⟨R, HR⟩ : ∃ R, Hid (R = if joinB ss = true then some (joinL ss) else none) := ⟨_, rfl⟩
  rw [← HR.out]
  have HJ : Hid (joinB ss = ss.all okS) := by
    show _ = _
    unfold joinB
    cases ss with
    | nil => simp at hpos
    | cons s r => rfl
  have HSees : Hid (∀ w1, Below w.heap.size w w1 → SeesS w1 (.slice (some ⟨bk, off, none⟩) (n + 1) cap) ss) := fun w1 h1 => by
    have h : SeesS w (.slice (some ⟨bk, off, none⟩) (n + 1) cap) ss := ⟨_, cap, by rw [HN.out], hc, by unfold maxLen; omega, fun h => by simp at h, fun _ => ⟨bk, off, rfl, hbk, HA.out⟩⟩
    exact h.below h1
  rw [HN.out] at hc hpos ⊢
  have hne0 : (((n : Int) + 1) == 0) = false := by
    have : (n : Int) + 1 ≠ 0 := by omega
    simpa using this
  have HNE : Hid (ss ≠ []) := fun h => by have := HN.out; rw [h] at this; simp at this
  cases hall : ss.all okS
  · have HE : Hid (R = none) := by show _ = _; rw [HR.out, HJ.out, hall]; rfl
    clear HA
    go_enter Try.func18, Try.ntmps18
    go_wp2_with (go_at_call 29; go_must (refine (lallRight_any _ ss _ (HSees.out _ ((Below.refl _ _).alloc (Nat.le_refl _) _)) HNE.out).mono ?_); rintro e w1 ⟨rfl, hb1⟩; go_must (rw [hall]; have hB0 : Bx w1 w.heap.size 0 0 := Bx.below ⟨⟨by go_cell, by go_cell⟩, by go_simp, by go_simp⟩ hb1 (by simp); obtain ⟨⟨c0, c1⟩, f0, f1⟩ := hB0; have HT : Hid _ := set_two (x := .int .u64 0) (y := .int .u64 0) c0 c1; have hbe : Below w.heap.size w w1 := boxS_below hb1; clear hb1))
    refine bodyPost_ret (v := optV none) ?_ rfl ⟨by rw [HE.out], below_set (below_set hbe (by omega)) (by omega)⟩
    rw [results_cell_tmp rfl]
    simp [asAddr, Result.andThen]
    rw [run_boxS HT.out.1 HT.out.2]
    rfl
  · have HE : Hid (R = some (loF ss, hiF ss)) := by show _ = _; rw [HR.out]; unfold joinL; rw [HJ.out, hall]; rfl
    obtain ⟨off', hcut, HO⟩ := run_fromS bk off n cap hc
    have HO : Hid (0 < n → off' = off + 2) := HO
    obtain ⟨y0, Y0, HS0⟩ : ∃ y Y, Hid (ss.getD 0 (0, 0) = (y, Y)) := ⟨_, _, rfl⟩
    go_enter Try.func18, Try.ntmps18
    go_wp2_with (go_at_call 29; go_must (refine (lallRight_any _ ss _ (HSees.out _ ((Below.refl _ _).alloc (Nat.le_refl _) _)) HNE.out).mono ?_); rintro e w1 ⟨rfl, hb1⟩; go_must (rw [hall]; have hB0 : Hid (Bx w1 w.heap.size 0 0) := Bx.below ⟨⟨by go_cell, by go_cell⟩, by go_simp, by go_simp⟩ hb1 (by simp); have hbe : Below w.heap.size w w1 := boxS_below hb1; have hz : w.heap.size < w1.heap.size := Nat.lt_of_lt_of_le (by simp) hb1.size; have hcell := (HA.out 0 (by have := HN.out; omega)).below hbe hbk; rw [HS0.out] at hcell; obtain ⟨e0, e1⟩ := hcell; simp only [Nat.zero_mul, Nat.add_zero] at e0 e1; clear hb1))
    go_loopw [22] (fun i wr => ∃ (k : Nat) (x X : Int), k ≤ n ∧ i = .int .i64 k ∧ Hid (x = loF (ss.take (k + 1)) ∧ X = hiF (ss.take (k + 1))) ∧ Bx wr w.heap.size 0 0 ∧ Bx wr w1.heap.size x X ∧ Below w.heap.size w wr ∧ w1.heap.size < wr.heap.size) (fun i _ => n - (intOf i).toNat)
    case atStart => exact ⟨0, y0, Y0, by omega, rfl, by have h := ends_one (ss := ss) (by have := HN.out; omega); rw [HS0.out] at h; exact ⟨h.1.symm, h.2.1.symm⟩, hB0.out.al hz, ⟨⟨by go_cell, by go_cell⟩, by go_simp, by go_simp⟩, hbe.alloc (by omega) _, by simp⟩
    case round =>
      clear hB0 hbe e0 e1
      obtain ⟨k, x, X, hk, rfl, HI, hB0, hB1, hbe, m1⟩ := hrel
      have m0 : w.heap.size < wr.heap.size := by omega
      have mb : bk < wr.heap.size := by omega
      obtain ⟨⟨c0, c1⟩, f0, f1⟩ := id hB0
      obtain ⟨⟨d0, d1⟩, g0, g1⟩ := id hB1
      have HB0 : Hid (Bx wr w.heap.size 0 0) := hB0
      have HB1 : Hid (Bx wr w1.heap.size x X) := hB1
      have hsz := hbe.size
      clear hB0 hB1
      by_cases hlt : k < n
      · obtain ⟨y, Y, HS⟩ : ∃ y Y, Hid (ss.getD (k + 1) (0, 0) = (y, Y)) := ⟨_, _, rfl⟩
        obtain rfl : off' = off + 2 := HO.out (by omega)
        have hcell := (HA.out (k + 1) (by have := HN.out; omega)).below hbe hbk
        rw [HS.out, show off + (k + 1) * 2 = off + 2 + k * 2 by omega] at hcell
        obtain ⟨e0, e1⟩ := hcell
        simp only at e0 e1
        have HL : Hid (loF (ss.take (k + 1 + 1)) = min (loF (ss.take (k + 1))) y ∧ hiF (ss.take (k + 1 + 1)) = max (hiF (ss.take (k + 1))) Y) := by
          have h := loF_step (ss := ss) (k := k + 1) (by have := HN.out; omega) (by omega)
          rw [HS.out] at h
          exact ⟨h.1, h.2.1⟩
        go_wp2
        go_region
        go_wp2
        go_roundw
        case rel => exact ⟨k + 1, min x y, max X Y, by omega, by go_num, ⟨by rw [HL.out.1, ← HI.out.1], by rw [HL.out.2, ← HI.out.2]⟩, Bx.dr (Bx.al ((HB0.out.far (m := w1.heap.size) (by omega)).far (m := w1.heap.size) (by omega)) (by simp only [size_set]; omega)), Bx.dr (Bx.al (HB1.out.set (min x y) (max X Y)) (by simp only [size_set]; omega)), below_dr ((below_set (below_set hbe (by omega)) (by omega)).alloc (by simp only [size_set]; omega) _), by simp [World.setCell]; omega⟩
        case measure => simp [intOf]; omega
      · obtain rfl : k = n := by omega
        have HX : Hid (R = some (x, X)) := by
          show _ = _
          rw [HE.out, HI.out.1, HI.out.2, ← HN.out, List.take_length]
        have HT : Hid _ := set_two (x := .int .u64 x) (y := .int .u64 X) c0 c1
        go_wp2
        refine bodyPost_ret (v := optV (some (x, X))) ?_ rfl ⟨by rw [HX.out], below_set (below_set hbe (by omega)) (by omega)⟩
        rw [results_cell_tmp rfl]
        simp [asAddr, Result.andThen]
        rw [run_boxS HT.out.1 HT.out.2]
        rfl
theorem ljoin_none (a : Option Addr) (cap : Nat) (w : World) : Calls Try.prog 18 #[.slice a 0 cap] w fun e w' => e = .returned (optV none) ∧ Below w.heap.size w w' := by
  go_enter Try.func18, Try.ntmps18
  go_wp2
  refine bodyPost_ret (v := optV none) ?_ rfl ⟨rfl, by go_grown⟩
  rw [results_cell_tmp rfl]
  simp [asAddr, Result.andThen]
  rw [run_boxS (a := 0) (A := 0)]
  · rfl
  all_goals go_cell
/-- The landed Join. -/
theorem ljoin_any (v : Value) (ss : List (Int × Int)) (w : World) (hs : SeesS w v ss) (hwf : ∀ s ∈ ss, wfS s) :
    Calls Try.prog 18 #[v] w fun e w' => e = .returned (optV (if joinB ss = true then some (joinL ss) else none)) ∧ Below w.heap.size w w' := by
  obtain ⟨a, cap, rfl, hl, hm, hn, hc⟩ := hs
  by_cases hne : ss = []
  · subst hne
    exact ljoin_none a cap w
  · obtain ⟨b, off, rfl, hb, hat⟩ := hc hne
    exact ljoin_some b off cap ss w (List.length_pos_iff.2 hne) hl (by unfold maxLen at hm; omega) hb hat
end Go.Proofs.Ytammakfpmimljaa
