/-
  S6LJoin
  S6LMeet
-/
import Derived.Test.YtkondcjmhlppiaaGreatMW13
import Derived.Test.YtkondcjmhlppiaaGreatMW14
import Derived.Lib.MinMax
namespace Go.Proofs.YtkondcjmhlppiaaGreat
open Go.RowKit
set_option linter.unusedVariables false
set_option maxRecDepth 20000
def cutS (a : Option Addr) (l h m : Nat) : Value := .slice (if m = l then a else a.map (·.add (l * 2))) (h - l) (m - l)
theorem run_fromI (a : Option Addr) (len cap i : Nat) (hi : i <= len) (w : World) :
  (Instr.slice 200 (.slice a len cap) (some (.int .i64 i)) none none).run Tryz.prog w = .ok (cutS a i len cap) w := by
 have h0 : (i : Int) <= (len : Int) := by omega
 simp [Instr.slice, run_underlying Tryz.underlying200, Instr.sliceBounds, run_sliceBound, h0, cutS]
theorem run_fromS (b off len cap : Nat) (h : len + 1 <= cap) : ∃ off', (∀ w, (Instr.slice 200 (.slice (some ⟨b, off, none⟩) (len + 1) cap) (some (.int .i64 1)) none none).run Tryz.prog w = .ok (.slice (some ⟨b, off', none⟩) len (cap - 1)) w) /\ (0 < len -> off' = off + 2) := by
 refine ⟨if cap = 1 then off else off + 2, fun w => ?_, fun h0 => if_neg (by omega)⟩
 refine (run_fromI (some ⟨b, off, none⟩) (len + 1) cap 1 (by omega) w).trans ?_
 unfold cutS
 by_cases hc : cap = 1
 ·simp [hc]
 ·simp [hc, Addr.add]
theorem Bx.dr {w : World} {n : Nat} {x y : Int} (h : Bx w n x y) : Bx w.drew n x y := h
set_option maxHeartbeats 1600000 in
theorem ljoin_some (bk off cap : Nat) (ss : List (Int × Int)) (w : World) (hpos : 0 < ss.length) (hc : ss.length <= cap) (hm : cap <= 9223372036854775807) (hbk : bk < w.heap.size)
  (hat : ∀ k, k < ss.length -> AtS w bk (off + k * 2) (ss.getD k (0, 0))) :
  Calls Tryz.prog 79 #[.slice (some ⟨bk, off, none⟩) ss.length cap] w fun e w' => e = .returned (optV (if joinB ss = true then some (joinL ss) else none)) /\ Below w.heap.size w w' := by
 have HA : Hid (∀ k, k < ss.length -> AtS w bk (off + k * 2) (ss.getD k (0, 0))) := hat
 clear hat
 obtain ⟨n, HN⟩ : ∃ n, Hid (ss.length = n + 1) := ⟨ss.length - 1, by show _ = _; omega⟩
 obtain ⟨R, HR⟩ : ∃ R, Hid (R = if joinB ss = true then some (joinL ss) else none) := ⟨_, rfl⟩
 rw [<- HR.out]
 have HJ : Hid (joinB ss = ss.all okS) := by
  show _ = _
  unfold joinB
  cases ss with
  | nil => simp at hpos
  | cons s r => rfl
 have HSees : Hid (∀ w1, Below w.heap.size w w1 -> SeesS w1 (.slice (some ⟨bk, off, none⟩) (n + 1) cap) ss) := fun w1 h1 => by
  have h : SeesS w (.slice (some ⟨bk, off, none⟩) (n + 1) cap) ss := ⟨_, cap, by rw [HN.out], hc, by unfold maxLen; omega, fun h => by simp at h, fun _ => ⟨bk, off, rfl, hbk, HA.out⟩⟩
  exact h.below h1
 rw [HN.out] at hc hpos ⊢
 have hne0 : (((n : Int) + 1) == 0) = false := by
  have : (n : Int) + 1 ≠ 0 := by omega
  simpa using this
 have HNE : Hid (ss ≠ []) := fun h => by have := HN.out; rw [h] at this; simp at this
 cases hall : ss.all okS
 ·have HE : Hid (R = none) := by show _ = _; rw [HR.out, HJ.out, hall]; rfl
  clear HA
  go_enter Tryz.func79, Tryz.ntmps79
  go_wp2_with (go_at_call 98; go_must (refine (lallRight_any _ ss _ (HSees.out _ ((Below.refl _ _).alloc (Nat.le_refl _) _)) HNE.out).mono ?_); rintro e w1 ⟨rfl, hb1⟩; go_must (rw [hall]; have hB0 : Bx w1 w.heap.size 0 0 := Bx.below ⟨⟨by go_cell, by go_cell⟩, by go_simp, by go_simp⟩ hb1 (by simp); obtain ⟨⟨c0, c1⟩, f0, f1⟩ := hB0; have HT : Hid _ := set_two (x := .int .u64 0) (y := .int .u64 0) c0 c1; have hbe : Below w.heap.size w w1 := boxS_below hb1; clear hb1))
  refine bodyPost_ret (v := optV none) ?_ rfl ⟨by rw [HE.out], below_set (below_set hbe (by omega)) (by omega)⟩
  rw [results_cell_tmp rfl]
  simp [asAddr, Result.andThen]
  rw [run_boxS HT.out.1 HT.out.2]
  rfl
 ·have HE : Hid (R = some (loF ss, hiF ss)) := by show _ = _; rw [HR.out]; unfold joinL; rw [HJ.out, hall]; rfl
  obtain ⟨off', hcut, HO⟩ := run_fromS bk off n cap hc
  have HO : Hid (0 < n -> off' = off + 2) := HO
  obtain ⟨y0, Y0, HS0⟩ : ∃ y Y, Hid (ss.getD 0 (0, 0) = (y, Y)) := ⟨_, _, rfl⟩
  go_enter Tryz.func79, Tryz.ntmps79
  go_wp2_with (go_at_call 98; go_must (refine (lallRight_any _ ss _ (HSees.out _ ((Below.refl _ _).alloc (Nat.le_refl _) _)) HNE.out).mono ?_); rintro e w1 ⟨rfl, hb1⟩; go_must (rw [hall]; have hB0 : Hid (Bx w1 w.heap.size 0 0) := Bx.below ⟨⟨by go_cell, by go_cell⟩, by go_simp, by go_simp⟩ hb1 (by simp); have hbe : Below w.heap.size w w1 := boxS_below hb1; have hz : w.heap.size < w1.heap.size := Nat.lt_of_lt_of_le (by simp) hb1.size; have hcell := (HA.out 0 (by have := HN.out; omega)).below hbe hbk; rw [HS0.out] at hcell; obtain ⟨e0, e1⟩ := hcell; simp only [Nat.zero_mul, Nat.add_zero] at e0 e1; clear hb1))
  go_loopw [22] (fun i wr => ∃ (k : Nat) (x X : Int), k <= n /\ i = .int .i64 k /\ Hid (x = loF (ss.take (k + 1)) /\ X = hiF (ss.take (k + 1))) /\ Bx wr w.heap.size 0 0 /\ Bx wr w1.heap.size x X /\ Below w.heap.size w wr /\ w1.heap.size < wr.heap.size) (fun i _ => n - (intOf i).toNat)
  case atStart => exact ⟨0, y0, Y0, by omega, rfl, by have h := ends_one (ss := ss) (by have := HN.out; omega); rw [HS0.out] at h; exact ⟨h.1.symm, h.2.1.symm⟩, hB0.out.al hz, ⟨⟨by go_cell, by go_cell⟩, by go_simp, by go_simp⟩, hbe.alloc (by omega) _, by simp⟩
  case round =>
   clear hB0 hbe e0 e1
   obtain ⟨k, x, X, hk, rfl, HI, hB0, hB1, hbe, m1⟩ := hrel
   have m0 : w.heap.size < wr.heap.size := by omega
   have mb : bk < wr.heap.size := by omega
   obtain ⟨⟨c0, c1⟩, f0, f1⟩ := id hB0
   obtain ⟨⟨d0, d1⟩, g0, g1⟩ := id hB1
   have HB0 : Hid (Bx wr w.heap.size 0 0) := hB0
   have HB1 : Hid (Bx wr w1.heap.size x X) := hB1
   have hsz := hbe.size
   clear hB0 hB1
   by_cases hlt : k < n
   ·obtain ⟨y, Y, HS⟩ : ∃ y Y, Hid (ss.getD (k + 1) (0, 0) = (y, Y)) := ⟨_, _, rfl⟩
    obtain rfl : off' = off + 2 := HO.out (by omega)
    have hcell := (HA.out (k + 1) (by have := HN.out; omega)).below hbe hbk
    rw [HS.out, show off + (k + 1) * 2 = off + 2 + k * 2 by omega] at hcell
    obtain ⟨e0, e1⟩ := hcell
    simp only at e0 e1
    have HL : Hid (loF (ss.take (k + 1 + 1)) = min (loF (ss.take (k + 1))) y /\ hiF (ss.take (k + 1 + 1)) = max (hiF (ss.take (k + 1))) Y) := by
     have h := loF_step (ss := ss) (k := k + 1) (by have := HN.out; omega) (by omega)
     rw [HS.out] at h
     exact ⟨h.1, h.2.1⟩
    go_wp2
    go_region
    go_wp2
    go_roundw
    case rel => exact ⟨k + 1, min x y, max X Y, by omega, by go_num, ⟨by rw [HL.out.1, <- HI.out.1], by rw [HL.out.2, <- HI.out.2]⟩, Bx.dr (Bx.al ((HB0.out.far (m := w1.heap.size) (by omega)).far (m := w1.heap.size) (by omega)) (by simp only [size_set]; omega)), Bx.dr (Bx.al (HB1.out.set (min x y) (max X Y)) (by simp only [size_set]; omega)), below_dr ((below_set (below_set hbe (by omega)) (by omega)).alloc (by simp only [size_set]; omega) _), by simp [World.setCell]; omega⟩
    case measure => simp [intOf]; omega
   ·obtain rfl : k = n := by omega
    have HX : Hid (R = some (x, X)) := by
     show _ = _
     rw [HE.out, HI.out.1, HI.out.2, <- HN.out, List.take_length]
    have HT : Hid _ := set_two (x := .int .u64 x) (y := .int .u64 X) c0 c1
    go_wp2
    refine bodyPost_ret (v := optV (some (x, X))) ?_ rfl ⟨by rw [HX.out], below_set (below_set hbe (by omega)) (by omega)⟩
    rw [results_cell_tmp rfl]
    simp [asAddr, Result.andThen]
    rw [run_boxS HT.out.1 HT.out.2]
    rfl
theorem ljoin_none (a : Option Addr) (cap : Nat) (w : World) : Calls Tryz.prog 79 #[.slice a 0 cap] w fun e w' => e = .returned (optV none) /\ Below w.heap.size w w' := by
 go_enter Tryz.func79, Tryz.ntmps79
 go_wp2
 refine bodyPost_ret (v := optV none) ?_ rfl ⟨rfl, by go_grown⟩
 rw [results_cell_tmp rfl]
 simp [asAddr, Result.andThen]
 rw [run_boxS (a := 0) (A := 0)]
 ·rfl
 all_goals go_cell
theorem ljoin_any (v : Value) (ss : List (Int × Int)) (w : World) (hs : SeesS w v ss) (hwf : ∀ s ∈ ss, wfS s) :
  Calls Tryz.prog 79 #[v] w fun e w' => e = .returned (optV (if joinB ss = true then some (joinL ss) else none)) /\ Below w.heap.size w w' := by
 obtain ⟨a, cap, rfl, hl, hm, hn, hc⟩ := hs
 by_cases hne : ss = []
 ·subst hne
  exact ljoin_none a cap w
 ·obtain ⟨b, off, rfl, hb, hat⟩ := hc hne
  exact ljoin_some b off cap ss w (List.length_pos_iff.2 hne) hl (by unfold maxLen at hm; omega) hb hat
theorem meet_cross {ss : List (Int × Int)} (hne : ss ≠ []) : meetB ss = decide (loM ss <= hiM ss) := by
 unfold meetB
 by_cases h : loM ss <= hiM ss
 ·have hj : joinB ss = true := by
   unfold joinB
   have h1 : ss.isEmpty = false := by cases ss with
    | nil => exact absurd rfl hne
    | cons s r => rfl
   have h2 : ss.all okS = true := by
    rw [List.all_eq_true]
    intro s hs
    have a1 : s.1 <= loM ss := le_maxF (List.mem_map_of_mem hs)
    have a2 : hiM ss <= s.2 := minF_le (List.mem_map_of_mem hs)
    exact decide_eq_true (by omega)
   rw [h1, h2]; rfl
  rw [hj, Bool.true_and]
 ·rw [decide_eq_false h, Bool.and_false]
set_option maxHeartbeats 1600000 in
theorem lmeet_any (v : Value) (ss : List (Int × Int)) (w : World) (hs : SeesS w v ss) (hwf : ∀ s ∈ ss, wfS s) :
  Calls Tryz.prog 108 #[v] w fun e w' => e = .returned (optV (if meetB ss = true then some (meetL ss) else none)) /\ Below w.heap.size w w' := by
 obtain ⟨a, cap, rfl, hc, hm, -, hat⟩ := hs
 unfold maxLen at hm
 have HA : Hid (ss ≠ [] -> ∃ b off, a = some ⟨b, off, none⟩ /\ b < w.heap.size /\ ∀ k, k < ss.length -> AtS w b (off + k * 2) (ss.getD k (0, 0))) := hat
 have HW : Hid (∀ s ∈ ss, wfS s) := hwf
 clear hat hwf
 obtain ⟨n, HN⟩ : ∃ n, Hid (n = ss.length) := ⟨_, rfl⟩
 rw [<- HN.out] at hc ⊢
 obtain ⟨R, HR⟩ : ∃ R, Hid (R = if meetB ss = true then some (meetL ss) else none) := ⟨_, rfl⟩
 rw [<- HR.out]
 go_enter Tryz.func108, Tryz.ntmps108
 go_wp2_with (go_at_call 82; go_must (refine (lfull_any _).mono ?_); rintro e w1 ⟨rfl, hb1⟩; go_must (have hB0 : Hid (Bx w1 w.heap.size 0 0) := Bx.below ⟨⟨by go_cell, by go_cell⟩, by go_simp, by go_simp⟩ hb1 (by simp); have hbe : Below w.heap.size w w1 := boxS_below hb1; have hz : w.heap.size < w1.heap.size := Nat.lt_of_lt_of_le (by simp) hb1.size; clear hb1))
 go_loopw [10] (fun i wr => ∃ (k : Nat) (x X : Int), k <= n /\ i = .int .i64 k /\ Hid ((k = 0 -> x = 0 /\ X = 18446744073709551615) /\ (k ≠ 0 -> x = loM (ss.take k) /\ X = hiM (ss.take k))) /\ Bx wr w.heap.size 0 0 /\ Bx wr w1.heap.size x X /\ Below w.heap.size w wr /\ w1.heap.size < wr.heap.size) (fun i _ => n - (intOf i).toNat)
 case atStart => exact ⟨0, 0, 18446744073709551615, by omega, rfl, ⟨fun _ => ⟨rfl, rfl⟩, fun h => absurd rfl h⟩, hB0.out.al hz, ⟨⟨by go_cell, by go_cell⟩, by go_simp, by go_simp⟩, hbe.alloc (by omega) _, by simp⟩
 case round =>
  clear hB0 hbe
  obtain ⟨k, x, X, hk, rfl, HI, hB0, hB1, hbe, m1⟩ := hrel
  have m0 : w.heap.size < wr.heap.size := by omega
  obtain ⟨⟨c0, c1⟩, f0, f1⟩ := id hB0
  obtain ⟨⟨d0, d1⟩, g0, g1⟩ := id hB1
  have HB0 : Hid (Bx wr w.heap.size 0 0) := hB0
  have HB1 : Hid (Bx wr w1.heap.size x X) := hB1
  have hsz := hbe.size
  clear hB0 hB1
  by_cases hlt : k < n
  ·obtain ⟨bk, off, rfl, hbk, hat⟩ := HA.out (fun h => by have := HN.out; rw [h] at this; simp at this; omega)
   have mb : bk < wr.heap.size := by omega
   obtain ⟨y, Y, HS⟩ : ∃ y Y, Hid (ss.getD k (0, 0) = (y, Y)) := ⟨_, _, rfl⟩
   have hcell := (hat k (by have := HN.out; omega)).below hbe hbk
   clear hat
   rw [HS.out] at hcell
   obtain ⟨e0, e1⟩ := hcell
   simp only at e0 e1
   have HL : Hid (max x y = loM (ss.take (k + 1)) /\ min X Y = hiM (ss.take (k + 1))) := by
    by_cases hk0 : k = 0
    ·subst hk0
     have h := ends_one (ss := ss) (by have := HN.out; omega)
     obtain ⟨q1, q2⟩ := HI.out.1 rfl
     have hl : 0 < ss.length := by have := HN.out; omega
     have hg : ss.getD 0 (0, 0) ∈ ss := by
      have e : ss.getD 0 (0, 0) = ss[0] := by simp [hl]
      rw [e]; exact List.getElem_mem hl
     have hw := HW.out _ hg
     rw [HS.out] at h hw
     unfold wfS W64 at hw
     show _ /\ _
     rw [Nat.zero_add, h.2.2.1, h.2.2.2, q1, q2]
     simp only at hw ⊢
     omega
    ·have h := loF_step (ss := ss) (k := k) (by have := HN.out; omega) hk0
     rw [HS.out] at h
     obtain ⟨q1, q2⟩ := HI.out.2 hk0
     exact ⟨by rw [h.2.2.1, q1], by rw [h.2.2.2, q2]⟩
   go_wp2
   go_region
   go_wp2
   go_roundw
   case rel => exact ⟨k + 1, max x y, min X Y, by omega, by go_num, ⟨fun h => absurd h (by omega), fun _ => HL.out⟩, Bx.dr (Bx.al ((HB0.out.far (m := w1.heap.size) (by omega)).far (m := w1.heap.size) (by omega)) (by simp only [size_set]; omega)), Bx.dr (Bx.al (HB1.out.set (max x y) (min X Y)) (by simp only [size_set]; omega)), below_dr ((below_set (below_set hbe (by omega)) (by omega)).alloc (by simp only [size_set]; omega) _), by simp [World.setCell]; omega⟩
   case measure => simp [intOf]; omega
  ·obtain rfl : k = n := by omega
   by_cases hz0 : k = 0
   ·subst hz0
    have HE : Hid (R = none) := by
     have : ss = [] := List.eq_nil_of_length_eq_zero HN.out.symm
     show _ = _
     rw [HR.out, this]
     rfl
    have HT : Hid _ := set_two (x := .int .u64 0) (y := .int .u64 0) c0 c1
    go_wp2
    refine bodyPost_ret (v := optV none) ?_ rfl ⟨by rw [HE.out], below_set (below_set hbe (by omega)) (by omega)⟩
    rw [results_cell_tmp rfl]
    simp [asAddr, Result.andThen]
    rw [run_boxS HT.out.1 HT.out.2]
    rfl
   ·have hzk : ((k : Int) == 0) = false := by simpa using hz0
    have HNE : Hid (ss ≠ []) := fun h => by have := HN.out; rw [h] at this; simp at this; omega
    have HJ : Hid (meetB ss = decide (x <= X) /\ x = loM ss /\ X = hiM ss) := by
     obtain ⟨q1, q2⟩ := HI.out.2 hz0
     rw [show ss.take k = ss by rw [HN.out]; exact List.take_length] at q1 q2
     refine ⟨?_, q1, q2⟩
     rw [meet_cross HNE.out, q1, q2]
    cases hr : decide (x <= X)
    ·have HE : Hid (R = none) := by
      show _ = _
      rw [HR.out, HJ.out.1, hr]
      rfl
     have HT : Hid _ := set_two (x := .int .u64 0) (y := .int .u64 0) c0 c1
     go_wp2_with (go_at_call 99; go_must (refine (lright_any x X _).mono ?_); rintro e w' ⟨rfl, rfl⟩)
     refine bodyPost_ret (v := optV none) ?_ rfl ⟨by rw [HE.out], (below_set (below_set hbe (by omega)) (by omega)).alloc (by simp [World.setCell]; omega) _⟩
     rw [results_cell_tmp rfl]
     simp [asAddr, Result.andThen]
     rw [run_boxS (a := 0) (A := 0)]
     ·rfl
     ·refine (World.cell?_alloc_past _ _ _ ?_).trans HT.out.1; simp [World.setCell]; omega
     ·refine (World.cell?_alloc_past _ _ _ ?_).trans HT.out.2; simp [World.setCell]; omega
    ·have HE : Hid (R = some (x, X)) := by
      show _ = _
      have hmt : meetB ss = true := by rw [HJ.out.1, hr]
      rw [HR.out, if_pos hmt]
      unfold meetL
      rw [if_pos hmt, <- HJ.out.2.1, <- HJ.out.2.2]
     have HT : Hid _ := set_two (x := .int .u64 x) (y := .int .u64 X) c0 c1
     go_wp2_with (go_at_call 99; go_must (refine (lright_any x X _).mono ?_); rintro e w' ⟨rfl, rfl⟩)
     refine bodyPost_ret (v := optV (some (x, X))) ?_ rfl ⟨by rw [HE.out], (below_set (below_set hbe (by omega)) (by omega)).alloc (by simp [World.setCell]; omega) _⟩
     rw [results_cell_tmp rfl]
     simp [asAddr, Result.andThen]
     rw [run_boxS (a := x) (A := X)]
     ·rfl
     ·refine (World.cell?_alloc_past _ _ _ ?_).trans HT.out.1; simp [World.setCell]; omega
     ·refine (World.cell?_alloc_past _ _ _ ?_).trans HT.out.2; simp [World.setCell]; omega
end Go.Proofs.YtkondcjmhlppiaaGreat
