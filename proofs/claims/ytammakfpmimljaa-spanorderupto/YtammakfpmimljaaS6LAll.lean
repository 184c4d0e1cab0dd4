/-
  What the landed allRight and allSingle answer. Condition: the slice reads as spans of numbers of 64 bits.
-/
import Derived.Test.YtammakfpmimljaaS6LAsk
namespace Go.Proofs.Ytammakfpmimljaa
open Go.RowKit
set_option linter.unusedVariables false
set_option maxRecDepth 20000

def oneS (s : Int × Int) : Bool := s.1 == s.2
theorem all_take {p : Int × Int → Bool} {ss : List (Int × Int)} {k : Nat} (hk : k < ss.length) : (ss.take (k + 1)).all p = ((ss.take k).all p && p (ss.getD k (0, 0))) := by
  have e : ss.getD k (0, 0) = ss[k] := by simp [hk]
  rw [e, List.take_succ_eq_append_getElem hk, List.all_append]
  simp
theorem all_fails {p : Int × Int → Bool} {ss : List (Int × Int)} {k : Nat} (hk : k < ss.length) (h : p (ss.getD k (0, 0)) = false) : ss.all p = false := by
  have e : ss.getD k (0, 0) = ss[k] := by simp [hk]
  rw [e] at h
  rw [List.all_eq_false]
  exact ⟨ss[k], List.getElem_mem hk, by simp [h]⟩
theorem lallRight_some (bk off cap : Nat) (ss : List (Int × Int)) (w : World) (hpos : 0 < ss.length) (hc : ss.length ≤ cap) (hm : cap ≤ 9223372036854775807) (hbk : bk < w.heap.size)
    (hat : ∀ k, k < ss.length → AtS w bk (off + k * 2) (ss.getD k (0, 0))) :
    Calls Try.prog 29 #[.slice (some ⟨bk, off, none⟩) ss.length cap] w fun e w' => e = .returned (.bool (ss.all okS)) ∧ Below w.heap.size w w' := by
  have HA : Hid (∀ k, k < ss.length → AtS w bk (off + k * 2) (ss.getD k (0, 0))) := hat
  clear hat
  obtain ⟨n, HN⟩ : ∃ n, Hid (n = ss.length) := ⟨_, rfl⟩
  rw [← HN.out] at hc hpos ⊢
  obtain ⟨R, HR⟩ : ∃ R, Hid (R = ss.all okS) := ⟨_, rfl⟩
  rw [← HR.out]
  go_enter Try.func29, Try.ntmps29
  go_wp2
  go_loopw [7] (fun i wr => ∃ k : Nat, k ≤ n ∧ i = .int .i64 k ∧ Hid ((ss.take k).all okS = true) ∧ Below w.heap.size w wr) (fun i _ => n - (intOf i).toNat)
  case atStart => exact ⟨0, by omega, rfl, rfl, by go_grown⟩
  case round =>
    obtain ⟨k, hk, rfl, HI, hbe⟩ := hrel
    have hsz := hbe.size
    by_cases hlt : k < n
    · obtain ⟨y, Y, HS⟩ : ∃ y Y, Hid (ss.getD k (0, 0) = (y, Y)) := ⟨_, _, rfl⟩
      have hcell := (HA.out k (by have := HN.out; omega)).below hbe hbk
      rw [HS.out] at hcell
      obtain ⟨e0, e1⟩ := hcell
      simp only at e0 e1
      cases hr : decide (y ≤ Y)
      · have HF : Hid (R = false) := by rw [HR.out]; exact all_fails (k := k) (by have := HN.out; omega) (by rw [HS.out]; exact hr)
        go_wp2_with (go_at_call 10; go_must (refine (lright_any y Y _).mono ?_); rintro e w' ⟨rfl, rfl⟩)
        go_ret
        exact ⟨rb HF.out.symm, (hbe.alloc hsz _).alloc (by simp; omega) _⟩
      · have HOK : Hid ((ss.take (k + 1)).all okS = true) := by
          show _ = _
          rw [all_take (by have := HN.out; omega), HI.out, HS.out]; exact hr
        go_wp2_with (go_at_call 10; go_must (refine (lright_any y Y _).mono ?_); rintro e w' ⟨rfl, rfl⟩)
        go_roundw
        case rel => exact ⟨k + 1, by omega, by go_num, HOK, (hbe.alloc hsz _).alloc (by simp; omega) _⟩
        case measure => simp [intOf]; omega
    · obtain rfl : k = n := by omega
      have HF : Hid (R = true) := by show _ = _; rw [HR.out, ← HI.out, HN.out, List.take_length]
      go_wp2
      go_ret
      exact ⟨rb HF.out.symm, hbe⟩
theorem lallSingle_some (bk off cap : Nat) (ss : List (Int × Int)) (w : World) (hpos : 0 < ss.length) (hc : ss.length ≤ cap) (hm : cap ≤ 9223372036854775807) (hbk : bk < w.heap.size)
    (hat : ∀ k, k < ss.length → AtS w bk (off + k * 2) (ss.getD k (0, 0))) :
    Calls Try.prog 30 #[.slice (some ⟨bk, off, none⟩) ss.length cap] w fun e w' => e = .returned (.bool (ss.all oneS)) ∧ Below w.heap.size w w' := by
  have HA : Hid (∀ k, k < ss.length → AtS w bk (off + k * 2) (ss.getD k (0, 0))) := hat
  clear hat
  obtain ⟨n, HN⟩ : ∃ n, Hid (n = ss.length) := ⟨_, rfl⟩
  rw [← HN.out] at hc hpos ⊢
  obtain ⟨R, HR⟩ : ∃ R, Hid (R = ss.all oneS) := ⟨_, rfl⟩
  rw [← HR.out]
  go_enter Try.func30, Try.ntmps30
  go_wp2
  go_loopw [7] (fun i wr => ∃ k : Nat, k ≤ n ∧ i = .int .i64 k ∧ Hid ((ss.take k).all oneS = true) ∧ Below w.heap.size w wr) (fun i _ => n - (intOf i).toNat)
  case atStart => exact ⟨0, by omega, rfl, rfl, by go_grown⟩
  case round =>
    obtain ⟨k, hk, rfl, HI, hbe⟩ := hrel
    have hsz := hbe.size
    by_cases hlt : k < n
    · obtain ⟨y, Y, HS⟩ : ∃ y Y, Hid (ss.getD k (0, 0) = (y, Y)) := ⟨_, _, rfl⟩
      have hcell := (HA.out k (by have := HN.out; omega)).below hbe hbk
      rw [HS.out] at hcell
      obtain ⟨e0, e1⟩ := hcell
      simp only at e0 e1
      cases hr : (y == Y)
      · have HF : Hid (R = false) := by rw [HR.out]; exact all_fails (k := k) (by have := HN.out; omega) (by rw [HS.out]; exact hr)
        go_wp2
        go_ret
        exact ⟨rb HF.out.symm, hbe.alloc hsz _⟩
      · have HOK : Hid ((ss.take (k + 1)).all oneS = true) := by
          show _ = _
          rw [all_take (by have := HN.out; omega), HI.out, HS.out]; exact hr
        go_wp2
        go_roundw
        case rel => exact ⟨k + 1, by omega, by go_num, HOK, hbe.alloc hsz _⟩
        case measure => simp [intOf]; omega
    · obtain rfl : k = n := by omega
      have HF : Hid (R = true) := by show _ = _; rw [HR.out, ← HI.out, HN.out, List.take_length]
      go_wp2
      go_ret
      exact ⟨rb HF.out.symm, hbe⟩
theorem lallRight_any (v : Value) (ss : List (Int × Int)) (w : World) (hs : SeesS w v ss) (hne : ss ≠ []) :
    Calls Try.prog 29 #[v] w fun e w' => e = .returned (.bool (ss.all okS)) ∧ Below w.heap.size w w' := by
  obtain ⟨a, cap, rfl, hl, hm, hn, hc⟩ := hs
  obtain ⟨b, off, rfl, hb, hat⟩ := hc hne
  exact lallRight_some b off cap ss w (List.length_pos_iff.2 hne) hl (by unfold maxLen at hm; omega) hb hat
theorem lallSingle_any (v : Value) (ss : List (Int × Int)) (w : World) (hs : SeesS w v ss) (hne : ss ≠ []) :
    Calls Try.prog 30 #[v] w fun e w' => e = .returned (.bool (ss.all oneS)) ∧ Below w.heap.size w w' := by
  obtain ⟨a, cap, rfl, hl, hm, hn, hc⟩ := hs
  obtain ⟨b, off, rfl, hb, hat⟩ := hc hne
  exact lallSingle_some b off cap ss w (List.length_pos_iff.2 hne) hl (by unfold maxLen at hm; omega) hb hat
end Go.Proofs.Ytammakfpmimljaa
