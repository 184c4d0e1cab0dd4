/-
  The law LinesEach, walked: it answers true. Conditions: the listed variables read as they are laid; as many instructions as a slice may hold.
-/
import Derived.Test.YteccmagbebghaaaDoorW3Prints
namespace Go.Proofs.YteccmagbebghaaaDoor
open Go.RowKit
set_option linter.unusedVariables false
set_option linter.unusedSimpArgs false
set_option maxRecDepth 100000

theorem print_right1 {i : In} (h : i.right = true) : printL [i] = (i.line ++ [10], 0) := by simp [printL, printB, h]
theorem print_wrong1 {i : In} (h : i.right = false) : printL [i] = ([], 12) := by simp [printL, h]
theorem byte_at {S : List UInt8} {k : Nat} {c : UInt8} (hk : k < S.length) (h : S[k]? = some c) : (str S)[k]'hk = c := by
  rw [List.getElem?_eq_getElem hk] at h
  exact Option.some.inj h

set_option maxHeartbeats 4000000 in
theorem each_some (bk off cap : Nat) (xs : List In) (w : World) (h : Laid w) (hc : xs.length ≤ cap) (hm : cap ≤ 9223372036854775807) (hbk : bk < w.heap.size) (hlen : xs.length ≤ 3518437208780) (hwf : ∀ i ∈ xs, i.wf)
    (hat : ∀ k, k < xs.length → At w bk (off + k * 5) (xs.getD k In.nil)) : Calls Tryd.prog 8 #[.slice (some ⟨bk, off, none⟩) xs.length cap] w fun e w' => e = .returned (.bool true) ∧ Below w.heap.size w w' := by
  have HL : Hid (Laid w) := h
  have HS : Hid (SeesI w (.slice (some ⟨bk, off, none⟩) xs.length cap) xs) := ⟨_, cap, rfl, hc, by unfold maxLen; omega, fun e => (by cases e), fun _ => ⟨bk, off, rfl, hbk, hat⟩⟩
  have HA : Hid (∀ k, k < xs.length → At w bk (off + k * 5) (xs.getD k In.nil)) := hat
  have HW : Hid (∀ i ∈ xs, i.wf) := hwf
  clear h hat hwf
  obtain ⟨n, HNE⟩ : ∃ n, Hid (n = xs.length) := ⟨_, rfl⟩
  rw [← HNE.out] at hc hlen ⊢ HS
  obtain ⟨S, E, HPR⟩ : ∃ S E, Hid (printL xs = (S, E)) := ⟨_, _, rfl⟩
  go_enter Tryd.func8, Tryd.ntmps8
  go_wp2_with (first
    | (go_at_call 9; go_must (refine (lawake _ HL.out).mono ?_); rintro e w1 ⟨rfl, hB1⟩)
    | (go_at_call 10; go_must (refine (lprint_any _ xs _ (laid_keeps _ _ HL.out hB1) (HS.out.below hB1) HW.out (by have := HNE.out; omega)).mono ?_); rintro e w4 ⟨rfl, hb4⟩; go_must (rw [HPR.out]; have hB4 := hB1.trans (hb4.mono hB1.size); clear hb4 hB1)))
  clear HS
  go_loopw [5, 6] (fun s i wr => ∃ k : Nat, k ≤ n ∧ i = .int .i64 k ∧ s = .string (str (printB (xs.take k))) ∧ (xs.take k).all In.right = true ∧ Below w.heap.size w wr) (fun _ i _ => n - (intOf i).toNat)
  case atStart => exact ⟨0, by omega, rfl, rfl, rfl, hB4⟩
  case round =>
    obtain ⟨k, hk, rfl, rfl, hall, hbe⟩ := hrel
    have hsz := hbe.size
    clear hB4
    by_cases hlt : k < n
    · obtain ⟨op, d, a, b, imm, HI⟩ : ∃ op d a b imm, Hid (xs.getD k In.nil = ⟨op, d, a, b, imm⟩) := ⟨_, _, _, _, _, rfl⟩
      have hcell := (HA.out k (by have := HNE.out; omega)).below hbe hbk
      rw [HI.out] at hcell
      obtain ⟨h0, h1, h2, h3, h4⟩ := hcell
      simp only at h0 h1 h2 h3 h4
      have hmem : xs.getD k In.nil ∈ xs := by rw [List.getD_eq_getElem?_getD, List.getElem?_eq_getElem (by have := HNE.out; omega)]; simp
      have HWF : Hid (⟨op, d, a, b, imm⟩ : In).wf := by have := HW.out _ hmem; rw [HI.out] at this; exact this
      have HLr : Hid (Laid wr) := laid_keeps _ _ HL.out hbe
      have hlenP := printB_short (xs.take k) hall
      rw [List.length_take] at hlenP
      cases hR : rightB op d a b imm
      · have HP1 : Hid (printL [⟨op, d, a, b, imm⟩] = ([], 12)) := print_wrong1 hR
        have HE : Hid (printL xs = ([], 12)) := by
          show _ = _
          unfold printL
          rw [if_neg]
          rw [all_false (xs := xs) (k := k) (by have := HNE.out; omega) (by rw [HI.out]; exact hR)]
          simp
        obtain ⟨rfl, rfl⟩ : S = [] ∧ E = 12 := by have := HPR.out.symm.trans HE.out; simpa using this
        clear HI hmem hall
        go_wp2_with (go_at_call 10; go_must (refine (lprint_one op d a b imm wr _ (by simp) HLr.out HWF.out).mono ?_); rintro e w7 ⟨rfl, hb7⟩; go_must (rw [HP1.out]; have hB7 := hbe.trans (hb7.mono hsz); clear hb7 h0 h1 h2 h3 h4 hbe))
        go_ret
        exact ⟨rfl, hB7⟩
      · obtain ⟨L, HLN, hL80⟩ : ∃ L, Hid (L = lineL op d a b imm) ∧ L.length ≤ 80 := ⟨_, rfl, lineL_len _ _ _ _ _⟩
        have HNL : Hid (∀ c ∈ L, c ≠ 10) := by rw [HLN.out]; exact lineL_nl op d a b imm
        have HP1 : Hid (printL [⟨op, d, a, b, imm⟩] = (L ++ [10], 0)) := by show _ = _; rw [HLN.out]; exact print_right1 (i := ⟨op, d, a, b, imm⟩) hR
        obtain ⟨P, HP, hPl⟩ : ∃ P, Hid (printB (xs.take k) = P) ∧ P.length ≤ 140737488355328 := ⟨_, rfl, by omega⟩
        have HN : Hid (printB (xs.take (k + 1)) = P ++ (L ++ [10])) := by show _ = _; rw [printB_take (by have := HNE.out; omega), HI.out, HP.out, HLN.out]
        have HT : Hid ((xs.take (k + 1)).all In.right = true) := by show _ = _; rw [all_take (xs := xs) (k := k) (by have := HNE.out; omega), hall, HI.out]; exact hR
        rw [HP.out]
        clear HI hmem hall hlenP HP
        obtain ⟨S1, HS1, hm1⟩ : ∃ S1, Hid (S1 = L ++ [10]) ∧ S1.length = L.length + 1 := ⟨L ++ [10], rfl, by simp⟩
        rw [← HS1.out] at HP1 HN
        go_wp2_with (go_at_call 10; go_must (refine (lprint_one op d a b imm wr _ (by simp) HLr.out HWF.out).mono ?_); rintro e w7 ⟨rfl, hb7⟩; go_must (rw [HP1.out]; have hB7 := hbe.trans (hb7.mono hsz); clear hb7 h0 h1 h2 h3 h4 hbe))
        go_loopw [9, 10] (fun f j wq => ∃ j' : Nat, j' ≤ S1.length ∧ j = .int .i64 j' ∧ f = .int .i64 (if j' ≤ L.length then 0 else 1) ∧ wq = w7) (fun _ j _ => S1.length - (intOf j).toNat)
        case atStart => exact ⟨0, by omega, rfl, by simp, rfl⟩
        case round =>
          obtain ⟨j, hj, rfl, rfl, rfl⟩ := hrel
          by_cases hjl : j < S1.length
          · by_cases hje : j = L.length
            · subst hje
              have hbyte : (str S1)[L.length]'hjl = 10 := byte_at hjl (by rw [HS1.out]; simp)
              rw [if_pos (Nat.le_refl _)]
              go_wp2
              go_roundw
              case rel => exact ⟨L.length + 1, by omega, by go_num, by rw [if_neg (by omega)], trivial⟩
              case measure => simp [intOf]; omega
            · obtain ⟨c, hbyte, hc10⟩ : ∃ c, (str S1)[j]'hjl = c ∧ ((c.toNat : Int) == 10) = false := by
                have hjL : j < L.length := by omega
                refine ⟨L[j], byte_at hjl (by rw [HS1.out, List.getElem?_append_left hjL, List.getElem?_eq_getElem hjL]), ?_⟩
                have := HNL.out L[j] (List.getElem_mem hjL)
                simp
                intro e
                exact this (UInt8.toNat_inj.1 (by show _ = 10; omega))
              rw [if_pos (by omega)]
              go_wp2
              go_roundw
              case rel => exact ⟨j + 1, by omega, by go_num, by rw [if_pos (by omega)], trivial⟩
              case measure => simp [intOf]; omega
          · obtain rfl : j = S1.length := by omega
            have hlast : (str S1)[L.length]'(by show L.length < S1.length; omega) = 10 := byte_at (by omega) (by rw [HS1.out]; simp)
            rw [if_neg (by omega)]
            have hsub : ((S1.length : Int) - 1) = (L.length : Int) := by omega
            have hadd : ¬ 9223372036854775807 < P.length + S1.length := by omega
            go_wp2
            go_roundw
            case rel => exact ⟨k + 1, by omega, by go_num, by rw [HN.out, str_app], HT.out, hB7⟩
            case measure => simp [intOf]; omega
    · obtain rfl : k = n := by omega
      rw [show xs.take k = xs by rw [HNE.out]; exact List.take_length] at hall ⊢
      have HE : Hid (printL xs = (printB xs, 0)) := by show _ = _; unfold printL; rw [if_pos hall]
      obtain ⟨rfl, rfl⟩ : S = printB xs ∧ E = 0 := by have := HPR.out.symm.trans HE.out; simpa using this
      clear hall HPR HE
      go_wp2
      go_ret
      exact ⟨by simp, hbe⟩

theorem each_none (a : Option Addr) (cap : Nat) (w : World) (h : Laid w) (hs : SeesI w (.slice a 0 cap) []) : Calls Tryd.prog 8 #[.slice a 0 cap] w fun e w' => e = .returned (.bool true) ∧ Below w.heap.size w w' := by
  have HL : Hid (Laid w) := h
  have HS : Hid (SeesI w (.slice a 0 cap) []) := hs
  clear h hs
  have hpr : printL [] = ([], 0) := rfl
  go_enter Tryd.func8, Tryd.ntmps8
  go_wp2_with (first
    | (go_at_call 9; go_must (refine (lawake _ HL.out).mono ?_); rintro e w1 ⟨rfl, hB1⟩)
    | (go_at_call 10; go_must (refine (lprint_any _ [] _ (laid_keeps _ _ HL.out hB1) (HS.out.below hB1) (fun i hi => by cases hi) (by simp)).mono ?_); rintro e w4 ⟨rfl, hb4⟩; go_must (rw [hpr]; have hB4 := hB1.trans (hb4.mono hB1.size); clear hb4 hB1)))
  go_loopw [5, 6] (fun s i wr => s = .string (str []) ∧ i = .int .i64 0 ∧ wr = w4) (fun _ i _ => 0)
  case atStart => exact ⟨rfl, rfl, rfl⟩
  case round =>
    obtain ⟨rfl, rfl, rfl⟩ := hrel
    go_wp2
    go_ret
    exact ⟨rfl, hB4⟩
theorem each_walk (v : Value) (xs : List In) (w : World) (hs : SeesI w v xs ∧ ∀ i ∈ xs, i.wf) (hlen : xs.length ≤ 3518437208780) (h : Laid w) : Calls Tryd.prog 8 #[v] w fun e w' => e = .returned (.bool true) ∧ Below w.heap.size w w' := by
  have hs1 := hs.1
  obtain ⟨a, cap, rfl, h1, h2, h3, h4⟩ := hs.1
  by_cases hne : xs = []
  · subst hne
    exact each_none a cap w h hs1
  · obtain ⟨b, off, rfl, hb, hat⟩ := h4 hne
    exact each_some b off cap xs w h h1 (by unfold maxLen at h2; omega) hb hlen hs.2 hat
end Go.Proofs.YteccmagbebghaaaDoor
