/-
  What the project's Print does: the document's text, or the empty one and ErrForm. Conditions: the listed variables read as they are laid; as many instructions as a slice may hold.
-/
import Derived.Test.YteccmagbebghaaaDoorL3Line
import Derived.Test.YteccmagbebghaaaDoorO2One
import Derived.Test.YteccmagbebghaaaDoorL3Laws
namespace Go.Proofs.YteccmagbebghaaaDoor
open Go.RowKit
set_option linter.unusedVariables false
set_option linter.unusedSimpArgs false
set_option maxRecDepth 100000

theorem wfeed_any (B b : Nat) (l : List UInt8) (w : World) (h : Builds B b l w) (hlen : l.length + 1 ≤ 140737488355328) (hB : B ≤ w.heap.size) :
    Calls Tryd.prog 18 #[.pointer (some ⟨b, 0, none⟩), .int .u8 10] w fun e w' => e = .returned .nilIface ∧ Builds B b (l ++ [10]) w' ∧ Below B w w' := wbyte_any B b l 10 w h hlen hB
theorem builds_fresh (w : World) (n : Nat) (hn : n = w.heap.size) : Builds n n [] (w.alloc (.cells #[.pointer none, .slice none 0 0] 45)) := by
  subst hn
  exact Lib.IsBuilderF.of (Lib.fresh_isBuilder 45 5 w)
theorem lprint_none (a : Option Addr) (cap : Nat) (w : World) : Calls Tryd.prog 10 #[.slice a 0 cap] w fun e w' => e = .returned (.tuple #[.string (str []), .int .i64 0]) ∧ Below w.heap.size w w' := by
  go_enter Tryd.func10, Tryd.ntmps10
  go_wp2_with (go_at_call 15; go_must (refine (rights_none a cap _).mono ?_); rintro e w1 ⟨rfl, rfl⟩)
  obtain ⟨w0, HB0, hB0, hz0, hw0⟩ : ∃ w0, Hid (Builds w.heap.size w.heap.size [] w0) ∧ Below w.heap.size w w0 ∧ w.heap.size ≤ w0.heap.size ∧ w0 = w.alloc (.cells #[.pointer none, .slice none 0 0] 45) := ⟨_, builds_fresh w _ rfl, (Below.refl _ _).alloc (Nat.le_refl _) _, by simp, rfl⟩
  rw [← hw0]
  clear hw0
  go_loopw [12] (fun i wr => i = .int .i64 0 ∧ w0 = wr) (fun i _ => 0)
  case atStart => exact ⟨rfl, rfl⟩
  case round =>
    obtain ⟨rfl, rfl⟩ := hrel
    go_wp2_with (go_at_call 19; go_must (refine (bstring_any _ _ _ _ HB0.out hz0).mono ?_); rintro e w2 ⟨rfl, hb2⟩)
    go_ret2
    exact ⟨rfl, hB0.trans hb2⟩

set_option maxHeartbeats 1600000 in
theorem lprint_some (bk off cap : Nat) (xs : List In) (w : World) (h : Laid w) (hc : xs.length ≤ cap) (hm : cap ≤ 9223372036854775807) (hbk : bk < w.heap.size) (hbytes : xs.length ≤ 3518437208780) (hwf : ∀ i ∈ xs, i.wf)
    (hat : ∀ k, k < xs.length → At w bk (off + k * 5) (xs.getD k In.nil)) : Calls Tryd.prog 10 #[.slice (some ⟨bk, off, none⟩) xs.length cap] w fun e w' => e = .returned (.tuple #[.string (str (printL xs).1), .int .i64 (printL xs).2]) ∧ Below w.heap.size w w' := by
  have HS : Hid (SeesI w (.slice (some ⟨bk, off, none⟩) xs.length cap) xs) := ⟨_, cap, rfl, hc, by unfold maxLen; omega, fun e => (by cases e), fun _ => ⟨bk, off, rfl, hbk, hat⟩⟩
  have HA : Hid (∀ k, k < xs.length → At w bk (off + k * 5) (xs.getD k In.nil)) := hat
  have HW : Hid (∀ i ∈ xs, i.wf) := hwf
  have HL : Hid (Laid w) := h
  clear hat hwf h
  obtain ⟨n, HNE⟩ : ∃ n, Hid (n = xs.length) := ⟨_, rfl⟩
  rw [← HNE.out] at hc hbytes ⊢
  have HR : Hid (Calls Tryd.prog 15 #[.slice (some ⟨bk, off, none⟩) n cap] w fun e w' => e = .returned (.bool (xs.all In.right)) ∧ Below w.heap.size w w') := by
    show Calls _ _ _ _ _
    have := rights_any _ xs w HS.out
    rw [← HNE.out] at this
    exact this
  clear HS
  cases hall : xs.all In.right
  · have HE : Hid (printL xs = ([], 12)) := by show _ = _; unfold printL; rw [if_neg (by rw [hall]; simp)]
    rw [hall] at HR
    clear hall
    go_enter Tryd.func10, Tryd.ntmps10
    go_wp2_with (go_at_call 15; go_must (refine HR.out.mono ?_); rintro e w1 ⟨rfl, hb1⟩)
    go_ret2
    exact ⟨ret2si (by rw [HE.out]) (by rw [HE.out]), hb1⟩
  · have HE : Hid (printL xs = (printB xs, 0)) := by show _ = _; unfold printL; rw [if_pos hall]
    have HRT : Hid (∀ i ∈ xs, i.right = true) := List.all_eq_true.1 hall
    rw [hall] at HR
    clear hall
    go_enter Tryd.func10, Tryd.ntmps10
    go_wp2_with (go_at_call 15; go_must (refine HR.out.mono ?_); rintro e w1 ⟨rfl, hb1⟩)
    have hz1 := hb1.size
    obtain ⟨w0, HB0, hB0, hz0, hw0⟩ : ∃ w0, Hid (Builds w1.heap.size w1.heap.size [] w0) ∧ Below w.heap.size w w0 ∧ w1.heap.size ≤ w0.heap.size ∧ w0 = w1.alloc (.cells #[.pointer none, .slice none 0 0] 45) := ⟨_, builds_fresh w1 _ rfl, hb1.alloc hz1 _, by simp, rfl⟩
    rw [← hw0]
    clear hw0
    generalize hnb : w1.heap.size = nb at *
    clear hnb hb1 HR
    go_loopw [12] (fun i wr => ∃ k : Nat, k ≤ n ∧ i = .int .i64 k ∧ Builds nb nb (printB (xs.take k)) wr ∧ Below w.heap.size w wr ∧ nb ≤ wr.heap.size) (fun i _ => n - (intOf i).toNat)
    case atStart => exact ⟨0, by omega, rfl, HB0.out, hB0, hz0⟩
    case round =>
      obtain ⟨k, hk, rfl, hbu, hbe, hnb⟩ := hrel
      have hsz := hbe.size
      have HBU : Hid (Builds nb nb (printB (xs.take k)) wr) := hbu
      clear hbu
      by_cases hlt : k < n
      · obtain ⟨op, d, a, b, imm, HI⟩ : ∃ op d a b imm, Hid (xs.getD k In.nil = ⟨op, d, a, b, imm⟩) := ⟨_, _, _, _, _, rfl⟩
        have hcell := (HA.out k (by have := HNE.out; omega)).below hbe hbk
        rw [HI.out] at hcell
        obtain ⟨h0, h1, h2, h3, h4⟩ := hcell
        simp only at h0 h1 h2 h3 h4
        have hmem : xs.getD k In.nil ∈ xs := by rw [List.getD_eq_getElem?_getD, List.getElem?_eq_getElem (by have := HNE.out; omega)]; simp
        have hw0 := HW.out _ hmem
        have hr0 := HRT.out _ hmem
        rw [HI.out] at hw0 hr0
        obtain ⟨_, w1', w2, w3, w4⟩ := hw0
        have bd := bounds_i64 w1'
        have ba := bounds_i64 w2
        have bb := bounds_i64 w3
        have bi := bounds_i64 w4
        have ho : 0 ≤ op ∧ op ≤ 22 := right_op hr0
        have hlen := printB_short (xs.take k) (List.all_eq_true.2 fun i hi => HRT.out i (List.mem_of_mem_take hi))
        rw [List.length_take] at hlen
        obtain ⟨L, HLN, hL80⟩ : ∃ L, Hid (lineL op d a b imm = L) ∧ L.length ≤ 39 := ⟨_, rfl, lineL_short hr0⟩
        obtain ⟨P, HP, hPl⟩ : ∃ P, Hid (printB (xs.take k) = P) ∧ P.length ≤ 140737488355328 - 40 := ⟨_, rfl, by omega⟩
        have HN : Hid (printB (xs.take (k + 1)) = P ++ L ++ [10]) := by show _ = _; rw [printB_take (by have := HNE.out; omega), HI.out, HP.out, HLN.out.symm, List.append_assoc]
        rw [HP.out] at HBU
        have HLr : Hid (Laid wr) := laid_keeps _ _ HL.out hbe
        clear HI hmem hlen HP w1' w2 w3 w4 hr0
        go_wp2_with (first
          | (go_at_call 17; go_must (refine (lline_any op d a b imm _ (laid_keeps _ _ HLr.out ((Below.refl _ _).alloc (Nat.le_refl _) _)) ho bd ba bb bi).mono ?_); rintro e w5 ⟨rfl, hb5⟩; go_must (rw [HLN.out]; have hb5' := box_below hb5; have HB5 : Hid (Builds nb nb P w5) := builds_below HBU.out hb5'; have hbe5 := hbe.trans (hb5'.mono hsz); have hz5 : nb ≤ w5.heap.size := Nat.le_trans hnb hb5'.size; clear hb5 hb5' HBU hbe h0 h1 h2 h3 h4 HLr))
          | (go_at_call 16; go_must (refine (wstring_any nb nb P L _ HB5.out (by omega) hz5).mono ?_); rintro e w6 ⟨rfl, HB6, hb6⟩; go_must (have HB6 : Hid (Builds nb nb (P ++ L) w6) := HB6; have hbe6 := hbe5.trans (hb6.mono (by omega)); have hz6 : nb ≤ w6.heap.size := Nat.le_trans hz5 hb6.size; clear hb6 HB5 hbe5))
          | (go_at_call 18; go_must (refine (wfeed_any nb nb (P ++ L) _ HB6.out (by simp; omega) hz6).mono ?_); rintro e w7 ⟨rfl, HB7, hb7⟩; go_must (have HB7 : Hid (Builds nb nb (P ++ L ++ [10]) w7) := HB7; have hbe7 := hbe6.trans (hb7.mono (by omega)); have hz7 : nb ≤ w7.heap.size := Nat.le_trans hz6 hb7.size; clear hb7 HB6 hbe6)))
        rw [← HN.out] at HB7
        go_roundw
        case rel => exact ⟨k + 1, by omega, by go_num, HB7.out, hbe7, hz7⟩
        case measure => simp [intOf]; omega
      · obtain rfl : k = n := by omega
        rw [show xs.take k = xs by rw [HNE.out]; exact List.take_length] at HBU
        go_wp2_with (go_at_call 19; go_must (refine (bstring_any _ _ _ _ HBU.out hnb).mono ?_); rintro e w2 ⟨rfl, hb2⟩)
        go_ret2
        exact ⟨ret2si (by rw [HE.out]) (by rw [HE.out]), hbe.trans (hb2.mono (by omega))⟩
theorem lprint_any : PrintsLike Laid := by
  intro v xs w h hs hwf hlen
  obtain ⟨a, cap, rfl, h1, h2, h3, h4⟩ := hs
  by_cases hne : xs = []
  · subst hne
    exact lprint_none a cap w
  · obtain ⟨b, off, rfl, hb, hat⟩ := h4 hne
    exact lprint_some b off cap xs w h h1 (by unfold maxLen at h2; omega) hb hlen hwf hat
end Go.Proofs.YteccmagbebghaaaDoor
