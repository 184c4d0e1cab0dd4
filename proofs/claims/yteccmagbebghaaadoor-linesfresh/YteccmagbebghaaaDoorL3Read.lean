/-
  What the project's read does: the document's instruction of a line, or none. Conditions: the listed variables read as they are laid; the line's length is within the model's bounds.
-/
import Derived.Test.YteccmagbebghaaaDoorL3Take
import Derived.Test.YteccmagbebghaaaDoorR3Read
import Derived.Test.YteccmagbebghaaaDoorO2One
import Derived.Deep.RegionHeld3
namespace Go.Proofs.YteccmagbebghaaaDoor
open Go.RowKit
set_option linter.unusedVariables false
set_option linter.unusedSimpArgs false
set_option maxRecDepth 100000

theorem cut_below (l : List UInt8) (c : UInt8) (w : World) (h : Laid w) (hl : l.length ≤ 140737488355328) : Calls Tryd.prog 22 #[.string (str l), .string (str [c])] w fun e w' => e = .returned (.tuple #[.string (str (cutL c l).1), .string (str (cutL c l).2.1), .bool (cutL c l).2.2]) ∧ Below w.heap.size w w' := by
  refine (cut_any l c w h hl).mono ?_
  rintro e w' ⟨he, n, rfl⟩
  exact ⟨he, below_drewN (Below.refl _ _) n⟩
/-- An answer of read. -/
def readV (o : Option In) : Value := match o with | none => .tuple #[instV 0 0 0 0 0, .bool false] | some i => .tuple #[instV i.op i.d i.a i.b i.imm, .bool true]
theorem wbox_heap {w : World} {n : Nat} {op d a b imm : Int} (h : w.heap[n]? = some (instO op d a b imm)) : Wbox w n op d a b imm :=
  ⟨box_cells h, Lib.frozen_of_heap h 0, Lib.frozen_of_heap h 1, Lib.frozen_of_heap h 2, Lib.frozen_of_heap h 3, Lib.frozen_of_heap h 4⟩
theorem grown_to_below {B b : Nat} {w w' : World} (h : w.grownBy w' (some b)) (hB : B ≤ b) (hw : B ≤ w.heap.size) : Below B w w' := ⟨h.os, h.tape, h.output, h.size, fun k hk => h.block k (by omega) (by simp; omega)⟩
theorem grown_heap {b n : Nat} {w w' : World} {x : Obj} (h : w.grownBy w' (some b)) (hx : w.heap[n]? = some x) (hn : n ≠ b) : w'.heap[n]? = some x := by
  rw [h.block n (Array.getElem?_eq_some_iff.1 hx).1 (by simpa using hn)]; exact hx

theorem looseF_none {p : Int} {ps : List Int} {behind wd rst : List UInt8} {ok : Bool} {cur : In} (hc : cutL 32 behind = (wd, rst, ok)) (ht : takeL p wd cur = none) : looseF (p :: ps) behind cur = none := by simp only [looseF, hc, ht]
theorem looseF_some {p : Int} {ps : List Int} {behind wd rst : List UInt8} {ok : Bool} {cur j : In} (hc : cutL 32 behind = (wd, rst, ok)) (ht : takeL p wd cur = some j) : looseF (p :: ps) behind cur = looseF ps rst j := by simp only [looseF, hc, ht]
theorem fit_first {op : Int} (h : 0 ≤ op ∧ op ≤ 23) : (⟨op, 0, 0, 0, 0⟩ : In).fit := ⟨h, ⟨by simp, by simp⟩, ⟨by simp, by simp⟩, ⟨by simp, by simp⟩, by simp, by simp⟩
theorem str_beq {a b : List UInt8} (h : a = b) : (a == b) = true := by rw [h]; simp
theorem str_bne {a b : List UInt8} (h : a ≠ b) : (a == b) = false := by simp [h]

set_option maxHeartbeats 1600000 in
theorem lread_any (l : List UInt8) (w : World) (h : Laid w) (hl : l.length ≤ 140737488355328) : Calls Tryd.prog 23 #[.string (str l)] w fun e w' => e = .returned (readV (tightL l)) ∧ Below w.heap.size w w' := by
  have HL : Hid (Laid w) := h
  have hw6 := h.1
  clear h
  obtain ⟨n0, b0, ok0, HC, hn0, hb0⟩ : ∃ n0 b0 ok0, Hid (cutL 32 l = (n0, b0, ok0)) ∧ n0.length ≤ 140737488355328 ∧ b0.length ≤ 140737488355328 := ⟨_, _, _, rfl, Nat.le_trans (cutL_len 32 l).1 hl, Nat.le_trans (cutL_len 32 l).2 hl⟩
  obtain ⟨op, fb, HF⟩ : ∃ op fb, Hid (findL (str n0) = (op, fb)) := ⟨_, _, rfl⟩
  have hop : 0 ≤ op ∧ op ≤ 23 := by have := find_op (str n0); rw [HF.out] at this; exact this
  have HLO : Hid (looseL l = if fb = true then looseF (partsL op) b0 ⟨op, 0, 0, 0, 0⟩ else none) := by show _ = _; unfold looseL; rw [HC.out]; simp only [HF.out]
  have Hbx0 : (w.alloc (instO 0 0 0 0 0)).heap[w.heap.size]? = some (instO 0 0 0 0 0) := heap_alloc_at w _ _ rfl
  cases fb
  · have HT : Hid (tightL l = none) := by show _ = _; unfold tightL; rw [HLO.out]; rfl
    go_enter Tryd.func23, Tryd.ntmps23
    go_wp2_with (first
      | (go_at_call 22; go_must (refine (cut_below l 32 _ (laid_keeps _ _ HL.out ((Below.refl _ _).alloc (Nat.le_refl _) _)) hl).mono ?_); rintro e w1 ⟨rfl, hb1⟩; go_must (rw [HC.out]; have hbx1 := heap_below hb1 (Nat.le_refl _) Hbx0; have hB1 := box_below hb1; obtain ⟨⟨c0, c1, c2, c3, c4⟩, f0, f1, f2, f3, f4⟩ := wbox_heap hbx1; clear hb1 Hbx0))
      | (go_at_call 42; go_must (refine (ofind_any (str n0) _ (laid_keeps _ _ HL.out hB1).2.1).mono ?_); rintro e w2 ⟨rfl, rfl⟩; rw [HF.out]))
    refine bodyPost_ret (v := .tuple #[instV 0 0 0 0 0, .bool false]) ?_ rfl ?_
    · rw [results_cell_tmp rfl]
      have hld := run_box (box_set5 ⟨c0, c1, c2, c3, c4⟩ 0 0 0 0 0)
      simp [asAddr, Result.andThen, hld]
    · exact ⟨by rw [HT.out]; rfl, by go_grown⟩
  · obtain ⟨ps, HPS⟩ : ∃ ps, Hid (partsL op = ps) := ⟨_, rfl⟩
    have hpl : ps.length ≤ 3 := by rw [← HPS.out]; exact partsL_len op
    have HM : Hid (∀ k, k < ps.length → 0 ≤ ps.getD k 0 ∧ ps.getD k 0 ≤ 4) := by
      show ∀ k, _ → _
      rw [← HPS.out]
      intro k hk
      refine partsL_mem (op := op) ?_
      rw [List.getD_eq_getElem?_getD, List.getElem?_eq_getElem hk]
      simp
    have HLP : Hid (looseL l = looseF ps b0 ⟨op, 0, 0, 0, 0⟩) := by show _ = _; rw [HLO.out, if_pos rfl, HPS.out]
    clear HLO
    go_enter Tryd.func23, Tryd.ntmps23
    go_wp2_with (first
      | (go_at_call 22; go_must (refine (cut_below l 32 _ (laid_keeps _ _ HL.out ((Below.refl _ _).alloc (Nat.le_refl _) _)) hl).mono ?_); rintro e w1 ⟨rfl, hb1⟩; go_must (rw [HC.out]; have hbx1 := heap_below hb1 (Nat.le_refl _) Hbx0; have hB1 := box_below hb1; clear hb1 Hbx0))
      | (go_at_call 42; go_must (refine (ofind_any (str n0) _ (laid_keeps _ _ HL.out hB1).2.1).mono ?_); rintro e w2 ⟨rfl, rfl⟩; rw [HF.out])
      | (go_at_call 30; go_must (refine (parts_any op _ ps.length (by rw [HPS.out])).mono ?_); rintro e w2 ⟨rfl, rfl⟩; rw [HPS.out]))
    have hz1 : w.heap.size < w1.heap.size := (Array.getElem?_eq_some_iff.1 hbx1).1
    have HSB : Hid (Below w.heap.size w ((w1.alloc (instO op 0 0 0 0)).alloc (partO ps))) := (hB1.alloc (by omega) _).alloc (by simp; omega) _
    have HS0 : Hid (((w1.alloc (instO op 0 0 0 0)).alloc (partO ps)).heap[w.heap.size]? = some (instO 0 0 0 0 0)) := heap_keep (heap_keep hbx1)
    have HS1 : Hid (((w1.alloc (instO op 0 0 0 0)).alloc (partO ps)).heap[w1.heap.size]? = some (instO op 0 0 0 0)) := heap_keep (heap_alloc_at _ _ _ rfl)
    have HS2 : Hid (((w1.alloc (instO op 0 0 0 0)).alloc (partO ps)).heap[w1.heap.size + 1]? = some (partO ps)) := heap_alloc_at _ _ _ (by simp)
    clear hbx1 hB1
    generalize ((w1.alloc (instO op 0 0 0 0)).alloc (partO ps)) = W0 at *
    generalize w1.heap.size = N1 at *
    go_loopw [5, 34] (fun v i wr => ∃ (k : Nat) (behind : List UInt8) (cur : In), k ≤ ps.length ∧ i = .int .i64 k ∧ v = .string (str behind) ∧ behind.length ≤ 140737488355328 ∧ looseL l = looseF (ps.drop k) behind cur ∧ cur.fit ∧ wr.heap[w.heap.size]? = some (instO 0 0 0 0 0) ∧ wr.heap[N1]? = some cur.box ∧ wr.heap[N1 + 1]? = some (partO ps) ∧ Below w.heap.size w wr) (fun _ i _ => ps.length - (intOf i).toNat)
    case atStart => exact ⟨0, b0, ⟨op, 0, 0, 0, 0⟩, by omega, rfl, rfl, hb0, HLP.out, fit_first hop, HS0.out, HS1.out, HS2.out, HSB.out⟩
    case round =>
      obtain ⟨k, behind, cur, hk, rfl, rfl, hbl, hlo, hfit, hx0, hx1, hx2, hbe⟩ := hrel
      have hsz := hbe.size
      clear HS0 HS1 HS2 HSB HLP
      have HLO : Hid (looseL l = looseF (ps.drop k) behind cur) := hlo
      have HFIT : Hid cur.fit := hfit
      clear hlo hfit
      have HLr : Hid (Laid wr) := laid_keeps _ _ HL.out hbe
      by_cases hlt : k < ps.length
      · obtain ⟨p, HP⟩ : ∃ p, Hid (ps.getD k 0 = p) := ⟨_, rfl⟩
        have hc := part_cell hx2 hlt
        rw [HP.out] at hc
        have hp04 := HM.out k hlt
        rw [HP.out] at hp04
        obtain ⟨wd, rst, ok1, HC1, hwd, hrst⟩ : ∃ wd rst ok1, Hid (cutL 32 behind = (wd, rst, ok1)) ∧ wd.length ≤ 140737488355328 ∧ rst.length ≤ 140737488355328 := ⟨_, _, _, rfl, Nat.le_trans (cutL_len 32 behind).1 hbl, Nat.le_trans (cutL_len 32 behind).2 hbl⟩
        have HD : Hid (ps.drop k = p :: ps.drop (k + 1)) := by
          show _ = _
          rw [List.drop_eq_getElem_cons hlt, ← HP.out]
          simp [List.getD, hlt]
        rcases ht : takeL p wd cur with _ | j
        · have HT : Hid (tightL l = none) := by show _ = _; unfold tightL; rw [HLO.out, HD.out, looseF_none HC1.out ht]
          have HTK : Hid (takeL p wd cur = none) := ht
          clear ht HD HP HLO
          go_wp2_with (first
            | (go_at_call 22; go_must (refine (cut_below behind 32 _ HLr.out hbl).mono ?_); rintro e w3 ⟨rfl, hb3⟩; go_must (rw [HC1.out]; have hx03 := heap_below hb3 (Nat.le_refl _) hx0; have hx13 := heap_below hb3 (Nat.le_refl _) hx1; have hbe3 := hbe.trans (hb3.mono hsz); have hz3 := hb3.size; clear hb3 hx0 hx1 hx2 hbe hc HLr))
            | (go_at_call 43; go_must (refine (take_none p wd N1 cur _ (laid_keeps _ _ HL.out hbe3) hwd HTK.out).mono ?_); rintro e w4 ⟨rfl, hg4⟩; go_must (have hx04 := grown_heap hg4 hx03 (by omega); have hbe4 := hbe3.trans (grown_to_below hg4 (by omega) (by omega)); obtain ⟨⟨c0, c1, c2, c3, c4⟩, f0, f1, f2, f3, f4⟩ := wbox_heap hx04; clear hg4 hx03 hx13 hbe3)))
          refine bodyPost_ret (v := .tuple #[instV 0 0 0 0 0, .bool false]) ?_ rfl ?_
          · rw [results_cell_tmp rfl]
            have hld := run_box (box_set5 ⟨c0, c1, c2, c3, c4⟩ 0 0 0 0 0)
            simp [asAddr, Result.andThen, hld]
          · exact ⟨by rw [HT.out]; rfl, by go_grown⟩
        · have HNX : Hid (looseL l = looseF (ps.drop (k + 1)) rst j) := by show _ = _; rw [HLO.out, HD.out, looseF_some HC1.out ht]
          have HJF : Hid j.fit := (takeL_fit HFIT.out ht).1
          have HTK : Hid (takeL p wd cur = some j) := ht
          clear ht HD HP HLO
          go_wp2_with (first
            | (go_at_call 22; go_must (refine (cut_below behind 32 _ HLr.out hbl).mono ?_); rintro e w3 ⟨rfl, hb3⟩; go_must (rw [HC1.out]; have hx03 := heap_below hb3 (Nat.le_refl _) hx0; have hx13 := heap_below hb3 (Nat.le_refl _) hx1; have hx23 := heap_below hb3 (Nat.le_refl _) hx2; have hbe3 := hbe.trans (hb3.mono hsz); have hz3 := hb3.size; clear hb3 hx0 hx1 hx2 hbe hc HLr))
            | (go_at_call 43; go_must (refine (take_some p wd N1 cur j _ (laid_keeps _ _ HL.out hbe3) hp04 hwd hx13 HTK.out).mono ?_); rintro e w4 ⟨rfl, hx14, hg4⟩; go_must (have hx04 := grown_heap hg4 hx03 (by omega); have hx24 := grown_heap hg4 hx23 (by omega); have hbe4 := hbe3.trans (grown_to_below hg4 (by omega) (by omega)); clear hg4 hx03 hx13 hx23 hbe3)))
          go_roundw
          case rel => exact ⟨k + 1, rst, j, by omega, by go_num, rfl, hrst, HNX.out, HJF.out, hx04, hx14, hx24, hbe4⟩
          case measure => simp [intOf]; omega
      · obtain rfl : k = ps.length := by omega
        have HLE : Hid (looseL l = some cur) := by show _ = _; rw [HLO.out, List.drop_length]; rfl
        obtain ⟨co, cd, ca, cb, ci⟩ := cur
        have HTI : Hid (tightL l = if rightB co cd ca cb ci = true ∧ lineL co cd ca cb ci = l then some ⟨co, cd, ca, cb, ci⟩ else none) := by show _ = _; unfold tightL; rw [HLE.out]; rfl
        obtain ⟨e0, e1, e2, e3, e4⟩ := box_cells hx1
        obtain ⟨g0, g1, g2, g3, g4⟩ := HFIT.out
        simp only at g0 g1 g2 g3 g4 e0 e1 e2 e3 e4
        clear HLO HLE HFIT hx2
        cases hR : rightB co cd ca cb ci
        · have HT : Hid (tightL l = none) := by show _ = _; rw [HTI.out, if_neg (by rw [hR]; simp)]
          clear HTI
          go_wp2_with (go_at_call 15; go_must (refine (right_one co cd ca cb ci _ _ (by simp)).mono ?_); rintro e w5 ⟨rfl, hb5⟩; go_must (rw [hR]; have hx05 := heap_below hb5 (Nat.le_refl _) hx0; have hbe5 := hbe.trans (hb5.mono hsz); obtain ⟨⟨c0, c1, c2, c3, c4⟩, f0, f1, f2, f3, f4⟩ := wbox_heap hx05; clear hb5 hx0 hx1 hbe e0 e1 e2 e3 e4))
          refine bodyPost_ret (v := .tuple #[instV 0 0 0 0 0, .bool false]) ?_ rfl ?_
          · rw [results_cell_tmp rfl]
            have hld := run_box (box_set5 ⟨c0, c1, c2, c3, c4⟩ 0 0 0 0 0)
            simp [asAddr, Result.andThen, hld]
          · exact ⟨by rw [HT.out]; rfl, by go_grown⟩
        · have ho : 0 ≤ co ∧ co ≤ 22 := right_op hR
          by_cases hE : lineL co cd ca cb ci = l
          · have HT : Hid (tightL l = some ⟨co, cd, ca, cb, ci⟩) := by show _ = _; rw [HTI.out, if_pos ⟨hR, hE⟩]
            have hq := str_beq hE
            clear HTI hE
            go_wp2_with (first
              | (go_at_call 15; go_must (refine (right_one co cd ca cb ci _ _ (by simp)).mono ?_); rintro e w5 ⟨rfl, hb5⟩; go_must (rw [hR]; have hx05 := heap_below hb5 (Nat.le_refl _) hx0; have hx15 := heap_below hb5 (Nat.le_refl _) hx1; have hbe5 := hbe.trans (hb5.mono hsz); have hz5 := hb5.size; obtain ⟨j0, j1, j2, j3, j4⟩ := box_cells hx15; simp only at j0 j1 j2 j3 j4; clear hb5 hx0 hx1 hbe e0 e1 e2 e3 e4))
              | (go_at_call 17; go_must (refine (lline_any co cd ca cb ci _ (laid_keeps _ _ HL.out hbe5) ho g1 g2 g3 g4).mono ?_); rintro e w6 ⟨rfl, hb6⟩; go_must (have hx06 := heap_below hb6 (Nat.le_refl _) hx05; have hx16 := heap_below hb6 (Nat.le_refl _) hx15; have hbe6 := hbe5.trans (hb6.mono (by omega)); obtain ⟨⟨c0, c1, c2, c3, c4⟩, f0, f1, f2, f3, f4⟩ := wbox_heap hx06; obtain ⟨i0, i1, i2, i3, i4⟩ := box_cells hx16; simp only at i0 i1 i2 i3 i4; clear hb6 hx05 hx15 hx06 hx16 hbe5 j0 j1 j2 j3 j4)))
            refine bodyPost_ret (v := .tuple #[instV co cd ca cb ci, .bool true]) ?_ rfl ?_
            · rw [results_cell_tmp rfl]
              have hld := run_box (box_set5 ⟨c0, c1, c2, c3, c4⟩ co cd ca cb ci)
              simp [asAddr, Result.andThen, hld]
            · exact ⟨by rw [HT.out]; rfl, by go_grown⟩
          · have HT : Hid (tightL l = none) := by show _ = _; rw [HTI.out, if_neg (fun x => hE x.2)]
            have hq := str_bne hE
            clear HTI hE
            go_wp2_with (first
              | (go_at_call 15; go_must (refine (right_one co cd ca cb ci _ _ (by simp)).mono ?_); rintro e w5 ⟨rfl, hb5⟩; go_must (rw [hR]; have hx05 := heap_below hb5 (Nat.le_refl _) hx0; have hx15 := heap_below hb5 (Nat.le_refl _) hx1; have hbe5 := hbe.trans (hb5.mono hsz); have hz5 := hb5.size; obtain ⟨j0, j1, j2, j3, j4⟩ := box_cells hx15; simp only at j0 j1 j2 j3 j4; clear hb5 hx0 hx1 hbe e0 e1 e2 e3 e4))
              | (go_at_call 17; go_must (refine (lline_any co cd ca cb ci _ (laid_keeps _ _ HL.out hbe5) ho g1 g2 g3 g4).mono ?_); rintro e w6 ⟨rfl, hb6⟩; go_must (have hx06 := heap_below hb6 (Nat.le_refl _) hx05; have hbe6 := hbe5.trans (hb6.mono (by omega)); obtain ⟨⟨c0, c1, c2, c3, c4⟩, f0, f1, f2, f3, f4⟩ := wbox_heap hx06; clear hb6 hx05 hx15 hx06 hbe5 j0 j1 j2 j3 j4)))
            refine bodyPost_ret (v := .tuple #[instV 0 0 0 0 0, .bool false]) ?_ rfl ?_
            · rw [results_cell_tmp rfl]
              have hld := run_box (box_set5 ⟨c0, c1, c2, c3, c4⟩ 0 0 0 0 0)
              simp [asAddr, Result.andThen, hld]
            · exact ⟨by rw [HT.out]; rfl, by go_grown⟩
end Go.Proofs.YteccmagbebghaaaDoor
