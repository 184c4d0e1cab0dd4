/-
  KL3Print
  KL3Read
  KL3Parse
-/
import Derived.Test.YtiheafdphgllkaaGreatDoorMW34
import Derived.Test.YtiheafdphgllkaaGreatDoorMW14
import Derived.Test.YtiheafdphgllkaaGreatDoorMW31
import Derived.Test.YtiheafdphgllkaaGreatDoorMW33
import Derived.Deep.RegionHeld3
namespace Go.Proofs.YtiheafdphgllkaaGreatDoor
open Go.RowKit
set_option linter.unusedVariables false
set_option linter.unusedSimpArgs false
set_option maxRecDepth 100000
theorem wfeed_any (B b : Nat) (l : List UInt8) (w : World) (h : Builds B b l w) (hlen : l.length + 1 <= 140737488355328) (hB : B <= w.heap.size) :
  Calls Tryz.prog 16 #[.pointer (some ⟨b, 0, none⟩), .int .u8 10] w fun e w' => e = .returned .nilIface /\ Builds B b (l ++ [10]) w' /\ Below B w w' := wbyte_any B b l 10 w h hlen hB
theorem builds_fresh (w : World) (n : Nat) (hn : n = w.heap.size) : Builds n n [] (w.alloc (.cells #[.pointer none, .slice none 0 0] 63)) := by
 subst hn
 exact Lib.IsBuilderF.of (Lib.fresh_isBuilder 63 5 w)
theorem lprint_none (a : Option Addr) (cap : Nat) (w : World) : Calls Tryz.prog 5 #[.slice a 0 cap] w fun e w' => e = .returned (.tuple #[.string (str []), .int .i64 0]) /\ Below w.heap.size w w' := by
 go_enter Tryz.func5, Tryz.ntmps5
 go_wp2_with (go_at_call 13; go_must (refine (rights_none a cap _).mono ?_); rintro e w1 ⟨rfl, rfl⟩)
 obtain ⟨w0, HB0, hB0, hz0, hw0⟩ : ∃ w0, Hid (Builds w.heap.size w.heap.size [] w0) /\ Below w.heap.size w w0 /\ w.heap.size <= w0.heap.size /\ w0 = w.alloc (.cells #[.pointer none, .slice none 0 0] 63) := ⟨_, builds_fresh w _ rfl, (Below.refl _ _).alloc (Nat.le_refl _) _, by simp, rfl⟩
 rw [<- hw0]
 clear hw0
 go_loopw [12] (fun i wr => i = .int .i64 0 /\ w0 = wr) (fun i _ => 0)
 case atStart => exact ⟨rfl, rfl⟩
 case round =>
  obtain ⟨rfl, rfl⟩ := hrel
  go_wp2_with (go_at_call 17; go_must (refine (bstring_any _ _ _ _ HB0.out hz0).mono ?_); rintro e w2 ⟨rfl, hb2⟩)
  go_ret2
  exact ⟨rfl, hB0.trans hb2⟩

set_option maxHeartbeats 1600000 in
theorem lprint_some (bk off cap : Nat) (xs : List In) (w : World) (h : Laid w) (hc : xs.length <= cap) (hm : cap <= 9223372036854775807) (hbk : bk < w.heap.size) (hbytes : xs.length <= 3518437208780) (hwf : ∀ i ∈ xs, i.wf)
  (hat : ∀ k, k < xs.length -> At w bk (off + k * 5) (xs.getD k In.nil)) : Calls Tryz.prog 5 #[.slice (some ⟨bk, off, none⟩) xs.length cap] w fun e w' => e = .returned (.tuple #[.string (str (printL xs).1), .int .i64 (printL xs).2]) /\ Below w.heap.size w w' := by
 have HS : Hid (SeesI w (.slice (some ⟨bk, off, none⟩) xs.length cap) xs) := ⟨_, cap, rfl, hc, by unfold maxLen; omega, fun e => (by cases e), fun _ => ⟨bk, off, rfl, hbk, hat⟩⟩
 have HA : Hid (∀ k, k < xs.length -> At w bk (off + k * 5) (xs.getD k In.nil)) := hat
 have HW : Hid (∀ i ∈ xs, i.wf) := hwf
 have HL : Hid (Laid w) := h
 clear hat hwf h
 obtain ⟨n, HNE⟩ : ∃ n, Hid (n = xs.length) := ⟨_, rfl⟩
 rw [<- HNE.out] at hc hbytes ⊢
 have HR : Hid (Calls Tryz.prog 13 #[.slice (some ⟨bk, off, none⟩) n cap] w fun e w' => e = .returned (.bool (xs.all In.right)) /\ Below w.heap.size w w') := by
  show Calls _ _ _ _ _
  have := rights_any _ xs w HS.out
  rw [<- HNE.out] at this
  exact this
 clear HS
 cases hall : xs.all In.right
 ·have HE : Hid (printL xs = ([], 12)) := by show _ = _; unfold printL; rw [if_neg (by rw [hall]; simp)]
  rw [hall] at HR
  clear hall
  go_enter Tryz.func5, Tryz.ntmps5
  go_wp2_with (go_at_call 13; go_must (refine HR.out.mono ?_); rintro e w1 ⟨rfl, hb1⟩)
  go_ret2
  exact ⟨ret2si (by rw [HE.out]) (by rw [HE.out]), hb1⟩
 ·have HE : Hid (printL xs = (printB xs, 0)) := by show _ = _; unfold printL; rw [if_pos hall]
  have HRT : Hid (∀ i ∈ xs, i.right = true) := List.all_eq_true.1 hall
  rw [hall] at HR
  clear hall
  go_enter Tryz.func5, Tryz.ntmps5
  go_wp2_with (go_at_call 13; go_must (refine HR.out.mono ?_); rintro e w1 ⟨rfl, hb1⟩)
  have hz1 := hb1.size
  obtain ⟨w0, HB0, hB0, hz0, hw0⟩ : ∃ w0, Hid (Builds w1.heap.size w1.heap.size [] w0) /\ Below w.heap.size w w0 /\ w1.heap.size <= w0.heap.size /\ w0 = w1.alloc (.cells #[.pointer none, .slice none 0 0] 63) := ⟨_, builds_fresh w1 _ rfl, hb1.alloc hz1 _, by simp, rfl⟩
  rw [<- hw0]
  clear hw0
  generalize hnb : w1.heap.size = nb at *
  clear hnb hb1 HR
  go_loopw [12] (fun i wr => ∃ k : Nat, k <= n /\ i = .int .i64 k /\ Builds nb nb (printB (xs.take k)) wr /\ Below w.heap.size w wr /\ nb <= wr.heap.size) (fun i _ => n - (intOf i).toNat)
  case atStart => exact ⟨0, by omega, rfl, HB0.out, hB0, hz0⟩
  case round =>
   obtain ⟨k, hk, rfl, hbu, hbe, hnb⟩ := hrel
   have hsz := hbe.size
   have HBU : Hid (Builds nb nb (printB (xs.take k)) wr) := hbu
   clear hbu
   by_cases hlt : k < n
   ·obtain ⟨op, d, a, b, imm, HI⟩ : ∃ op d a b imm, Hid (xs.getD k In.nil = ⟨op, d, a, b, imm⟩) := ⟨_, _, _, _, _, rfl⟩
    have hcell := (HA.out k (by have := HNE.out; omega)).below hbe hbk
    rw [HI.out] at hcell
    obtain ⟨h0, h1, h2, h3, h4⟩ := hcell
    simp only at h0 h1 h2 h3 h4
    have hmem : xs.getD k In.nil ∈ xs := by rw [List.getD_eq_getElem?_getD, List.getElem?_eq_getElem (by have := HNE.out; omega)]; simp
    have hw0 := HW.out _ hmem
    have hr0 := HRT.out _ hmem
    rw [HI.out] at hw0 hr0
    obtain ⟨_, w1', w2, w3, w4⟩ := hw0
    have bd := bounds_i64 w1'
    have ba := bounds_i64 w2
    have bb := bounds_i64 w3
    have bi := bounds_i64 w4
    have ho : 0 <= op /\ op <= 22 := right_op hr0
    have hlen := printB_short (xs.take k) (List.all_eq_true.2 fun i hi => HRT.out i (List.mem_of_mem_take hi))
    rw [List.length_take] at hlen
    obtain ⟨L, HLN, hL80⟩ : ∃ L, Hid (lineL op d a b imm = L) /\ L.length <= 39 := ⟨_, rfl, lineL_short hr0⟩
    obtain ⟨P, HP, hPl⟩ : ∃ P, Hid (printB (xs.take k) = P) /\ P.length <= 140737488355328 - 40 := ⟨_, rfl, by omega⟩
    have HN : Hid (printB (xs.take (k + 1)) = P ++ L ++ [10]) := by show _ = _; rw [printB_take (by have := HNE.out; omega), HI.out, HP.out, HLN.out.symm, List.append_assoc]
    rw [HP.out] at HBU
    have HLr : Hid (Laid wr) := laid_keeps _ _ HL.out hbe
    clear HI hmem hlen HP w1' w2 w3 w4 hr0
    go_wp2_with (first
     | (go_at_call 15; go_must (refine (lline_any op d a b imm _ (laid_keeps _ _ HLr.out ((Below.refl _ _).alloc (Nat.le_refl _) _)) ho bd ba bb bi).mono ?_); rintro e w5 ⟨rfl, hb5⟩; go_must (rw [HLN.out]; have hb5' := box_below hb5; have HB5 : Hid (Builds nb nb P w5) := builds_below HBU.out hb5'; have hbe5 := hbe.trans (hb5'.mono hsz); have hz5 : nb <= w5.heap.size := Nat.le_trans hnb hb5'.size; clear hb5 hb5' HBU hbe h0 h1 h2 h3 h4 HLr))
     | (go_at_call 14; go_must (refine (wstring_any nb nb P L _ HB5.out (by omega) hz5).mono ?_); rintro e w6 ⟨rfl, HB6, hb6⟩; go_must (have HB6 : Hid (Builds nb nb (P ++ L) w6) := HB6; have hbe6 := hbe5.trans (hb6.mono (by omega)); have hz6 : nb <= w6.heap.size := Nat.le_trans hz5 hb6.size; clear hb6 HB5 hbe5))
     | (go_at_call 16; go_must (refine (wfeed_any nb nb (P ++ L) _ HB6.out (by simp; omega) hz6).mono ?_); rintro e w7 ⟨rfl, HB7, hb7⟩; go_must (have HB7 : Hid (Builds nb nb (P ++ L ++ [10]) w7) := HB7; have hbe7 := hbe6.trans (hb7.mono (by omega)); have hz7 : nb <= w7.heap.size := Nat.le_trans hz6 hb7.size; clear hb7 HB6 hbe6)))
    rw [<- HN.out] at HB7
    go_roundw
    case rel => exact ⟨k + 1, by omega, by go_num, HB7.out, hbe7, hz7⟩
    case measure => simp [intOf]; omega
   ·obtain rfl : k = n := by omega
    rw [show xs.take k = xs by rw [HNE.out]; exact List.take_length] at HBU
    go_wp2_with (go_at_call 17; go_must (refine (bstring_any _ _ _ _ HBU.out hnb).mono ?_); rintro e w2 ⟨rfl, hb2⟩)
    go_ret2
    exact ⟨ret2si (by rw [HE.out]) (by rw [HE.out]), hbe.trans (hb2.mono (by omega))⟩
theorem lprint_any : PrintsLike Laid := by
 intro v xs w h hs hwf hlen
 obtain ⟨a, cap, rfl, h1, h2, h3, h4⟩ := hs
 by_cases hne : xs = []
 ·subst hne
  exact lprint_none a cap w
 ·obtain ⟨b, off, rfl, hb, hat⟩ := h4 hne
  exact lprint_some b off cap xs w h h1 (by unfold maxLen at h2; omega) hb hlen hwf hat
theorem cut_below (l : List UInt8) (c : UInt8) (w : World) (h : Laid w) (hl : l.length <= 140737488355328) : Calls Tryz.prog 21 #[.string (str l), .string (str [c])] w fun e w' => e = .returned (.tuple #[.string (str (cutL_l c l).1), .string (str (cutL_l c l).2.1), .bool (cutL_l c l).2.2]) /\ Below w.heap.size w w' := by
 refine (cut_any l c w h hl).mono ?_
 rintro e w' ⟨he, n, rfl⟩
 exact ⟨he, below_drewN (Below.refl _ _) n⟩
def readV (o : Option In) : Value := match o with | none => .tuple #[instV 0 0 0 0 0, .bool false] | some i => .tuple #[instV i.op i.d i.a i.b i.imm, .bool true]
theorem wbox_heap {w : World} {n : Nat} {op d a b imm : Int} (h : w.heap[n]? = some (instO op d a b imm)) : Wbox w n op d a b imm :=
 ⟨box_cells h, Lib.frozen_of_heap h 0, Lib.frozen_of_heap h 1, Lib.frozen_of_heap h 2, Lib.frozen_of_heap h 3, Lib.frozen_of_heap h 4⟩
theorem grown_to_below_l {B b : Nat} {w w' : World} (h : w.grownBy w' (some b)) (hB : B <= b) (hw : B <= w.heap.size) : Below B w w' := ⟨h.os, h.tape, h.output, h.size, fun k hk => h.block k (by omega) (by simp; omega)⟩
theorem grown_heap {b n : Nat} {w w' : World} {x : Obj} (h : w.grownBy w' (some b)) (hx : w.heap[n]? = some x) (hn : n ≠ b) : w'.heap[n]? = some x := by
 rw [h.block n (Array.getElem?_eq_some_iff.1 hx).1 (by simpa using hn)]; exact hx

theorem looseF_none {p : Int} {ps : List Int} {behind wd rst : List UInt8} {ok : Bool} {cur : In} (hc : cutL_l 32 behind = (wd, rst, ok)) (ht : takeL p wd cur = none) : looseF (p :: ps) behind cur = none := by simp only [looseF, hc, ht]
theorem looseF_some {p : Int} {ps : List Int} {behind wd rst : List UInt8} {ok : Bool} {cur j : In} (hc : cutL_l 32 behind = (wd, rst, ok)) (ht : takeL p wd cur = some j) : looseF (p :: ps) behind cur = looseF ps rst j := by simp only [looseF, hc, ht]
theorem fit_first {op : Int} (h : 0 <= op /\ op <= 23) : (⟨op, 0, 0, 0, 0⟩ : In).fit := ⟨h, ⟨by simp, by simp⟩, ⟨by simp, by simp⟩, ⟨by simp, by simp⟩, by simp, by simp⟩
theorem str_beq {a b : List UInt8} (h : a = b) : (a == b) = true := by rw [h]; simp
theorem str_bne {a b : List UInt8} (h : a ≠ b) : (a == b) = false := by simp [h]

set_option maxHeartbeats 1600000 in
theorem lread_any (l : List UInt8) (w : World) (h : Laid w) (hl : l.length <= 140737488355328) : Calls Tryz.prog 22 #[.string (str l)] w fun e w' => e = .returned (readV (tightL l)) /\ Below w.heap.size w w' := by
 have HL : Hid (Laid w) := h
 have hw6 := h.1
 clear h
 obtain ⟨n0, b0, ok0, HC, hn0, hb0⟩ : ∃ n0 b0 ok0, Hid (cutL_l 32 l = (n0, b0, ok0)) /\ n0.length <= 140737488355328 /\ b0.length <= 140737488355328 := ⟨_, _, _, rfl, Nat.le_trans (cutL_len 32 l).1 hl, Nat.le_trans (cutL_len 32 l).2 hl⟩
 obtain ⟨op, fb, HF⟩ : ∃ op fb, Hid (findL (str n0) = (op, fb)) := ⟨_, _, rfl⟩
 have hop : 0 <= op /\ op <= 23 := by have := find_op (str n0); rw [HF.out] at this; exact this
 have HLO : Hid (looseL l = if fb = true then looseF (partsL op) b0 ⟨op, 0, 0, 0, 0⟩ else none) := by show _ = _; unfold looseL; rw [HC.out]; simp only [HF.out]
 have Hbx0 : (w.alloc (instO 0 0 0 0 0)).heap[w.heap.size]? = some (instO 0 0 0 0 0) := heap_alloc_at w _ _ rfl
 cases fb
 ·have HT : Hid (tightL l = none) := by show _ = _; unfold tightL; rw [HLO.out]; rfl
  go_enter Tryz.func22, Tryz.ntmps22
  go_wp2_with (first
   | (go_at_call 21; go_must (refine (cut_below l 32 _ (laid_keeps _ _ HL.out ((Below.refl _ _).alloc (Nat.le_refl _) _)) hl).mono ?_); rintro e w1 ⟨rfl, hb1⟩; go_must (rw [HC.out]; have hbx1 := heap_below hb1 (Nat.le_refl _) Hbx0; have hB1 := box_below hb1; obtain ⟨⟨c0, c1, c2, c3, c4⟩, f0, f1, f2, f3, f4⟩ := wbox_heap hbx1; clear hb1 Hbx0))
   | (go_at_call 46; go_must (refine (ofind_any (str n0) _ (laid_keeps _ _ HL.out hB1).2.1).mono ?_); rintro e w2 ⟨rfl, rfl⟩; rw [HF.out]))
  refine bodyPost_ret (v := .tuple #[instV 0 0 0 0 0, .bool false]) ?_ rfl ?_
  ·rw [results_cell_tmp rfl]
   have hld := run_box (box_set5 ⟨c0, c1, c2, c3, c4⟩ 0 0 0 0 0)
   simp [asAddr, Result.andThen, hld]
  ·exact ⟨by rw [HT.out]; rfl, by go_grown⟩
 ·obtain ⟨ps, HPS⟩ : ∃ ps, Hid (partsL op = ps) := ⟨_, rfl⟩
  have hpl : ps.length <= 3 := by rw [<- HPS.out]; exact partsL_len op
  have HM : Hid (∀ k, k < ps.length -> 0 <= ps.getD k 0 /\ ps.getD k 0 <= 4) := by
   show ∀ k, _ -> _
   rw [<- HPS.out]
   intro k hk
   refine partsL_mem (op := op) ?_
   rw [List.getD_eq_getElem?_getD, List.getElem?_eq_getElem hk]
   simp
  have HLP : Hid (looseL l = looseF ps b0 ⟨op, 0, 0, 0, 0⟩) := by show _ = _; rw [HLO.out, if_pos rfl, HPS.out]
  clear HLO
  go_enter Tryz.func22, Tryz.ntmps22
  go_wp2_with (first
   | (go_at_call 21; go_must (refine (cut_below l 32 _ (laid_keeps _ _ HL.out ((Below.refl _ _).alloc (Nat.le_refl _) _)) hl).mono ?_); rintro e w1 ⟨rfl, hb1⟩; go_must (rw [HC.out]; have hbx1 := heap_below hb1 (Nat.le_refl _) Hbx0; have hB1 := box_below hb1; clear hb1 Hbx0))
   | (go_at_call 46; go_must (refine (ofind_any (str n0) _ (laid_keeps _ _ HL.out hB1).2.1).mono ?_); rintro e w2 ⟨rfl, rfl⟩; rw [HF.out])
   | (go_at_call 39; go_must (refine (parts_any op _ ps.length (by rw [HPS.out])).mono ?_); rintro e w2 ⟨rfl, rfl⟩; rw [HPS.out]))
  have hz1 : w.heap.size < w1.heap.size := (Array.getElem?_eq_some_iff.1 hbx1).1
  have HSB : Hid (Below w.heap.size w ((w1.alloc (instO op 0 0 0 0)).alloc (partO ps))) := (hB1.alloc (by omega) _).alloc (by simp; omega) _
  have HS0 : Hid (((w1.alloc (instO op 0 0 0 0)).alloc (partO ps)).heap[w.heap.size]? = some (instO 0 0 0 0 0)) := heap_keep (heap_keep hbx1)
  have HS1 : Hid (((w1.alloc (instO op 0 0 0 0)).alloc (partO ps)).heap[w1.heap.size]? = some (instO op 0 0 0 0)) := heap_keep (heap_alloc_at _ _ _ rfl)
  have HS2 : Hid (((w1.alloc (instO op 0 0 0 0)).alloc (partO ps)).heap[w1.heap.size + 1]? = some (partO ps)) := heap_alloc_at _ _ _ (by simp)
  clear hbx1 hB1
  generalize ((w1.alloc (instO op 0 0 0 0)).alloc (partO ps)) = W0 at *
  generalize w1.heap.size = N1 at *
  go_loopw [5, 34] (fun v i wr => ∃ (k : Nat) (behind : List UInt8) (cur : In), k <= ps.length /\ i = .int .i64 k /\ v = .string (str behind) /\ behind.length <= 140737488355328 /\ looseL l = looseF (ps.drop k) behind cur /\ cur.fit /\ wr.heap[w.heap.size]? = some (instO 0 0 0 0 0) /\ wr.heap[N1]? = some cur.box /\ wr.heap[N1 + 1]? = some (partO ps) /\ Below w.heap.size w wr) (fun _ i _ => ps.length - (intOf i).toNat)
  case atStart => exact ⟨0, b0, ⟨op, 0, 0, 0, 0⟩, by omega, rfl, rfl, hb0, HLP.out, fit_first hop, HS0.out, HS1.out, HS2.out, HSB.out⟩
  case round =>
   obtain ⟨k, behind, cur, hk, rfl, rfl, hbl, hlo, hfit, hx0, hx1, hx2, hbe⟩ := hrel
   have hsz := hbe.size
   clear HS0 HS1 HS2 HSB HLP
   have HLO : Hid (looseL l = looseF (ps.drop k) behind cur) := hlo
   have HFIT : Hid cur.fit := hfit
   clear hlo hfit
   have HLr : Hid (Laid wr) := laid_keeps _ _ HL.out hbe
   by_cases hlt : k < ps.length
   ·obtain ⟨p, HP⟩ : ∃ p, Hid (ps.getD k 0 = p) := ⟨_, rfl⟩
    have hc := part_cell hx2 hlt
    rw [HP.out] at hc
    have hp04 := HM.out k hlt
    rw [HP.out] at hp04
    obtain ⟨wd, rst, ok1, HC1, hwd, hrst⟩ : ∃ wd rst ok1, Hid (cutL_l 32 behind = (wd, rst, ok1)) /\ wd.length <= 140737488355328 /\ rst.length <= 140737488355328 := ⟨_, _, _, rfl, Nat.le_trans (cutL_len 32 behind).1 hbl, Nat.le_trans (cutL_len 32 behind).2 hbl⟩
    have HD : Hid (ps.drop k = p :: ps.drop (k + 1)) := by
     show _ = _
     rw [List.drop_eq_getElem_cons hlt, <- HP.out]
     simp [List.getD, hlt]
    rcases ht : takeL p wd cur with _ | j
    ·have HT : Hid (tightL l = none) := by show _ = _; unfold tightL; rw [HLO.out, HD.out, looseF_none HC1.out ht]
     have HTK : Hid (takeL p wd cur = none) := ht
     clear ht HD HP HLO
     go_wp2_with (first
      | (go_at_call 21; go_must (refine (cut_below behind 32 _ HLr.out hbl).mono ?_); rintro e w3 ⟨rfl, hb3⟩; go_must (rw [HC1.out]; have hx03 := heap_below hb3 (Nat.le_refl _) hx0; have hx13 := heap_below hb3 (Nat.le_refl _) hx1; have hbe3 := hbe.trans (hb3.mono hsz); have hz3 := hb3.size; clear hb3 hx0 hx1 hx2 hbe hc HLr))
      | (go_at_call 47; go_must (refine (take_none p wd N1 cur _ (laid_keeps _ _ HL.out hbe3) hwd HTK.out).mono ?_); rintro e w4 ⟨rfl, hg4⟩; go_must (have hx04 := grown_heap hg4 hx03 (by omega); have hbe4 := hbe3.trans (grown_to_below_l hg4 (by omega) (by omega)); obtain ⟨⟨c0, c1, c2, c3, c4⟩, f0, f1, f2, f3, f4⟩ := wbox_heap hx04; clear hg4 hx03 hx13 hbe3)))
     refine bodyPost_ret (v := .tuple #[instV 0 0 0 0 0, .bool false]) ?_ rfl ?_
     ·rw [results_cell_tmp rfl]
      have hld := run_box (box_set5 ⟨c0, c1, c2, c3, c4⟩ 0 0 0 0 0)
      simp [asAddr, Result.andThen, hld]
     ·exact ⟨by rw [HT.out]; rfl, by go_grown⟩
    ·have HNX : Hid (looseL l = looseF (ps.drop (k + 1)) rst j) := by show _ = _; rw [HLO.out, HD.out, looseF_some HC1.out ht]
     have HJF : Hid j.fit := (takeL_fit HFIT.out ht).1
     have HTK : Hid (takeL p wd cur = some j) := ht
     clear ht HD HP HLO
     go_wp2_with (first
      | (go_at_call 21; go_must (refine (cut_below behind 32 _ HLr.out hbl).mono ?_); rintro e w3 ⟨rfl, hb3⟩; go_must (rw [HC1.out]; have hx03 := heap_below hb3 (Nat.le_refl _) hx0; have hx13 := heap_below hb3 (Nat.le_refl _) hx1; have hx23 := heap_below hb3 (Nat.le_refl _) hx2; have hbe3 := hbe.trans (hb3.mono hsz); have hz3 := hb3.size; clear hb3 hx0 hx1 hx2 hbe hc HLr))
      | (go_at_call 47; go_must (refine (take_some p wd N1 cur j _ (laid_keeps _ _ HL.out hbe3) hp04 hwd hx13 HTK.out).mono ?_); rintro e w4 ⟨rfl, hx14, hg4⟩; go_must (have hx04 := grown_heap hg4 hx03 (by omega); have hx24 := grown_heap hg4 hx23 (by omega); have hbe4 := hbe3.trans (grown_to_below_l hg4 (by omega) (by omega)); clear hg4 hx03 hx13 hx23 hbe3)))
     go_roundw
     case rel => exact ⟨k + 1, rst, j, by omega, by go_num, rfl, hrst, HNX.out, HJF.out, hx04, hx14, hx24, hbe4⟩
     case measure => simp [intOf]; omega
   ·obtain rfl : k = ps.length := by omega
    have HLE : Hid (looseL l = some cur) := by show _ = _; rw [HLO.out, List.drop_length]; rfl
    obtain ⟨co, cd, ca, cb, ci⟩ := cur
    have HTI : Hid (tightL l = if rightB co cd ca cb ci = true /\ lineL co cd ca cb ci = l then some ⟨co, cd, ca, cb, ci⟩ else none) := by show _ = _; unfold tightL; rw [HLE.out]; rfl
    obtain ⟨e0, e1, e2, e3, e4⟩ := box_cells hx1
    obtain ⟨g0, g1, g2, g3, g4⟩ := HFIT.out
    simp only at g0 g1 g2 g3 g4 e0 e1 e2 e3 e4
    clear HLO HLE HFIT hx2
    cases hR : rightB co cd ca cb ci
    ·have HT : Hid (tightL l = none) := by show _ = _; rw [HTI.out, if_neg (by rw [hR]; simp)]
     clear HTI
     go_wp2_with (go_at_call 13; go_must (refine (right_one co cd ca cb ci _ _ (by simp)).mono ?_); rintro e w5 ⟨rfl, hb5⟩; go_must (rw [hR]; have hx05 := heap_below hb5 (Nat.le_refl _) hx0; have hbe5 := hbe.trans (hb5.mono hsz); obtain ⟨⟨c0, c1, c2, c3, c4⟩, f0, f1, f2, f3, f4⟩ := wbox_heap hx05; clear hb5 hx0 hx1 hbe e0 e1 e2 e3 e4))
     refine bodyPost_ret (v := .tuple #[instV 0 0 0 0 0, .bool false]) ?_ rfl ?_
     ·rw [results_cell_tmp rfl]
      have hld := run_box (box_set5 ⟨c0, c1, c2, c3, c4⟩ 0 0 0 0 0)
      simp [asAddr, Result.andThen, hld]
     ·exact ⟨by rw [HT.out]; rfl, by go_grown⟩
    ·have ho : 0 <= co /\ co <= 22 := right_op hR
     by_cases hE : lineL co cd ca cb ci = l
     ·have HT : Hid (tightL l = some ⟨co, cd, ca, cb, ci⟩) := by show _ = _; rw [HTI.out, if_pos ⟨hR, hE⟩]
      have hq := str_beq hE
      clear HTI hE
      go_wp2_with (first
       | (go_at_call 13; go_must (refine (right_one co cd ca cb ci _ _ (by simp)).mono ?_); rintro e w5 ⟨rfl, hb5⟩; go_must (rw [hR]; have hx05 := heap_below hb5 (Nat.le_refl _) hx0; have hx15 := heap_below hb5 (Nat.le_refl _) hx1; have hbe5 := hbe.trans (hb5.mono hsz); have hz5 := hb5.size; obtain ⟨j0, j1, j2, j3, j4⟩ := box_cells hx15; simp only at j0 j1 j2 j3 j4; clear hb5 hx0 hx1 hbe e0 e1 e2 e3 e4))
       | (go_at_call 15; go_must (refine (lline_any co cd ca cb ci _ (laid_keeps _ _ HL.out hbe5) ho g1 g2 g3 g4).mono ?_); rintro e w6 ⟨rfl, hb6⟩; go_must (have hx06 := heap_below hb6 (Nat.le_refl _) hx05; have hx16 := heap_below hb6 (Nat.le_refl _) hx15; have hbe6 := hbe5.trans (hb6.mono (by omega)); obtain ⟨⟨c0, c1, c2, c3, c4⟩, f0, f1, f2, f3, f4⟩ := wbox_heap hx06; obtain ⟨i0, i1, i2, i3, i4⟩ := box_cells hx16; simp only at i0 i1 i2 i3 i4; clear hb6 hx05 hx15 hx06 hx16 hbe5 j0 j1 j2 j3 j4)))
      refine bodyPost_ret (v := .tuple #[instV co cd ca cb ci, .bool true]) ?_ rfl ?_
      ·rw [results_cell_tmp rfl]
       have hld := run_box (box_set5 ⟨c0, c1, c2, c3, c4⟩ co cd ca cb ci)
       simp [asAddr, Result.andThen, hld]
      ·exact ⟨by rw [HT.out]; rfl, by go_grown⟩
     ·have HT : Hid (tightL l = none) := by show _ = _; rw [HTI.out, if_neg (fun x => hE x.2)]
      have hq := str_bne hE
      clear HTI hE
      go_wp2_with (first
       | (go_at_call 13; go_must (refine (right_one co cd ca cb ci _ _ (by simp)).mono ?_); rintro e w5 ⟨rfl, hb5⟩; go_must (rw [hR]; have hx05 := heap_below hb5 (Nat.le_refl _) hx0; have hx15 := heap_below hb5 (Nat.le_refl _) hx1; have hbe5 := hbe.trans (hb5.mono hsz); have hz5 := hb5.size; obtain ⟨j0, j1, j2, j3, j4⟩ := box_cells hx15; simp only at j0 j1 j2 j3 j4; clear hb5 hx0 hx1 hbe e0 e1 e2 e3 e4))
       | (go_at_call 15; go_must (refine (lline_any co cd ca cb ci _ (laid_keeps _ _ HL.out hbe5) ho g1 g2 g3 g4).mono ?_); rintro e w6 ⟨rfl, hb6⟩; go_must (have hx06 := heap_below hb6 (Nat.le_refl _) hx05; have hbe6 := hbe5.trans (hb6.mono (by omega)); obtain ⟨⟨c0, c1, c2, c3, c4⟩, f0, f1, f2, f3, f4⟩ := wbox_heap hx06; clear hb6 hx05 hx15 hx06 hbe5 j0 j1 j2 j3 j4)))
      refine bodyPost_ret (v := .tuple #[instV 0 0 0 0 0, .bool false]) ?_ rfl ?_
      ·rw [results_cell_tmp rfl]
       have hld := run_box (box_set5 ⟨c0, c1, c2, c3, c4⟩ 0 0 0 0 0)
       simp [asAddr, Result.andThen, hld]
      ·exact ⟨by rw [HT.out]; rfl, by go_grown⟩
theorem parse_step_none {l behind t : List UInt8} {is : List In} (h : cutL_l 10 l = (t, behind, true)) (hr : readL t = none) : parseF [] is l = ([], (is.length : Int) + 1, 20) := by
 have hs := cutL_split 10 l
 rw [h] at hs
 obtain ⟨h1, ⟨_, h2⟩ | ⟨h2, _⟩⟩ := hs
 ·simp only at h1 h2
  rw [h2, parseF_line t [] is behind h1, List.nil_append, hr]
 ·cases h2
theorem parse_step_some {l behind t : List UInt8} {is : List In} {i : In} (h : cutL_l 10 l = (t, behind, true)) (hr : readL t = some i) : parseF [] is l = parseF [] (is ++ [i]) behind /\ behind.length < l.length /\ behind.count 10 + 1 <= l.count 10 := by
 have hs := cutL_split 10 l
 rw [h] at hs
 obtain ⟨h1, ⟨_, h2⟩ | ⟨h2, _⟩⟩ := hs
 ·simp only at h1 h2
  refine ⟨?_, ?_, ?_⟩
  ·rw [h2, parseF_line t [] is behind h1, List.nil_append, hr]
  ·rw [h2]; simp; omega
  ·rw [h2, List.count_append, List.count_cons_self]; omega
 ·cases h2
theorem parse_step_last {l behind t : List UInt8} {is : List In} (hne : l ≠ []) (h : cutL_l 10 l = (t, behind, false)) : parseF [] is l = ([], (is.length : Int) + 1, 20) := by
 have hs := cutL_split 10 l
 rw [h] at hs
 obtain ⟨h1, ⟨h2, _⟩ | ⟨_, h2, _⟩⟩ := hs
 ·cases h2
 ·simp only at h1 h2
  subst h2
  exact parseF_last _ [] is h1 (by simpa using hne)

set_option maxHeartbeats 1600000 in
theorem lparse_wide (l : List UInt8) (w : World) (h : Laid w) (hl : l.length <= 140737488355328) (hn : l.count 10 * 40 <= 140737488355328) :
  Calls Tryz.prog 8 #[.string (str l)] w fun e w' => ∃ v, e = .returned (.tuple #[v, .int .i64 (parseL l).2.1, .int .i64 (parseL l).2.2]) /\ w'.ownsRow w.heap.size 59 5 v (parseL l).1.length (flat (parseL l).1) /\ Below w.heap.size w w' := by
 have HL : Hid (Laid w) := h
 clear h
 obtain ⟨i0, hi, hz0, hz1, hz2⟩ := info_parts Tryz.infoInst3
 go_enter Tryz.func8, Tryz.ntmps8
 go_wp2_with fail
 go_loopw [0, 5, 6] (fun s v n wr => ∃ (rest : List UInt8) (done : List In), s = .string (str rest) /\ n = .int .i64 ((done.length : Int) + 1) /\ rest.length <= l.length /\ done.length + rest.count 10 <= l.count 10 /\ parseL l = parseF [] done rest /\ wr.ownsRow w.heap.size 59 5 v done.length (flat done) /\ Below w.heap.size w wr) (fun s _ _ _ => strLen s)
 case atStart => exact ⟨l, [], rfl, rfl, Nat.le_refl _, by simp, rfl, World.ownsRow_nil _ _ _ _, Below.refl _ _⟩
 case round =>
  obtain ⟨rest, done, rfl, rfl, hrl, hdl, hT, hown, hbe⟩ := hrel
  have hsz := hbe.size
  have HT : Hid (parseL l = parseF [] done rest) := hT
  clear hT
  by_cases hne : rest = []
  ·have HP : Hid (parseL l = (done, 0, 0)) := by show _ = _; rw [HT.out, hne]; rfl
   have hq : (rest == []) = true := by simp [hne]
   clear HT hne
   obtain ⟨av, cv, hvs⟩ : ∃ av cv, u5 = .slice av done.length cv := by
    rcases hown with ⟨_, ⟨rfl, h2⟩ | ⟨g, cap, cur, rfl, _⟩⟩
    ·exact ⟨none, 0, by rw [h2]⟩
    ·exact ⟨_, _, rfl⟩
   subst hvs
   go_wp2_with fail
   go_ret3
   exact ⟨.slice av done.length cv, ret3v (by rw [HP.out]) (by rw [HP.out]), by rw [HP.out]; exact hown, hbe⟩
  ·have hq : (rest == []) = false := by simp [hne]
   obtain ⟨t, behind, ended, HC, htl, hbl⟩ : ∃ t behind ended, Hid (cutL_l 10 rest = (t, behind, ended)) /\ t.length <= 140737488355328 /\ behind.length <= 140737488355328 := ⟨_, _, _, rfl, Nat.le_trans (cutL_len 10 rest).1 (by omega), Nat.le_trans (cutL_len 10 rest).2 (by omega)⟩
   have HLr : Hid (Laid wr) := laid_keeps _ _ HL.out hbe
   cases hrd : tightL t with
   | none =>
    have HP : Hid (parseL l = ([], (done.length : Int) + 1, 20)) := by
     show _ = _
     rw [HT.out]
     cases ended
     ·exact parse_step_last hne HC.out
     ·exact parse_step_none HC.out (by rw [<- tight_eq]; exact hrd)
    clear HT hne
    go_wp2_with (first
     | (go_at_call 21; go_must (refine (cut_below rest 10 _ HLr.out (by omega)).mono ?_); rintro e w3 ⟨rfl, hb3⟩; go_must (rw [HC.out]; have hbe3 := hbe.trans (hb3.mono hsz); clear hb3 hbe hown HLr))
     | (go_at_call 22; go_must (refine (lread_any t _ (laid_keeps _ _ HL.out hbe3) htl).mono ?_); rintro e w4 ⟨rfl, hb4⟩; go_must (rw [hrd]; simp only [readV]; have hbe4 := hbe3.trans (hb4.mono hbe3.size); clear hb4 hbe3)))
    go_ret3
    exact ⟨.slice none 0 0, ret3v (by rw [HP.out]) (by rw [HP.out]), by rw [HP.out]; exact World.ownsRow_nil _ _ _ _, hbe4.alloc hbe4.size _⟩
   | some i =>
    obtain ⟨jo, jd, ja, jb, ji⟩ := i
    cases ended
    ·have HP : Hid (parseL l = ([], (done.length : Int) + 1, 20)) := by show _ = _; rw [HT.out]; exact parse_step_last hne HC.out
     clear HT hne
     go_wp2_with (first
      | (go_at_call 21; go_must (refine (cut_below rest 10 _ HLr.out (by omega)).mono ?_); rintro e w3 ⟨rfl, hb3⟩; go_must (rw [HC.out]; have hbe3 := hbe.trans (hb3.mono hsz); clear hb3 hbe hown HLr))
      | (go_at_call 22; go_must (refine (lread_any t _ (laid_keeps _ _ HL.out hbe3) htl).mono ?_); rintro e w4 ⟨rfl, hb4⟩; go_must (rw [hrd]; simp only [readV]; have hbe4 := hbe3.trans (hb4.mono hbe3.size); clear hb4 hbe3)))
     go_ret3
     exact ⟨.slice none 0 0, ret3v (by rw [HP.out]) (by rw [HP.out]), by rw [HP.out]; exact World.ownsRow_nil _ _ _ _, hbe4.alloc hbe4.size _⟩
    ·have HS := parse_step_some (is := done) HC.out (i := ⟨jo, jd, ja, jb, ji⟩) (by rw [<- tight_eq]; exact hrd)
     have hlt := HS.2.1
     have hcnt := HS.2.2
     have HP : Hid (parseL l = parseF [] (done ++ [In.mk jo jd ja jb ji]) behind) := by show _ = _; rw [HT.out]; exact HS.1
     clear HT hne HS
     go_wp2_with (first
      | (go_at_call 21; go_must (refine (cut_below rest 10 _ HLr.out (by omega)).mono ?_); rintro e w3 ⟨rfl, hb3⟩; go_must (rw [HC.out]; have hbe3 := hbe.trans (hb3.mono hsz); have hown3 := own_below hown hb3 (Nat.le_refl _); clear hb3 hbe hown HLr))
      | (go_at_call 22; go_must (refine (lread_any t _ (laid_keeps _ _ HL.out hbe3) htl).mono ?_); rintro e w4 ⟨rfl, hb4⟩; go_must (rw [hrd]; simp only [readV]; have hbe4 := hbe3.trans (hb4.mono hbe3.size); have hown4 := own_below hown3 hb4 (Nat.le_refl _); have hz4 : w.heap.size <= w4.heap.size := hbe4.size; clear hb4 hbe3 hown3))
      | (at_builtin; go_must (refine wpList_append_own _ rfl (.tmp 34) (.tmp 36) 23 rfl w.heap.size 59 i0 (instV 0 0 0 0 0) 5 40 Tryz.underlying23 hi hz0 hz1 hz2 rfl (by decide) _ _ _ rfl ((hown4.alloc _).alloc _) ⟨_, 0, none⟩ 1 1 (flat [In.mk jo jd ja jb ji]) rfl rfl (one_inst _ _ ⟨jo, jd, ja, jb, ji⟩ _ (by simp)) (flat_one _) (by unfold maxLen; omega) (by omega) (by simp; omega) ?_); intro v5 w5 hown5 hg5 _; go_must (have hB5 : Below w.heap.size w w5 := ((hbe4.alloc (by omega) _).alloc (by simp; omega) _).grown hg5 (by simp; omega) (fun j hj => (hown4.lt j hj).1); clear hg5 hbe4 hown4)))
     have HO : Hid (w5.ownsRow w.heap.size 59 5 v5 (done ++ [In.mk jo jd ja jb ji]).length (flat (done ++ [In.mk jo jd ja jb ji]))) := by
      show w5.ownsRow _ _ _ _ _ _
      rw [flat_app] at hown5
      simpa using hown5
     clear hown5
     go_roundw
     case rel => exact ⟨behind, done ++ [In.mk jo jd ja jb ji], rfl, by simp, by omega, by simp; omega, HP.out, HO.out, hB5⟩
     case measure => rw [strLen_str, strLen_str]; exact hlt
theorem lparse_any : ParsesLike Laid := fun l w h hl => lparse_wide l w h (by omega) (by have := List.count_le_length (a := (10 : UInt8)) (l := l); omega)
end Go.Proofs.YtiheafdphgllkaaGreatDoor
