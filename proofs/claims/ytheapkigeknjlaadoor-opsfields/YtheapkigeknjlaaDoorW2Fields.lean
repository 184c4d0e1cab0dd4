/-
  The law OpsFields, walked: it answers true. Condition: the package-level variable 'names' reads as it is laid.
-/
import Derived.Test.YtheapkigeknjlaaDoorW2Reads
import Derived.Deep.CutRange
import Derived.Deep.RegionHeld3
namespace Go.Proofs.YtheapkigeknjlaaDoor
open Go.RowKit
set_option linter.unusedVariables false
set_option linter.unusedSimpArgs false

theorem find_name {op : Int} (h : 0 ≤ op ∧ op ≤ 22) : findL (nameF op) = (op, true) := by
  have hk : ∀ k : Fin 23, findL (nameF (k.val : Int)) = ((k.val : Int), true) := by decide +kernel
  have := hk ⟨op.toNat, by omega⟩
  have e : ((op.toNat : Nat) : Int) = op := by omega
  simp only [e] at this
  exact this
theorem far_bound (x : Int) : -899 ≤ wrap64 (100 + x.tmod 1000) ∧ wrap64 (100 + x.tmod 1000) ≤ 1099 := by
  have h1 := Int.tmod_lt_of_pos x (show (0 : Int) < 1000 by omega)
  have h2 := Int.lt_tmod_of_pos x (show (0 : Int) < 1000 by omega)
  have e : wrap64 (100 + x.tmod 1000) = 100 + x.tmod 1000 := by go_arith
  rw [e]
  omega

theorem xor_small : ∀ m : Fin 256, bits BinOp.xor IntKind.i64 (m.val : Int) 1099511627776 = (m.val : Int) + 1099511627776 := by decide +kernel
theorem xor_at {imm : Int} (h : 0 ≤ imm ∧ imm ≤ 255) : bits BinOp.xor IntKind.i64 imm 1099511627776 = imm + 1099511627776 := by
  have := xor_small ⟨imm.toNat, by omega⟩
  have e : ((imm.toNat : Nat) : Int) = imm := by omega
  simp only [e] at this
  exact this
theorem right_farD {op d a b imm : Int} (h : 100 ≤ d) : rightB op d a b imm = false := by
  by_cases hx : op < 0 ∨ 22 < op
  · exact rightB_none hx
  rw [Bool.eq_false_iff]
  intro hh
  rcases cases_op (op := op) (by omega) with hop | hop | rfl | rfl | rfl | rfl | hop | rfl | rfl | rfl
  · rw [right_A hop] at hh; simp [fitsB, regB] at hh; omega
  · rw [right_B hop] at hh; simp [fitsB, regB] at hh; omega
  · rw [right_C] at hh; simp [fitsB, hasB] at hh; omega
  · rw [right_D] at hh; simp [fitsB, regB] at hh; omega
  · rw [right_E] at hh; simp [fitsB, regB] at hh; omega
  · rw [right_F] at hh; simp [fitsB, hasB] at hh; omega
  · rw [right_G hop] at hh; simp [fitsB, hasB] at hh; omega
  · rw [right_H] at hh; simp [fitsB, hasB] at hh; omega
  · rw [right_I] at hh; simp [fitsB, hasB] at hh; omega
  · rw [right_J] at hh; simp [fitsB, hasB] at hh; omega
theorem right_farA {op d a b imm : Int} (h : 100 ≤ a) : rightB op d a b imm = false := by
  by_cases hx : op < 0 ∨ 22 < op
  · exact rightB_none hx
  rw [Bool.eq_false_iff]
  intro hh
  have hra : regB a = false := by simp [regB]; omega
  rcases cases_op (op := op) (by omega) with hop | hop | rfl | rfl | rfl | rfl | hop | rfl | rfl | rfl
  · rw [right_A hop] at hh; simp [fitsB, hra] at hh
  · rw [right_B hop] at hh; simp [fitsB, hra] at hh
  · rw [right_C] at hh; simp [fitsB, hra] at hh
  · rw [right_D] at hh; simp [fitsB, hra] at hh
  · rw [right_E] at hh; simp [fitsB, hra] at hh
  · rw [right_F] at hh; simp [fitsB, hra] at hh
  · rw [right_G hop] at hh; simp [fitsB, hra] at hh
  · rw [right_H] at hh; simp [fitsB, hra] at hh
  · rw [right_I] at hh; simp [fitsB, hra] at hh
  · rw [right_J] at hh; simp [fitsB, hra] at hh
theorem right_farB {op d a b imm : Int} (h : 100 ≤ b) : rightB op d a b imm = false := by
  by_cases hx : op < 0 ∨ 22 < op
  · exact rightB_none hx
  rw [Bool.eq_false_iff]
  intro hh
  have hra : regB b = false := by simp [regB]; omega
  have hr8 : (b == 8) = false := by simp; omega
  rcases cases_op (op := op) (by omega) with hop | hop | rfl | rfl | rfl | rfl | hop | rfl | rfl | rfl
  · rw [right_A hop] at hh; simp [fitsB, hra, hr8] at hh
  · rw [right_B hop] at hh; simp [fitsB, hra, hr8] at hh
  · rw [right_C] at hh; simp [fitsB, hra, hr8] at hh
  · rw [right_D] at hh; simp [fitsB, hra, hr8] at hh
  · rw [right_E] at hh; simp [fitsB, hra, hr8] at hh
  · rw [right_F] at hh; simp [fitsB, hra, hr8] at hh
  · rw [right_G hop] at hh; simp [fitsB, hra, hr8] at hh
  · rw [right_H] at hh; simp [fitsB, hra, hr8] at hh
  · rw [right_I] at hh; simp [fitsB, hra, hr8] at hh
  · rw [right_J] at hh; simp [fitsB, hra, hr8] at hh
theorem right_small {op d a b imm : Int} (hr : rightB op d a b imm = true) (hn : (sourceB op d a b imm && (b == 8)) = false) : 0 ≤ imm ∧ imm ≤ 255 := by
  rw [sourceB_shape hr] at hn
  rcases cases_op (right_op hr) with hop | hop | rfl | rfl | rfl | rfl | hop | rfl | rfl | rfl
  · rw [shape_A hop] at hn; rw [right_A hop] at hr; simp at hn; simp [hn] at hr; omega
  · rw [shape_B hop] at hn; rw [right_B hop] at hr; simp at hn; simp [hn] at hr; omega
  · rw [show (shapeL 12).source = true from rfl] at hn; rw [right_C] at hr; simp at hn; simp [hn] at hr; omega
  · rw [right_D] at hr; simp [fitsB, hasB] at hr; omega
  · rw [right_E] at hr; simp [fitsB, hasB] at hr; omega
  · rw [right_F] at hr; simp [fitsB, hasB] at hr; omega
  · rw [shape_G hop] at hn; rw [right_G hop] at hr; simp at hn; simp [hn] at hr; omega
  · rw [right_H] at hr; simp [fitsB, hasB] at hr; omega
  · rw [right_I] at hr; simp [fitsB, hasB] at hr; omega
  · rw [right_J] at hr; simp [fitsB, hasB] at hr; omega
theorem right_big {op d a b imm X : Int} (hr : rightB op d a b imm = true) (hX : 256 ≤ X) (hn : (sourceB op d a b imm && (b == 8)) = false) : rightB op d a b X = false := by
  rw [sourceB_shape hr] at hn
  rw [Bool.eq_false_iff]
  intro hh
  rcases cases_op (right_op hr) with hop | hop | rfl | rfl | rfl | rfl | hop | rfl | rfl | rfl
  · rw [shape_A hop] at hn; rw [right_A hop] at hh; simp at hn; simp [hn] at hh; omega
  · rw [shape_B hop] at hn; rw [right_B hop] at hh; simp at hn; simp [hn] at hh; omega
  · rw [show (shapeL 12).source = true from rfl] at hn; rw [right_C] at hh; simp at hn; simp [hn] at hh; omega
  · rw [right_D] at hh; simp [fitsB, hasB] at hh; omega
  · rw [right_E] at hh; simp [fitsB, hasB] at hh; omega
  · rw [right_F] at hh; simp at hh; omega
  · rw [shape_G hop] at hn; rw [right_G hop] at hh; simp at hn; simp [hn] at hh; omega
  · rw [right_H] at hh; simp [fitsB, hasB] at hh; omega
  · rw [right_I] at hh; simp [fitsB, hasB] at hh; omega
  · rw [right_J] at hh; simp at hh; omega
theorem right_free {op d a imm X : Int} (hr : rightB op d a 8 imm = true) (hs : sourceB op d a 8 imm = true) : rightB op d a 8 X = true := by
  rw [sourceB_shape hr] at hs
  rcases cases_op (right_op hr) with hop | hop | rfl | rfl | rfl | rfl | hop | rfl | rfl | rfl
  · rw [right_A hop] at hr ⊢; simpa [fitsB] using hr
  · rw [right_B hop] at hr ⊢; simpa [fitsB] using hr
  · rw [right_C] at hr ⊢; simpa [fitsB] using hr
  · cases hs
  · cases hs
  · cases hs
  · rw [right_G hop] at hr ⊢; simpa [fitsB] using hr
  · cases hs
  · cases hs
  · cases hs
theorem right_xor {op d a b imm : Int} (hr : rightB op d a b imm = true) : rightB op d a b (bits BinOp.xor IntKind.i64 imm 1099511627776) = (sourceB op d a b imm && (b == 8)) := by
  cases hc : (sourceB op d a b imm && (b == 8))
  · have hs := right_small hr hc
    rw [xor_at hs]
    exact right_big hr (by omega) hc
  · simp at hc
    obtain ⟨h1, rfl⟩ := hc
    exact right_free hr h1
theorem box_new (w : World) (op d a b imm : Int) : Box (w.alloc (instO op d a b imm)) w.heap.size op d a b imm := by simp [Box]
/-- Four boxes of one instruction. -/
theorem four_boxes (w : World) (op d a b imm : Int) : ∀ n, w.heap.size ≤ n ∧ n < w.heap.size + 4 →
    Box ((((w.alloc (instO op d a b imm)).alloc (instO op d a b imm)).alloc (instO op d a b imm)).alloc (instO op d a b imm)).drew n op d a b imm ∧ ∀ j, ((((w.alloc (instO op d a b imm)).alloc (instO op d a b imm)).alloc (instO op d a b imm)).alloc (instO op d a b imm)).drew.frozen? ⟨n, j, none⟩ = false := by
  intro n hn
  have hh : ((((w.alloc (instO op d a b imm)).alloc (instO op d a b imm)).alloc (instO op d a b imm)).alloc (instO op d a b imm)).drew.heap[n]? = some (instO op d a b imm) := by
    show ((((w.heap.push _).push _).push _).push _)[n]? = _
    have hc : n = w.heap.size ∨ n = w.heap.size + 1 ∨ n = w.heap.size + 2 ∨ n = w.heap.size + 3 := by omega
    rw [Array.getElem?_push, Array.getElem?_push, Array.getElem?_push, Array.getElem?_push]
    simp only [Array.size_push]
    by_cases h3 : n = w.heap.size + 1 + 1 + 1
    · rw [if_pos h3]
    rw [if_neg h3]
    by_cases h2 : n = w.heap.size + 1 + 1
    · rw [if_pos h2]
    rw [if_neg h2]
    by_cases h1 : n = w.heap.size + 1
    · rw [if_pos h1]
    rw [if_neg h1, if_pos (by omega)]
  refine ⟨?_, fun j => ?_⟩
  · simp [Box, World.cell?, hh]
  · simp [World.frozen?, hh]

/-- A field of each is set. -/
theorem set_boxes (w : World) (n8 n9 n10 n11 : Nat) (op d a b imm F : Int) (h8 : Box w n8 op d a b imm) (h9 : Box w n9 op d a b imm) (ha : Box w n10 op d a b imm) (hb : Box w n11 op d a b imm)
    (x1 : n8 ≠ n9) (x2 : n8 ≠ n10) (x3 : n8 ≠ n11) (x4 : n9 ≠ n10) (x5 : n9 ≠ n11) (x6 : n10 ≠ n11) :
    Box ((((w.setCell ⟨n8, 1, none⟩ (.int .i64 F)).setCell ⟨n9, 2, none⟩ (.int .i64 F)).setCell ⟨n10, 3, none⟩ (.int .i64 F)).setCell ⟨n11, 0, none⟩ (.int .i64 F)) n8 op F a b imm ∧
    Box ((((w.setCell ⟨n8, 1, none⟩ (.int .i64 F)).setCell ⟨n9, 2, none⟩ (.int .i64 F)).setCell ⟨n10, 3, none⟩ (.int .i64 F)).setCell ⟨n11, 0, none⟩ (.int .i64 F)) n9 op d F b imm ∧
    Box ((((w.setCell ⟨n8, 1, none⟩ (.int .i64 F)).setCell ⟨n9, 2, none⟩ (.int .i64 F)).setCell ⟨n10, 3, none⟩ (.int .i64 F)).setCell ⟨n11, 0, none⟩ (.int .i64 F)) n10 op d a F imm ∧
    Box ((((w.setCell ⟨n8, 1, none⟩ (.int .i64 F)).setCell ⟨n9, 2, none⟩ (.int .i64 F)).setCell ⟨n10, 3, none⟩ (.int .i64 F)).setCell ⟨n11, 0, none⟩ (.int .i64 F)) n11 F d a b imm := by
  obtain ⟨e80, e81, e82, e83, e84⟩ := h8
  obtain ⟨e90, e91, e92, e93, e94⟩ := h9
  obtain ⟨ea0, ea1, ea2, ea3, ea4⟩ := ha
  obtain ⟨eb0, eb1, eb2, eb3, eb4⟩ := hb
  have y1 : n9 ≠ n8 := x1.symm
  have y2 : n10 ≠ n8 := x2.symm
  have y3 : n11 ≠ n8 := x3.symm
  have y4 : n10 ≠ n9 := x4.symm
  have y5 : n11 ≠ n9 := x5.symm
  have y6 : n11 ≠ n10 := x6.symm
  refine ⟨⟨?_, ?_, ?_, ?_, ?_⟩, ⟨?_, ?_, ?_, ?_, ?_⟩, ⟨?_, ?_, ?_, ?_, ?_⟩, ⟨?_, ?_, ?_, ?_, ?_⟩⟩ <;> simp [World.cell?_setCell_other, World.cell?_setCell_same', *]

set_option maxRecDepth 100000 in
set_option maxHeartbeats 2000000 in
theorem fields_right (op d a b imm by1 : Int) (w : World) (h : Named w) (hr : rightB op d a b imm = true) : Calls Tryd.prog 7 #[instV op d a b imm, .int .i64 by1] w fun e w' => e = .returned (.bool true) ∧ Below w.heap.size w w' := by
  have HN : Hid (Named (w.alloc (instO op d a b imm))) := h.below ((Below.refl w.heap.size w).alloc (Nat.le_refl _) _) h.1
  have h0 := h.1
  clear h
  have hfd : findL (nameF op) = (op, true) := find_name (right_op hr)
  have hfar := far_bound (wrap64 (by1.tmod 1000 * by1))
  go_enter Tryd.func7, Tryd.ntmps7
  go_upto_if 45 with (first
    | (go_at_call 8; go_must (refine (awake_any _ HN.out).mono ?_); rintro e w1 ⟨rfl, hb1⟩; go_must (have HN1 : Hid (Named w1) := HN.out.below hb1 (by simp); have hB1 := box_below hb1; have HX1 : Hid (Box w1 w.heap.size op d a b imm) := box_cell hb1; obtain ⟨c0, c1, c2, c3, c4⟩ := HX1.out; have hz1 := box_size hb1; clear hb1))
    | (go_at_call 14; have hq := hB1; clear hq; go_must (refine (right_one op d a b imm _ _ (by simp)).mono ?_); rintro e w2 ⟨rfl, hb2⟩; go_must (rw [hr]; have HN2 : Hid (Named w2) := HN1.out.below hb2 (by omega); have hB2 := hB1.trans (hb2.mono hB1.size); have HX2 : Hid (Box w2 w.heap.size op d a b imm) := HX1.out.below hb2 hz1; obtain ⟨c0, c1, c2, c3, c4⟩ := HX2.out; have hz2 : w.heap.size < w2.heap.size := (by have := hb2.size; omega); clear hb2 hB1 HX1 HN1))
    | (go_at_call 11; go_must (refine (oname_any op _ HN2.out).mono ?_); rintro e w' ⟨rfl, rfl⟩)
    | (go_at_call 9; go_must (refine (ofind_any _ _ HN2.out).mono ?_); rintro e w' ⟨rfl, rfl⟩; rw [hfd]))
  go_cut [7] from 13 (fun s7 wx => ∃ F : Int, s7 = .int .i64 F ∧ 100 ≤ F ∧ F ≤ 1099 ∧ w2 = wx)
  case first =>
    by_cases hlt : wrap64 (100 + (wrap64 (by1.tmod 1000 * by1)).tmod 1000) < 100
    · go_wp2
      go_meet
      exact ⟨100, rfl, by omega, by omega, rfl⟩
    · go_wp2
      go_meet
      exact ⟨_, rfl, by omega, by omega, rfl⟩
  case rest =>
    obtain ⟨F, rfl, hF1, hF2, rfl⟩ := hcut
    go_upto_region 11 with fail
    go_cut [8, 9, 10, 11] from 13 (fun s8 s9 s10 s11 wx => ∃ n8 n9 n10 n11 : Nat, s8 = .pointer (some ⟨n8, 0, none⟩) ∧ s9 = .pointer (some ⟨n9, 0, none⟩) ∧ s10 = .pointer (some ⟨n10, 0, none⟩) ∧ s11 = .pointer (some ⟨n11, 0, none⟩) ∧
      wx = ((((w2.alloc (instO op d a b imm)).alloc (instO op d a b imm)).alloc (instO op d a b imm)).alloc (instO op d a b imm)).drew ∧ (w2.heap.size ≤ n8 ∧ n8 < w2.heap.size + 4) ∧ (w2.heap.size ≤ n9 ∧ n9 < w2.heap.size + 4) ∧ (w2.heap.size ≤ n10 ∧ n10 < w2.heap.size + 4) ∧ (w2.heap.size ≤ n11 ∧ n11 < w2.heap.size + 4) ∧ n8 ≠ n9 ∧ n8 ≠ n10 ∧ n8 ≠ n11 ∧ n9 ≠ n10 ∧ n9 ≠ n11 ∧ n10 ≠ n11)
    case first =>
      clear HN HN2
      go_region_held3 (fun w' => w'.cell? ⟨w.heap.size, 0, none⟩ = some (.int .i64 op) ∧ w'.cell? ⟨w.heap.size, 1, none⟩ = some (.int .i64 d) ∧ w'.cell? ⟨w.heap.size, 2, none⟩ = some (.int .i64 a) ∧ w'.cell? ⟨w.heap.size, 3, none⟩ = some (.int .i64 b) ∧ w'.cell? ⟨w.heap.size, 4, none⟩ = some (.int .i64 imm)) (exact Box.below (B := w2.heap.size) HX2.out (by go_grown) hz2) (fail)
      all_goals (go_wp2_with fail; go_meet; refine ⟨_, _, _, _, rfl, rfl, rfl, rfl, rfl, ?_⟩; omega)
    case rest =>
      obtain ⟨n8, n9, n10, n11, rfl, rfl, rfl, rfl, HWX, m8, m9, m10, m11, x1, x2, x3, x4, x5, x6⟩ := hcut
      have hz4 : wc.heap.size = w2.heap.size + 4 := by rw [HWX]; simp
      have hB4 : Below w2.heap.size w2 wc := by rw [HWX]; go_grown
      have HBX : Hid (∀ n, w2.heap.size ≤ n ∧ n < w2.heap.size + 4 → Box wc n op d a b imm ∧ ∀ j, wc.frozen? ⟨n, j, none⟩ = false) := by rw [HWX]; exact four_boxes w2 op d a b imm
      clear HWX c0 c1 c2 c3 c4
      have HX4 : Hid (Box wc w.heap.size op d a b imm) := HX2.out.below hB4 hz2
      obtain ⟨e80, e81, e82, e83, e84⟩ := (HBX.out n8 m8).1
      obtain ⟨e90, e91, e92, e93, e94⟩ := (HBX.out n9 m9).1
      obtain ⟨ea0, ea1, ea2, ea3, ea4⟩ := (HBX.out n10 m10).1
      obtain ⟨eb0, eb1, eb2, eb3, eb4⟩ := (HBX.out n11 m11).1
      have f8 := (HBX.out n8 m8).2 1
      have f9 := (HBX.out n9 m9).2 2
      have fa := (HBX.out n10 m10).2 3
      have fb := (HBX.out n11 m11).2 0
      have HN4 : Hid (Named wc) := HN2.out.below hB4 (by omega)
      have y1 : n9 ≠ n8 := x1.symm
      have y2 : n10 ≠ n8 := x2.symm
      have y3 : n11 ≠ n8 := x3.symm
      have y4 : n10 ≠ n9 := x4.symm
      have y5 : n11 ≠ n9 := x5.symm
      have y6 : n11 ≠ n10 := x6.symm
      clear HN HN2 HX2
      go_upto_region 16 with fail
      generalize hWS : (((wc.setCell ⟨n8, 1, none⟩ (.int .i64 F)).setCell ⟨n9, 2, none⟩ (.int .i64 F)).setCell ⟨n10, 3, none⟩ (.int .i64 F)).setCell ⟨n11, 0, none⟩ (.int .i64 F) = WS
      have hBS : Below w2.heap.size w2 WS := by
        rw [← hWS]
        exact (((hB4.setCell m8.1 _).setCell m9.1 _).setCell m10.1 _).setCell m11.1 _
      have hzS : w2.heap.size + 4 ≤ WS.heap.size := by rw [← hWS]; simp only [World.size_setCell]; omega
      obtain ⟨H8, H9, Ha, Hb⟩ : Hid (Box WS n8 op F a b imm) ∧ Hid (Box WS n9 op d F b imm) ∧ Hid (Box WS n10 op d a F imm) ∧ Hid (Box WS n11 F d a b imm) := by
        rw [← hWS]; exact set_boxes wc n8 n9 n10 n11 op d a b imm F (HBX.out n8 m8).1 (HBX.out n9 m9).1 (HBX.out n10 m10).1 (HBX.out n11 m11).1 x1 x2 x3 x4 x5 x6
      have HX : Hid (Box WS w.heap.size op d a b imm) := HX4.out.below (B := w2.heap.size) (by
        rw [← hWS]
        exact (((((Below.refl _ wc).setCell m8.1 _).setCell m9.1 _).setCell m10.1 _).setCell m11.1 _)) hz2
      have HNS : Hid (Named WS) := HN4.out.below (B := w2.heap.size) (by
        rw [← hWS]
        exact (((((Below.refl _ wc).setCell m8.1 _).setCell m9.1 _).setCell m10.1 _).setCell m11.1 _)) (by omega)
      have hB5 := hB2.trans (hBS.mono hB2.size)
      clear hWS e80 e81 e82 e83 e84 e90 e91 e92 e93 e94 ea0 ea1 ea2 ea3 ea4 eb0 eb1 eb2 eb3 eb4 f8 f9 fa fb HBX hB4 HX4 HN4 y1 y2 y3 y4 y5 y6 x1 x2 x3 x4 x5 x6 hBS hB2 hz4
      obtain ⟨c0, c1, c2, c3, c4⟩ := H8.out
      have r8 : rightB op F a b imm = false := right_farD hF1
      have r9 : rightB op d F b imm = false := right_farA hF1
      have ra : rightB op d a F imm = false := right_farB hF1
      have rb : rightB F d a b imm = false := rightB_none (by omega)
      have P1 : Hid True := trivial
      go_upto_region 18 with (first
        | (go_at_call 14; have hq := P1; clear hq; go_must (refine (right_one op F a b imm _ _ (by simp)).mono ?_); rintro e w5 ⟨rfl, hb5⟩; go_must (rw [r8]; have hB6 := hB5.trans (hb5.mono (by omega)); have h9 : Hid (Box w5 n9 op d F b imm) := H9.out.below hb5 (by omega); have ha : Hid (Box w5 n10 op d a F imm) := Ha.out.below hb5 (by omega); have hb : Hid (Box w5 n11 F d a b imm) := Hb.out.below hb5 (by omega); have hx : Hid (Box w5 w.heap.size op d a b imm) := HX.out.below hb5 (by omega); have hz5 := hb5.size; obtain ⟨c0, c1, c2, c3, c4⟩ := h9.out; clear hb5 H8 H9 Ha Hb HX hB5 P1; have P2 : Hid True := trivial))
        | (go_at_call 14; have hq := P2; clear hq; go_must (refine (right_one op d F b imm _ _ (by simp)).mono ?_); rintro e w6 ⟨rfl, hb6⟩; go_must (rw [r9]; have hB7 := hB6.trans (hb6.mono (by omega)); have Ha : Hid (Box w6 n10 op d a F imm) := ha.out.below hb6 (by omega); have Hb : Hid (Box w6 n11 F d a b imm) := hb.out.below hb6 (by omega); have HX : Hid (Box w6 w.heap.size op d a b imm) := hx.out.below hb6 (by omega); have hz6 := hb6.size; obtain ⟨c0, c1, c2, c3, c4⟩ := Ha.out; clear hb6 h9 ha hb hx hB6 P2; have P3 : Hid True := trivial))
        | (go_at_call 14; have hq := P3; clear hq; go_must (refine (right_one op d a F imm _ _ (by simp)).mono ?_); rintro e w7 ⟨rfl, hb7⟩; go_must (rw [ra]; have hB8 := hB7.trans (hb7.mono (by omega)); have hb : Hid (Box w7 n11 F d a b imm) := Hb.out.below hb7 (by omega); have hx : Hid (Box w7 w.heap.size op d a b imm) := HX.out.below hb7 (by omega); have hz7 := hb7.size; obtain ⟨c0, c1, c2, c3, c4⟩ := hb.out; clear hb7 Ha Hb HX hB7 P3; have P4 : Hid True := trivial))
        | (go_at_call 14; have hq := P4; clear hq; go_must (refine (right_one F d a b imm _ _ (by simp)).mono ?_); rintro e w8 ⟨rfl, hb8⟩; go_must (rw [rb]; have hB9 := hB8.trans (hb8.mono (by omega)); have HX : Hid (Box w8 w.heap.size op d a b imm) := hx.out.below hb8 (by omega); have hz8 := hb8.size; obtain ⟨c0, c1, c2, c3, c4⟩ := HX.out; clear hb8 hb hx hB8 P4)))
      go_upto_region 20 with fail
      generalize hX : bits BinOp.xor IntKind.i64 imm 1099511627776 = X
      have hRX : rightB op d a b X = (sourceB op d a b imm && (b == 8)) := by rw [← hX]; exact right_xor hr
      have HH : Box (w8.alloc (instO op d a b X)) w8.heap.size op d a b X ∧ Box (w8.alloc (instO op d a b X)) w.heap.size op d a b imm := ⟨box_new w8 op d a b X, HX.out.below ((Below.refl w8.heap.size w8).alloc (Nat.le_refl _) _) (by omega)⟩
      have hBE : Below w.heap.size w (w8.alloc (instO op d a b X)) := hB9.alloc hB9.size _
      have hzE : w8.heap.size < (w8.alloc (instO op d a b X)).heap.size := by simp
      have hzw : w.heap.size < w8.heap.size := by omega
      generalize w8.alloc _ = WE at *
      generalize w8.heap.size = NE at *
      clear hX HX c0 c1 c2 c3 c4 hB9
      refine wp_region_held_drew (S := fun w' => Box w' NE op d a b X ∧ Box w' w.heap.size op d a b imm) (by kernel_rfl) HH (fun hHeld => ?_)
      have HH0 : Hid (Box WE NE op d a b X ∧ Box WE w.heap.size op d a b imm) := HH
      clear HH
      refine wpAnyH_take (i := 0) (v := instV op d a b X) rfl (by kernel_rfl) (by kernel_rfl) (by kernel_rfl) (fun _ _ _ h => h) (Or.inl ⟨by rfl, fun wy hSw => ?_⟩) (by assumption) ?_
      · obtain ⟨⟨d0, d1, d2, d3, d4⟩, ⟨e0, e1, e2, e3, e4⟩⟩ := hSw
        go_simp
      try simp only [Act.put, List.getElem_toArray, List.getElem_cons_zero, List.getElem_cons_succ, List.setIfInBounds_toArray, List.set_cons_zero, List.set_cons_succ]
      refine wpAnyH_take (i := 3) (v := instV op d a b imm) rfl (by kernel_rfl) (by kernel_rfl) (by kernel_rfl) (fun _ _ _ h => h) (Or.inl ⟨by rfl, fun wy hSw => ?_⟩) (by assumption) ?_
      · obtain ⟨⟨d0, d1, d2, d3, d4⟩, ⟨e0, e1, e2, e3, e4⟩⟩ := hSw
        go_simp
      try simp only [Act.put, List.getElem_toArray, List.getElem_cons_zero, List.getElem_cons_succ, List.setIfInBounds_toArray, List.set_cons_zero, List.set_cons_succ]
      refine wpAnyH_ready (rs := [1]) (by kernel_rfl) (by simp) ?_
      refine AllReadyH.cons rfl (fun K hK => ?_) AllReadyH.nil
      rw [if_pos (by rfl)]
      go_simp
      refine hK.out _ _ ⟨Box.below hHeld.1 ((Below.refl WE.heap.size WE.drew).alloc (Nat.le_refl _) _) hzE, Box.below hHeld.2 ((Below.refl WE.heap.size WE.drew).alloc (Nat.le_refl _) _) (by omega)⟩ (fun hHeld => ?_)
      clear hK
      try simp only [Act.put, List.getElem_toArray, List.getElem_cons_zero, List.getElem_cons_succ, List.setIfInBounds_toArray, List.set_cons_zero, List.set_cons_succ]
      refine wpAnyH_ready (rs := [2]) (by kernel_rfl) (by simp) ?_
      refine AllReadyH.cons rfl (fun K hK => ?_) AllReadyH.nil
      rw [if_pos (by rfl)]
      go_simp
      go_at_call 14
      refine (right_one op d a b X WE.drew _ rfl).mono ?_
      rintro e wR ⟨rfl, hbR⟩
      have hbR := (Below.refl WE.heap.size WE).drew.trans hbR
      have hBR := hBE.trans (hbR.mono hBE.size)
      have hzR := hbR.size
      have HHR : Hid (Box wR NE op d a b X ∧ Box wR w.heap.size op d a b imm) := ⟨Box.below HH0.out.1 hbR hzE, Box.below HH0.out.2 hbR (by omega)⟩
      refine hK.out _ _ HHR.out (fun hHeld => ?_)
      clear hK hbR
      try simp only [Act.put, List.getElem_toArray, List.getElem_cons_zero, List.getElem_cons_succ, List.setIfInBounds_toArray, List.set_cons_zero, List.set_cons_succ]
      rw [hRX]
      refine wpAnyH_ready (rs := [4]) (by kernel_rfl) (by simp) ?_
      refine AllReadyH.cons rfl (fun K hK => ?_) AllReadyH.nil
      rw [if_pos (by rfl)]
      go_simp
      go_at_call 15
      refine (osource_any op d a b imm wR).mono ?_
      rintro e wQ ⟨rfl, hbQ⟩
      have hBQ := hBR.trans (hbQ.mono hBR.size)
      refine hK.out _ _ ⟨Box.below HHR.out.1 hbQ (by omega), Box.below HHR.out.2 hbQ (by omega)⟩ (fun hHeld => ?_)
      clear hK hbQ
      try simp only [Act.put, List.getElem_toArray, List.getElem_cons_zero, List.getElem_cons_succ, List.setIfInBounds_toArray, List.set_cons_zero, List.set_cons_succ]
      cases hso : sourceB op d a b imm
      · simp only [Bool.false_and]
        refine wpAnyH_take (i := 5) (v := .bool false) rfl (by kernel_rfl) (by kernel_rfl) (by kernel_rfl) (fun _ _ _ h => h) (Or.inl ⟨by rfl, fun wy hSw => ?_⟩) (by assumption) ?_
        · obtain ⟨⟨d0, d1, d2, d3, d4⟩, ⟨e0, e1, e2, e3, e4⟩⟩ := hSw
          go_simp
        try simp only [Act.put, List.getElem_toArray, List.getElem_cons_zero, List.getElem_cons_succ, List.setIfInBounds_toArray, List.set_cons_zero, List.set_cons_succ]
        refine wpAnyH_take (i := 6) (v := undef) rfl (by kernel_rfl) (by kernel_rfl) (by kernel_rfl) (fun _ _ _ h => h) (Or.inr ⟨by rfl, rfl⟩) (by assumption) ?_
        try simp only [Act.put, List.getElem_toArray, List.getElem_cons_zero, List.getElem_cons_succ, List.setIfInBounds_toArray, List.set_cons_zero, List.set_cons_succ]
        refine wpAnyH_take (i := 7) (v := undef) rfl (by kernel_rfl) (by kernel_rfl) (by kernel_rfl) (fun _ _ _ h => h) (Or.inr ⟨by rfl, rfl⟩) (by assumption) ?_
        try simp only [Act.put, List.getElem_toArray, List.getElem_cons_zero, List.getElem_cons_succ, List.setIfInBounds_toArray, List.set_cons_zero, List.set_cons_succ]
        refine wpAnyH_take (i := 8) (v := undef) rfl (by kernel_rfl) (by kernel_rfl) (by kernel_rfl) (fun _ _ _ h => h) (Or.inr ⟨by rfl, rfl⟩) (by assumption) ?_
        try simp only [Act.put, List.getElem_toArray, List.getElem_cons_zero, List.getElem_cons_succ, List.setIfInBounds_toArray, List.set_cons_zero, List.set_cons_succ]
        refine wpAnyH_take (i := 9) (v := .bool false) rfl (by kernel_rfl) (by kernel_rfl) (by kernel_rfl) (fun _ _ _ h => h) (Or.inl ⟨by rfl, fun wy hSw => ?_⟩) (by assumption) ?_
        · obtain ⟨⟨d0, d1, d2, d3, d4⟩, ⟨e0, e1, e2, e3, e4⟩⟩ := hSw
          go_simp
        try simp only [Act.put, List.getElem_toArray, List.getElem_cons_zero, List.getElem_cons_succ, List.setIfInBounds_toArray, List.set_cons_zero, List.set_cons_succ]
        refine wpAnyH_take (i := 10) (v := .bool true) rfl (by kernel_rfl) (by kernel_rfl) (by kernel_rfl) (fun _ _ _ h => h) (Or.inl ⟨by rfl, fun wy hSw => ?_⟩) (by assumption) ?_
        · obtain ⟨⟨d0, d1, d2, d3, d4⟩, ⟨e0, e1, e2, e3, e4⟩⟩ := hSw
          go_simp
        try simp only [Act.put, List.getElem_toArray, List.getElem_cons_zero, List.getElem_cons_succ, List.setIfInBounds_toArray, List.set_cons_zero, List.set_cons_succ]
        refine wpAnyH_take (i := 11) (v := .bool true) rfl (by kernel_rfl) (by kernel_rfl) (by kernel_rfl) (fun _ _ _ h => h) (Or.inl ⟨by rfl, fun wy hSw => ?_⟩) (by assumption) ?_
        · obtain ⟨⟨d0, d1, d2, d3, d4⟩, ⟨e0, e1, e2, e3, e4⟩⟩ := hSw
          go_simp
        try simp only [Act.put, List.getElem_toArray, List.getElem_cons_zero, List.getElem_cons_succ, List.setIfInBounds_toArray, List.set_cons_zero, List.set_cons_succ]
        refine wpAnyH_done (by kernel_rfl) ?_ _
        clear hHeld
        go_wp2
        go_ret
        exact ⟨rfl, hBQ⟩
      · simp only [Bool.true_and]
        cases h8 : (b == 8)
        · skip
          refine wpAnyH_take (i := 5) (v := .bool true) rfl (by kernel_rfl) (by kernel_rfl) (by kernel_rfl) (fun _ _ _ h => h) (Or.inl ⟨by rfl, fun wy hSw => ?_⟩) (by assumption) ?_
          · obtain ⟨⟨d0, d1, d2, d3, d4⟩, ⟨e0, e1, e2, e3, e4⟩⟩ := hSw
            go_simp
          try simp only [Act.put, List.getElem_toArray, List.getElem_cons_zero, List.getElem_cons_succ, List.setIfInBounds_toArray, List.set_cons_zero, List.set_cons_succ]
          refine wpAnyH_take (i := 6) (v := .pointer (some ⟨w.heap.size, 3, none⟩)) rfl (by kernel_rfl) (by kernel_rfl) (by kernel_rfl) (fun _ _ _ h => h) (Or.inl ⟨by rfl, fun wy hSw => ?_⟩) (by assumption) ?_
          · obtain ⟨⟨d0, d1, d2, d3, d4⟩, ⟨e0, e1, e2, e3, e4⟩⟩ := hSw
            go_simp
          try simp only [Act.put, List.getElem_toArray, List.getElem_cons_zero, List.getElem_cons_succ, List.setIfInBounds_toArray, List.set_cons_zero, List.set_cons_succ]
          refine wpAnyH_take (i := 7) (v := .int .i64 b) rfl (by kernel_rfl) (by kernel_rfl) (by kernel_rfl) (fun _ _ _ h => h) (Or.inl ⟨by rfl, fun wy hSw => ?_⟩) (by assumption) ?_
          · obtain ⟨⟨d0, d1, d2, d3, d4⟩, ⟨e0, e1, e2, e3, e4⟩⟩ := hSw
            go_simp
          try simp only [Act.put, List.getElem_toArray, List.getElem_cons_zero, List.getElem_cons_succ, List.setIfInBounds_toArray, List.set_cons_zero, List.set_cons_succ]
          refine wpAnyH_take (i := 8) (v := .bool false) rfl (by kernel_rfl) (by kernel_rfl) (by kernel_rfl) (fun _ _ _ h => h) (Or.inl ⟨by rfl, fun wy hSw => ?_⟩) (by assumption) ?_
          · obtain ⟨⟨d0, d1, d2, d3, d4⟩, ⟨e0, e1, e2, e3, e4⟩⟩ := hSw
            go_simp
          try simp only [Act.put, List.getElem_toArray, List.getElem_cons_zero, List.getElem_cons_succ, List.setIfInBounds_toArray, List.set_cons_zero, List.set_cons_succ]
          refine wpAnyH_take (i := 9) (v := .bool false) rfl (by kernel_rfl) (by kernel_rfl) (by kernel_rfl) (fun _ _ _ h => h) (Or.inl ⟨by rfl, fun wy hSw => ?_⟩) (by assumption) ?_
          · obtain ⟨⟨d0, d1, d2, d3, d4⟩, ⟨e0, e1, e2, e3, e4⟩⟩ := hSw
            go_simp
          try simp only [Act.put, List.getElem_toArray, List.getElem_cons_zero, List.getElem_cons_succ, List.setIfInBounds_toArray, List.set_cons_zero, List.set_cons_succ]
          refine wpAnyH_take (i := 10) (v := .bool true) rfl (by kernel_rfl) (by kernel_rfl) (by kernel_rfl) (fun _ _ _ h => h) (Or.inl ⟨by rfl, fun wy hSw => ?_⟩) (by assumption) ?_
          · obtain ⟨⟨d0, d1, d2, d3, d4⟩, ⟨e0, e1, e2, e3, e4⟩⟩ := hSw
            go_simp
          try simp only [Act.put, List.getElem_toArray, List.getElem_cons_zero, List.getElem_cons_succ, List.setIfInBounds_toArray, List.set_cons_zero, List.set_cons_succ]
          refine wpAnyH_take (i := 11) (v := .bool true) rfl (by kernel_rfl) (by kernel_rfl) (by kernel_rfl) (fun _ _ _ h => h) (Or.inl ⟨by rfl, fun wy hSw => ?_⟩) (by assumption) ?_
          · obtain ⟨⟨d0, d1, d2, d3, d4⟩, ⟨e0, e1, e2, e3, e4⟩⟩ := hSw
            go_simp
          try simp only [Act.put, List.getElem_toArray, List.getElem_cons_zero, List.getElem_cons_succ, List.setIfInBounds_toArray, List.set_cons_zero, List.set_cons_succ]
          refine wpAnyH_done (by kernel_rfl) ?_ _
          clear hHeld
          go_wp2
          go_ret
          exact ⟨rfl, hBQ⟩
        · skip
          refine wpAnyH_take (i := 5) (v := .bool true) rfl (by kernel_rfl) (by kernel_rfl) (by kernel_rfl) (fun _ _ _ h => h) (Or.inl ⟨by rfl, fun wy hSw => ?_⟩) (by assumption) ?_
          · obtain ⟨⟨d0, d1, d2, d3, d4⟩, ⟨e0, e1, e2, e3, e4⟩⟩ := hSw
            go_simp
          try simp only [Act.put, List.getElem_toArray, List.getElem_cons_zero, List.getElem_cons_succ, List.setIfInBounds_toArray, List.set_cons_zero, List.set_cons_succ]
          refine wpAnyH_take (i := 6) (v := .pointer (some ⟨w.heap.size, 3, none⟩)) rfl (by kernel_rfl) (by kernel_rfl) (by kernel_rfl) (fun _ _ _ h => h) (Or.inl ⟨by rfl, fun wy hSw => ?_⟩) (by assumption) ?_
          · obtain ⟨⟨d0, d1, d2, d3, d4⟩, ⟨e0, e1, e2, e3, e4⟩⟩ := hSw
            go_simp
          try simp only [Act.put, List.getElem_toArray, List.getElem_cons_zero, List.getElem_cons_succ, List.setIfInBounds_toArray, List.set_cons_zero, List.set_cons_succ]
          refine wpAnyH_take (i := 7) (v := .int .i64 b) rfl (by kernel_rfl) (by kernel_rfl) (by kernel_rfl) (fun _ _ _ h => h) (Or.inl ⟨by rfl, fun wy hSw => ?_⟩) (by assumption) ?_
          · obtain ⟨⟨d0, d1, d2, d3, d4⟩, ⟨e0, e1, e2, e3, e4⟩⟩ := hSw
            go_simp
          try simp only [Act.put, List.getElem_toArray, List.getElem_cons_zero, List.getElem_cons_succ, List.setIfInBounds_toArray, List.set_cons_zero, List.set_cons_succ]
          refine wpAnyH_take (i := 8) (v := .bool true) rfl (by kernel_rfl) (by kernel_rfl) (by kernel_rfl) (fun _ _ _ h => h) (Or.inl ⟨by rfl, fun wy hSw => ?_⟩) (by assumption) ?_
          · obtain ⟨⟨d0, d1, d2, d3, d4⟩, ⟨e0, e1, e2, e3, e4⟩⟩ := hSw
            go_simp
          try simp only [Act.put, List.getElem_toArray, List.getElem_cons_zero, List.getElem_cons_succ, List.setIfInBounds_toArray, List.set_cons_zero, List.set_cons_succ]
          refine wpAnyH_take (i := 9) (v := .bool true) rfl (by kernel_rfl) (by kernel_rfl) (by kernel_rfl) (fun _ _ _ h => h) (Or.inl ⟨by rfl, fun wy hSw => ?_⟩) (by assumption) ?_
          · obtain ⟨⟨d0, d1, d2, d3, d4⟩, ⟨e0, e1, e2, e3, e4⟩⟩ := hSw
            go_simp
          try simp only [Act.put, List.getElem_toArray, List.getElem_cons_zero, List.getElem_cons_succ, List.setIfInBounds_toArray, List.set_cons_zero, List.set_cons_succ]
          refine wpAnyH_take (i := 10) (v := .bool true) rfl (by kernel_rfl) (by kernel_rfl) (by kernel_rfl) (fun _ _ _ h => h) (Or.inl ⟨by rfl, fun wy hSw => ?_⟩) (by assumption) ?_
          · obtain ⟨⟨d0, d1, d2, d3, d4⟩, ⟨e0, e1, e2, e3, e4⟩⟩ := hSw
            go_simp
          try simp only [Act.put, List.getElem_toArray, List.getElem_cons_zero, List.getElem_cons_succ, List.setIfInBounds_toArray, List.set_cons_zero, List.set_cons_succ]
          refine wpAnyH_take (i := 11) (v := .bool true) rfl (by kernel_rfl) (by kernel_rfl) (by kernel_rfl) (fun _ _ _ h => h) (Or.inl ⟨by rfl, fun wy hSw => ?_⟩) (by assumption) ?_
          · obtain ⟨⟨d0, d1, d2, d3, d4⟩, ⟨e0, e1, e2, e3, e4⟩⟩ := hSw
            go_simp
          try simp only [Act.put, List.getElem_toArray, List.getElem_cons_zero, List.getElem_cons_succ, List.setIfInBounds_toArray, List.set_cons_zero, List.set_cons_succ]
          refine wpAnyH_done (by kernel_rfl) ?_ _
          clear hHeld
          go_wp2
          go_ret
          exact ⟨rfl, hBQ⟩

set_option maxHeartbeats 800000 in
theorem fields_not (op d a b imm by1 : Int) (w : World) (h : Named w) (hr : rightB op d a b imm = false) : Calls Tryd.prog 7 #[instV op d a b imm, .int .i64 by1] w fun e w' => e = .returned (.bool true) ∧ Below w.heap.size w w' := by
  have HN : Hid (Named (w.alloc (instO op d a b imm))) := h.below ((Below.refl w.heap.size w).alloc (Nat.le_refl _) _) h.1
  clear h
  go_enter Tryd.func7, Tryd.ntmps7
  go_wp2_with (first
    | (go_at_call 8; go_must (refine (awake_any _ HN.out).mono ?_); rintro e w1 ⟨rfl, hb1⟩; go_must (have hB1 := box_below hb1; have HX1 : Hid (Box w1 w.heap.size op d a b imm) := box_cell hb1; obtain ⟨c0, c1, c2, c3, c4⟩ := HX1.out; have hz1 := box_size hb1; clear hb1))
    | (go_at_call 14; go_must (refine (right_one op d a b imm _ _ (by simp)).mono ?_); rintro e w2 ⟨rfl, hb2⟩; go_must (rw [hr]; have hB2 := hB1.trans (hb2.mono hB1.size); have HX2 : Hid (Box w2 w.heap.size op d a b imm) := HX1.out.below hb2 hz1; obtain ⟨c0, c1, c2, c3, c4⟩ := HX2.out; clear hb2 hB1 HX1))
    | (go_at_call 17; go_must (refine (oreads_not op d a b imm _ hr).mono ?_); rintro e w3 ⟨rfl, hb3⟩; have hB3 := hB2.trans (hb3.mono hB2.size)))
  go_ret
  exact ⟨rfl, hB3⟩
theorem fields_walk (i : In) (by1 : Int) (w : World) (_ : i.wf) (_ : -9223372036854775808 ≤ by1 ∧ by1 ≤ 9223372036854775807) (h : Named w) : Calls Tryd.prog 7 #[i.v, .int .i64 by1] w fun e w' => e = .returned (.bool true) ∧ Below w.heap.size w w' := by
  cases hr : rightB i.op i.d i.a i.b i.imm
  · exact fields_not i.op i.d i.a i.b i.imm by1 w h hr
  · exact fields_right i.op i.d i.a i.b i.imm by1 w h hr
end Go.Proofs.YtheapkigeknjlaaDoor
