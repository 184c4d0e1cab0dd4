/-
  What the project's line does: the document's line of an instruction. Conditions: the listed variables read as they are laid; there is such an operation; the fields are numbers of their kinds.
-/
import Derived.Test.YteccmagbebghaaaDoorL3Word
import Derived.Test.YteccmagbebghaaaDoorR3Cut
namespace Go.Proofs.YteccmagbebghaaaDoor
open Go.RowKit
set_option linter.unusedVariables false
set_option linter.unusedSimpArgs false
set_option maxRecDepth 100000

/-- The words of a line. -/
def lineW (i : In) : List (List UInt8) := nmL i.op :: (partsL i.op).map fun p => wordL p i
theorem lineW_len (i : In) : (lineW i).length = (partsL i.op).length + 1 := by simp [lineW]
theorem lineW_take {i : In} {k : Nat} {p : Int} (hk : k < (partsL i.op).length) (hp : (partsL i.op).getD k 0 = p) : (lineW i).take (k + 2) = (lineW i).take (k + 1) ++ [wordL p i] := by
  subst hp
  rw [List.take_succ_eq_append_getElem (by rw [lineW_len]; omega)]
  congr 2
  simp [lineW, List.getD, hk]
theorem own_one_str (w : World) (base : Nat) (s : List UInt8) (n : Nat) (hn : n = w.heap.size) (hb : base ≤ w.heap.size) : (w.alloc (.cells #[.string (str s)] 9)).ownsRow base 9 1 (.slice (some ⟨n, 0, none⟩) 1 1) 1 (strV [s]) :=
  own_lit w base 9 [.string (str s)] n hn hb (by show 1 ≤ maxLen; unfold maxLen; omega)
theorem heap_alloc_at (w : World) (o : Obj) (n : Nat) (hn : n = w.heap.size) : (w.alloc o).heap[n]? = some o := by subst hn; show (w.heap.push o)[w.heap.size]? = some o; exact Array.getElem?_push_size
theorem heap_keep {w : World} {o x : Obj} {n : Nat} (h : w.heap[n]? = some x) : (w.alloc o).heap[n]? = some x := by
  have := (Array.getElem?_eq_some_iff.1 h).1
  rw [Lib.alloc_old w o n this]; exact h
theorem heap_below {w w' : World} {B n : Nat} {x : Obj} (hb : Below B w w') (hB : w.heap.size ≤ B) (h : w.heap[n]? = some x) : w'.heap[n]? = some x := by
  have := (Array.getElem?_eq_some_iff.1 h).1
  rw [hb.block n (by omega)]; exact h
theorem part_cell {w : World} {n k : Nat} {ps : List Int} (h : w.heap[n]? = some (partO ps)) (hk : k < ps.length) : w.cell? ⟨n, k, none⟩ = some (.int .i64 (ps.getD k 0)) := by
  rw [Lib.cell_of_heap h]
  simp [List.getD, hk]
theorem box_cells {w : World} {n : Nat} {op d a b imm : Int} (h : w.heap[n]? = some (instO op d a b imm)) : Box w n op d a b imm := by
  refine ⟨?_, ?_, ?_, ?_, ?_⟩ <;> rw [Lib.cell_of_heap h] <;> rfl

set_option maxHeartbeats 1600000 in
theorem lline_any (op d a b imm : Int) (w : World) (h : Laid w) (ho : 0 ≤ op ∧ op ≤ 22) (hd : i64R d) (ha : i64R a) (hb : i64R b) (himm : i64R imm) : Calls Tryd.prog 17 #[instV op d a b imm] w fun e w' => e = .returned (.string (str (lineL op d a b imm))) ∧ Below w.heap.size w w' := by
  obtain ⟨i0, hi, hz0, hz1, hz2⟩ := info_parts Tryd.infoStr
  have HL : Hid (Laid w) := h
  obtain ⟨ps, HPS⟩ : ∃ ps, Hid (ps = partsL op) := ⟨_, rfl⟩
  obtain ⟨nm, HNM, hnm⟩ : ∃ nm, Hid (nm = nmL op) ∧ nameF op = str nm := ⟨_, rfl, (nmL_str op).symm⟩
  have hpl : ps.length ≤ 3 := by rw [HPS.out]; exact partsL_len op
  obtain ⟨LW, HLW⟩ : ∃ LW, Hid (LW = lineW ⟨op, d, a, b, imm⟩) := ⟨_, rfl⟩
  have HT : Hid (∀ k p, k < ps.length → ps.getD k 0 = p → LW.take (k + 2) = LW.take (k + 1) ++ [wordL p ⟨op, d, a, b, imm⟩]) := by
    show ∀ k p, _ → _ → _
    rw [HPS.out, HLW.out]
    intro k p hk hp
    exact lineW_take (i := ⟨op, d, a, b, imm⟩) hk hp
  have HM : Hid (∀ k, k < ps.length → 0 ≤ ps.getD k 0 ∧ ps.getD k 0 ≤ 4) := by
    show ∀ k, _ → _
    rw [HPS.out]
    intro k hk
    refine partsL_mem (op := op) ?_
    rw [List.getD_eq_getElem?_getD, List.getElem?_eq_getElem hk]
    simp
  have HONE : Hid (LW.take 1 = [nm]) := by show _ = _; rw [HLW.out, HNM.out]; rfl
  have HLEN : Hid (LW.length = ps.length + 1) := by show _ = _; rw [HLW.out, lineW_len, HPS.out]
  have HJ : Hid (Lib.join LW [32] = lineL op d a b imm) := by show _ = _; rw [HLW.out]; exact join_line (i := ⟨op, d, a, b, imm⟩) ho
  clear h
  go_enter Tryd.func17, Tryd.ntmps17
  go_wp2_with (first
    | (go_at_call 29; go_must (refine (oname_any op _ (laid_keeps _ _ HL.out ((Below.refl _ _).alloc (Nat.le_refl _) _)).2.1).mono ?_); rintro e w1 ⟨rfl, rfl⟩; rw [hnm])
    | (go_at_call 30; go_must (refine (parts_any op _ ps.length (by rw [HPS.out])).mono ?_); rintro e w1 ⟨rfl, rfl⟩; rw [← HPS.out]))
  go_loopw [3, 14] (fun v i wr => ∃ k : Nat, k ≤ ps.length ∧ i = .int .i64 k ∧ wr.ownsRow w.heap.size 9 1 v (k + 1) (strV (LW.take (k + 1))) ∧ wr.heap[w.heap.size]? = some (instO op d a b imm) ∧ wr.heap[w.heap.size + 2]? = some (partO ps) ∧ Below w.heap.size w wr) (fun _ i _ => ps.length - (intOf i).toNat)
  case atStart => 
    refine ⟨0, by omega, rfl, ?_, ?_, ?_, ?_⟩
    · rw [HONE.out]
      exact (own_one_str (w.alloc (instO op d a b imm)) w.heap.size nm _ (by simp) (by simp)).alloc _
    · exact heap_keep (heap_keep (heap_alloc_at w _ _ rfl))
    · exact heap_alloc_at _ _ _ (by simp)
    · exact (((Below.refl w.heap.size w).alloc (Nat.le_refl _) _).alloc (by simp) _).alloc (by simp; omega) _
  case round =>
    obtain ⟨k, hk, rfl, hown, hbx, hpt, hbe⟩ := hrel
    have hsz := hbe.size
    by_cases hlt : k < ps.length
    · obtain ⟨p, HP⟩ : ∃ p, Hid (ps.getD k 0 = p) := ⟨_, rfl⟩
      have hc := part_cell hpt hlt
      rw [HP.out] at hc
      have hp04 := HM.out k hlt
      rw [HP.out] at hp04
      obtain ⟨c0, c1, c2, c3, c4⟩ := box_cells hbx
      have HLr : Hid (Laid wr) := laid_keeps _ _ HL.out hbe
      have HN := HT.out k p hlt HP.out
      have HN : Hid (LW.take (k + 2) = LW.take (k + 1) ++ [wordL p ⟨op, d, a, b, imm⟩]) := HN
      go_wp2_with (first
        | (go_at_call 31; go_must (refine (word_any p op d a b imm _ HLr.out hp04 hd ha hb himm).mono ?_); rintro e w4 ⟨⟨l, rfl, HWL, hl22⟩, hb4⟩; go_must (have hown4 := own_below hown hb4 (Nat.le_refl _); have hbx4 := heap_below hb4 (Nat.le_refl _) hbx; have hpt4 := heap_below hb4 (Nat.le_refl _) hpt; have hbe4 := hbe.trans (hb4.mono hsz); have hz4 := hb4.size; clear hb4 hown hbx hpt hbe c0 c1 c2 c3 c4 hc HLr))
        | (at_builtin; have hq := hown4; clear hq; go_must (refine wpList_append_own _ rfl (.tmp 18) (.tmp 22) 65 rfl w.heap.size 9 i0 (.string ⟨#[]⟩) 1 16 Tryd.underlying65 hi hz0 hz1 hz2 rfl (by decide) _ _ _ rfl (hown4.alloc _) ⟨_, 0, none⟩ 1 1 [.string (str l)] rfl rfl (one_str _ _ _ _ (by first | rfl | simp)) (one_cellS _) (by unfold maxLen; omega) (by omega) (by simp; omega) ?_); intro v5 w5 hown5 hg5 _; go_must (have hB5 := (hbe4.alloc (by omega) _).grown hg5 (by simp; omega) (fun j hj => (hown4.lt j hj).1); have hbx5 := (hg5.block _ (by simp; omega) (fun e => Lib.ownBlock_ne hown4 hbx4 (by decide) e.symm)).trans (heap_keep hbx4); have hpt5 := (hg5.block _ (by have := (Array.getElem?_eq_some_iff.1 hpt4).1; simp; omega) (fun e => Lib.ownBlock_ne hown4 hpt4 (by decide) e.symm)).trans (heap_keep hpt4); clear hg5 hown4 hbx4 hpt4 hbe4)))
      have HO : Hid (w5.ownsRow w.heap.size 9 1 v5 (k + 2) (strV (LW.take (k + 2)))) := by
        show w5.ownsRow _ _ _ _ _ _
        rw [HN.out, ← HWL.out]
        simpa [strV] using hown5
      clear hown5
      go_roundw
      case rel => exact ⟨k + 1, by omega, by go_num, HO.out, hbx5, hpt5, hB5⟩
      case measure => simp [intOf]; omega
    · obtain rfl : k = ps.length := by omega
      rw [show LW.take (ps.length + 1) = LW by rw [← HLEN.out]; exact List.take_length] at hown
      obtain ⟨_, ⟨_, h0⟩ | ⟨g, cap, cur, rfl, hg1, hg2, hg3, hg4, hg5, hg6⟩⟩ := hown
      · omega
      · have hcells : ∀ (j : Nat) x, (LW.map str)[j]? = some x → wr.cell? ⟨g, 0 + j, none⟩ = some (.string x) := by
          intro j x hx
          rw [Lib.cell_of_heap hg2]
          have hj : j < LW.length := by have := (List.getElem?_eq_some_iff.1 hx).1; simpa using this
          have e : cur.toList[j]? = (strV LW)[j]? := by rw [← hg6, List.getElem?_take, if_pos (by have := HLEN.out; omega)]
          simp only [strV, List.getElem?_map] at e hx ⊢
          rw [show 0 + j = j by omega]
          rw [← Array.getElem?_toList, e]
          simp only [Option.map_eq_some_iff] at hx ⊢
          obtain ⟨y, h1, h2⟩ := hx
          exact ⟨y, h1, by rw [h2]⟩
        have HC : Hid (∀ (j : Nat) x, (LW.map str)[j]? = some x → wr.cell? ⟨g, 0 + j, none⟩ = some (.string x)) := hcells
        have hgl : g < wr.heap.size := (Array.getElem?_eq_some_iff.1 hg2).1
        have HEN : Hid ((LW.map str).length = ps.length + 1) := by show _ = _; rw [List.length_map]; exact HLEN.out
        have HMAP : Hid ((LW.map str).map (·.data.toList) = LW) := by
          show _ = _
          have e : ((fun x : ByteArray => x.data.toList) ∘ str) = id := rfl
          rw [List.map_map, e, List.map_id]
        clear hcells hg1 hg2 hg5 hg6 hbx hpt
        have HJC : Hid (Calls Tryd.prog 32 #[.slice (some ⟨g, 0, none⟩) (ps.length + 1) cap, .string (str [32])] wr fun e w' => e = .returned (.string (str (lineL op d a b imm))) ∧ Below wr.heap.size wr w') := by
          have c := Tryd.strings_Join g 0 cap (LW.map str) (str [32]) wr HC.out hgl (by rw [HEN.out]; omega) (by rw [HEN.out]; exact hg3) (by rw [HMAP.out]; show (Lib.join LW [32]).length ≤ _; rw [HJ.out]; have := lineL_len op d a b imm; omega)
          rw [HMAP.out, HEN.out] at c
          refine c.mono ?_
          rintro e w' ⟨he, hb'⟩
          refine ⟨?_, hb'⟩
          rw [he]
          show Ending.returned (.string ⟨(Lib.join LW [32]).toArray⟩) = _
          rw [HJ.out]
        go_wp2_with (go_at_call 32; go_must (refine HJC.out.mono ?_); rintro e w6 ⟨rfl, hb6⟩)
        go_ret
        exact ⟨rfl, hbe.trans (hb6.mono hsz)⟩
end Go.Proofs.YteccmagbebghaaaDoor
