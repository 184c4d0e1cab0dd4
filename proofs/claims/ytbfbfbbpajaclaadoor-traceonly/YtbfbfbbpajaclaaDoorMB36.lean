
/-
  What the landed line does: a plain entry's line. Conditions: the listed variables read as they are laid; the mark is one of the seventeen; the entry's fields are of their kinds.
-/
import Derived.Test.YtbfbfbbpajaclaaDoorMB35
import Derived.Test.YtbfbfbbpajaclaaDoorMB33
import Derived.Lib.ConvBytes
import Derived.Laws.Runes
namespace Go.Proofs.YtbfbfbbpajaclaaDoor
open Go.RowKit
set_option linter.unusedVariables false
set_option linter.unusedSimpArgs false
set_option maxRecDepth 100000
/-- A row of bytes that a string was made into. -/
def BytesAt (w : World) (n : Nat) (f : List UInt8) : Prop := ∃ (cs : Array Value) (fz : Nat × Nat), w.heap[n]? = some (.cells cs 5 fz) ∧ ∀ (j : Nat) (c : UInt8), f[j]? = some c → cs[j]? = some (Value.int .u8 c.toNat)
theorem BytesAt.keep {w w' : World} {n : Nat} {f : List UInt8} (h : BytesAt w n f) (hh : w'.heap[n]? = w.heap[n]?) : BytesAt w' n f := by
  obtain ⟨cs, fz, h1, h2⟩ := h
  exact ⟨cs, fz, hh.trans h1, h2⟩
theorem BytesAt.lt {w : World} {n : Nat} {f : List UInt8} (h : BytesAt w n f) : n < w.heap.size := by
  obtain ⟨cs, fz, h1, _⟩ := h
  exact (Array.getElem?_eq_some_iff.1 h1).1
theorem BytesAt.below {w w' : World} {n B : Nat} {f : List UInt8} (h : BytesAt w n f) (hb : Below B w w') (hB : n < B) : BytesAt w' n f := h.keep (hb.block n hB)
theorem BytesAt.alloc {w : World} {n : Nat} {f : List UInt8} (h : BytesAt w n f) (o : Obj) : BytesAt (w.alloc o) n f := h.keep (Lib.alloc_old w o n h.lt)
theorem BytesAt.cell {w : World} {n : Nat} {f : List UInt8} (h : BytesAt w n f) {j : Nat} {c : UInt8} (hj : f[j]? = some c) : w.cell? ⟨n, j, none⟩ = some (.int .u8 c.toNat) := by
  obtain ⟨cs, fz, h1, h2⟩ := h
  rw [Lib.cell_of_heap h1]
  exact h2 j c hj
theorem BytesAt.grown {w w' : World} {n : Nat} {f : List UInt8} {row : Option Nat} (h : BytesAt w n f) (hg : w.grownBy w' row) (hn : row ≠ some n) : BytesAt w' n f := h.keep (hg.block n h.lt (fun e => hn e.symm))
theorem bytes26 (f : List UInt8) (w : World) : ∃ cap Z, (convert 9 62 (.string (str f))).run Tryd.prog w = .ok (.slice (some ⟨w.heap.size, 0, none⟩) f.length cap) Z ∧ Hid (Below w.heap.size w Z) ∧ Hid (BytesAt Z w.heap.size f) ∧ Hid (Z.heap.size = w.heap.size + 1) := by
  refine ⟨_, _, Lib.run_convert_string_bytes w 9 62 5 (str f) (u := .string) Tryd.underlying9 Tryd.underlying62 Tryd.underlying5, Lib.bytesWorld_below _ _ _, ?_, Lib.bytesWorld_size _ _ _⟩
  refine ⟨_, _, Lib.bytesWorld_at_new _ _ _, fun j c hj => ?_⟩
  have hjl : j < f.length := (List.getElem?_eq_some_iff.1 hj).1
  have h := Lib.bytesWorld_cell w 5 (str f) j hjl
  rw [Lib.cell_of_heap (Lib.bytesWorld_at_new _ _ _)] at h
  rw [h]
  have : (str f).data.toList.getD j 0 = c := by
    show f.getD j 0 = c
    rw [List.getD_eq_getElem?_getD, hj]; rfl
  rw [this]
theorem enc_all : ∀ c ∈ allL, Utf8.encode (c.toNat : Int) = str [c] := by
  intro c hc
  simp only [allL, List.mem_cons, List.not_mem_nil, or_false] at hc
  rcases hc with rfl | rfl | rfl | rfl | rfl | rfl | rfl | rfl | rfl | rfl | rfl | rfl | rfl | rfl | rfl | rfl | rfl | rfl | rfl | rfl <;> kernel_rfl
theorem conv26 (c : UInt8) (h : c ∈ allL) (W : World) : (convert 5 9 (.int .u8 c.toNat)).run Tryd.prog W = .ok (.string (str [c])) W := by
  rw [run_convert_int_string W 5 9 .u8 _ (by rw [Tryd.underlying5]; rfl) Tryd.underlying9, enc_all c h]
/-- The words of a line. -/
def lineW26 (e : En) (f : List UInt8) : List (List UInt8) := nmE e.wh :: f.map (wd1 e)
theorem lineW26_len (e : En) (f : List UInt8) : (lineW26 e f).length = f.length + 1 := by simp [lineW26]
theorem join26 (e : En) (f : List UInt8) : Lib.join (lineW26 e f) [32] = nmE e.wh ++ f.flatMap (wdE e) := by
  unfold lineW26
  rw [Lib.join_cons]
  congr 1
  unfold Lib.joinTail
  rw [List.map_map, List.flatMap_def]
  rfl
theorem lineW26_take (e : En) (f : List UInt8) {k : Nat} {c : UInt8} (hc : f[k]? = some c) : (lineW26 e f).take (k + 2) = (lineW26 e f).take (k + 1) ++ [wd1 e c] := by
  have hk : k < f.length := (List.getElem?_eq_some_iff.1 hc).1
  rw [List.take_succ_eq_append_getElem (by rw [lineW26_len]; omega)]
  congr 2
  have hk2 := (List.getElem?_eq_some_iff.1 hc).2
  simp [lineW26, hk2]
theorem own_one_str26 (w : World) (base : Nat) (s : List UInt8) (n : Nat) (hn : n = w.heap.size) (hb : base ≤ w.heap.size) : (w.alloc (.cells #[.string (str s)] 9)).ownsRow base 9 1 (.slice (some ⟨n, 0, none⟩) 1 1) 1 (strV [s]) := own_lit w base 9 [.string (str s)] n hn hb (by show 1 ≤ maxLen; unfold maxLen; omega)
theorem ldig_let26 (e : En) (hw : e.wf) (c : UInt8) (hc : c ∈ allL) (w : World) (h : Laid w) : Calls Tryd.prog 40 #[enV e, .int .u8 c.toNat] w fun r w' => (∃ l, r = .returned (.string (str l)) ∧ Hid (l = dgE e c) ∧ l.length ≤ 21) ∧ Below w.heap.size w w' :=
  (ldig26 e hw c hc w h).mono fun r w' ⟨he, hb⟩ => ⟨⟨_, he, rfl, dgE_len e c⟩, hb⟩
set_option maxHeartbeats 6400000 in
theorem lline26 (e : En) (hw : e.wf) (hm : 1 ≤ e.wh ∧ e.wh ≤ 17) (w : World) (h : Laid w) : Calls Tryd.prog 25 #[enV e] w fun r w' => r = .returned (.string (str (lineE e))) ∧ Below w.heap.size w w' := by
  obtain ⟨i0, hi, hz0, hz1, hz2⟩ := info_parts Tryd.infoStr
  obtain ⟨X, HX, HP, HB⟩ := box_en w e
  have HX := HX.out
  dsimp only [enC] at HX
  have HX := keepG HX
  have HL : Hid (Laid w) := h
  obtain ⟨nm, HNM, hnl⟩ : ∃ nm, Hid (nmE e.wh = nm) ∧ nm.length ≤ 8 := ⟨_, rfl, nmE_len _⟩
  obtain ⟨f, HF, hfl⟩ : ∃ f, Hid (ltrE e = f) ∧ f.length ≤ 14 := ⟨_, rfl, ltrE_len e⟩
  have HMEM : Hid (∀ c ∈ f, c ∈ allL) := by
    show ∀ c ∈ f, _
    rw [← HF.out]
    exact fun c hc => (ltrE_mem hc).1
  obtain ⟨LW, HLW⟩ : ∃ LW, Hid (LW = lineW26 e f) := ⟨_, rfl⟩
  have HLEN : Hid (LW.length = f.length + 1) := by show _ = _; rw [HLW.out, lineW26_len]
  have HJ : Hid (Lib.join LW [32] = lineE e) := by
    show _ = _
    rw [HLW.out, join26]
    unfold lineE
    rw [← HF.out]
    unfold ltrE
    rw [if_pos hm]
  have HONE : Hid (LW.take 1 = [nm]) := by show _ = _; rw [HLW.out, ← HNM.out]; rfl
  have HW : Hid e.wf := hw
  have q0 := HP.out.cell (j := 0) rfl
  clear h hw
  unfold enV
  go_enter Tryd.func25, Tryd.ntmps25
  go_wp2_with (first
    | (rw [HX.out])
    | (go_at_call 9; go_must (refine (lname26 e.wh _).mono ?_); rintro e1 w1 ⟨rfl, rfl⟩; go_must (rw [HNM.out]; obtain ⟨Y, HY, HPY, HOY, HBY⟩ : ∃ Y, Hid (X.alloc (.cells #[.string (str nm)] 9) = Y) ∧ Hid (Hp Y w.heap.size 36 (enC e)) ∧ Hid (Y.ownsRow w.heap.size 9 1 (.slice (some ⟨X.heap.size, 0, none⟩) 1 1) 1 (strV [nm])) ∧ Hid (Below w.heap.size w Y) := ⟨_, rfl, HP.out.alloc _, own_one_str26 X w.heap.size nm _ rfl HB.out.size, HB.out.alloc HB.out.size _⟩; clear q0))
    | (rw [HY.out])
    | ((with_reducible refine wpList_load_mid ?_ 36 (.tmp 1) ?_ w.heap.size 0 ?_ (enC e) _ (enAt HPY.out) Tryd.underlying36 ?_ (sizeEn _) ?_); rfl; rfl; rfl; rfl)
    | (go_at_call 39; go_must (refine (lltr26 e _).mono ?_); rintro e1 w2 ⟨rfl, hb2⟩; go_must (rw [HF.out]; obtain ⟨cap, Z, hcv, HBZ, HBA, HZS⟩ := bytes26 f w2; have HB2 : Hid (Below w.heap.size w w2) := HBY.out.trans (hb2.mono HBY.out.size); have HBz : Hid (Below w.heap.size w Z) := HB2.out.trans (HBZ.out.mono HB2.out.size); have HPZ : Hid (Hp Z w.heap.size 36 (enC e)) := (HPY.out.below hb2 HPY.out.lt).below HBZ.out (HPY.out.below hb2 HPY.out.lt).lt; have HOZ : Hid (Z.ownsRow w.heap.size 9 1 (.slice (some ⟨X.heap.size, 0, none⟩) 1 1) 1 (strV [nm])) := own_below (own_below HOY.out hb2 (Nat.le_refl _)) HBZ.out (Nat.le_refl _); clear hb2)))
  generalize w2.heap.size = nb at *
  clear hcv
  go_loopw [3, 14] (fun v i wr => ∃ k : Nat, k ≤ f.length ∧ i = .int .i64 k ∧ Hid (wr.ownsRow w.heap.size 9 1 v (k + 1) (strV (LW.take (k + 1)))) ∧ Hid (Hp wr w.heap.size 36 (enC e)) ∧ Hid (BytesAt wr nb f) ∧ Hid (Below w.heap.size w wr)) (fun _ i _ => f.length - (intOf i).toNat)
  case atStart => exact ⟨0, by omega, rfl, by show World.ownsRow _ _ _ _ _ _ _; rw [HONE.out]; exact HOZ.out, HPZ.out, HBA.out, HBz.out⟩
  case round =>
    rename World => wr
    obtain ⟨k, hk, rfl, HOW, HPR, HBR, HBW⟩ := hrel
    clear HBZ HBA HZS HB2 HBz HPZ HOZ
    by_cases hlt : k < f.length
    · obtain ⟨c, hc⟩ : ∃ c, f[k]? = some c := ⟨_, List.getElem?_eq_getElem hlt⟩
      have HCA : Hid (c ∈ allL) := HMEM.out c (List.mem_of_getElem? hc)
      have hconv := conv26 c HCA.out
      have hcell := HBR.out.cell hc
      have HT : Hid (LW.take (k + 2) = LW.take (k + 1) ++ [wd1 e c]) := by show _ = _; rw [HLW.out]; exact lineW26_take e f hc
      have hcb : c.toNat < 256 := UInt8.toNat_lt c
      have HLr : Hid (Laid wr) := laid_keeps _ _ HL.out HBW.out
      clear hc
      go_wp2_with (first
        | ((with_reducible refine wpList_load_mid ?_ 36 (.tmp 1) ?_ w.heap.size 0 ?_ (enC e) _ (enAt HPR.out) Tryd.underlying36 ?_ (sizeEn _) ?_); rfl; rfl; rfl; rfl)
        | (go_at_call 40; go_must (refine (ldig_let26 e HW.out c HCA.out _ HLr.out).mono ?_); rintro e1 w4 ⟨⟨l, rfl, HDL, hdl⟩, hb4⟩; go_must (have HP4 : Hid (Hp w4 w.heap.size 36 (enC e)) := HPR.out.below hb4 HPR.out.lt; have HB4 : Hid (BytesAt w4 nb f) := HBR.out.below hb4 HBR.out.lt; have HO4 := keepG (own_below HOW.out hb4 (Nat.le_refl _)); have HW4 : Hid (Below w.heap.size w w4) := HBW.out.trans (hb4.mono HBW.out.size); have hz4 := HW4.out.size; clear hb4 hcell))
        | (at_builtin; have hq := HO4; clear hq; go_must (refine wpList_append_own _ rfl (.tmp 18) (.tmp 25) 55 rfl w.heap.size 9 i0 (.string ⟨#[]⟩) 1 16 Tryd.underlying55 hi hz0 hz1 hz2 rfl (by decide) _ _ _ rfl (HO4.out.alloc _) ⟨_, 0, none⟩ 1 1 [.string (str [c] ++ str l)] rfl rfl (one_str _ _ _ _ (by first | rfl | simp)) (one_cellS _) (by unfold maxLen; omega) (by omega) (by simp; omega) ?_); intro v5 w5 hown5 hg5 _; go_must (have HW5 : Hid (Below w.heap.size w w5) := (HW4.out.alloc HW4.out.size _).grown hg5 (by have := HW4.out.size; simp; omega) (fun j hj => (HO4.out.lt j hj).1); have HP5 : Hid (Hp w5 w.heap.size 36 (enC e)) := (HP4.out.alloc _).grown hg5 (fun e' => Lib.ownBlock_ne HO4.out HP4.out (by decide) e'.symm); have HB5 : Hid (BytesAt w5 nb f) := (HB4.out.alloc _).grown hg5 (fun e' => by obtain ⟨cs, fz, hcs, _⟩ := HB4.out; exact Lib.ownBlock_ne HO4.out hcs (by decide) e'); have HO5 := keepG hown5; clear hg5 hown5 HO4)))
      have HO6 : Hid (w5.ownsRow w.heap.size 9 1 v5 (k + 2) (strV (LW.take (k + 2)))) := by
        have h := HO5.out
        show w5.ownsRow _ _ _ _ _ _
        rw [HT.out, wd1_dg, ← HDL.out]
        have e2 : str [c] ++ str l = str (c :: l) := str_app [c] l
        rw [e2] at h
        simpa [strV] using h
      go_roundw
      case rel => exact ⟨k + 1, by omega, by go_num, HO6.out, HP5.out, HB5.out, HW5.out⟩
      case measure => simp [intOf]; omega
    · obtain rfl : k = f.length := by omega
      have hown := HOW.out
      rw [show LW.take (f.length + 1) = LW by rw [← HLEN.out]; exact List.take_length] at hown
      obtain ⟨_, ⟨_, h0⟩ | ⟨g, cap2, cur, rfl, hg1, hg2, hg3, hg4, hg5, hg6⟩⟩ := hown
      · omega
      · have hcells : ∀ (j : Nat) x, (LW.map str)[j]? = some x → wr.cell? ⟨g, 0 + j, none⟩ = some (.string x) := by
          intro j x hx
          rw [Lib.cell_of_heap hg2]
          have hj : j < LW.length := by have := (List.getElem?_eq_some_iff.1 hx).1; simpa using this
          have e : cur.toList[j]? = (strV LW)[j]? := by rw [← hg6, List.getElem?_take, if_pos (by have := HLEN.out; omega)]
          simp only [strV, List.getElem?_map] at e hx ⊢
          rw [show 0 + j = j by omega]
          rw [← Array.getElem?_toList, e]
          simp only [Option.map_eq_some_iff] at hx ⊢
          obtain ⟨y, h1, h2⟩ := hx
          exact ⟨y, h1, by rw [h2]⟩
        have HC : Hid (∀ (j : Nat) x, (LW.map str)[j]? = some x → wr.cell? ⟨g, 0 + j, none⟩ = some (.string x)) := hcells
        have hgl : g < wr.heap.size := (Array.getElem?_eq_some_iff.1 hg2).1
        have HEN : Hid ((LW.map str).length = f.length + 1) := by show _ = _; rw [List.length_map]; exact HLEN.out
        have HMAP : Hid ((LW.map str).map (·.data.toList) = LW) := by
          show _ = _
          have e : ((fun x : ByteArray => x.data.toList) ∘ str) = id := rfl
          rw [List.map_map, e, List.map_id]
        clear hcells hg1 hg2 hg5 hg6
        have HJC : Hid (Calls Tryd.prog 41 #[.slice (some ⟨g, 0, none⟩) (f.length + 1) cap2, .string (str [32])] wr fun e' w' => e' = .returned (.string (str (lineE e))) ∧ Below wr.heap.size wr w') := by
          have c := Tryd.strings_Join g 0 cap2 (LW.map str) (str [32]) wr HC.out hgl (by rw [HEN.out]; omega) (by rw [HEN.out]; exact hg3) (by rw [HMAP.out]; show (Lib.join LW [32]).length ≤ _; rw [HJ.out]; have := lineE_len e; omega)
          rw [HMAP.out, HEN.out] at c
          refine c.mono ?_
          rintro e' w' ⟨he, hb'⟩
          refine ⟨?_, hb'⟩
          rw [he]
          show Ending.returned (.string ⟨(Lib.join LW [32]).toArray⟩) = _
          rw [HJ.out]
        go_wp2_with (go_at_call 41; go_must (refine HJC.out.mono ?_); rintro e' w6 ⟨rfl, hb6⟩)
        go_ret
        exact ⟨rfl, HBW.out.trans (hb6.mono HBW.out.size)⟩
end Go.Proofs.YtbfbfbbpajaclaaDoor
