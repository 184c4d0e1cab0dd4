
/-
  What the landed Print does: the entries' text, or the empty one and ErrForm. Conditions: the listed variables read as they are laid; the entries' fields are of their kinds, and their text is no greater than memory.
-/
import Derived.Test.YtbfbfbbpajaclaaDoorT26Pn
namespace Go.Proofs.YtbfbfbbpajaclaaDoor
open Go.RowKit
set_option linter.unusedVariables false
set_option linter.unusedSimpArgs false
set_option maxRecDepth 100000
theorem wfeed_any (B b : Nat) (l : List UInt8) (w : World) (h : Builds B b l w) (hlen : l.length + 1 ≤ 140737488355328) (hB : B ≤ w.heap.size) :
    Calls Tryd.prog 26 #[.pointer (some ⟨b, 0, none⟩), .int .u8 10] w fun e w' => e = .returned .nilIface ∧ Builds B b (l ++ [10]) w' ∧ Below B w w' := wbyte_any B b l 10 w h hlen hB
theorem builds_fresh (w : World) (n : Nat) (hn : n = w.heap.size) : Builds n n [] (w.alloc (.cells #[.pointer none, .slice none 0 0] 64)) := by
  subst hn
  exact Lib.IsBuilderF.of (Lib.fresh_isBuilder 64 5 w)
theorem ret2si26 {a a' : ByteArray} {b b' : Int} (h1 : a = a') (h2 : b = b') : Ending.returned (.tuple #[.string a, .int .i64 b]) = .returned (.tuple #[.string a', .int .i64 b']) := by rw [h1, h2]
set_option maxHeartbeats 6400000 in
theorem lprint26 (v : Value) (xs : List En) (w : World) (h : Laid w) (hs : SeesG enC 22 En.nil w v xs) (hwf : ∀ e ∈ xs, e.wf) (hbytes : xs.length * 332 ≤ 140737488355328) : Calls Tryd.prog 12 #[v] w fun r w' => r = .returned (.tuple #[.string (str (printE xs).1), .int .i64 (printE xs).2]) ∧ Below w.heap.size w w' := by
  have HS := keepG hs
  have HWF := keepG hwf
  have HL : Hid (Laid w) := h
  have HPN := keepG (lPlain26 v xs w h hs)
  obtain ⟨a, cap, rfl, hlc, hmx⟩ := hs.shape
  clear hs h hwf
  obtain ⟨al, HAL⟩ : ∃ al, Hid (xs.all plainE = al) := ⟨_, rfl⟩
  rw [HAL.out] at HPN
  cases al
  · have HE : Hid (printE xs = ([], 12)) := by show _ = _; unfold printE; rw [if_neg (by rw [HAL.out]; simp)]
    go_enter Tryd.func12, Tryd.ntmps12
    go_wp2_with (go_at_call 14; go_must (refine HPN.out.mono ?_); rintro e1 w1 ⟨rfl, hb1⟩)
    go_ret2
    exact ⟨ret2si26 (by rw [HE.out]) (by rw [HE.out]), hb1⟩
  · have HE : Hid (printE xs = (textE xs, 0)) := by show _ = _; unfold printE; rw [if_pos HAL.out]
    have HALL : Hid (∀ e ∈ xs, plainE e = true) := List.all_eq_true.1 HAL.out
    go_enter Tryd.func12, Tryd.ntmps12
    go_wp2_with (go_at_call 14; go_must (refine HPN.out.mono ?_); rintro e1 w1 ⟨rfl, hb1⟩)
    have hz1 := hb1.size
    obtain ⟨w0, HB0, HW0, hz0, hw0⟩ : ∃ w0, Hid (Builds w1.heap.size w1.heap.size [] w0) ∧ Hid (Below w.heap.size w w0) ∧ w1.heap.size ≤ w0.heap.size ∧ w0 = w1.alloc (.cells #[.pointer none, .slice none 0 0] 64) := ⟨_, builds_fresh w1 _ rfl, hb1.alloc hz1 _, by simp, rfl⟩
    rw [← hw0]
    clear hw0
    generalize hnb : w1.heap.size = nb at *
    clear hnb hb1 HPN
    go_loopw [12] (fun i wr => ∃ k : Nat, k ≤ xs.length ∧ i = .int .i64 k ∧ Hid (Builds nb nb (textE (xs.take k)) wr) ∧ Hid (Below w.heap.size w wr) ∧ nb ≤ wr.heap.size) (fun i _ => xs.length - (intOf i).toNat)
    case atStart => exact ⟨0, by omega, rfl, HB0.out, HW0.out, hz0⟩
    case round =>
      rename World => wr
      obtain ⟨k, hk, rfl, HBU, HBW, hnb⟩ := hrel
      clear HB0 HW0 hz0
      by_cases hlt : k < xs.length
      · have hltI : (k : Int) < xs.length := by omega
        obtain ⟨p, off, ea, hat⟩ := enAt26 HS.out hlt
        subst ea
        obtain ⟨e, HE1⟩ : ∃ e, Hid (xs.getD k En.nil = e) := ⟨_, rfl⟩
        have HR1 := keepG (hat wr e HBW.out HE1.out)
        have hxk : xs[k] = e := by have h := HE1.out; rw [List.getD_eq_getElem?_getD, List.getElem?_eq_getElem hlt] at h; exact h
        have HMM : Hid (e ∈ xs) := by show _; rw [← hxk]; exact List.getElem_mem _
        have HT : Hid (textE (xs.take (k + 1)) = textE (xs.take k) ++ (lineE e ++ [10])) := by show _ = _; rw [textE_take hlt, HE1.out]
        clear hat hxk
        have hm := plain_mark (HALL.out e HMM.out)
        obtain ⟨A, B, HA, HB, HPA, HPB, HBB⟩ := new_box26 wr e
        have HA := HA.out
        dsimp only [enC, En.nil] at HA
        have HA := keepG HA
        have hzB := HBB.out.size
        have HBz : Hid (Below w.heap.size w B) := HBW.out.trans (HBB.out.mono HBW.out.size)
        have HLB : Hid (Laid B) := laid_keeps _ _ HL.out HBz.out
        have HBB2 : Hid (Builds nb nb (textE (xs.take k)) B) := builds_below HBU.out HBB.out
        obtain ⟨tx, HTX⟩ : ∃ tx, Hid (textE (xs.take k) = tx) := ⟨_, rfl⟩
        have htl : tx.length ≤ k * 332 := by
          rw [← HTX.out]
          have := textE_len (xs.take k)
          rw [List.length_take, Nat.min_eq_left (by omega)] at this
          exact this
        rw [HTX.out] at HBB2 HT
        obtain ⟨ln, HLN, hll⟩ : ∃ ln, Hid (lineE e = ln) ∧ ln.length ≤ 331 := ⟨_, rfl, lineE_len e⟩
        rw [HLN.out] at HT
        have hk332 : (k + 1) * 332 ≤ 140737488355328 := Nat.le_trans (Nat.mul_le_mul_right _ hlt) hbytes
        go_wp2_with (first
          | ((with_reducible refine wpList_load_mid ?_ 36 (.tmp 14) ?_ p (off + k * 22) ?_ (enC e) _ HR1.out Tryd.underlying36 ?_ (sizeEn _) ?_); rfl; rfl; rfl; rfl)
          | (rw [HA.out])
          | ((with_reducible refine wpList_store_mid ?_ 36 (.tmp 6) (.tmp 15) ?_ wr.heap.size 0 (enC e).toArray ?_ ?_ (thereEn HPA.out) (sizeEnA _) (oneEn _) ?_); rfl; rfl; rfl; rfl)
          | (rw [show A.setCells wr.heap.size 0 (enC e) = B from HB.out])
          | (rw [HB.out])
          | ((with_reducible refine wpList_load_mid ?_ 36 (.tmp 6) ?_ wr.heap.size 0 ?_ (enC e) _ (enAt HPB.out) Tryd.underlying36 ?_ (sizeEn _) ?_); rfl; rfl; rfl; rfl)
          | (go_at_call 25; go_must (refine (lline26 e (HWF.out e HMM.out) hm _ HLB.out).mono ?_); rintro e1 w5 ⟨rfl, hb5⟩; go_must (rw [HLN.out]; have HB5 : Hid (Builds nb nb tx w5) := builds_below HBB2.out hb5; have HW5 : Hid (Below w.heap.size w w5) := HBz.out.trans (hb5.mono HBz.out.size); have hz5 := hb5.size; clear hb5))
          | (go_at_call 24; go_must (refine (wstring_any nb nb tx ln _ HB5.out (by omega) (by omega)).mono ?_); rintro e1 w6 ⟨rfl, hbu6, hb6⟩; go_must (have HB6 := keepG hbu6; have HW6 : Hid (Below w.heap.size w w6) := HW5.out.trans (hb6.mono hz1); have hz6 := hb6.size; clear hb6 hbu6))
          | (go_at_call 26; go_must (refine (wfeed_any nb nb (tx ++ ln) _ HB6.out (by rw [List.length_append]; omega) (by omega)).mono ?_); rintro e1 w7 ⟨rfl, hbu7, hb7⟩; go_must (have HB7 := keepG hbu7; have HW7 : Hid (Below w.heap.size w w7) := HW6.out.trans (hb7.mono hz1); have hz7 := hb7.size; clear hb7 hbu7)))
        have HB8 : Hid (Builds nb nb (textE (xs.take (k + 1))) w7) := by show Builds _ _ _ _; rw [HT.out, ← List.append_assoc]; exact HB7.out
        go_roundw
        case rel => exact ⟨k + 1, by omega, by go_num, HB8.out, HW7.out, by omega⟩
        case measure => simp [intOf]; omega
      · obtain rfl : k = xs.length := by omega
        have HB9 : Hid (Builds nb nb (textE xs) wr) := by have h := HBU.out; rw [List.take_length] at h; exact h
        go_wp2_with (go_at_call 27; go_must (refine (bstring_any _ _ _ _ HB9.out hnb).mono ?_); rintro e1 w2 ⟨rfl, hb2⟩)
        go_ret2
        exact ⟨ret2si26 (by rw [HE.out]) (by rw [HE.out]), HBW.out.trans (hb2.mono hz1)⟩
end Go.Proofs.YtbfbfbbpajaclaaDoor
