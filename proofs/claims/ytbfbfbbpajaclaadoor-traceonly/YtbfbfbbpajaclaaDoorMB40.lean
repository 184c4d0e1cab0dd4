/-
  T26Pn
  T26Pr
  T26Ps
-/
import Derived.Test.YtbfbfbbpajaclaaDoorMB39
import Derived.Test.YtbfbfbbpajaclaaDoorMB32
/-
  What the landed Plain and Print do: whether all entries are plain; their text, if they are. Conditions: the listed variables read as they are laid; the entries' fields are of their kinds, and their text is no greater than memory.
-/
namespace Go.Proofs.YtbfbfbbpajaclaaDoor
open Go.RowKit
set_option linter.unusedVariables false
set_option linter.unusedSimpArgs false
set_option maxRecDepth 100000
theorem all_stop {α : Type} {p : α → Bool} {l : List α} {x : α} (hm : x ∈ l) (h : p x = false) : l.all p = false := by
  cases h' : l.all p with
  | false => rfl
  | true => have := List.all_eq_true.1 h' x hm; rw [h] at this; cases this
set_option maxHeartbeats 6400000 in
theorem lPlain26 (v : Value) (xs : List En) (w : World) (h : Laid w) (hs : SeesG enC 22 En.nil w v xs) : Calls Tryd.prog 14 #[v] w fun r w' => r = .returned (.bool (xs.all plainE)) ∧ Below w.heap.size w w' := by
  have HS := keepG hs
  have HL : Hid (Laid w) := h
  obtain ⟨a, cap, rfl, hlc, hmx⟩ := hs.shape
  clear hs h
  go_enter Tryd.func14, Tryd.ntmps14
  go_wp2_with fail
  go_loopw [7] (fun i wr => ∃ k : Nat, k ≤ xs.length ∧ i = .int .i64 k ∧ Hid ((xs.take k).all plainE = true) ∧ Hid (Below w.heap.size w wr)) (fun i _ => xs.length - (intOf i).toNat)
  case atStart => exact ⟨0, by omega, rfl, rfl, Below.refl _ _⟩
  case round =>
    rename World => wr
    obtain ⟨k, hk, rfl, HALL, HBW⟩ := hrel
    by_cases hlt : k < xs.length
    · have hltI : (k : Int) < xs.length := by omega
      obtain ⟨p, off, ea, hat⟩ := enAt26 HS.out hlt
      subst ea
      obtain ⟨e, HE⟩ : ∃ e, Hid (xs.getD k En.nil = e) := ⟨_, rfl⟩
      have HR1 := keepG (hat wr e HBW.out HE.out)
      have hxk : xs[k] = e := by have h := HE.out; rw [List.getD_eq_getElem?_getD, List.getElem?_eq_getElem hlt] at h; exact h
      have HXK := keepG hxk
      have HMM : Hid (e ∈ xs) := by show _; rw [← hxk]; exact List.getElem_mem _
      clear hat hxk
      obtain ⟨A, B, HA, HB, HPA, HPB, HBB⟩ := new_box26 wr e
      have HA := HA.out
      dsimp only [enC, En.nil] at HA
      have HA := keepG HA
      have HBz : Hid (Below w.heap.size w B) := HBW.out.trans (HBB.out.mono HBW.out.size)
      have HLB : Hid (Laid B) := laid_keeps _ _ HL.out HBz.out
      obtain ⟨pb, HPLB⟩ : ∃ pb, Hid (plainE e = pb) := ⟨_, rfl⟩
      cases pb
      · have HNO : Hid (xs.all plainE = false) := all_stop HMM.out HPLB.out
        go_wp2_with (first
          | ((with_reducible refine wpList_load_mid ?_ 36 (.tmp 9) ?_ p (off + k * 22) ?_ (enC e) _ HR1.out Tryd.underlying36 ?_ (sizeEn _) ?_); rfl; rfl; rfl; rfl)
          | (rw [HA.out])
          | ((with_reducible refine wpList_store_mid ?_ 36 (.tmp 4) (.tmp 10) ?_ wr.heap.size 0 (enC e).toArray ?_ ?_ (thereEn HPA.out) (sizeEnA _) (oneEn _) ?_); rfl; rfl; rfl; rfl)
          | (rw [show A.setCells wr.heap.size 0 (enC e) = B from HB.out])
          | (rw [HB.out])
          | ((with_reducible refine wpList_load_mid ?_ 36 (.tmp 4) ?_ wr.heap.size 0 ?_ (enC e) _ (enAt HPB.out) Tryd.underlying36 ?_ (sizeEn _) ?_); rfl; rfl; rfl; rfl)
          | (go_at_call 29; go_must (refine (lplain26 e _ HLB.out).mono ?_); rintro e1 w5 ⟨rfl, hb5⟩; go_must (rw [HPLB.out]; have HW5 : Hid (Below w.heap.size w w5) := HBz.out.trans (hb5.mono HBz.out.size); clear hb5)))
        go_ret
        exact ⟨retb26 HNO.out.symm, HW5.out⟩
      · have HN : Hid ((xs.take (k + 1)).all plainE = true) := all_take_one hlt HXK.out HALL.out HPLB.out
        go_wp2_with (first
          | ((with_reducible refine wpList_load_mid ?_ 36 (.tmp 9) ?_ p (off + k * 22) ?_ (enC e) _ HR1.out Tryd.underlying36 ?_ (sizeEn _) ?_); rfl; rfl; rfl; rfl)
          | (rw [HA.out])
          | ((with_reducible refine wpList_store_mid ?_ 36 (.tmp 4) (.tmp 10) ?_ wr.heap.size 0 (enC e).toArray ?_ ?_ (thereEn HPA.out) (sizeEnA _) (oneEn _) ?_); rfl; rfl; rfl; rfl)
          | (rw [show A.setCells wr.heap.size 0 (enC e) = B from HB.out])
          | (rw [HB.out])
          | ((with_reducible refine wpList_load_mid ?_ 36 (.tmp 4) ?_ wr.heap.size 0 ?_ (enC e) _ (enAt HPB.out) Tryd.underlying36 ?_ (sizeEn _) ?_); rfl; rfl; rfl; rfl)
          | (go_at_call 29; go_must (refine (lplain26 e _ HLB.out).mono ?_); rintro e1 w5 ⟨rfl, hb5⟩; go_must (rw [HPLB.out]; have HW5 : Hid (Below w.heap.size w w5) := HBz.out.trans (hb5.mono HBz.out.size); clear hb5)))
        go_roundw
        case rel => exact ⟨k + 1, by omega, by go_num, HN.out, HW5.out⟩
        case measure => simp [intOf]; omega
    · obtain rfl : k = xs.length := by omega
      have HAL : Hid (xs.all plainE = true) := by have h := HALL.out; rw [List.take_length] at h; exact h
      go_wp2
      go_ret
      exact ⟨retb26 HAL.out.symm, HBW.out⟩
end Go.Proofs.YtbfbfbbpajaclaaDoor
/-
  What the landed Print does: the entries' text, or the empty one and ErrForm. Conditions: the listed variables read as they are laid; the entries' fields are of their kinds, and their text is no greater than memory.
-/
namespace Go.Proofs.YtbfbfbbpajaclaaDoor
open Go.RowKit
set_option linter.unusedVariables false
set_option linter.unusedSimpArgs false
set_option maxRecDepth 100000
theorem wfeed_any (B b : Nat) (l : List UInt8) (w : World) (h : Builds B b l w) (hlen : l.length + 1 ≤ 140737488355328) (hB : B ≤ w.heap.size) :
    Calls Tryd.prog 26 #[.pointer (some ⟨b, 0, none⟩), .int .u8 10] w fun e w' => e = .returned .nilIface ∧ Builds B b (l ++ [10]) w' ∧ Below B w w' := wbyte_any B b l 10 w h hlen hB
theorem builds_fresh (w : World) (n : Nat) (hn : n = w.heap.size) : Builds n n [] (w.alloc (.cells #[.pointer none, .slice none 0 0] 64)) := by
  subst hn
  exact Lib.IsBuilderF.of (Lib.fresh_isBuilder 64 5 w)
theorem ret2si26 {a a' : ByteArray} {b b' : Int} (h1 : a = a') (h2 : b = b') : Ending.returned (.tuple #[.string a, .int .i64 b]) = .returned (.tuple #[.string a', .int .i64 b']) := by rw [h1, h2]
set_option maxHeartbeats 6400000 in
theorem lprint26 (v : Value) (xs : List En) (w : World) (h : Laid w) (hs : SeesG enC 22 En.nil w v xs) (hwf : ∀ e ∈ xs, e.wf) (hbytes : xs.length * 332 ≤ 140737488355328) : Calls Tryd.prog 12 #[v] w fun r w' => r = .returned (.tuple #[.string (str (printE xs).1), .int .i64 (printE xs).2]) ∧ Below w.heap.size w w' := by
  have HS := keepG hs
  have HWF := keepG hwf
  have HL : Hid (Laid w) := h
  have HPN := keepG (lPlain26 v xs w h hs)
  obtain ⟨a, cap, rfl, hlc, hmx⟩ := hs.shape
  clear hs h hwf
  obtain ⟨al, HAL⟩ : ∃ al, Hid (xs.all plainE = al) := ⟨_, rfl⟩
  rw [HAL.out] at HPN
  cases al
  · have HE : Hid (printE xs = ([], 12)) := by show _ = _; unfold printE; rw [if_neg (by rw [HAL.out]; simp)]
    go_enter Tryd.func12, Tryd.ntmps12
    go_wp2_with (go_at_call 14; go_must (refine HPN.out.mono ?_); rintro e1 w1 ⟨rfl, hb1⟩)
    go_ret2
    exact ⟨ret2si26 (by rw [HE.out]) (by rw [HE.out]), hb1⟩
  · have HE : Hid (printE xs = (textE xs, 0)) := by show _ = _; unfold printE; rw [if_pos HAL.out]
    have HALL : Hid (∀ e ∈ xs, plainE e = true) := List.all_eq_true.1 HAL.out
    go_enter Tryd.func12, Tryd.ntmps12
    go_wp2_with (go_at_call 14; go_must (refine HPN.out.mono ?_); rintro e1 w1 ⟨rfl, hb1⟩)
    have hz1 := hb1.size
    obtain ⟨w0, HB0, HW0, hz0, hw0⟩ : ∃ w0, Hid (Builds w1.heap.size w1.heap.size [] w0) ∧ Hid (Below w.heap.size w w0) ∧ w1.heap.size ≤ w0.heap.size ∧ w0 = w1.alloc (.cells #[.pointer none, .slice none 0 0] 64) := ⟨_, builds_fresh w1 _ rfl, hb1.alloc hz1 _, by simp, rfl⟩
    rw [← hw0]
    clear hw0
    generalize hnb : w1.heap.size = nb at *
    clear hnb hb1 HPN
    go_loopw [12] (fun i wr => ∃ k : Nat, k ≤ xs.length ∧ i = .int .i64 k ∧ Hid (Builds nb nb (textE (xs.take k)) wr) ∧ Hid (Below w.heap.size w wr) ∧ nb ≤ wr.heap.size) (fun i _ => xs.length - (intOf i).toNat)
    case atStart => exact ⟨0, by omega, rfl, HB0.out, HW0.out, hz0⟩
    case round =>
      rename World => wr
      obtain ⟨k, hk, rfl, HBU, HBW, hnb⟩ := hrel
      clear HB0 HW0 hz0
      by_cases hlt : k < xs.length
      · have hltI : (k : Int) < xs.length := by omega
        obtain ⟨p, off, ea, hat⟩ := enAt26 HS.out hlt
        subst ea
        obtain ⟨e, HE1⟩ : ∃ e, Hid (xs.getD k En.nil = e) := ⟨_, rfl⟩
        have HR1 := keepG (hat wr e HBW.out HE1.out)
        have hxk : xs[k] = e := by have h := HE1.out; rw [List.getD_eq_getElem?_getD, List.getElem?_eq_getElem hlt] at h; exact h
        have HMM : Hid (e ∈ xs) := by show _; rw [← hxk]; exact List.getElem_mem _
        have HT : Hid (textE (xs.take (k + 1)) = textE (xs.take k) ++ (lineE e ++ [10])) := by show _ = _; rw [textE_take hlt, HE1.out]
        clear hat hxk
        have hm := plain_mark (HALL.out e HMM.out)
        obtain ⟨A, B, HA, HB, HPA, HPB, HBB⟩ := new_box26 wr e
        have HA := HA.out
        dsimp only [enC, En.nil] at HA
        have HA := keepG HA
        have hzB := HBB.out.size
        have HBz : Hid (Below w.heap.size w B) := HBW.out.trans (HBB.out.mono HBW.out.size)
        have HLB : Hid (Laid B) := laid_keeps _ _ HL.out HBz.out
        have HBB2 : Hid (Builds nb nb (textE (xs.take k)) B) := builds_below HBU.out HBB.out
        obtain ⟨tx, HTX⟩ : ∃ tx, Hid (textE (xs.take k) = tx) := ⟨_, rfl⟩
        have htl : tx.length ≤ k * 332 := by
          rw [← HTX.out]
          have := textE_len (xs.take k)
          rw [List.length_take, Nat.min_eq_left (by omega)] at this
          exact this
        rw [HTX.out] at HBB2 HT
        obtain ⟨ln, HLN, hll⟩ : ∃ ln, Hid (lineE e = ln) ∧ ln.length ≤ 331 := ⟨_, rfl, lineE_len e⟩
        rw [HLN.out] at HT
        have hk332 : (k + 1) * 332 ≤ 140737488355328 := Nat.le_trans (Nat.mul_le_mul_right _ hlt) hbytes
        go_wp2_with (first
          | ((with_reducible refine wpList_load_mid ?_ 36 (.tmp 14) ?_ p (off + k * 22) ?_ (enC e) _ HR1.out Tryd.underlying36 ?_ (sizeEn _) ?_); rfl; rfl; rfl; rfl)
          | (rw [HA.out])
          | ((with_reducible refine wpList_store_mid ?_ 36 (.tmp 6) (.tmp 15) ?_ wr.heap.size 0 (enC e).toArray ?_ ?_ (thereEn HPA.out) (sizeEnA _) (oneEn _) ?_); rfl; rfl; rfl; rfl)
          | (rw [show A.setCells wr.heap.size 0 (enC e) = B from HB.out])
          | (rw [HB.out])
          | ((with_reducible refine wpList_load_mid ?_ 36 (.tmp 6) ?_ wr.heap.size 0 ?_ (enC e) _ (enAt HPB.out) Tryd.underlying36 ?_ (sizeEn _) ?_); rfl; rfl; rfl; rfl)
          | (go_at_call 25; go_must (refine (lline26 e (HWF.out e HMM.out) hm _ HLB.out).mono ?_); rintro e1 w5 ⟨rfl, hb5⟩; go_must (rw [HLN.out]; have HB5 : Hid (Builds nb nb tx w5) := builds_below HBB2.out hb5; have HW5 : Hid (Below w.heap.size w w5) := HBz.out.trans (hb5.mono HBz.out.size); have hz5 := hb5.size; clear hb5))
          | (go_at_call 24; go_must (refine (wstring_any nb nb tx ln _ HB5.out (by omega) (by omega)).mono ?_); rintro e1 w6 ⟨rfl, hbu6, hb6⟩; go_must (have HB6 := keepG hbu6; have HW6 : Hid (Below w.heap.size w w6) := HW5.out.trans (hb6.mono hz1); have hz6 := hb6.size; clear hb6 hbu6))
          | (go_at_call 26; go_must (refine (wfeed_any nb nb (tx ++ ln) _ HB6.out (by rw [List.length_append]; omega) (by omega)).mono ?_); rintro e1 w7 ⟨rfl, hbu7, hb7⟩; go_must (have HB7 := keepG hbu7; have HW7 : Hid (Below w.heap.size w w7) := HW6.out.trans (hb7.mono hz1); have hz7 := hb7.size; clear hb7 hbu7)))
        have HB8 : Hid (Builds nb nb (textE (xs.take (k + 1))) w7) := by show Builds _ _ _ _; rw [HT.out, ← List.append_assoc]; exact HB7.out
        go_roundw
        case rel => exact ⟨k + 1, by omega, by go_num, HB8.out, HW7.out, by omega⟩
        case measure => simp [intOf]; omega
      · obtain rfl : k = xs.length := by omega
        have HB9 : Hid (Builds nb nb (textE xs) wr) := by have h := HBU.out; rw [List.take_length] at h; exact h
        go_wp2_with (go_at_call 27; go_must (refine (bstring_any _ _ _ _ HB9.out hnb).mono ?_); rintro e1 w2 ⟨rfl, hb2⟩)
        go_ret2
        exact ⟨ret2si26 (by rw [HE.out]) (by rw [HE.out]), HBW.out.trans (hb2.mono hz1)⟩
end Go.Proofs.YtbfbfbbpajaclaaDoor
/-
  What the landed Parse does: a text's entries, or the number of its first wrong line. Conditions: the listed variables read as they are laid; the text's length, and its lines' entries, are within the model's bounds.
-/
namespace Go.Proofs.YtbfbfbbpajaclaaDoor
open Go.RowKit
set_option linter.unusedVariables false
set_option linter.unusedSimpArgs false
set_option maxRecDepth 100000
theorem parF26_last : ∀ (l acc : List UInt8) (is : List En), (∀ c ∈ l, c ≠ 10) → acc ++ l ≠ [] → parF26 acc is l = ([], (is.length : Int) + 1, 20)
  | [], acc, is, _, hne => by simp only [parF26]; rw [if_neg (by simpa using hne)]
  | c :: l, acc, is, h, hne => by
    have hc : c ≠ 10 := h c (by simp)
    simp only [parF26, if_neg hc]
    exact parF26_last l (acc ++ [c]) is (fun x hx => h x (by simp [hx])) (by simp)
theorem par_step_none {l behind t : List UInt8} {is : List En} (h : cutL 10 l = (t, behind, true)) (hr : readE t = none) : parF26 [] is l = ([], (is.length : Int) + 1, 20) := by
  have hs := cutL_split 10 l
  rw [h] at hs
  obtain ⟨h1, ⟨_, h2⟩ | ⟨h2, _⟩⟩ := hs
  · simp only at h1 h2
    rw [h2, parF26_line t [] is behind h1, List.nil_append, hr]
  · cases h2
theorem par_step_some {l behind t : List UInt8} {is : List En} {i : En} (h : cutL 10 l = (t, behind, true)) (hr : readE t = some i) : parF26 [] is l = parF26 [] (is ++ [i]) behind ∧ behind.length < l.length ∧ behind.count 10 + 1 ≤ l.count 10 := by
  have hs := cutL_split 10 l
  rw [h] at hs
  obtain ⟨h1, ⟨_, h2⟩ | ⟨h2, _⟩⟩ := hs
  · simp only at h1 h2
    refine ⟨?_, ?_, ?_⟩
    · rw [h2, parF26_line t [] is behind h1, List.nil_append, hr]
    · rw [h2]; simp; omega
    · rw [h2, List.count_append, List.count_cons_self]; omega
  · cases h2
theorem par_step_last {l behind t : List UInt8} {is : List En} (hne : l ≠ []) (h : cutL 10 l = (t, behind, false)) : parF26 [] is l = ([], (is.length : Int) + 1, 20) := by
  have hs := cutL_split 10 l
  rw [h] at hs
  obtain ⟨h1, ⟨h2, _⟩ | ⟨_, h2, _⟩⟩ := hs
  · cases h2
  · simp only at h1 h2
    subst h2
    exact parF26_last _ [] is h1 (by simpa using hne)
/-- How long a string is that a slot holds. -/
def strLen : Value → Nat
  | .string s => s.size
  | _ => 0
theorem strLen_str (l : List UInt8) : strLen (.string (str l)) = l.length := rfl
set_option maxHeartbeats 6400000 in
theorem lparse_wide (l : List UInt8) (w : World) (h : Laid w) (hl : l.length ≤ 140737488355328) (hn : l.count 10 * 176 ≤ 140737488355328) :
    Calls Tryd.prog 16 #[.string (str l)] w fun r w' => ∃ v, r = .returned (.tuple #[v, .int .i64 (parE l).2.1, .int .i64 (parE l).2.2]) ∧ w'.ownsRow w.heap.size 36 22 v (parE l).1.length (flatG enC (parE l).1) ∧ Below w.heap.size w w' := by
  have HL : Hid (Laid w) := h
  clear h
  obtain ⟨i0, hi, hz0, hz1, hz2⟩ := info_parts infoEn26
  go_enter Tryd.func16, Tryd.ntmps16
  go_wp2_with fail
  go_loopw [0, 5, 6] (fun s v n wr => ∃ (rest : List UInt8) (done : List En), s = .string (str rest) ∧ n = .int .i64 ((done.length : Int) + 1) ∧ rest.length ≤ l.length ∧ done.length + rest.count 10 ≤ l.count 10 ∧ Hid (parE l = parF26 [] done rest) ∧ Hid (wr.ownsRow w.heap.size 36 22 v done.length (flatG enC done)) ∧ Hid (Below w.heap.size w wr)) (fun s _ _ _ => strLen s)
  case atStart => exact ⟨l, [], rfl, rfl, Nat.le_refl _, by simp, rfl, World.ownsRow_nil _ _ _ _, Below.refl _ _⟩
  case round =>
    rename World => wr
    obtain ⟨rest, done, rfl, rfl, hrl, hdl, HT, HOW, HBW⟩ := hrel
    have hsz := HBW.out.size
    by_cases hne : rest = []
    · have HP : Hid (parE l = (done, 0, 0)) := by show _ = _; rw [HT.out, hne]; rfl
      have hq : (rest == []) = true := by simp [hne]
      clear HT hne
      obtain ⟨av, cv, hvs⟩ : ∃ av cv, u5 = .slice av done.length cv := by
        rcases HOW.out with ⟨_, ⟨rfl, h2⟩ | ⟨g, cap, cur, rfl, _⟩⟩
        · exact ⟨none, 0, by rw [h2]⟩
        · exact ⟨_, _, rfl⟩
      subst hvs
      go_wp2_with fail
      go_ret3
      exact ⟨.slice av done.length cv, ret3v26 (by rw [HP.out]) (by rw [HP.out]), by rw [HP.out]; exact HOW.out, HBW.out⟩
    · have hq : (rest == []) = false := by simp [hne]
      obtain ⟨t, behind, ended, HC, htl, hbl⟩ : ∃ t behind ended, Hid (cutL 10 rest = (t, behind, ended)) ∧ t.length ≤ 140737488355328 ∧ behind.length ≤ 140737488355328 := ⟨_, _, _, rfl, Nat.le_trans (cutL_len 10 rest).1 (by omega), Nat.le_trans (cutL_len 10 rest).2 (by omega)⟩
      have HLr : Hid (Laid wr) := laid_keeps _ _ HL.out HBW.out
      obtain ⟨ro, HRO⟩ : ∃ ro, Hid (readE t = ro) := ⟨_, rfl⟩
      have HRA : Hid (∀ wx, Laid wx → Calls Tryd.prog 31 #[.string (str t)] wx fun r w' => r = .returned (readV26 ro) ∧ Below wx.heap.size wx w') := by
        show ∀ wx, _
        intro wx hx
        rw [← HRO.out]
        exact lread26 t wx hx htl
      cases ro with
      | none =>
        have HP : Hid (parE l = ([], (done.length : Int) + 1, 20)) := by
          show _ = _
          rw [HT.out]
          cases ended
          · exact par_step_last hne HC.out
          · exact par_step_none HC.out HRO.out
        clear HT hne
        go_wp2_with (first
          | (go_at_call 30; go_must (refine (cut_below rest 10 _ (by omega)).mono ?_); rintro x w3 ⟨rfl, hb3⟩; go_must (rw [HC.out]; have HW3 : Hid (Below w.heap.size w w3) := HBW.out.trans (hb3.mono hsz); have HL3 : Hid (Laid w3) := laid_keeps _ _ HL.out HW3.out; clear hb3))
          | (go_at_call 31; go_must (refine (HRA.out _ HL3.out).mono ?_); rintro x w4 ⟨rfl, hb4⟩; go_must (simp only [readV26]; obtain ⟨X8, Y8, HX8, HY8, H8z, H8, HB8⟩ := new_box26 w4 En.nil; have HX8 := HX8.out; dsimp only [enC, En.nil] at HX8; have HX8 := keepG HX8; have HW4 : Hid (Below w.heap.size w w4) := HW3.out.trans (hb4.mono HW3.out.size); have HW8 : Hid (Below w.heap.size w Y8) := HW4.out.trans (HB8.out.mono HW4.out.size); clear hb4))
          | (rw [HX8.out])
          | ((with_reducible refine wpList_store_mid ?_ 36 (.tmp 10) (.tmp 25) ?_ w4.heap.size 0 (enC En.nil).toArray ?_ ?_ (thereEn H8z.out) (sizeEnA _) (oneEn _) ?_); rfl; rfl; rfl; rfl)
          | (rw [show X8.setCells w4.heap.size 0 (enC En.nil) = Y8 from HY8.out])
          | (rw [HY8.out]))
        try rw [show X8.setCells w4.heap.size 0 (enC En.nil) = Y8 from HY8.out]
        go_ret3
        exact ⟨.slice none 0 0, ret3v26 (by rw [HP.out]) (by rw [HP.out]), by rw [HP.out]; exact World.ownsRow_nil _ _ _ _, HW8.out⟩
      | some i =>
        cases ended
        · have HP : Hid (parE l = ([], (done.length : Int) + 1, 20)) := by show _ = _; rw [HT.out]; exact par_step_last hne HC.out
          clear HT hne
          go_wp2_with (first
            | (go_at_call 30; go_must (refine (cut_below rest 10 _ (by omega)).mono ?_); rintro x w3 ⟨rfl, hb3⟩; go_must (rw [HC.out]; have HW3 : Hid (Below w.heap.size w w3) := HBW.out.trans (hb3.mono hsz); have HL3 : Hid (Laid w3) := laid_keeps _ _ HL.out HW3.out; clear hb3))
            | (go_at_call 31; go_must (refine (HRA.out _ HL3.out).mono ?_); rintro x w4 ⟨rfl, hb4⟩; go_must (simp only [readV26]; obtain ⟨X8, Y8, HX8, HY8, H8z, H8, HB8⟩ := new_box26 w4 i; have HX8 := HX8.out; dsimp only [enC, En.nil] at HX8; have HX8 := keepG HX8; have HW4 : Hid (Below w.heap.size w w4) := HW3.out.trans (hb4.mono HW3.out.size); have HW8 : Hid (Below w.heap.size w Y8) := HW4.out.trans (HB8.out.mono HW4.out.size); clear hb4))
            | (rw [HX8.out])
            | ((with_reducible refine wpList_store_mid ?_ 36 (.tmp 10) (.tmp 25) ?_ w4.heap.size 0 (enC i).toArray ?_ ?_ (thereEn H8z.out) (sizeEnA _) (oneEn _) ?_); rfl; rfl; rfl; rfl)
            | (rw [show X8.setCells w4.heap.size 0 (enC i) = Y8 from HY8.out])
            | (rw [HY8.out]))
          try rw [show X8.setCells w4.heap.size 0 (enC i) = Y8 from HY8.out]
          go_ret3
          exact ⟨.slice none 0 0, ret3v26 (by rw [HP.out]) (by rw [HP.out]), by rw [HP.out]; exact World.ownsRow_nil _ _ _ _, HW8.out⟩
        · have HS := par_step_some (is := done) HC.out HRO.out
          have hlt := HS.2.1
          have hcnt := HS.2.2
          have HP : Hid (parE l = parF26 [] (done ++ [i]) behind) := by show _ = _; rw [HT.out]; exact HS.1
          clear HT hne HS
          go_wp2_with (first
            | (go_at_call 30; go_must (refine (cut_below rest 10 _ (by omega)).mono ?_); rintro x w3 ⟨rfl, hb3⟩; go_must (rw [HC.out]; have HW3 : Hid (Below w.heap.size w w3) := HBW.out.trans (hb3.mono hsz); have HL3 : Hid (Laid w3) := laid_keeps _ _ HL.out HW3.out; have HO3 := keepG (own_below HOW.out hb3 (Nat.le_refl _)); clear hb3 HOW))
            | (go_at_call 31; go_must (refine (HRA.out _ HL3.out).mono ?_); rintro x w4 ⟨rfl, hb4⟩; go_must (simp only [readV26]; obtain ⟨X8, Y8, HX8, HY8, H8z, H8, HB8⟩ := new_box26 w4 i; have HX8 := HX8.out; dsimp only [enC, En.nil] at HX8; have HX8 := keepG HX8; have HW4 : Hid (Below w.heap.size w w4) := HW3.out.trans (hb4.mono HW3.out.size); have HW8 : Hid (Below w.heap.size w Y8) := HW4.out.trans (HB8.out.mono HW4.out.size); have hown8 := own_below (own_below HO3.out hb4 (Nat.le_refl _)) HB8.out (Nat.le_refl _); have hz8 := HW8.out.size; clear hb4 HO3))
            | (rw [HX8.out])
            | ((with_reducible refine wpList_store_mid ?_ 36 (.tmp 10) (.tmp 25) ?_ w4.heap.size 0 (enC i).toArray ?_ ?_ (thereEn H8z.out) (sizeEnA _) (oneEn _) ?_); rfl; rfl; rfl; rfl)
            | (rw [show X8.setCells w4.heap.size 0 (enC i) = Y8 from HY8.out])
            | (rw [HY8.out])
            | ((with_reducible refine wpList_load_mid ?_ 36 (.tmp 10) ?_ w4.heap.size 0 ?_ (enC i) _ (enAt H8.out) Tryd.underlying36 ?_ (sizeEn _) ?_); rfl; rfl; rfl; rfl)
            | (at_builtin; go_must (refine wpList_append_own _ rfl (.tmp 34) (.tmp 36) 22 rfl w.heap.size 36 i0 (.agg (enC En.nil).toArray) 22 176 Tryd.underlying22 hi hz0 hz1 hz2 rfl (by decide) _ _ _ rfl (hown8.alloc _) ⟨_, 0, none⟩ 1 1 (flatG enC [i]) rfl rfl (one_en _ _ i _ (by simp)) (one_cellE _) (by unfold maxLen; omega) (by omega) (by simp; omega) ?_); intro v5 w5 hown5 hg5 _; go_must (have HW5 : Hid (Below w.heap.size w w5) := (HW8.out.alloc (by omega) _).grown hg5 (by simp; omega) (fun j hj => (hown8.lt j hj).1); clear hg5 hown8)))
          have HO : Hid (w5.ownsRow w.heap.size 36 22 v5 (done ++ [i]).length (flatG enC (done ++ [i]))) := by
            refine own_moreG ?_
            simpa [flatG] using hown5
          clear hown5
          go_roundw
          case rel => exact ⟨behind, done ++ [i], rfl, by simp, by omega, by simp; omega, HP.out, HO.out, HW5.out⟩
          case measure => rw [strLen_str, strLen_str]; exact hlt
theorem lparse26 (l : List UInt8) (w : World) (h : Laid w) (hl : l.length ≤ 4194304) : Calls Tryd.prog 16 #[.string (str l)] w fun r w' => ∃ v, r = .returned (.tuple #[v, .int .i64 (parE l).2.1, .int .i64 (parE l).2.2]) ∧ w'.ownsRow w.heap.size 36 22 v (parE l).1.length (flatG enC (parE l).1) ∧ Below w.heap.size w w' :=
  lparse_wide l w h (by omega) (by have := List.count_le_length (a := (10 : UInt8)) (l := l); omega)
end Go.Proofs.YtbfbfbbpajaclaaDoor
