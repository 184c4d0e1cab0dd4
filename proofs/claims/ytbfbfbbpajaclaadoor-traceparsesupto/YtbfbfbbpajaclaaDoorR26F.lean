
/-
  What the document's Print does: each entry's line and a line feed, if all are plain. Condition: the entries' fields are of their kinds, and their text is no greater than memory.
-/
import Derived.Test.YtbfbfbbpajaclaaDoorR26E
import Derived.Test.YtbfbfbbpajaclaaDoorKR3Print
namespace Go.Proofs.YtbfbfbbpajaclaaDoor
open Go.RowKit
set_option linter.unusedVariables false
set_option linter.unusedSimpArgs false
set_option maxRecDepth 100000
/-- An entry of a slice, cell by cell. -/
theorem enAt26 {w : World} {a : Option Addr} {n cap : Nat} {l : List En} (h : SeesG enC 22 En.nil w (.slice a n cap) l) {k : Nat} (hk : k < l.length) : ∃ p off, a = some ⟨p, off, none⟩ ∧ ∀ w' q, Below w.heap.size w w' → l.getD k En.nil = q → w'.rangeAt p (off + k * 22) (enC q) := by
  have hh := h
  obtain ⟨a', cap', ev, _, _, _, hat⟩ := h
  simp only [Value.slice.injEq] at ev
  obtain ⟨rfl, _, rfl⟩ := ev
  obtain ⟨p, off, rfl, hlt, hc⟩ := hat (fun e => by rw [e] at hk; simp at hk)
  refine ⟨p, off, rfl, fun w' q hb hq => ?_⟩
  subst hq
  intro j v hv
  have hj : j < 22 := (List.getElem?_eq_some_iff.1 hv).1
  rw [← hv, ← hc k hk j hj]
  exact hb.cell (p := ⟨p, off + k * 22 + j, none⟩) hlt
theorem textE_take {xs : List En} {k : Nat} (hk : k < xs.length) : textE (xs.take (k + 1)) = textE (xs.take k) ++ (lineE (xs.getD k En.nil) ++ [10]) := by
  rw [take_more xs hk rfl]
  unfold textE
  rw [List.flatMap_append]
  simp [List.getD, hk]
theorem lineE_len (e : En) : (lineE e).length ≤ 331 := by
  have h1 := nmE_len e.wh
  have h2 := fldL_len e.wh e.ou
  have h3 : ∀ f : List UInt8, (f.flatMap (wdE e)).length ≤ f.length * 23 := by
    intro f
    induction f with
    | nil => simp
    | cons c f ih => have := wdE_len e c; rw [List.flatMap_cons, List.length_append, List.length_cons]; omega
  have h4 := h3 (fldL e.wh e.ou)
  unfold lineE
  rw [List.length_append]
  omega
theorem textE_len (xs : List En) : (textE xs).length ≤ xs.length * 332 := by
  unfold textE
  induction xs with
  | nil => simp
  | cons x xs ih => have := lineE_len x; simp only [List.flatMap_cons, List.length_append, List.length_cons, List.length_nil]; omega
theorem all_take_one {α : Type} {p : α → Bool} {l : List α} {k : Nat} (hk : k < l.length) {c : α} (hc : l[k] = c) (h : (l.take k).all p = true) (h2 : p c = true) : (l.take (k + 1)).all p = true := by
  rw [take_more l hk hc, List.all_append, h]; simp [h2]
set_option maxHeartbeats 6400000 in
theorem print26 (v : Value) (xs : List En) (w : World) (hs : SeesG enC 22 En.nil w v xs) (hwf : ∀ e ∈ xs, e.wf) (hbytes : xs.length * 332 ≤ 140737488355328) : Calls Tryd.prog 13 #[v] w fun r w' => r = .returned (.tuple #[.string (str (printE xs).1), .int .i64 (printE xs).2]) ∧ Below w.heap.size w w' := by
  obtain ⟨i0, hi, hz0, hz1, hz2⟩ := info_parts Tryd.infoByte
  have HS := keepG hs
  have HW := keepG hwf
  obtain ⟨a, cap, rfl, hlc, hmx⟩ := hs.shape
  clear hs hwf
  go_enter Tryd.func13, Tryd.ntmps13
  go_wp2_with fail
  go_loopw [4, 5] (fun v i wr => ∃ k : Nat, k ≤ xs.length ∧ i = .int .i64 k ∧ Hid ((xs.take k).all plainE = true) ∧ wr.ownsRow w.heap.size 5 1 v (textE (xs.take k)).length (bytesV (textE (xs.take k))) ∧ Below w.heap.size w wr) (fun _ i _ => xs.length - (intOf i).toNat)
  case atStart => exact ⟨0, by omega, rfl, rfl, World.ownsRow_nil _ _ _ _, Below.refl _ _⟩
  case round =>
    rename World => wr
    obtain ⟨k, hk, rfl, HALL, hown, hbe⟩ := hrel
    have hsz := hbe.size
    by_cases hlt : k < xs.length
    · have hltI : (k : Int) < xs.length := by omega
      obtain ⟨p, off, ea, hat⟩ := enAt26 HS.out hlt
      subst ea
      have hmem : xs.getD k En.nil ∈ xs := by rw [List.getD_eq_getElem?_getD, List.getElem?_eq_getElem hlt]; simp
      obtain ⟨e, HE⟩ : ∃ e, Hid (xs.getD k En.nil = e) := ⟨_, rfl⟩
      have HLD : Hid (∀ w', Below w.heap.size w w' → w'.rangeAt p (off + k * 22) (enC e)) := fun w' hb => hat w' e hb HE.out
      have HR1 := keepG (HLD.out wr hbe)
      have hxk : xs[k] = e := by have h := HE.out; rw [List.getD_eq_getElem?_getD, List.getElem?_eq_getElem hlt] at h; exact h
      have HXK := keepG hxk
      rw [HE.out] at hmem
      have hew := HW.out e hmem
      have HEW := keepG hew
      have hlen := textE_len (xs.take k)
      rw [List.length_take] at hlen
      clear hat hxk hew hmem
      cases hr : plainE e
      · have HNO : Hid (printE xs = ([], 12)) := by
          show _ = _
          unfold printE
          rw [if_neg]
          rw [all_take_no hlt HXK.out hr]
          simp
        go_wp2_with (first
          | ((with_reducible refine wpList_load_mid ?_ 36 (.tmp 14) ?_ p (off + k * 22) ?_ (enC e) _ HR1.out Tryd.underlying36 ?_ (sizeEn e) ?_); rfl; rfl; rfl; rfl)
          | (go_at_call 11; go_must (refine (plain26 e HEW.out _).mono ?_); rintro e1 w5 ⟨rfl, hb5⟩; go_must (rw [hr]; have hB5 := hbe.trans (hb5.mono hsz); clear hb5)))
        go_ret2
        exact ⟨ret2si (by rw [HNO.out]) (by rw [HNO.out]), hB5⟩
      · obtain ⟨L, HL, hL80⟩ : ∃ L, Hid (lineE e = L) ∧ L.length ≤ 331 := ⟨_, rfl, lineE_len e⟩
        obtain ⟨B, HB, hBl, hown⟩ : ∃ B, Hid (textE (xs.take k) = B) ∧ B.length ≤ 140737488355328 - 332 ∧ wr.ownsRow w.heap.size 5 1 u4 B.length (bytesV B) := ⟨_, rfl, by omega, hown⟩
        have HT : Hid ((xs.take (k + 1)).all plainE = true) := all_take_one hlt HXK.out HALL.out hr
        have HP : Hid (textE (xs.take (k + 1)) = B ++ L ++ [10]) := by show _ = _; rw [textE_take hlt, HE.out, HB.out, HL.out, List.append_assoc]
        clear hlen
        go_wp2_with (first
          | ((with_reducible refine wpList_load_mid ?_ 36 (.tmp 14) ?_ p (off + k * 22) ?_ (enC e) _ HR1.out Tryd.underlying36 ?_ (sizeEn e) ?_); rfl; rfl; rfl; rfl)
          | ((with_reducible refine wpList_load_mid ?_ 36 (.tmp 21) ?_ p (off + k * 22) ?_ (enC e) _ HR5.out Tryd.underlying36 ?_ (sizeEn e) ?_); rfl; rfl; rfl; rfl)
          | (go_at_call 11; go_must (refine (plain26 e HEW.out _).mono ?_); rintro e1 w5 ⟨rfl, hb5⟩; go_must (rw [hr]; have hB5 := hbe.trans (hb5.mono hsz); have hown5 := own_below hown hb5 (Nat.le_refl _); have hz5 := hb5.size; have HR5 := keepG (HLD.out w5 hB5); clear hb5 hbe hown))
          | (go_at_call 28; go_must (refine (line26 e HEW.out _).mono ?_); rintro e1 w6 ⟨rfl, hb6⟩; go_must (rw [HL.out]; have hB6 := hB5.trans (hb6.mono (by omega)); have hown6 := own_below hown5 hb6 (Nat.le_refl _); have hz6 := hb6.size; clear hb6 hB5 hown5))
          | (at_builtin; have hq := hown6; clear hq; go_must (refine Lib.wpList_append_own_string _ rfl (.tmp 18) (.tmp 23) 62 9 rfl w.heap.size 5 i0 Tryd.underlying62 Tryd.underlying9 hi hz0 hz1 hz2 _ _ _ rfl hown6 (str L) rfl ?_ ?_ (by omega) ?_); (show B.length + L.length ≤ maxLen; unfold maxLen; omega); (show B.length + L.length ≤ 140737488355328; omega); intro v7 w7 hown7 hg7 _; go_must (rw [strCells_str, show (str L).size = L.length from rfl] at hown7; have hB7 := hB6.grown hg7 (by omega) (fun j hj => (hown6.lt j hj).1); have hz7 := hg7.size; clear hg7 hB6 hown6))
          | (at_builtin; have hq := hown7; clear hq; go_must (refine wpList_append_own _ rfl (.tmp 25) (.tmp 26) 62 rfl w.heap.size 5 i0 (.int .u8 0) 1 1 Tryd.underlying62 hi hz0 hz1 hz2 rfl (by decide) _ _ _ rfl (hown7.alloc _) ⟨_, 0, none⟩ 1 1 [.int .u8 10] rfl rfl (one_byte _ _ _ _ (by simp)) (one_cell8 _) (by unfold maxLen; omega) (by omega) (by simp; omega) ?_); intro v8 w8 hown8 hg8 _; go_must (have hB8 := (hB7.alloc (by omega) _).grown hg8 (by simp; omega) (fun j hj => (hown7.lt j hj).1); clear hg8 hB7 hown7)))
        have HO : Hid (w8.ownsRow w.heap.size 5 1 v8 (textE (xs.take (k + 1))).length (bytesV (textE (xs.take (k + 1))))) := by
          show w8.ownsRow _ _ _ _ _ _
          rw [HP.out]
          simpa [bytesV, Nat.add_assoc] using hown8
        clear hown8
        go_roundw
        case rel => exact ⟨k + 1, by omega, by go_num, HT.out, HO.out, hB8⟩
        case measure => simp [intOf]; omega
    · obtain rfl : k = xs.length := by omega
      have hall := HALL.out
      rw [List.take_length] at hall hown
      have HE : Hid (printE xs = (textE xs, 0)) := by show _ = _; unfold printE; rw [if_pos hall]
      have hcv := run_own_string (src := 62) (dst := 9) Tryd.underlying62 Tryd.underlying5 Tryd.underlying9 hown
      clear hall
      go_wp2
      go_ret2
      exact ⟨ret2si (by rw [HE.out]) (by rw [HE.out]), hbe⟩
end Go.Proofs.YtbfbfbbpajaclaaDoor
