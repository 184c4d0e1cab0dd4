
/-
  What the landed Parse does: a text's entries, or the number of its first wrong line. Conditions: the listed variables read as they are laid; the text's length, and its lines' entries, are within the model's bounds.
-/
import Derived.Test.YtbfbfbbpajaclaaDoorT26Rd
import Derived.Test.YtbfbfbbpajaclaaDoorX26Text
namespace Go.Proofs.YtbfbfbbpajaclaaDoor
open Go.RowKit
set_option linter.unusedVariables false
set_option linter.unusedSimpArgs false
set_option maxRecDepth 100000
theorem parF26_last : ∀ (l acc : List UInt8) (is : List En), (∀ c ∈ l, c ≠ 10) → acc ++ l ≠ [] → parF26 acc is l = ([], (is.length : Int) + 1, 20)
  | [], acc, is, _, hne => by simp only [parF26]; rw [if_neg (by simpa using hne)]
  | c :: l, acc, is, h, hne => by
    have hc : c ≠ 10 := h c (by simp)
    simp only [parF26, if_neg hc]
    exact parF26_last l (acc ++ [c]) is (fun x hx => h x (by simp [hx])) (by simp)
theorem par_step_none {l behind t : List UInt8} {is : List En} (h : cutL 10 l = (t, behind, true)) (hr : readE t = none) : parF26 [] is l = ([], (is.length : Int) + 1, 20) := by
  have hs := cutL_split 10 l
  rw [h] at hs
  obtain ⟨h1, ⟨_, h2⟩ | ⟨h2, _⟩⟩ := hs
  · simp only at h1 h2
    rw [h2, parF26_line t [] is behind h1, List.nil_append, hr]
  · cases h2
theorem par_step_some {l behind t : List UInt8} {is : List En} {i : En} (h : cutL 10 l = (t, behind, true)) (hr : readE t = some i) : parF26 [] is l = parF26 [] (is ++ [i]) behind ∧ behind.length < l.length ∧ behind.count 10 + 1 ≤ l.count 10 := by
  have hs := cutL_split 10 l
  rw [h] at hs
  obtain ⟨h1, ⟨_, h2⟩ | ⟨h2, _⟩⟩ := hs
  · simp only at h1 h2
    refine ⟨?_, ?_, ?_⟩
    · rw [h2, parF26_line t [] is behind h1, List.nil_append, hr]
    · rw [h2]; simp; omega
    · rw [h2, List.count_append, List.count_cons_self]; omega
  · cases h2
theorem par_step_last {l behind t : List UInt8} {is : List En} (hne : l ≠ []) (h : cutL 10 l = (t, behind, false)) : parF26 [] is l = ([], (is.length : Int) + 1, 20) := by
  have hs := cutL_split 10 l
  rw [h] at hs
  obtain ⟨h1, ⟨h2, _⟩ | ⟨_, h2, _⟩⟩ := hs
  · cases h2
  · simp only at h1 h2
    subst h2
    exact parF26_last _ [] is h1 (by simpa using hne)
/-- How long a string is that a slot holds. -/
def strLen : Value → Nat
  | .string s => s.size
  | _ => 0
theorem strLen_str (l : List UInt8) : strLen (.string (str l)) = l.length := rfl
set_option maxHeartbeats 6400000 in
theorem lparse_wide (l : List UInt8) (w : World) (h : Laid w) (hl : l.length ≤ 140737488355328) (hn : l.count 10 * 176 ≤ 140737488355328) :
    Calls Tryd.prog 16 #[.string (str l)] w fun r w' => ∃ v, r = .returned (.tuple #[v, .int .i64 (parE l).2.1, .int .i64 (parE l).2.2]) ∧ w'.ownsRow w.heap.size 36 22 v (parE l).1.length (flatG enC (parE l).1) ∧ Below w.heap.size w w' := by
  have HL : Hid (Laid w) := h
  clear h
  obtain ⟨i0, hi, hz0, hz1, hz2⟩ := info_parts infoEn26
  go_enter Tryd.func16, Tryd.ntmps16
  go_wp2_with fail
  go_loopw [0, 5, 6] (fun s v n wr => ∃ (rest : List UInt8) (done : List En), s = .string (str rest) ∧ n = .int .i64 ((done.length : Int) + 1) ∧ rest.length ≤ l.length ∧ done.length + rest.count 10 ≤ l.count 10 ∧ Hid (parE l = parF26 [] done rest) ∧ Hid (wr.ownsRow w.heap.size 36 22 v done.length (flatG enC done)) ∧ Hid (Below w.heap.size w wr)) (fun s _ _ _ => strLen s)
  case atStart => exact ⟨l, [], rfl, rfl, Nat.le_refl _, by simp, rfl, World.ownsRow_nil _ _ _ _, Below.refl _ _⟩
  case round =>
    rename World => wr
    obtain ⟨rest, done, rfl, rfl, hrl, hdl, HT, HOW, HBW⟩ := hrel
    have hsz := HBW.out.size
    by_cases hne : rest = []
    · have HP : Hid (parE l = (done, 0, 0)) := by show _ = _; rw [HT.out, hne]; rfl
      have hq : (rest == []) = true := by simp [hne]
      clear HT hne
      obtain ⟨av, cv, hvs⟩ : ∃ av cv, u5 = .slice av done.length cv := by
        rcases HOW.out with ⟨_, ⟨rfl, h2⟩ | ⟨g, cap, cur, rfl, _⟩⟩
        · exact ⟨none, 0, by rw [h2]⟩
        · exact ⟨_, _, rfl⟩
      subst hvs
      go_wp2_with fail
      go_ret3
      exact ⟨.slice av done.length cv, ret3v26 (by rw [HP.out]) (by rw [HP.out]), by rw [HP.out]; exact HOW.out, HBW.out⟩
    · have hq : (rest == []) = false := by simp [hne]
      obtain ⟨t, behind, ended, HC, htl, hbl⟩ : ∃ t behind ended, Hid (cutL 10 rest = (t, behind, ended)) ∧ t.length ≤ 140737488355328 ∧ behind.length ≤ 140737488355328 := ⟨_, _, _, rfl, Nat.le_trans (cutL_len 10 rest).1 (by omega), Nat.le_trans (cutL_len 10 rest).2 (by omega)⟩
      have HLr : Hid (Laid wr) := laid_keeps _ _ HL.out HBW.out
      obtain ⟨ro, HRO⟩ : ∃ ro, Hid (readE t = ro) := ⟨_, rfl⟩
      have HRA : Hid (∀ wx, Laid wx → Calls Tryd.prog 31 #[.string (str t)] wx fun r w' => r = .returned (readV26 ro) ∧ Below wx.heap.size wx w') := by
        show ∀ wx, _
        intro wx hx
        rw [← HRO.out]
        exact lread26 t wx hx htl
      cases ro with
      | none =>
        have HP : Hid (parE l = ([], (done.length : Int) + 1, 20)) := by
          show _ = _
          rw [HT.out]
          cases ended
          · exact par_step_last hne HC.out
          · exact par_step_none HC.out HRO.out
        clear HT hne
        go_wp2_with (first
          | (go_at_call 30; go_must (refine (cut_below rest 10 _ (by omega)).mono ?_); rintro x w3 ⟨rfl, hb3⟩; go_must (rw [HC.out]; have HW3 : Hid (Below w.heap.size w w3) := HBW.out.trans (hb3.mono hsz); have HL3 : Hid (Laid w3) := laid_keeps _ _ HL.out HW3.out; clear hb3))
          | (go_at_call 31; go_must (refine (HRA.out _ HL3.out).mono ?_); rintro x w4 ⟨rfl, hb4⟩; go_must (simp only [readV26]; obtain ⟨X8, Y8, HX8, HY8, H8z, H8, HB8⟩ := new_box26 w4 En.nil; have HX8 := HX8.out; dsimp only [enC, En.nil] at HX8; have HX8 := keepG HX8; have HW4 : Hid (Below w.heap.size w w4) := HW3.out.trans (hb4.mono HW3.out.size); have HW8 : Hid (Below w.heap.size w Y8) := HW4.out.trans (HB8.out.mono HW4.out.size); clear hb4))
          | (rw [HX8.out])
          | ((with_reducible refine wpList_store_mid ?_ 36 (.tmp 10) (.tmp 25) ?_ w4.heap.size 0 (enC En.nil).toArray ?_ ?_ (thereEn H8z.out) (sizeEnA _) (oneEn _) ?_); rfl; rfl; rfl; rfl)
          | (rw [show X8.setCells w4.heap.size 0 (enC En.nil) = Y8 from HY8.out])
          | (rw [HY8.out]))
        try rw [show X8.setCells w4.heap.size 0 (enC En.nil) = Y8 from HY8.out]
        go_ret3
        exact ⟨.slice none 0 0, ret3v26 (by rw [HP.out]) (by rw [HP.out]), by rw [HP.out]; exact World.ownsRow_nil _ _ _ _, HW8.out⟩
      | some i =>
        cases ended
        · have HP : Hid (parE l = ([], (done.length : Int) + 1, 20)) := by show _ = _; rw [HT.out]; exact par_step_last hne HC.out
          clear HT hne
          go_wp2_with (first
            | (go_at_call 30; go_must (refine (cut_below rest 10 _ (by omega)).mono ?_); rintro x w3 ⟨rfl, hb3⟩; go_must (rw [HC.out]; have HW3 : Hid (Below w.heap.size w w3) := HBW.out.trans (hb3.mono hsz); have HL3 : Hid (Laid w3) := laid_keeps _ _ HL.out HW3.out; clear hb3))
            | (go_at_call 31; go_must (refine (HRA.out _ HL3.out).mono ?_); rintro x w4 ⟨rfl, hb4⟩; go_must (simp only [readV26]; obtain ⟨X8, Y8, HX8, HY8, H8z, H8, HB8⟩ := new_box26 w4 i; have HX8 := HX8.out; dsimp only [enC, En.nil] at HX8; have HX8 := keepG HX8; have HW4 : Hid (Below w.heap.size w w4) := HW3.out.trans (hb4.mono HW3.out.size); have HW8 : Hid (Below w.heap.size w Y8) := HW4.out.trans (HB8.out.mono HW4.out.size); clear hb4))
            | (rw [HX8.out])
            | ((with_reducible refine wpList_store_mid ?_ 36 (.tmp 10) (.tmp 25) ?_ w4.heap.size 0 (enC i).toArray ?_ ?_ (thereEn H8z.out) (sizeEnA _) (oneEn _) ?_); rfl; rfl; rfl; rfl)
            | (rw [show X8.setCells w4.heap.size 0 (enC i) = Y8 from HY8.out])
            | (rw [HY8.out]))
          try rw [show X8.setCells w4.heap.size 0 (enC i) = Y8 from HY8.out]
          go_ret3
          exact ⟨.slice none 0 0, ret3v26 (by rw [HP.out]) (by rw [HP.out]), by rw [HP.out]; exact World.ownsRow_nil _ _ _ _, HW8.out⟩
        · have HS := par_step_some (is := done) HC.out HRO.out
          have hlt := HS.2.1
          have hcnt := HS.2.2
          have HP : Hid (parE l = parF26 [] (done ++ [i]) behind) := by show _ = _; rw [HT.out]; exact HS.1
          clear HT hne HS
          go_wp2_with (first
            | (go_at_call 30; go_must (refine (cut_below rest 10 _ (by omega)).mono ?_); rintro x w3 ⟨rfl, hb3⟩; go_must (rw [HC.out]; have HW3 : Hid (Below w.heap.size w w3) := HBW.out.trans (hb3.mono hsz); have HL3 : Hid (Laid w3) := laid_keeps _ _ HL.out HW3.out; have HO3 := keepG (own_below HOW.out hb3 (Nat.le_refl _)); clear hb3 HOW))
            | (go_at_call 31; go_must (refine (HRA.out _ HL3.out).mono ?_); rintro x w4 ⟨rfl, hb4⟩; go_must (simp only [readV26]; obtain ⟨X8, Y8, HX8, HY8, H8z, H8, HB8⟩ := new_box26 w4 i; have HX8 := HX8.out; dsimp only [enC, En.nil] at HX8; have HX8 := keepG HX8; have HW4 : Hid (Below w.heap.size w w4) := HW3.out.trans (hb4.mono HW3.out.size); have HW8 : Hid (Below w.heap.size w Y8) := HW4.out.trans (HB8.out.mono HW4.out.size); have hown8 := own_below (own_below HO3.out hb4 (Nat.le_refl _)) HB8.out (Nat.le_refl _); have hz8 := HW8.out.size; clear hb4 HO3))
            | (rw [HX8.out])
            | ((with_reducible refine wpList_store_mid ?_ 36 (.tmp 10) (.tmp 25) ?_ w4.heap.size 0 (enC i).toArray ?_ ?_ (thereEn H8z.out) (sizeEnA _) (oneEn _) ?_); rfl; rfl; rfl; rfl)
            | (rw [show X8.setCells w4.heap.size 0 (enC i) = Y8 from HY8.out])
            | (rw [HY8.out])
            | ((with_reducible refine wpList_load_mid ?_ 36 (.tmp 10) ?_ w4.heap.size 0 ?_ (enC i) _ (enAt H8.out) Tryd.underlying36 ?_ (sizeEn _) ?_); rfl; rfl; rfl; rfl)
            | (at_builtin; go_must (refine wpList_append_own _ rfl (.tmp 34) (.tmp 36) 22 rfl w.heap.size 36 i0 (.agg (enC En.nil).toArray) 22 176 Tryd.underlying22 hi hz0 hz1 hz2 rfl (by decide) _ _ _ rfl (hown8.alloc _) ⟨_, 0, none⟩ 1 1 (flatG enC [i]) rfl rfl (one_en _ _ i _ (by simp)) (one_cellE _) (by unfold maxLen; omega) (by omega) (by simp; omega) ?_); intro v5 w5 hown5 hg5 _; go_must (have HW5 : Hid (Below w.heap.size w w5) := (HW8.out.alloc (by omega) _).grown hg5 (by simp; omega) (fun j hj => (hown8.lt j hj).1); clear hg5 hown8)))
          have HO : Hid (w5.ownsRow w.heap.size 36 22 v5 (done ++ [i]).length (flatG enC (done ++ [i]))) := by
            refine own_moreG ?_
            simpa [flatG] using hown5
          clear hown5
          go_roundw
          case rel => exact ⟨behind, done ++ [i], rfl, by simp, by omega, by simp; omega, HP.out, HO.out, HW5.out⟩
          case measure => rw [strLen_str, strLen_str]; exact hlt
theorem lparse26 (l : List UInt8) (w : World) (h : Laid w) (hl : l.length ≤ 4194304) : Calls Tryd.prog 16 #[.string (str l)] w fun r w' => ∃ v, r = .returned (.tuple #[v, .int .i64 (parE l).2.1, .int .i64 (parE l).2.2]) ∧ w'.ownsRow w.heap.size 36 22 v (parE l).1.length (flatG enC (parE l).1) ∧ Below w.heap.size w w' :=
  lparse_wide l w h (by omega) (by have := List.count_le_length (a := (10 : UInt8)) (l := l); omega)
end Go.Proofs.YtbfbfbbpajaclaaDoor
