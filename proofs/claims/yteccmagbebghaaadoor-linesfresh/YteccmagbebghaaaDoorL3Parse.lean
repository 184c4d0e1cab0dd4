/-
  What the project's Parse does: the document's instructions of a text, or the number of its first wrong line. Conditions: the listed variables read as they are laid; the text's length is within the model's bounds.
-/
import Derived.Test.YteccmagbebghaaaDoorL3Read
import Derived.Test.YteccmagbebghaaaDoorL3Own
import Derived.Test.YteccmagbebghaaaDoorL3Laws
namespace Go.Proofs.YteccmagbebghaaaDoor
open Go.RowKit
set_option linter.unusedVariables false
set_option linter.unusedSimpArgs false
set_option maxRecDepth 100000

theorem parse_step_none {l behind t : List UInt8} {is : List In} (h : cutL 10 l = (t, behind, true)) (hr : readL t = none) : parseF [] is l = ([], (is.length : Int) + 1, 20) := by
  have hs := cutL_split 10 l
  rw [h] at hs
  obtain ⟨h1, ⟨_, h2⟩ | ⟨h2, _⟩⟩ := hs
  · simp only at h1 h2
    rw [h2, parseF_line t [] is behind h1, List.nil_append, hr]
  · cases h2
theorem parse_step_some {l behind t : List UInt8} {is : List In} {i : In} (h : cutL 10 l = (t, behind, true)) (hr : readL t = some i) : parseF [] is l = parseF [] (is ++ [i]) behind ∧ behind.length < l.length ∧ behind.count 10 + 1 ≤ l.count 10 := by
  have hs := cutL_split 10 l
  rw [h] at hs
  obtain ⟨h1, ⟨_, h2⟩ | ⟨h2, _⟩⟩ := hs
  · simp only at h1 h2
    refine ⟨?_, ?_, ?_⟩
    · rw [h2, parseF_line t [] is behind h1, List.nil_append, hr]
    · rw [h2]; simp; omega
    · rw [h2, List.count_append, List.count_cons_self]; omega
  · cases h2
theorem parse_step_last {l behind t : List UInt8} {is : List In} (hne : l ≠ []) (h : cutL 10 l = (t, behind, false)) : parseF [] is l = ([], (is.length : Int) + 1, 20) := by
  have hs := cutL_split 10 l
  rw [h] at hs
  obtain ⟨h1, ⟨h2, _⟩ | ⟨_, h2, _⟩⟩ := hs
  · cases h2
  · simp only at h1 h2
    subst h2
    exact parseF_last _ [] is h1 (by simpa using hne)

set_option maxHeartbeats 1600000 in
theorem lparse_wide (l : List UInt8) (w : World) (h : Laid w) (hl : l.length ≤ 140737488355328) (hn : l.count 10 * 40 ≤ 140737488355328) :
    Calls Tryd.prog 13 #[.string (str l)] w fun e w' => ∃ v, e = .returned (.tuple #[v, .int .i64 (parseL l).2.1, .int .i64 (parseL l).2.2]) ∧ w'.ownsRow w.heap.size 32 5 v (parseL l).1.length (flat (parseL l).1) ∧ Below w.heap.size w w' := by
  have HL : Hid (Laid w) := h
  clear h
  obtain ⟨i0, hi, hz0, hz1, hz2⟩ := info_parts Tryd.infoInst3
  go_enter Tryd.func13, Tryd.ntmps13
  go_wp2_with fail
  go_loopw [0, 5, 6] (fun s v n wr => ∃ (rest : List UInt8) (done : List In), s = .string (str rest) ∧ n = .int .i64 ((done.length : Int) + 1) ∧ rest.length ≤ l.length ∧ done.length + rest.count 10 ≤ l.count 10 ∧ parseL l = parseF [] done rest ∧ wr.ownsRow w.heap.size 32 5 v done.length (flat done) ∧ Below w.heap.size w wr) (fun s _ _ _ => strLen s)
  case atStart => exact ⟨l, [], rfl, rfl, Nat.le_refl _, by simp, rfl, World.ownsRow_nil _ _ _ _, Below.refl _ _⟩
  case round =>
    obtain ⟨rest, done, rfl, rfl, hrl, hdl, hT, hown, hbe⟩ := hrel
    have hsz := hbe.size
    have HT : Hid (parseL l = parseF [] done rest) := hT
    clear hT
    by_cases hne : rest = []
    · have HP : Hid (parseL l = (done, 0, 0)) := by show _ = _; rw [HT.out, hne]; rfl
      have hq : (rest == []) = true := by simp [hne]
      clear HT hne
      obtain ⟨av, cv, hvs⟩ : ∃ av cv, u5 = .slice av done.length cv := by
        rcases hown with ⟨_, ⟨rfl, h2⟩ | ⟨g, cap, cur, rfl, _⟩⟩
        · exact ⟨none, 0, by rw [h2]⟩
        · exact ⟨_, _, rfl⟩
      subst hvs
      go_wp2_with fail
      go_ret3
      exact ⟨.slice av done.length cv, ret3v (by rw [HP.out]) (by rw [HP.out]), by rw [HP.out]; exact hown, hbe⟩
    · have hq : (rest == []) = false := by simp [hne]
      obtain ⟨t, behind, ended, HC, htl, hbl⟩ : ∃ t behind ended, Hid (cutL 10 rest = (t, behind, ended)) ∧ t.length ≤ 140737488355328 ∧ behind.length ≤ 140737488355328 := ⟨_, _, _, rfl, Nat.le_trans (cutL_len 10 rest).1 (by omega), Nat.le_trans (cutL_len 10 rest).2 (by omega)⟩
      have HLr : Hid (Laid wr) := laid_keeps _ _ HL.out hbe
      cases hrd : tightL t with
      | none =>
        have HP : Hid (parseL l = ([], (done.length : Int) + 1, 20)) := by
          show _ = _
          rw [HT.out]
          cases ended
          · exact parse_step_last hne HC.out
          · exact parse_step_none HC.out (by rw [← tight_eq]; exact hrd)
        clear HT hne
        go_wp2_with (first
          | (go_at_call 22; go_must (refine (cut_below rest 10 _ HLr.out (by omega)).mono ?_); rintro e w3 ⟨rfl, hb3⟩; go_must (rw [HC.out]; have hbe3 := hbe.trans (hb3.mono hsz); clear hb3 hbe hown HLr))
          | (go_at_call 23; go_must (refine (lread_any t _ (laid_keeps _ _ HL.out hbe3) htl).mono ?_); rintro e w4 ⟨rfl, hb4⟩; go_must (rw [hrd]; simp only [readV]; have hbe4 := hbe3.trans (hb4.mono hbe3.size); clear hb4 hbe3)))
        go_ret3
        exact ⟨.slice none 0 0, ret3v (by rw [HP.out]) (by rw [HP.out]), by rw [HP.out]; exact World.ownsRow_nil _ _ _ _, hbe4.alloc hbe4.size _⟩
      | some i =>
        obtain ⟨jo, jd, ja, jb, ji⟩ := i
        cases ended
        · have HP : Hid (parseL l = ([], (done.length : Int) + 1, 20)) := by show _ = _; rw [HT.out]; exact parse_step_last hne HC.out
          clear HT hne
          go_wp2_with (first
            | (go_at_call 22; go_must (refine (cut_below rest 10 _ HLr.out (by omega)).mono ?_); rintro e w3 ⟨rfl, hb3⟩; go_must (rw [HC.out]; have hbe3 := hbe.trans (hb3.mono hsz); clear hb3 hbe hown HLr))
            | (go_at_call 23; go_must (refine (lread_any t _ (laid_keeps _ _ HL.out hbe3) htl).mono ?_); rintro e w4 ⟨rfl, hb4⟩; go_must (rw [hrd]; simp only [readV]; have hbe4 := hbe3.trans (hb4.mono hbe3.size); clear hb4 hbe3)))
          go_ret3
          exact ⟨.slice none 0 0, ret3v (by rw [HP.out]) (by rw [HP.out]), by rw [HP.out]; exact World.ownsRow_nil _ _ _ _, hbe4.alloc hbe4.size _⟩
        · have HS := parse_step_some (is := done) HC.out (i := ⟨jo, jd, ja, jb, ji⟩) (by rw [← tight_eq]; exact hrd)
          have hlt := HS.2.1
          have hcnt := HS.2.2
          have HP : Hid (parseL l = parseF [] (done ++ [In.mk jo jd ja jb ji]) behind) := by show _ = _; rw [HT.out]; exact HS.1
          clear HT hne HS
          go_wp2_with (first
            | (go_at_call 22; go_must (refine (cut_below rest 10 _ HLr.out (by omega)).mono ?_); rintro e w3 ⟨rfl, hb3⟩; go_must (rw [HC.out]; have hbe3 := hbe.trans (hb3.mono hsz); have hown3 := own_below hown hb3 (Nat.le_refl _); clear hb3 hbe hown HLr))
            | (go_at_call 23; go_must (refine (lread_any t _ (laid_keeps _ _ HL.out hbe3) htl).mono ?_); rintro e w4 ⟨rfl, hb4⟩; go_must (rw [hrd]; simp only [readV]; have hbe4 := hbe3.trans (hb4.mono hbe3.size); have hown4 := own_below hown3 hb4 (Nat.le_refl _); have hz4 : w.heap.size ≤ w4.heap.size := hbe4.size; clear hb4 hbe3 hown3))
            | (at_builtin; go_must (refine wpList_append_own _ rfl (.tmp 34) (.tmp 36) 22 rfl w.heap.size 32 i0 (instV 0 0 0 0 0) 5 40 Tryd.underlying22 hi hz0 hz1 hz2 rfl (by decide) _ _ _ rfl ((hown4.alloc _).alloc _) ⟨_, 0, none⟩ 1 1 (flat [In.mk jo jd ja jb ji]) rfl rfl (one_inst _ _ ⟨jo, jd, ja, jb, ji⟩ _ (by simp)) (flat_one _) (by unfold maxLen; omega) (by omega) (by simp; omega) ?_); intro v5 w5 hown5 hg5 _; go_must (have hB5 : Below w.heap.size w w5 := ((hbe4.alloc (by omega) _).alloc (by simp; omega) _).grown hg5 (by simp; omega) (fun j hj => (hown4.lt j hj).1); clear hg5 hbe4 hown4)))
          have HO : Hid (w5.ownsRow w.heap.size 32 5 v5 (done ++ [In.mk jo jd ja jb ji]).length (flat (done ++ [In.mk jo jd ja jb ji]))) := by
            show w5.ownsRow _ _ _ _ _ _
            rw [flat_app] at hown5
            simpa using hown5
          clear hown5
          go_roundw
          case rel => exact ⟨behind, done ++ [In.mk jo jd ja jb ji], rfl, by simp, by omega, by simp; omega, HP.out, HO.out, hB5⟩
          case measure => rw [strLen_str, strLen_str]; exact hlt
theorem lparse_any : ParsesLike Laid := fun l w h hl => lparse_wide l w h (by omega) (by have := List.count_le_length (a := (10 : UInt8)) (l := l); omega)
end Go.Proofs.YteccmagbebghaaaDoor
