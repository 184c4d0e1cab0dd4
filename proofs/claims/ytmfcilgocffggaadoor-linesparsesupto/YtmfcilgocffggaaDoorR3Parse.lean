/-
  What the document's Parse does: a text's instructions, or the number of its first wrong line. Condition: the text is of four million bytes at most.
-/
import Derived.Test.YtmfcilgocffggaaDoorR3Reads
import Derived.Test.YtmfcilgocffggaaDoorL3Own
namespace Go.Proofs.YtmfcilgocffggaaDoor
open Go.RowKit
set_option linter.unusedVariables false
set_option linter.unusedSimpArgs false

set_option maxRecDepth 100000 in
set_option maxHeartbeats 4000000 in
theorem rparse_any (l : List UInt8) (w : World) (hl : l.length ≤ 4194304) : Calls Tryd.prog 14 #[.string (str l)] w fun e w' => ∃ v, e = .returned (.tuple #[v, .int .i64 (parseL l).2.1, .int .i64 (parseL l).2.2]) ∧ w'.ownsRow w.heap.size 32 5 v (parseL l).1.length (flat (parseL l).1) ∧ Below w.heap.size w w' := by
  obtain ⟨i0, hi, hz0, hz1, hz2⟩ := info_parts Tryd.infoInst3
  go_enter Tryd.func14, Tryd.ntmps14
  go_wp2_with fail
  go_loopw [5, 6, 7] (fun v f i wr => ∃ (k a : Nat) (done : List In), i = .int .i64 k ∧ f = .int .i64 a ∧ done.length ≤ k ∧ k ≤ l.length ∧ a ≤ k ∧ parseL l = parseF ((l.drop a).take (k - a)) done (l.drop k) ∧ wr.ownsRow w.heap.size 32 5 v done.length (flat done) ∧ Below w.heap.size w wr) (fun _ _ i _ => l.length - (intOf i).toNat)
  case atStart => exact ⟨0, 0, [], rfl, rfl, by simp, by omega, by omega, by simp [parseL], World.ownsRow_nil _ _ _ _, Below.refl _ _⟩
  case round =>
    obtain ⟨k, a, done, rfl, rfl, hdk, hk, hak, hT, hown, hbe⟩ := hrel
    have hsz := hbe.size
    have HT : Hid (parseL l = parseF ((l.drop a).take (k - a)) done (l.drop k)) := hT
    obtain ⟨av, cv, hvs⟩ : ∃ av cv, u5 = .slice av done.length cv := by
      rcases hown with ⟨_, ⟨rfl, h2⟩ | ⟨g, cap, cur, rfl, _⟩⟩
      · exact ⟨none, 0, by rw [h2]⟩
      · exact ⟨_, _, rfl⟩
    subst hvs
    clear hT
    by_cases hkl : k < l.length
    · obtain ⟨c, hc, HC, HDR⟩ : ∃ c, (str l)[k]'(hkl) = c ∧ Hid (l[k] = c) ∧ Hid (l.drop k = c :: l.drop (k + 1)) := ⟨_, rfl, rfl, by show _ = _; rw [List.drop_eq_getElem_cons hkl]; rfl⟩
      by_cases h10 : c = 10
      · subst h10
        obtain ⟨seg, HSEG, hsl⟩ : ∃ seg, Hid (seg = (l.drop a).take (k - a)) ∧ seg.length ≤ 4194304 := ⟨_, rfl, by simp; omega⟩
        have hcut := str_cut l a k
        rw [← HSEG.out] at hcut
        have HP : Hid (parseL l = (match readL seg with | none => ([], (done.length : Int) + 1, 20) | some i => parseF [] (done ++ [i]) (l.drop (k + 1)))) := by
          show _ = _; rw [HT.out, HDR.out, ← HSEG.out]; simp only [parseF]; rfl
        clear HT HC HDR HSEG
        cases hrd : readL seg with
        | none =>
          rw [hrd] at HP
          have HP : Hid (parseL l = ([], (done.length : Int) + 1, 20)) := HP
          go_wp2_with (go_at_call 24; go_must (refine (read_any seg _ hsl).mono ?_); rintro e w1 ⟨⟨⟨jo, jd, ja, jb, ji⟩, rfl, _⟩, hb1⟩; go_must (rw [hrd]; simp only [Option.isSome_none]; have hB1 := hbe.trans (hb1.mono hsz); clear hb1))
          go_ret3
          exact ⟨.slice none 0 0, ret3v (by rw [HP.out]) (by rw [HP.out]), by rw [HP.out]; exact World.ownsRow_nil _ _ _ _, hB1.alloc hB1.size _⟩
        | some i =>
          rw [hrd] at HP
          have HP : Hid (parseL l = parseF ((l.drop (k + 1)).take (k + 1 - (k + 1))) (done ++ [i]) (l.drop (k + 1))) := by show _ = _; rw [HP.out]; simp
          obtain ⟨jo, jd, ja, jb, ji⟩ := i
          have HRD : Hid (readL seg = some ⟨jo, jd, ja, jb, ji⟩) := hrd
          go_wp2_with (first
            | (go_at_call 24; go_must (refine (read_any seg _ hsl).mono ?_); rintro e w1 ⟨⟨j, rfl, hj⟩, hb1⟩; go_must (obtain rfl := hj _ HRD.out; rw [hrd]; simp only [Option.isSome_some]; have hB1 := hbe.trans (hb1.mono hsz); have hz1' := hb1.size; have hown1 := own_below hown hb1 (Nat.le_refl _); clear hb1 hj hbe hown))
            | (at_builtin; go_must (refine wpList_append_own _ rfl (.tmp 33) (.tmp 35) 22 rfl w.heap.size 32 i0 (instV 0 0 0 0 0) 5 40 Tryd.underlying22 hi hz0 hz1 hz2 rfl (by decide) _ _ _ rfl ((hown1.alloc _).alloc _) ⟨_, 0, none⟩ 1 1 (flat [In.mk jo jd ja jb ji]) rfl rfl (one_inst _ _ ⟨jo, jd, ja, jb, ji⟩ _ (by simp)) (flat_one _) (by unfold maxLen; omega) (by omega) (by simp; omega) ?_); intro v3 w3 hown3 hg3 _; go_must (have hB3 : Below w.heap.size w w3 := ((hB1.alloc (by omega) _).alloc (by simp; omega) _).grown hg3 (by simp; omega) (fun j hj => (hown1.lt j hj).1); clear hg3 hB1 hown1)))
          have HO : Hid (w3.ownsRow w.heap.size 32 5 v3 (done ++ [In.mk jo jd ja jb ji]).length (flat (done ++ [In.mk jo jd ja jb ji]))) := by
            show w3.ownsRow _ _ _ _ _ _
            rw [flat_app] at hown3
            simpa using hown3
          clear hown3
          go_roundw
          case rel => exact ⟨k + 1, k + 1, done ++ [In.mk jo jd ja jb ji], by go_num, by go_num, by simp; omega, by omega, by omega, HP.out, HO.out, hB3⟩
          case measure => simp [intOf]; omega
      · have t10 : ((c.toNat : Int) != 10) = true := by
          simp
          intro h
          exact h10 (UInt8.toNat_inj.1 (by show c.toNat = 10; omega))
        have HD : Hid (parseL l = parseF ((l.drop a).take (k + 1 - a)) done (l.drop (k + 1))) := by
          show _ = _; rw [HT.out, HDR.out, seg_succ hak hkl HC.out]; simp only [parseF]; rw [if_neg h10]
        clear HT HC HDR h10
        go_wp2_with fail
        go_roundw
        case rel => exact ⟨k + 1, a, done, by go_num, rfl, by omega, by omega, by omega, HD.out, hown, hbe⟩
        case measure => simp [intOf]; omega
    · obtain rfl : k = l.length := by omega
      by_cases hal : a < l.length
      · have HP : Hid (parseL l = ([], (done.length : Int) + 1, 20)) := by
          show _ = _; rw [HT.out, List.drop_length]; unfold parseF; rw [if_neg]
          intro h
          have := congrArg List.length h
          simp at this; omega
        clear HT
        go_wp2_with fail
        go_ret3
        exact ⟨.slice none 0 0, ret3v (by rw [HP.out]) (by rw [HP.out]), by rw [HP.out]; exact World.ownsRow_nil _ _ _ _, hbe⟩
      · have HP : Hid (parseL l = (done, 0, 0)) := by
          show _ = _; rw [HT.out, List.drop_length]; unfold parseF; rw [if_pos (by rw [show l.length - a = 0 by omega]; simp)]
        clear HT
        go_wp2_with fail
        go_ret3
        exact ⟨.slice av done.length cv, ret3v (by rw [HP.out]) (by rw [HP.out]), by rw [HP.out]; exact hown, hbe⟩
end Go.Proofs.YtmfcilgocffggaaDoor
