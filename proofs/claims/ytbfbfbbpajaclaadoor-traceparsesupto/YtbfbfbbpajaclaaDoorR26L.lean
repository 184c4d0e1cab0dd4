
/-
  What the document's Parse does: a text's entries, or the number of its first wrong line. Condition: the text is of four million bytes at most.
-/
import Derived.Test.YtbfbfbbpajaclaaDoorR26I
namespace Go.Proofs.YtbfbfbbpajaclaaDoor
open Go.RowKit
set_option linter.unusedVariables false
set_option linter.unusedSimpArgs false
set_option maxRecDepth 100000
/-- A text read, line by line. -/
def parF26 (acc : List UInt8) (es : List En) : List UInt8 → List En × Int × Int
  | [] => if acc = [] then (es, 0, 0) else ([], (es.length : Int) + 1, 20)
  | c :: r => if c = 10 then (match readE acc with | none => ([], (es.length : Int) + 1, 20) | some e => parF26 [] (es ++ [e]) r) else parF26 (acc ++ [c]) es r
def parE (s : List UInt8) : List En × Int × Int := parF26 [] [] s
theorem ret3v26 {v : Value} {a a' b b' : Int} (h1 : a = a') (h2 : b = b') : Ending.returned (.tuple #[v, .int .i64 a, .int .i64 b]) = .returned (.tuple #[v, .int .i64 a', .int .i64 b']) := by rw [h1, h2]
theorem infoEn26 : (Tryd.prog.info? 36).map (fun i => (i.zero, i.size, i.bytes)) = some (some (.agg (enC En.nil).toArray), 22, 176) := by kernel_rfl
theorem one_en (w : World) (t : TypeId) (e : En) (n : Nat) (hn : n = w.heap.size) : ∀ j u, (flatG enC [e])[j]? = some u → (w.alloc (.cells (enC e).toArray t)).cell? ((⟨n, 0, none⟩ : Addr).add j) = some u := by
  intro j u hj
  refine cells_new w (enC e) t n hn j u ?_
  simpa [flatG] using hj
theorem one_cellE (e : En) : ∀ u ∈ flatG enC [e], u.oneCell' = true := by
  intro v hv
  rw [show flatG enC [e] = enC e by simp [flatG]] at hv
  have h := oneEn e
  rw [Array.all_eq_true_iff_forall_mem] at h
  exact h v (by simpa using hv)
set_option maxHeartbeats 6400000 in
theorem parse26 (l : List UInt8) (w : World) (hl : l.length ≤ 4194304) : Calls Tryd.prog 17 #[.string (str l)] w fun r w' => ∃ v, r = .returned (.tuple #[v, .int .i64 (parE l).2.1, .int .i64 (parE l).2.2]) ∧ w'.ownsRow w.heap.size 36 22 v (parE l).1.length (flatG enC (parE l).1) ∧ Below w.heap.size w w' := by
  obtain ⟨i0, hi, hz0, hz1, hz2⟩ := info_parts infoEn26
  go_enter Tryd.func17, Tryd.ntmps17
  go_wp2_with fail
  go_loopw [5, 6, 7] (fun v f i wr => ∃ (k a : Nat) (done : List En), i = .int .i64 k ∧ f = .int .i64 a ∧ done.length ≤ k ∧ k ≤ l.length ∧ a ≤ k ∧ parE l = parF26 ((l.drop a).take (k - a)) done (l.drop k) ∧ wr.ownsRow w.heap.size 36 22 v done.length (flatG enC done) ∧ Below w.heap.size w wr) (fun _ _ i _ => l.length - (intOf i).toNat)
  case atStart => exact ⟨0, 0, [], rfl, rfl, by simp, by omega, by omega, by simp [parE], World.ownsRow_nil _ _ _ _, Below.refl _ _⟩
  case round =>
    rename World => wr
    obtain ⟨k, a, done, rfl, rfl, hdk, hk, hak, hT, hown, hbe⟩ := hrel
    have hsz := hbe.size
    have HT : Hid (parE l = parF26 ((l.drop a).take (k - a)) done (l.drop k)) := hT
    obtain ⟨av, cv, hvs⟩ : ∃ av cv, u5 = .slice av done.length cv := by
      rcases hown with ⟨_, ⟨rfl, h2⟩ | ⟨g, cap, cur, rfl, _⟩⟩
      · exact ⟨none, 0, by rw [h2]⟩
      · exact ⟨_, _, rfl⟩
    subst hvs
    clear hT
    by_cases hkl : k < l.length
    · obtain ⟨c, hc, HC, HDR⟩ : ∃ c, (str l)[k]'(hkl) = c ∧ Hid (l[k] = c) ∧ Hid (l.drop k = c :: l.drop (k + 1)) := ⟨_, rfl, rfl, by show _ = _; rw [List.drop_eq_getElem_cons hkl]; rfl⟩
      by_cases h10 : c = 10
      · subst h10
        obtain ⟨seg, HSEG, hsl⟩ : ∃ seg, Hid (seg = (l.drop a).take (k - a)) ∧ seg.length ≤ 4194304 := ⟨_, rfl, by simp; omega⟩
        have hcut := str_cut l a k
        rw [← HSEG.out] at hcut
        have HP : Hid (parE l = (match readE seg with | none => ([], (done.length : Int) + 1, 20) | some i => parF26 [] (done ++ [i]) (l.drop (k + 1)))) := by
          show _ = _; rw [HT.out, HDR.out, ← HSEG.out]; simp only [parF26]; rfl
        clear HT HC HDR HSEG
        have HRA := keepG (read26 seg wr hsl)
        cases hrd : readE seg with
        | none =>
          rw [hrd] at HP
          have HP : Hid (parE l = ([], (done.length : Int) + 1, 20)) := HP
          have HRD := keepG hrd
          clear hrd
          go_wp2_with (first
            | (go_at_call 32; go_must (refine HRA.out.mono ?_); rintro x1 w1 ⟨⟨e, rfl, _⟩, hb1⟩; go_must (rw [HRD.out]; simp only [Option.isSome_none]; obtain ⟨X8, Y8, HX8, HY8, H8z, H8, HB8⟩ := new_en w1 e; have HX8 := HX8.out; dsimp only [enC, En.nil] at HX8; have HX8 := keepG HX8; have hB1 := hbe.trans (hb1.mono hsz); have hB8 := hB1.trans (HB8.out.mono hB1.size); clear hb1))
            | (rw [HX8.out])
            | ((with_reducible refine wpList_store_mid ?_ 36 (.tmp 8) (.tmp 26) ?_ w1.heap.size 0 (enC e).toArray ?_ ?_ (thereEn H8z.out) (sizeEnA _) (oneEn _) ?_); rfl; rfl; rfl; rfl)
            | (rw [HY8.out])
            | (rw [show X8.setCells w1.heap.size 0 (enC e) = Y8 from HY8.out]))
          try rw [show X8.setCells w1.heap.size 0 (enC e) = Y8 from HY8.out]
          go_ret3
          exact ⟨.slice none 0 0, ret3v26 (by rw [HP.out]) (by rw [HP.out]), by rw [HP.out]; exact World.ownsRow_nil _ _ _ _, hB8⟩
        | some i =>
          rw [hrd] at HP
          have HP : Hid (parE l = parF26 ((l.drop (k + 1)).take (k + 1 - (k + 1))) (done ++ [i]) (l.drop (k + 1))) := by show _ = _; rw [HP.out]; simp
          have HRD := keepG hrd
          clear hrd
          go_wp2_with (first
            | (go_at_call 32; go_must (refine HRA.out.mono ?_); rintro x1 w1 ⟨⟨e, rfl, hj⟩, hb1⟩; go_must (obtain rfl := hj _ HRD.out; rw [HRD.out]; simp only [Option.isSome_some]; obtain ⟨X8, Y8, HX8, HY8, H8z, H8, HB8⟩ := new_en w1 i; have HX8 := HX8.out; dsimp only [enC, En.nil] at HX8; have HX8 := keepG HX8; have hB1 := hbe.trans (hb1.mono hsz); have hz1' := hb1.size; have hown1 := own_below hown hb1 (Nat.le_refl _); have hB8 := hB1.trans (HB8.out.mono hB1.size); have hown8 := own_below hown1 HB8.out (Nat.le_refl _); have hz8 := HB8.out.size; clear hb1 hj hbe hown hown1))
            | (rw [HX8.out])
            | ((with_reducible refine wpList_store_mid ?_ 36 (.tmp 8) (.tmp 26) ?_ w1.heap.size 0 (enC i).toArray ?_ ?_ (thereEn H8z.out) (sizeEnA _) (oneEn _) ?_); rfl; rfl; rfl; rfl)
            | (rw [HY8.out])
            | ((with_reducible refine wpList_load_mid ?_ 36 (.tmp 8) ?_ w1.heap.size 0 ?_ (enC i) _ (enAt H8.out) Tryd.underlying36 ?_ (sizeEn _) ?_); rfl; rfl; rfl; rfl)
            | (at_builtin; go_must (refine wpList_append_own _ rfl (.tmp 33) (.tmp 35) 22 rfl w.heap.size 36 i0 (.agg (enC En.nil).toArray) 22 176 Tryd.underlying22 hi hz0 hz1 hz2 rfl (by decide) _ _ _ rfl (hown8.alloc _) ⟨_, 0, none⟩ 1 1 (flatG enC [i]) rfl rfl (one_en _ _ i _ (by simp)) (one_cellE _) (by unfold maxLen; omega) (by omega) (by simp; omega) ?_); intro v3 w3 hown3 hg3 _; go_must (have hB3 : Below w.heap.size w w3 := (hB8.alloc (by omega) _).grown hg3 (by simp; omega) (fun j hj => (hown8.lt j hj).1); clear hg3)))
          have HO : Hid (w3.ownsRow w.heap.size 36 22 v3 (done ++ [i]).length (flatG enC (done ++ [i]))) := by
            refine own_moreG ?_
            simpa [flatG] using hown3
          clear hown3
          go_roundw
          case rel => exact ⟨k + 1, k + 1, done ++ [i], by go_num, by go_num, by simp; omega, by omega, by omega, HP.out, HO.out, hB3⟩
          case measure => simp [intOf]; omega
      · have t10 : ((c.toNat : Int) != 10) = true := by
          simp
          intro h
          exact h10 (UInt8.toNat_inj.1 (by show c.toNat = 10; omega))
        have HD : Hid (parE l = parF26 ((l.drop a).take (k + 1 - a)) done (l.drop (k + 1))) := by
          show _ = _; rw [HT.out, HDR.out, seg_succ hak hkl HC.out]; simp only [parF26]; rw [if_neg h10]
        clear HT HC HDR h10
        go_wp2_with fail
        go_roundw
        case rel => exact ⟨k + 1, a, done, by go_num, rfl, by omega, by omega, by omega, HD.out, hown, hbe⟩
        case measure => simp [intOf]; omega
    · obtain rfl : k = l.length := by omega
      by_cases hal : a < l.length
      · have HP : Hid (parE l = ([], (done.length : Int) + 1, 20)) := by
          show _ = _; rw [HT.out, List.drop_length]; unfold parF26; rw [if_neg]
          intro h
          have := congrArg List.length h
          simp at this; omega
        clear HT
        go_wp2_with fail
        go_ret3
        exact ⟨.slice none 0 0, ret3v26 (by rw [HP.out]) (by rw [HP.out]), by rw [HP.out]; exact World.ownsRow_nil _ _ _ _, hbe⟩
      · have HP : Hid (parE l = (done, 0, 0)) := by
          show _ = _; rw [HT.out, List.drop_length]; unfold parF26; rw [if_pos (by rw [show l.length - a = 0 by omega]; simp)]
        clear HT
        go_wp2_with fail
        go_ret3
        exact ⟨.slice av done.length cv, ret3v26 (by rw [HP.out]) (by rw [HP.out]), by rw [HP.out]; exact hown, hbe⟩
end Go.Proofs.YtbfbfbbpajaclaaDoor
