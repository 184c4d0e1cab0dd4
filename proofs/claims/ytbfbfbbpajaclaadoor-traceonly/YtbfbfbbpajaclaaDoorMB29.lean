
/-
  What the document's Read does: a line's entry. Condition: the line is no greater than a string may be.
-/
import Derived.Test.YtbfbfbbpajaclaaDoorMB0
import Derived.Test.YtbfbfbbpajaclaaDoorMB28
namespace Go.Proofs.YtbfbfbbpajaclaaDoor
open Go.RowKit
set_option linter.unusedVariables false
set_option linter.unusedSimpArgs false
set_option maxRecDepth 100000
theorem wordsL_cons26 (l : List UInt8) : ∃ w ts, wordsL l = w :: ts := by
  have h : ∀ (l acc : List UInt8), ∃ w ts, wordsF acc l = w :: ts := by
    intro l
    induction l with
    | nil => intro acc; exact ⟨acc, [], rfl⟩
    | cons c r ih =>
      intro acc
      unfold wordsF
      split
      · exact ⟨acc, _, rfl⟩
      · exact ih _
  exact h l []
theorem wordsF_wlen26 : ∀ (l acc : List UInt8) (x : List UInt8), x ∈ wordsF acc l → x.length ≤ acc.length + l.length
  | [], acc, x, h => by simp [wordsF] at h; subst h; simp
  | c :: r, acc, x, h => by
    unfold wordsF at h
    split at h
    · rcases List.mem_cons.1 h with h | h
      · subst h; simp
      · have := wordsF_wlen26 r [] x h; simp at this ⊢; omega
    · have := wordsF_wlen26 r (acc ++ [c]) x h; simp at this ⊢; omega
theorem markF_none {w0 : List UInt8} : ∀ (k m : Nat), (∀ j, m ≤ j → j < m + k → nmE j ≠ w0) → markF w0 m k = none
  | 0, m, _ => rfl
  | k + 1, m, h => by unfold markF; rw [if_neg (h m (Nat.le_refl _) (by omega))]; exact markF_none k (m + 1) (fun j h1 h2 => h j (by omega) (by omega))
theorem markF_some {w0 : List UInt8} : ∀ (k m n : Nat), (∀ j, m ≤ j → j < n → nmE j ≠ w0) → m ≤ n → n < m + k → nmE n = w0 → markF w0 m k = some n
  | 0, m, n, _, h1, h2, _ => by omega
  | k + 1, m, n, h, h1, h2, h3 => by
    unfold markF
    by_cases e : m = n
    · subst e; rw [if_pos h3]
    · rw [if_neg (h m (Nat.le_refl _) (by omega))]
      exact markF_some k (m + 1) n (fun j a1 a2 => h j (by omega) a2) (by omega) (by omega) h3
theorem wp_seqO {P : Program} {x y : Code} {Q : Exit → Act → World → Prop} {a : Act} {w : World} (h : ∀ K : Act → World → Prop, (∀ a w, y.wp P Q a w → K a w) → x.wp P (Exit.then K Q) a w) : (Code.seq x y).wp P Q a w := wp_seq (h _ (fun _ _ q => q))
/-- What Read answers. -/
def ReadR (s : List UInt8) (r : Ending) : Prop := ∃ e : En, r = .returned (.tuple #[enV e, .bool (readE s).isSome]) ∧ ∀ q, readE s = some q → q = e
/-- An own row of strings that isn't empty. -/
theorem own_str26 {w : World} {B : Nat} {v : Value} {x : List UInt8} {xs : List (List UInt8)} (h : w.ownsRow B 9 1 v (x :: xs).length (strV (x :: xs))) : ∃ g c, v = .slice (some ⟨g, 0, none⟩) (x :: xs).length c ∧ (B ≤ g ∧ (x :: xs).length ≤ c ∧ c ≤ 9223372036854775807) ∧ Hid (∀ w', Below w.heap.size w w' → ∀ (j : Nat) y, (x :: xs)[j]? = some y → w'.cell? ⟨g, j, none⟩ = some (.string (str y))) := by
  have h0 := h
  rcases h with ⟨h1, ⟨rfl, h2⟩ | ⟨g, cap, cur, rfl, hb, hh, h3, h4, h5, h6⟩⟩
  · simp at h2
  · refine ⟨g, cap, rfl, ⟨hb, h3, by unfold maxLen at h4; omega⟩, fun w' hw' j y hy => ?_⟩
    have hlt : g < w.heap.size := (Array.getElem?_eq_some_iff.1 hh).1
    rw [hw'.cell (p := ⟨g, j, none⟩) hlt]
    have hc := h0.cells (g := g) rfl j (.string (str y)) (by simp only [strV, List.getElem?_map, hy]; rfl)
    rw [Addr.add_mid, Nat.zero_add] at hc
    exact hc
set_option maxHeartbeats 25600000 in
theorem read26 (l : List UInt8) (w : World) (hl : l.length ≤ 4194304) : Calls Tryd.prog 32 #[.string (str l)] w fun r w' => ReadR l r ∧ Below w.heap.size w w' := by
  obtain ⟨i0, hi, hz0, hz1, hz2⟩ := info_parts Tryd.infoStr
  obtain ⟨X, HX, HR0, HBX, HZX⟩ : ∃ X, Hid (w.alloc (.cells (enC En.nil).toArray 36) = X) ∧ Hid (Hp X w.heap.size 36 (enC En.nil)) ∧ Hid (Below w.heap.size w X) ∧ Hid (X.heap.size = w.heap.size + 1) := ⟨_, rfl, Hp.new w _ _, below_allocG _ _, by show _ = _; simp⟩
  have HX := HX.out
  dsimp only [enC, En.nil] at HX
  have HX := keepG HX
  have hzx := HZX.out
  go_enter Tryd.func32, Tryd.ntmps32
  go_wp2_with (rw [HX.out])
  go_loopw [4, 5, 6] (fun v f i wr => ∃ (k a : Nat) (done : List (List UInt8)), i = .int .i64 k ∧ f = .int .i64 a ∧ done.length ≤ k ∧ k ≤ l.length + 1 ∧ a ≤ k ∧ (k ≤ l.length → wordsL l = done ++ wordsF ((l.drop a).take (k - a)) (l.drop k)) ∧ (k = l.length + 1 → wordsL l = done) ∧ wr.ownsRow X.heap.size 9 1 v done.length (strV done) ∧ Below X.heap.size X wr) (fun _ _ i _ => l.length + 1 - (intOf i).toNat)
  case atStart => exact ⟨0, 0, [], rfl, rfl, by simp, by omega, by omega, fun _ => by simp [wordsL], fun h => by omega, World.ownsRow_nil _ _ _ _, Below.refl _ _⟩
  case round =>
    rename World => wr
    obtain ⟨k, a, done, rfl, rfl, hdk, hk, hak, hT, hE, hown, hbe⟩ := hrel
    have hsz := hbe.size
    by_cases hlt : k ≤ l.length
    · have HT : Hid (wordsL l = done ++ wordsF ((l.drop a).take (k - a)) (l.drop k)) := hT hlt
      have hcut := str_cut l a k
      clear hT hE
      by_cases hke : k = l.length
      · subst hke
        have HD : Hid (wordsL l = done ++ [(l.drop a).take (l.length - a)]) := by show _ = _; rw [HT.out, List.drop_length]; rfl
        obtain ⟨seg, HSEG⟩ : ∃ seg, Hid (seg = (l.drop a).take (l.length - a)) := ⟨_, rfl⟩
        rw [← HSEG.out] at hcut
        have HD : Hid (wordsL l = done ++ [seg]) := by show _ = _; rw [HD.out, HSEG.out]
        clear HT HSEG
        go_wp2_with (at_builtin; go_must (refine wpList_append_own _ rfl (.tmp 29) (.tmp 34) 55 rfl X.heap.size 9 i0 (.string ⟨#[]⟩) 1 16 Tryd.underlying55 hi hz0 hz1 hz2 rfl (by decide) _ _ _ rfl (hown.alloc _) ⟨_, 0, none⟩ 1 1 [.string (str seg)] rfl rfl (one_str _ _ _ _ (by first | rfl | simp)) (one_cellS _) (by unfold maxLen; omega) (by omega) (by simp; omega) ?_); intro v3 w3 hown3 hg3 _; go_must (have hB3 := (hbe.alloc (by omega) _).grown hg3 (by simp; omega) (fun j hj => (hown.lt j hj).1); clear hg3 hbe hown))
        have HO : Hid (w3.ownsRow X.heap.size 9 1 v3 (done ++ [seg]).length (strV (done ++ [seg]))) := by
          show w3.ownsRow _ _ _ _ _ _
          simpa [strV] using hown3
        clear hown3
        go_roundw
        case rel => exact ⟨l.length + 1, l.length + 1, done ++ [seg], by go_num, by go_num, by simp; omega, by omega, by omega, fun h => by omega, fun _ => HD.out, HO.out, hB3⟩
        case measure => simp [intOf]
      · have hkl : k < l.length := by omega
        have tke : ((k : Int) == (l.length : Int)) = false := by simp; omega
        obtain ⟨c, hc, HC, HDR⟩ : ∃ c, (str l)[k]'(hkl) = c ∧ Hid (l[k] = c) ∧ Hid (l.drop k = c :: l.drop (k + 1)) := ⟨_, rfl, rfl, by show _ = _; rw [List.drop_eq_getElem_cons hkl]; rfl⟩
        by_cases h32 : c = 32
        · subst h32
          obtain ⟨seg, HSEG⟩ : ∃ seg, Hid (seg = (l.drop a).take (k - a)) := ⟨_, rfl⟩
          rw [← HSEG.out] at hcut
          have HD : Hid (wordsL l = (done ++ [seg]) ++ wordsF ((l.drop (k + 1)).take (k + 1 - (k + 1))) (l.drop (k + 1))) := by
            show _ = _; rw [HT.out, HDR.out, ← HSEG.out]; simp [wordsF]
          clear HT HSEG HC HDR hke
          go_wp2_with (at_builtin; go_must (refine wpList_append_own _ rfl (.tmp 29) (.tmp 34) 55 rfl X.heap.size 9 i0 (.string ⟨#[]⟩) 1 16 Tryd.underlying55 hi hz0 hz1 hz2 rfl (by decide) _ _ _ rfl (hown.alloc _) ⟨_, 0, none⟩ 1 1 [.string (str seg)] rfl rfl (one_str _ _ _ _ (by first | rfl | simp)) (one_cellS _) (by unfold maxLen; omega) (by omega) (by simp; omega) ?_); intro v3 w3 hown3 hg3 _; go_must (have hB3 := (hbe.alloc (by omega) _).grown hg3 (by simp; omega) (fun j hj => (hown.lt j hj).1); clear hg3 hbe hown))
          have HO : Hid (w3.ownsRow X.heap.size 9 1 v3 (done ++ [seg]).length (strV (done ++ [seg]))) := by
            show w3.ownsRow _ _ _ _ _ _
            simpa [strV] using hown3
          clear hown3
          go_roundw
          case rel => exact ⟨k + 1, k + 1, done ++ [seg], by go_num, by go_num, by simp; omega, by omega, by omega, fun _ => HD.out, fun h => by omega, HO.out, hB3⟩
          case measure => simp [intOf]; omega
        · have t32 : ((c.toNat : Int) == 32) = false := by
            simp
            intro h
            exact h32 (UInt8.toNat_inj.1 (by show c.toNat = 32; omega))
          have HD : Hid (wordsL l = done ++ wordsF ((l.drop a).take (k + 1 - a)) (l.drop (k + 1))) := by
            show _ = _; rw [HT.out, HDR.out, seg_succ hak hkl HC.out]; simp only [wordsF]; rw [if_neg h32]
          clear HT HC HDR hke h32
          go_wp2_with fail
          go_roundw
          case rel => exact ⟨k + 1, a, done, by go_num, rfl, by omega, by omega, by omega, fun _ => HD.out, fun h => by omega, hown, hbe⟩
          case measure => simp [intOf]; omega
    · obtain ⟨w0, ts, HWS⟩ := wordsL_cons26 l
      have HWS := keepG HWS
      have HTL : Hid (∀ t ∈ w0 :: ts, t.length ≤ l.length) := by rw [← HWS.out]; exact fun t ht => by have := wordsF_wlen26 l [] t ht; simpa using this
      have hde : done = w0 :: ts := by rw [← hE (by omega)]; exact HWS.out
      subst hde
      have hwl : ts.length + 1 ≤ 4194305 := by have : (w0 :: ts).length ≤ k := hdk; simp at this; omega
      obtain ⟨g, gc, rfl, hgb, HRW⟩ := own_str26 hown
      have HRX := keepG (HR0.out.below hbe HR0.out.lt)
      have HBR : Hid (Below w.heap.size w wr) := HBX.out.trans (hbe.mono HBX.out.size)
      have hlen : (w0 :: ts).length = ts.length + 1 := rfl
      rw [hlen]
      clear hT hE hown hbe hdk
      go_wp2_with fail
      go_loopw [7] (fun mm wx => ∃ m : Nat, 1 ≤ m ∧ m ≤ 18 ∧ mm = .int .i64 m ∧ Hid (∀ j : Nat, 1 ≤ j → j < m → nmE j ≠ w0) ∧ Hid (Below wr.heap.size wr wx)) (fun mm _ => 18 - (intOf mm).toNat)
      case atStart => exact ⟨1, by omega, by omega, rfl, fun j h1 h2 => by omega, Below.refl _ _⟩
      case round =>
        rename World => wx
        obtain ⟨m, hm1, hm2, rfl, HNO, HBW⟩ := hrel
        have HRR := keepG (HRX.out.below HBW.out HRX.out.lt)
        have HBB : Hid (Below w.heap.size w wx) := HBR.out.trans (HBW.out.mono HBR.out.size)
        by_cases hm : m ≤ 17
        · have hmI : (m : Int) ≤ 17 := by omega
          have hr0 := HRW.out wx HBW.out 0 w0 rfl
          obtain ⟨nm, HNM⟩ : ∃ nm, Hid (nmE m = nm) := ⟨_, rfl⟩
          have HN := keepG (rname26 m wx.drew)
          rw [HNM.out] at HN
          by_cases he : nm = w0
          · have hneq : (nm == w0) = true := by rw [he]; simp
            have HMK : Hid (readE l = readM m ts l) := by
              show _ = _
              unfold readE
              rw [HWS.out]
              show (match markF w0 1 17 with | none => none | some m => readM m ts l) = _
              rw [markF_some 17 1 m (fun j h1 h2 => HNO.out j h1 h2) hm1 (by omega) (by rw [HNM.out]; exact he)]
            clear he
            go_wp2
            rename ∀ (a : Act) (w : World), Code.wp Tryd.prog (Code.seq (Code.region 13 _ _) _) _ a w → _ => hKR
            have HKR := keepG hKR
            clear hKR
            refine wp_region_held_drew (S := fun w' => w'.cell? ⟨g, 0, none⟩ = some (.string (str w0))) (by kernel_rfl) hr0 (fun hHeld => ?_)
            refine tkGo [0, 2, 3, 4] ?_
            repeat (refine tkO (v := ?_) rfl ?_ ?_; rotate_left; (intro wy hSw; (try dsimp only at hSw); go_simp; (first | done | with_reducible rfl)); try simp only [Act.put, p1q, p2q, p3q, p4q, p5q, p6q])
            refine tkEnd ?_
            refine runO 1 (by kernel_rfl) rfl (by rfl) (fun KK hK => ?_)
            go_simp
            go_at_call 10
            refine HN.out.mono ?_
            rintro e1 w4 ⟨rfl, hb4⟩
            have HBW4 := keepG (HBW.out.trans (((below_drG (Below.refl _ _)).trans hb4).mono HBW.out.size))
            have hr4 := HRW.out w4 HBW4.out 0 w0 rfl
            go_simp
            refine hK.out _ _ hr4 (fun hHeld => ?_)
            clear hK KK hb4 HN
            try simp only [Act.put, p1q, p2q, p3q, p4q, p5q, p6q]
            refine tkGo [5] ?_
            repeat (refine tkO (v := ?_) rfl ?_ ?_; rotate_left; (intro wy hSw; (try dsimp only at hSw); go_simp; (first | done | with_reducible rfl)); try simp only [Act.put, p1q, p2q, p3q, p4q, p5q, p6q])
            refine tkEnd ?_
            refine wpAnyH_done (by kernel_rfl) ?_ _
            go_wp2
            refine HKR.out _ _ ?_
            obtain ⟨X8, Y8, HX8, HY8, H8z, H8, HB8⟩ := new_en w4 (startM m false)
            have HX8 := HX8.out
            dsimp only [enC, En.nil] at HX8
            have HX8 := keepG HX8
            have HB48 : Hid (Below wr.heap.size wr Y8) := HBW4.out.trans (HB8.out.mono HBW4.out.size)
            refine wp_seqO (fun K1 hK1 => ?_)
            have HK1 := keepG hK1
            clear hK1
            go_wp2_with (first
              | (rw [HX8.out])
              | ((with_reducible refine wpList_store_mid ?_ 36 (.tmp 8) (.tmp 49) ?_ w4.heap.size 0 (enC (startM m false)).toArray ?_ ?_ (thereEn H8z.out) (sizeEnA _) (oneEn _) ?_); rfl; rfl; rfl; rfl)
              | (rw [HY8.out]))
            rw [show X8.setCells w4.heap.size 0 (enC (startM m false)) = Y8 from HY8.out]
            refine HK1.out _ _ ?_
            clear HK1
            refine wp_seqO (fun K2 hK2 => ?_)
            have HK2 := keepG hK2
            clear hK2
            go_wp2_with (go_at_call 20; go_must (refine (fields26 m false _).mono ?_); rintro e1 w5 ⟨rfl, rfl⟩)
            refine HK2.out _ _ ?_
            clear HK2
            refine wp_seqO (fun K3 hK3 => ?_)
            have HK3 := keepG hK3
            clear hK3
            obtain ⟨f1, HF1⟩ : ∃ f1, Hid (fldL m false = f1) := ⟨_, rfl⟩
            have hf1 : f1.length ≤ 14 := by rw [← HF1.out]; exact fldL_len _ _
            rw [HF1.out]
            have hgc2 : ts.length + 1 ≤ gc ∧ gc ≤ 9223372036854775807 := hgb.2
            have hz4 : w.heap.size < w4.heap.size := by have h1 := HBW4.out.size; have h2 := HRX.out.lt; omega
            have HTL2 : Hid (∀ t ∈ ts, t.length ≤ 4194304) := fun t ht => Nat.le_trans (HTL.out t (List.mem_cons_of_mem _ ht)) hl
            by_cases hA : ts.length + 1 = f1.length + 3
            rotate_left
            · have hAb : (((ts.length : Nat) : Int) + 1 == (f1.length : Int) + 3) = false := by simp; omega
              have hO : outB m ts = false := by unfold outB; rw [HF1.out, beq_eq_false_iff_ne.2 hA]; rfl
              have HO := keepG hO
              clear hA hO
              go_wp2
              have HRD : Hid (readE l = restE l f1 ts (startM m false)) := by show _ = _; rw [HMK.out, readM_rest, HO.out, HF1.out]
              have HRZ : Hid (∀ w', Below w4.heap.size Y8 w' → ∀ (j : Nat) x, (w0 :: ts)[j]? = some x → w'.cell? ⟨g, j, none⟩ = some (.string (str x))) := fun w' hb => HRW.out w' (HB48.out.trans (hb.mono HBW4.out.size))
              have HR2Z : Hid (Hp Y8 w.heap.size 36 (enC En.nil)) := HRX.out.below HB48.out HRX.out.lt
              have HBZ : Hid (Below w.heap.size w Y8) := HBR.out.trans (HB48.out.mono HBR.out.size)
              have hn8 := H8.out.lt
              refine HK3.out _ _ ?_
              refine wp_mono (by apply tail26 hl hwl (by first | exact hf1 | exact hf2) hgc2 hz4 hn8 HTL2 HRZ HR2Z H8 (startM_wf ⟨by omega, by omega⟩ false); kernel_rfl) (fun ex a w' h => ?_)
              cases ex with
              | ret =>
                obtain ⟨e, ok, h1, h2, h3, h4, h5, h6⟩ := h
                obtain ⟨tmps, defers⟩ := a
                obtain rfl : defers = [] := h1
                simp +zetaDelta only [Exit.inBlock, Exit.then]
                exact en_ret2 (n := w.heap.size) (e := e) rfl h2 h3 h4 ⟨⟨e, by rw [h5.1, HRD.out], fun q hq => h5.2 q (by rw [← HRD.out]; exact hq)⟩, HBZ.out.trans h6⟩
              | _ => exact h.elim

            · have hAb : (((ts.length : Nat) : Int) + 1 == (f1.length : Int) + 3) = true := by simp; omega
              have hO : outB m ts = inL26 f1 121 := by unfold outB; rw [HF1.out, hA]; simp
              have HO := keepG hO
              clear hA hO
              cases hin : inL26 f1 121
              · have HO2 : Hid (outB m ts = false) := HO.out.trans hin
                go_wp2_with (go_at_call 22; go_must (refine (has26 f1 121 _ (by omega)).mono ?_); rintro e1 w5 ⟨rfl, rfl⟩; go_must (rw [hin]))
                have HRD : Hid (readE l = restE l f1 ts (startM m false)) := by show _ = _; rw [HMK.out, readM_rest, HO2.out, HF1.out]
                have HRZ : Hid (∀ w', Below w4.heap.size Y8 w' → ∀ (j : Nat) x, (w0 :: ts)[j]? = some x → w'.cell? ⟨g, j, none⟩ = some (.string (str x))) := fun w' hb => HRW.out w' (HB48.out.trans (hb.mono HBW4.out.size))
                have HR2Z : Hid (Hp Y8 w.heap.size 36 (enC En.nil)) := HRX.out.below HB48.out HRX.out.lt
                have HBZ : Hid (Below w.heap.size w Y8) := HBR.out.trans (HB48.out.mono HBR.out.size)
                have hn8 := H8.out.lt
                refine HK3.out _ _ ?_
                refine wp_mono (by apply tail26 hl hwl (by first | exact hf1 | exact hf2) hgc2 hz4 hn8 HTL2 HRZ HR2Z H8 (startM_wf ⟨by omega, by omega⟩ false); kernel_rfl) (fun ex a w' h => ?_)
                cases ex with
                | ret =>
                  obtain ⟨e, ok, h1, h2, h3, h4, h5, h6⟩ := h
                  obtain ⟨tmps, defers⟩ := a
                  obtain rfl : defers = [] := h1
                  simp +zetaDelta only [Exit.inBlock, Exit.then]
                  exact en_ret2 (n := w.heap.size) (e := e) rfl h2 h3 h4 ⟨⟨e, by rw [h5.1, HRD.out], fun q hq => h5.2 q (by rw [← HRD.out]; exact hq)⟩, HBZ.out.trans h6⟩
                | _ => exact h.elim

              · have HO2 : Hid (outB m ts = true) := HO.out.trans hin
                obtain ⟨f2, HF2⟩ : ∃ f2, Hid (fldL m true = f2) := ⟨_, rfl⟩
                have hf2 : f2.length ≤ 14 := by rw [← HF2.out]; exact fldL_len _ _
                obtain ⟨Y9, HY9, H9, HB9⟩ : ∃ Y9, Hid (Y8.setCell ⟨w4.heap.size, 17, none⟩ (.bool true) = Y9) ∧ Hid (Hp Y9 w4.heap.size 36 (enC (startM m true))) ∧ Hid (Below wr.heap.size wr Y9) := ⟨_, rfl, H8.out.set 17 (.bool true), HB48.out.trans (grown_to_below (grown_set Y8 w4.heap.size 17 (.bool true)) HBW4.out.size HB48.out.size)⟩
                have c17 := H8.out.cell (j := 17) rfl
                have f17 := H8.out.frozen 17
                go_wp2_with (first
                  | (go_at_call 22; go_must (refine (has26 f1 121 _ (by omega)).mono ?_); rintro e1 w5 ⟨rfl, rfl⟩; go_must (rw [hin]))
                  | (rw [HY9.out])
                  | (go_at_call 20; go_must (refine (fields26 m true _).mono ?_); rintro e1 w6 ⟨rfl, rfl⟩; go_must (rw [HF2.out])))
                have HRD : Hid (readE l = restE l f2 ts (startM m true)) := by show _ = _; rw [HMK.out, readM_rest, HO2.out, HF2.out]
                have HRZ : Hid (∀ w', Below w4.heap.size Y9 w' → ∀ (j : Nat) x, (w0 :: ts)[j]? = some x → w'.cell? ⟨g, j, none⟩ = some (.string (str x))) := fun w' hb => HRW.out w' (HB9.out.trans (hb.mono HBW4.out.size))
                have HR2Z : Hid (Hp Y9 w.heap.size 36 (enC En.nil)) := HRX.out.below HB9.out HRX.out.lt
                have HBZ : Hid (Below w.heap.size w Y9) := HBR.out.trans (HB9.out.mono HBR.out.size)
                have hn8 := H9.out.lt
                refine HK3.out _ _ ?_
                refine wp_mono (by apply tail26 hl hwl (by first | exact hf1 | exact hf2) hgc2 hz4 hn8 HTL2 HRZ HR2Z H9 (startM_wf ⟨by omega, by omega⟩ true); kernel_rfl) (fun ex a w' h => ?_)
                cases ex with
                | ret =>
                  obtain ⟨e, ok, h1, h2, h3, h4, h5, h6⟩ := h
                  obtain ⟨tmps, defers⟩ := a
                  obtain rfl : defers = [] := h1
                  simp +zetaDelta only [Exit.inBlock, Exit.then]
                  exact en_ret2 (n := w.heap.size) (e := e) rfl h2 h3 h4 ⟨⟨e, by rw [h5.1, HRD.out], fun q hq => h5.2 q (by rw [← HRD.out]; exact hq)⟩, HBZ.out.trans h6⟩
                | _ => exact h.elim
          · have hneq : (nm == w0) = false := by simpa using he
            have HNO2 : Hid (∀ j : Nat, 1 ≤ j → j < m + 1 → nmE j ≠ w0) := fun j h1 h2 => by
              by_cases e : j = m
              · subst e; rw [HNM.out]; exact he
              · exact HNO.out j h1 (by omega)
            clear he
            go_wp2
            refine wp_region_held_drew (S := fun w' => w'.cell? ⟨g, 0, none⟩ = some (.string (str w0))) (by kernel_rfl) hr0 (fun hHeld => ?_)
            refine tkGo [0, 2, 3, 4] ?_
            repeat (refine tkO (v := ?_) rfl ?_ ?_; rotate_left; (intro wy hSw; (try dsimp only at hSw); go_simp; (first | done | with_reducible rfl)); try simp only [Act.put, p1q, p2q, p3q, p4q, p5q, p6q])
            refine tkEnd ?_
            refine runO 1 (by kernel_rfl) rfl (by rfl) (fun KK hK => ?_)
            go_simp
            go_at_call 10
            refine HN.out.mono ?_
            rintro e1 w4 ⟨rfl, hb4⟩
            have HBW4 := keepG (HBW.out.trans (((below_drG (Below.refl _ _)).trans hb4).mono HBW.out.size))
            have hr4 := HRW.out w4 HBW4.out 0 w0 rfl
            go_simp
            refine hK.out _ _ hr4 (fun hHeld => ?_)
            clear hK KK hb4 HN
            try simp only [Act.put, p1q, p2q, p3q, p4q, p5q, p6q]
            refine tkGo [5] ?_
            repeat (refine tkO (v := ?_) rfl ?_ ?_; rotate_left; (intro wy hSw; (try dsimp only at hSw); go_simp; (first | done | with_reducible rfl)); try simp only [Act.put, p1q, p2q, p3q, p4q, p5q, p6q])
            refine tkEnd ?_
            refine wpAnyH_done (by kernel_rfl) ?_ _
            go_wp2
            go_roundw
            case rel => exact ⟨m + 1, by omega, by omega, by go_num, HNO2.out, HBW4.out⟩
            case measure => simp [intOf]; omega
        · have hmI : ¬ (m : Int) ≤ 17 := by omega
          have HE : Hid (readE l = none) := by
            show _ = _
            unfold readE
            rw [HWS.out]
            show (match markF w0 1 17 with | none => none | some m => readM m ts l) = none
            rw [markF_none 17 1 (fun j h1 h2 => HNO.out j h1 (by omega))]
          obtain ⟨U, HU, H5, HBU⟩ : ∃ U, Hid (wx.setCells w.heap.size 0 (enC En.nil).toArray.toList = U) ∧ Hid (Hp U w.heap.size 36 (enC En.nil)) ∧ Hid (Below w.heap.size w U) := ⟨_, rfl, setsEn En.nil HRR.out, HBB.out.trans (grown_to_below (grown_sets w.heap.size (enC En.nil).toArray.toList _ 0) (Nat.le_refl _) HBB.out.size)⟩
          go_wp2_with (first
            | ((with_reducible refine wpList_store_mid ?_ 36 (.tmp 2) (.tmp 101) ?_ w.heap.size 0 (enC En.nil).toArray ?_ ?_ (thereEn HRR.out) (sizeEnA _) (oneEn _) ?_); rfl; rfl; rfl; rfl)
            | (rw [HU.out]))
          refine en_ret2 (n := w.heap.size) (e := En.nil) rfl rfl rfl H5.out ?_
          exact ⟨⟨En.nil, by rw [HE.out]; rfl, fun q hq => by rw [HE.out] at hq; cases hq⟩, HBU.out⟩
end Go.Proofs.YtbfbfbbpajaclaaDoor
