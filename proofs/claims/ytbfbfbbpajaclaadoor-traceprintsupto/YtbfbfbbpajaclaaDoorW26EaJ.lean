
/-
  Layer 26: TraceEach walked. Conditions: the listed variables read as they are laid; the entries' fields are of their kinds, and there are a million of them at most.
-/
import Derived.Test.YtbfbfbbpajaclaaDoorMB41
import Derived.Test.YtbfbfbbpajaclaaDoorMB42
namespace Go.Proofs.YtbfbfbbpajaclaaDoor
open Go.RowKit
set_option linter.unusedVariables false
set_option linter.unusedSimpArgs false
set_option maxRecDepth 100000
theorem printE_one (e : En) : printE [e] = if plainE e = true then (lineE e ++ [10], 0) else ([], 12) := by
  unfold printE textE
  by_cases h : plainE e = true
  · rw [if_pos (by simp [h]), if_pos h]; simp
  · rw [if_neg (by simp [h]), if_neg h]
/-- The marks below k, but one. -/
def othM (m : Int) (k : Nat) : List Int := ((List.range k).map (fun (n : Nat) => (n : Int))).filter (fun n => n != m)
theorem othM_more (m : Int) (k : Nat) : othM m (k + 1) = othM m k ++ (if ((k : Int) != m) = true then [(k : Int)] else []) := by
  unfold othM
  rw [List.range_succ, List.map_append, List.filter_append]
  congr 1
  by_cases h : ((k : Int) != m) = true
  · rw [if_pos h]; simp at h; simp [h]
  · rw [if_neg h]; simp at h; simp [h]
theorem othM_len (m : Int) (k : Nat) : (othM m k).length ≤ k := by
  unfold othM
  refine Nat.le_trans (List.length_filter_le _ _) ?_
  simp
theorem othM_mem (m : Int) {x : Int} (hx : 1 ≤ x ∧ x ≤ 17) : x ∈ othM m 20 ↔ x ≠ m := by
  unfold othM
  rw [List.mem_filter, List.mem_map]
  constructor
  · rintro ⟨_, h⟩; simpa using h
  · intro h
    exact ⟨⟨x.toNat, by simp; omega, by omega⟩, by simpa using h⟩
theorem each_count (m : Int) : ∀ xs : List En, (∀ e ∈ xs, plainE e = true) → (xs.filter fun e => decide (e.wh ∈ [m])).length + (xs.filter fun e => decide (e.wh ∈ othM m 20)).length = xs.length
  | [], _ => rfl
  | e :: xs, h => by
    have ih := each_count m xs (fun x hx => h x (by simp [hx]))
    have hm := othM_mem m (plain_mark (h e (by simp)))
    by_cases he : e.wh = m
    · have h1 : decide (e.wh ∈ [m]) = true := by simp [he]
      have h2 : decide (e.wh ∈ othM m 20) = false := by rw [decide_eq_false_iff_not, hm]; exact fun x => x he
      rw [List.filter_cons, List.filter_cons, if_pos h1, if_neg (by rw [h2]; decide), List.length_cons, List.length_cons]
      omega
    · have h1 : decide (e.wh ∈ [m]) = false := by simp [he]
      have h2 : decide (e.wh ∈ othM m 20) = true := by rw [decide_eq_true_iff, hm]; exact he
      rw [List.filter_cons, List.filter_cons, if_neg (by rw [h1]; decide), if_pos h2, List.length_cons, List.length_cons]
      omega
theorem nbC_len (x : Int) : (nbC x).length = 1 := rfl
theorem sum_is {a b n : Nat} (h : a + b = n) (hn : n ≤ 1048576) : wrap64 ((a : Int) + (b : Int)) = (n : Int) := by
  unfold wrap64
  omega
theorem infoMark26 : (Tryd.prog.info? 25).map (fun i => (i.zero, i.size, i.bytes)) = some (some (.int .i64 0), 1, 8) := by kernel_rfl
theorem one_nb26 (x : Int) : ∀ u ∈ [Value.int .i64 x], u.oneCell' = true := by intro u hu; simp at hu; subst hu; rfl
/-- A slice of one entry. -/
theorem one_box26 (w : World) (e : En) : ∃ X, Hid (w.alloc (.cells (enC e).toArray 36) = X) ∧ Hid (SeesG enC 22 En.nil X (.slice (some ⟨w.heap.size, 0, none⟩) 1 1) [e]) ∧ Hid (Below w.heap.size w X) :=
  ⟨_, rfl, SeesG.lit enC_len En.nil w 36 [e] _ 1 (by simp [flatG]) rfl (by simp), below_allocG _ _⟩
set_option maxHeartbeats 6400000 in
theorem each26 (v : Value) (xs : List En) (mark : Int) (w : World) (hs : SeesG enC 22 En.nil w v xs) (hwf : ∀ e ∈ xs, e.wf) (hx : xs.length ≤ 1048576) (h : Laid w) : Calls Tryd.prog 7 #[v, .int .i64 mark] w fun r w' => r = .returned (.bool true) ∧ Below w.heap.size w w' := by
  obtain ⟨i0, hi, hz0, hz1, hz2⟩ := info_parts infoMark26
  have HS := keepG hs
  have HWF := keepG hwf
  have HL : Hid (Laid w) := h
  obtain ⟨T, E, HQ⟩ : ∃ T E, Hid (printE xs = (T, E)) := ⟨_, _, rfl⟩
  obtain ⟨a, cap, rfl, hlc, hmx⟩ := hs.shape
  have HP : Hid (∀ wx, Below w.heap.size w wx → Calls Tryd.prog 12 #[.slice a xs.length cap] wx fun r w' => r = .returned (.tuple #[.string (str T), .int .i64 E]) ∧ Below wx.heap.size wx w') := by
    show ∀ wx, _
    intro wx hb
    have c := lprint26 _ xs wx (laid_keeps _ _ h hb) (hs.below hb (Nat.le_refl _)) hwf (by omega)
    rw [HQ.out] at c
    exact c
  clear hs hwf h
  go_enter Tryd.func7, Tryd.ntmps7
  go_wp2_with (first
    | (go_at_call 8; go_must (refine (awake26 _ HL.out).mono ?_); rintro x1 w1 ⟨rfl, hb1⟩; go_must (have HB1 := keepG hb1; clear hb1))
    | (go_at_call 12; go_must (refine (HP.out _ HB1.out).mono ?_); rintro x2 w2 ⟨rfl, hb2⟩; go_must (have HB2 := keepG (HB1.out.trans (hb2.mono HB1.out.size)); clear hb2)))
  go_loopw [7, 8] (fun s i wr => ∃ k : Nat, k ≤ xs.length ∧ i = .int .i64 k ∧ s = .string (str (textE (xs.take k))) ∧ Hid ((xs.take k).all plainE = true) ∧ Hid (Below w.heap.size w wr)) (fun _ i _ => xs.length - (intOf i).toNat)
  case atStart => exact ⟨0, by omega, rfl, rfl, rfl, HB2.out⟩
  case round =>
    rename World => wr
    obtain ⟨k, hk, rfl, rfl, HALL, HBW⟩ := hrel
    clear HB1 HB2
    by_cases hlt : k < xs.length
    · have hltI : (k : Int) < xs.length := by omega
      obtain ⟨p, off, ea, hat⟩ := enAt26 HS.out hlt
      subst ea
      obtain ⟨e, HE⟩ : ∃ e, Hid (xs.getD k En.nil = e) := ⟨_, rfl⟩
      have HR1 := keepG (hat wr e HBW.out HE.out)
      have hxk : xs[k] = e := by have h := HE.out; rw [List.getD_eq_getElem?_getD, List.getElem?_eq_getElem hlt] at h; exact h
      have HXK := keepG hxk
      have HMM : Hid (e ∈ xs) := by show _; rw [← hxk]; exact List.getElem_mem _
      have HT : Hid (textE (xs.take (k + 1)) = textE (xs.take k) ++ (lineE e ++ [10])) := by show _ = _; rw [textE_take hlt, HE.out]
      clear hat hxk
      obtain ⟨X, HX, HSX, HBX⟩ := one_box26 wr e
      have HX := HX.out
      dsimp only [enC] at HX
      have HX := keepG HX
      have HBz : Hid (Below w.heap.size w X) := HBW.out.trans (HBX.out.mono HBW.out.size)
      have HPX := keepG (lprint26 _ [e] X (laid_keeps _ _ HL.out HBz.out) HSX.out (fun x hx => by simp only [List.mem_cons, List.not_mem_nil, or_false] at hx; subst hx; exact HWF.out x HMM.out) (by simp))
      rw [printE_one] at HPX
      obtain ⟨pb, HPB⟩ : ∃ pb, Hid (plainE e = pb) := ⟨_, rfl⟩
      obtain ⟨tx, HTX⟩ : ∃ tx, Hid (textE (xs.take k) = tx) := ⟨_, rfl⟩
      have htl : tx.length ≤ k * 332 := by
        rw [← HTX.out]
        have := textE_len (xs.take k)
        rw [List.length_take, Nat.min_eq_left (by omega)] at this
        exact this
      rw [HTX.out] at HT ⊢
      rw [HPB.out] at HPX
      cases pb
      · have HNO : Hid (printE xs = ([], 12)) := by show _ = _; unfold printE; rw [if_neg (by rw [all_stop HMM.out HPB.out]; simp)]
        have hTE := HQ.out.symm.trans HNO.out
        injection hTE with hT hE
        subst hT
        subst hE
        go_wp2_with (first
          | ((with_reducible refine wpList_load_mid ?_ 36 (.tmp 31) ?_ p (off + k * 22) ?_ (enC e) _ HR1.out Tryd.underlying36 ?_ (sizeEn _) ?_); rfl; rfl; rfl; rfl)
          | (rw [HX.out])
          | (go_at_call 12; go_must (refine HPX.out.mono ?_); rintro x5 w5 ⟨rfl, hb5⟩; go_must (have HW5 : Hid (Below w.heap.size w w5) := HBz.out.trans (hb5.mono HBz.out.size); clear hb5)))
        go_ret
        exact ⟨rfl, HW5.out⟩
      · have HN : Hid ((xs.take (k + 1)).all plainE = true) := all_take_one hlt HXK.out HALL.out HPB.out
        obtain ⟨ln, HLN, hll⟩ : ∃ ln, Hid (lineE e = ln) ∧ ln.length ≤ 331 := ⟨_, rfl, lineE_len e⟩
        rw [HLN.out] at HT HPX
        obtain ⟨lf, HLF, hlf⟩ : ∃ lf, Hid (ln ++ [10] = lf) ∧ lf.length ≤ 332 := ⟨ln ++ [10], rfl, by simp; omega⟩
        rw [HLF.out] at HT HPX
        go_wp2_with (first
          | ((with_reducible refine wpList_load_mid ?_ 36 (.tmp 31) ?_ p (off + k * 22) ?_ (enC e) _ HR1.out Tryd.underlying36 ?_ (sizeEn _) ?_); rfl; rfl; rfl; rfl)
          | (rw [HX.out])
          | (go_at_call 12; go_must (refine HPX.out.mono ?_); rintro x5 w5 ⟨rfl, hb5⟩; go_must (have HW5 : Hid (Below w.heap.size w w5) := HBz.out.trans (hb5.mono HBz.out.size); clear hb5)))
        go_roundw
        case rel => exact ⟨k + 1, by omega, by go_num, by rw [HT.out, str_app], HN.out, HW5.out⟩
        case measure => simp [intOf]; omega
    · obtain rfl : k = xs.length := by omega
      have HAL : Hid (xs.all plainE = true) := by have h := HALL.out; rw [List.take_length] at h; exact h
      have HTE : Hid (printE xs = (textE xs, 0)) := by show _ = _; unfold printE; rw [if_pos HAL.out]
      have hTE := HQ.out.symm.trans HTE.out
      injection hTE with hT hE
      subst hE
      rw [List.take_length, ← hT]
      have htt : (T == T) = true := by simp
      have HCNT := keepG (each_count mark xs (List.all_eq_true.1 HAL.out))
      clear hlt hk HTE HALL hT
      go_wp2_with fail
      go_loopw [11, 12] (fun u i wx => ∃ k : Nat, k ≤ 20 ∧ i = .int .i64 k ∧ Hid (wx.ownsRow w.heap.size 25 1 u (othM mark k).length (flatG nbC (othM mark k))) ∧ Hid (Below w.heap.size w wx)) (fun _ i _ => 20 - (intOf i).toNat)
      case atStart => exact ⟨0, by omega, rfl, World.ownsRow_nil _ _ _ _, HBW.out⟩
      case round =>
        rename World => wx
        obtain ⟨k, hk, rfl, HOW, HBX⟩ := hrel
        by_cases hlt : k < 20
        · have hltI : (k : Int) < 20 := by omega
          have HM := keepG (othM_more mark k)
          obtain ⟨D, HD, hdl⟩ : ∃ D, Hid (othM mark k = D) ∧ D.length ≤ k := ⟨_, rfl, othM_len _ _⟩
          rw [HD.out] at HOW HM
          obtain ⟨ne, HNE⟩ : ∃ ne, Hid (((k : Int) != mark) = ne) := ⟨_, rfl⟩
          rw [HNE.out] at HM
          have hne := HNE.out
          cases ne
          · have HN : Hid (othM mark (k + 1) = D) := by show _ = _; rw [HM.out]; simp
            go_wp2_with fail
            go_roundw
            case rel => exact ⟨k + 1, by omega, by go_num, by show World.ownsRow _ _ _ _ _ _ _; rw [HN.out]; exact HOW.out, HBX.out⟩
            case measure => simp [intOf]; omega
          · have HN : Hid (othM mark (k + 1) = D ++ [(k : Int)]) := by show _ = _; rw [HM.out]; simp
            have hz9 := HBX.out.size
            go_wp2_with (at_builtin; have hq := HOW; clear hq; go_must (refine wpList_append_own _ rfl (.tmp 55) (.tmp 57) 51 rfl w.heap.size 25 i0 (.int .i64 0) 1 8 Tryd.underlying51 hi hz0 hz1 hz2 rfl (by decide) _ _ _ rfl (HOW.out.alloc _) ⟨_, 0, none⟩ 1 1 [.int .i64 k] rfl rfl (cells_new _ [.int .i64 (k : Int)] _ _ (by simp)) (one_nb26 _) (by unfold maxLen; omega) (by omega) (by simp; omega) ?_); intro v6 w6 hown6 hg6 _; go_must (have HW6 : Hid (Below w.heap.size w w6) := (HBX.out.alloc HBX.out.size _).grown hg6 (by simp; omega) (fun j hj => (HOW.out.lt j hj).1); have HO6 := keepG hown6; clear hg6 hown6 HOW))
            have HO7 : Hid (w6.ownsRow w.heap.size 25 1 v6 (D ++ [(k : Int)]).length (flatG nbC (D ++ [(k : Int)]))) := by
              refine own_moreG ?_
              exact HO6.out
            go_roundw
            case rel => exact ⟨k + 1, by omega, by go_num, by show World.ownsRow _ _ _ _ _ _ _; rw [HN.out]; exact HO7.out, HW6.out⟩
            case measure => simp [intOf]; omega
        · obtain rfl : k = 20 := by omega
          have HSO := keepG (own_seesG nbC_len 0 HOW.out)
          have HSX := keepG (HS.out.below HBX.out (Nat.le_refl _))
          obtain ⟨Y, HY, HSY, HBY⟩ : ∃ Y, Hid (wx.alloc (.cells #[.int .i64 mark] 25) = Y) ∧ Hid (SeesG nbC 1 0 Y (.slice (some ⟨wx.heap.size, 0, none⟩) 1 1) [mark]) ∧ Hid (Below wx.heap.size wx Y) := ⟨_, rfl, SeesG.lit nbC_len 0 wx 25 [mark] _ 1 rfl rfl (by simp), below_allocG _ _⟩
          have HON1 := keepG (lOnly26 _ _ xs [mark] Y HSY.out (HSX.out.below HBY.out (Nat.le_refl _)) (by omega))
          have HWY : Hid (Below w.heap.size w Y) := HBX.out.trans (HBY.out.mono HBX.out.size)
          obtain ⟨ao, co, hso⟩ := own_shape HOW.out
          subst hso
          go_wp2_with (first
            | (rw [HY.out])
            | (have hq := HON1; clear hq; go_at_call 18; go_must (refine HON1.out.mono ?_); rintro x7 w7 ⟨u7, rfl, ho7, hb7⟩; go_must (obtain ⟨a7, c7, rfl⟩ := own_shape ho7; have HB7 : Hid (Below wx.heap.size wx w7) := HBY.out.trans (hb7.mono HBY.out.size); have HW7 : Hid (Below w.heap.size w w7) := HWY.out.trans (hb7.mono HWY.out.size); have HON2 := keepG (lOnly26 _ _ xs (othM mark 20) w7 (HSO.out.below HB7.out (Nat.le_refl _)) (HSX.out.below HB7.out (Nat.le_refl _)) (by omega)); clear HON1 ho7 hb7))
            | (go_at_call 18; go_must (refine HON2.out.mono ?_); rintro x8 w8 ⟨u8, rfl, ho8, hb8⟩; go_must (obtain ⟨a8, c8, rfl⟩ := own_shape ho8; have HW8 : Hid (Below w.heap.size w w8) := HW7.out.trans (hb8.mono HW7.out.size); clear ho8 hb8)))
          go_ret
          refine ⟨retb26 (b := true) ?_, HW8.out⟩
          have hc := HCNT.out
          simp only [List.mem_singleton] at hc
          rw [beq_iff_eq]
          exact sum_is hc hx
theorem each_law26 (v : Value) (xs : List En) (mark : Int) (w : World) (hs : SeesG enC 22 En.nil w v xs) (hwf : ∀ e ∈ xs, e.wf) (hx : xs.length ≤ 1048576) (hb : -9223372036854775808 ≤ mark ∧ mark ≤ 9223372036854775807) (h : Laid w) : Calls Tryd.prog 7 #[v, .int .i64 mark] w fun r w' => r = .returned (.bool true) ∧ Below w.heap.size w w' := each26 v xs mark w hs hwf hx h
end Go.Proofs.YtbfbfbbpajaclaaDoor
