
/-
  Layer 26: TraceBack walked. Conditions: the listed variables read as they are laid; the entries' fields are of their kinds; a million entries and a million bytes at most.
-/
import Derived.Test.YtbfbfbbpajaclaaDoorMB41
import Derived.Test.YtbfbfbbpajaclaaDoorT26ApJ
import Derived.Test.YtbfbfbbpajaclaaDoorMB32
namespace Go.Proofs.YtbfbfbbpajaclaaDoor
open Go.RowKit
set_option linter.unusedVariables false
set_option linter.unusedSimpArgs false
set_option maxRecDepth 100000
theorem textE_ge (xs : List En) : xs.length ≤ (textE xs).length := by
  unfold textE
  induction xs with
  | nil => simp
  | cons x xs ih => simp only [List.flatMap_cons, List.length_append, List.length_cons, List.length_nil]; omega
theorem parF26_num : ∀ (r acc : List UInt8) (is : List En), (parF26 acc is r).2.1 ≤ (is.length : Int) + r.length + 1
  | [], acc, is => by
    unfold parF26
    split
    · simp; omega
    · simp
  | c :: r, acc, is => by
    unfold parF26
    split
    · split
      · simp; omega
      · rename_i e _
        have := parF26_num r [] (is ++ [e])
        simp at this ⊢; omega
    · have := parF26_num r (acc ++ [c]) is
      simp at this ⊢; omega
theorem par_cases (s : List UInt8) : (∃ js, parE s = (js, 0, 0) ∧ s = textE js ∧ ∀ i ∈ js, plainE i = true ∧ i.wf) ∨ (∃ n, parE s = ([], n, 20) ∧ 1 ≤ n ∧ n ≤ (s.length : Int) + 1) := by
  rcases hp : parE s with ⟨js, n, c⟩
  rcases par26_err s with h | ⟨h1, h2, h3⟩
  · rw [hp] at h
    simp only at h
    subst h
    obtain ⟨rfl, h2, h3⟩ := par26_ok hp
    exact .inl ⟨js, rfl, h2, h3⟩
  · have h4 := parF26_num s [] []
    have h4 : (parE s).2.1 ≤ ([] : List En).length + s.length + 1 := h4
    rw [hp] at h1 h2 h3 h4
    simp only at h1 h2 h3 h4
    subst h1 h3
    exact .inr ⟨n, rfl, h2, by simpa using h4⟩
theorem print_plain {xs : List En} (h : xs.all plainE = true) : printE xs = (textE xs, 0) := by unfold printE; rw [if_pos h]
theorem print_not {xs : List En} (h : xs.all plainE = false) : printE xs = ([], 12) := by unfold printE; rw [if_neg (by simp [h])]
theorem sum_comm26 {n : Nat} {N : Int} (hn : n ≤ 1048576) (h1 : 1 ≤ N) (h2 : N ≤ 1048577) : (n : Int) + N = wrap64 (N + (n : Int)) := by
  unfold wrap64
  omega
set_option maxHeartbeats 6400000 in
theorem backPB (v : Value) (xs : List En) (s : List UInt8) (w : World) (hs : SeesG enC 22 En.nil w v xs) (hwf : ∀ e ∈ xs, e.wf) (hx : xs.length ≤ 1048576) (hsl : s.length ≤ 1048576) (h : Laid w) (hal : xs.all plainE = true) (N : Int) (hk : parE s = ([], N, 20)) (hN1 : 1 ≤ N) (hN2 : N ≤ 1048577) : Calls Tryd.prog 5 #[v, .string (str s)] w fun r w' => r = .returned (.bool true) ∧ Below w.heap.size w w' := by
  obtain ⟨i0, hi, hz0, hz1, hz2⟩ := info_parts infoEn26
  have HS := keepG hs
  have HWF := keepG hwf
  have HL : Hid (Laid w) := h
  obtain ⟨T, HT⟩ : ∃ T, Hid (textE xs = T) := ⟨_, rfl⟩
  have HQ : Hid (printE xs = (T, 0)) := by show _ = _; rw [print_plain hal, HT.out]
  have HPT : Hid (parE T = (xs, 0, 0)) := by show _ = _; rw [← HT.out]; exact par26_print (fun i hi => ⟨List.all_eq_true.1 hal i hi, hwf i hi⟩)
  have hTl : T.length ≤ xs.length * 332 := by rw [← HT.out]; exact textE_len xs
  have HJ : Hid (parE (T ++ s) = ([], (xs.length : Int) + N, 20)) := by
    have h := par26_join (t := s) HPT.out
    rw [hk, if_neg (by simp)] at h
    exact h
  have HK := keepG hk
  obtain ⟨a, cap, rfl, hlc, hmx⟩ := hs.shape
  have HP : Hid (∀ wx, Below w.heap.size w wx → Calls Tryd.prog 12 #[.slice a xs.length cap] wx fun r w' => r = .returned (.tuple #[.string (str T), .int .i64 0]) ∧ Below wx.heap.size wx w') := by
    show ∀ wx, _
    intro wx hb
    have c := lprint26 _ xs wx (laid_keeps _ _ h hb) (hs.below hb (Nat.le_refl _)) hwf (by omega)
    rw [HQ.out] at c
    exact c
  have HPA : Hid (∀ wx, Below w.heap.size w wx → Calls Tryd.prog 16 #[.string (str T)] wx fun r w' => ∃ u, r = .returned (.tuple #[u, .int .i64 0, .int .i64 0]) ∧ w'.ownsRow wx.heap.size 36 22 u xs.length (flatG enC xs) ∧ Below wx.heap.size wx w') := by
    show ∀ wx, _
    intro wx hb
    have c := lparse_wide T wx (laid_keeps _ _ h hb) (by first | omega | simp) (by have := List.count_le_length (a := (10 : UInt8)) (l := T); first | omega | simp)
    rw [HPT.out] at c
    exact c
  have HPS : Hid (∀ wx, Below w.heap.size w wx → Calls Tryd.prog 16 #[.string (str s)] wx fun r w' => ∃ u, r = .returned (.tuple #[u, .int .i64 N, .int .i64 20]) ∧ w'.ownsRow wx.heap.size 36 22 u ([] : List En).length (flatG enC ([] : List En)) ∧ Below wx.heap.size wx w') := by
    show ∀ wx, _
    intro wx hb
    have c := lparse_wide s wx (laid_keeps _ _ h hb) (by omega) (by have := List.count_le_length (a := (10 : UInt8)) (l := s); omega)
    rw [HK.out] at c
    exact c
  have HPJ : Hid (∀ wx, Below w.heap.size w wx → Calls Tryd.prog 16 #[.string (str T ++ str s)] wx fun r w' => ∃ u, r = .returned (.tuple #[u, .int .i64 ((xs.length : Int) + N), .int .i64 20]) ∧ w'.ownsRow wx.heap.size 36 22 u ([] : List En).length (flatG enC ([] : List En)) ∧ Below wx.heap.size wx w') := by
    show ∀ wx, _
    intro wx hb
    rw [str_app]
    have c := lparse_wide (T ++ s) wx (laid_keeps _ _ h hb) (by simp; omega) (by have := List.count_le_length (a := (10 : UInt8)) (l := T ++ s); simp at this ⊢; omega)
    rw [HJ.out] at c
    exact c
  have hsum := sum_comm26 (n := xs.length) (N := N) (by first | exact hx | simp) hN1 hN2
  have hcat : ¬ 9223372036854775807 < T.length + s.length := by omega
  clear hs hwf h hal hk
  go_enter Tryd.func5, Tryd.ntmps5
  go_wp2_with (first
    | (go_at_call 8; go_must (refine (awake26 _ HL.out).mono ?_); rintro x1 w1 ⟨rfl, hb1⟩; go_must (have HB1 := keepG hb1; clear hb1))
    | (have hq := HPA; clear hq; go_at_call 12; go_must (refine (HP.out _ HB1.out).mono ?_); rintro x2 w2 ⟨rfl, hb2⟩; go_must (have HB2 := keepG (HB1.out.trans (hb2.mono HB1.out.size)); clear hb2))
    | (have hq := HPA; clear hq; go_at_call 16; go_must (refine (HPA.out _ HB2.out).mono ?_); rintro x3 w3 ⟨u3, rfl, ho3, hb3⟩; go_must (obtain ⟨a3, c3, rfl⟩ := own_shape ho3; have HO3 := keepG (own_seesG enC_len En.nil ho3); have HB3 := keepG (HB2.out.trans (hb3.mono HB2.out.size)); have HSX := keepG (HS.out.below HB3.out (Nat.le_refl _)); clear ho3 hb3 HPA))
    | (have hq := HPS; clear hq; go_at_call 15; go_must (refine (logs26 _ _ xs _ HO3.out HSX.out).mono ?_); rintro x4 w4 ⟨rfl, hb4⟩; go_must (have HB4 := keepG (HB3.out.trans (hb4.mono HB3.out.size)); have HO4 := keepG (HO3.out.below hb4 (Nat.le_refl _)); clear hb4))
    | (have hq := HPS; clear hq; go_at_call 16; go_must (refine (HPS.out _ HB4.out).mono ?_); rintro x5 w5 ⟨u5, rfl, ho5, hb5⟩; go_must (obtain ⟨a5, c5, rfl⟩ := own_shape ho5; have HO5 := keepG (own_seesG enC_len En.nil ho5); have HB5 := keepG (HB4.out.trans (hb5.mono HB4.out.size)); have HO45 := keepG (HO4.out.below hb5 (Nat.le_refl _)); clear ho5 hb5 HPS))
    | (go_at_call 16; go_must (refine (HPJ.out _ HB5.out).mono ?_); rintro x6 w6 ⟨u6, rfl, ho6, hb6⟩; go_must (obtain ⟨a6, c6, rfl⟩ := own_shape ho6; have HB6 := keepG (HB5.out.trans (hb6.mono HB5.out.size)); clear ho6 hb6)))
  go_ret
  refine ⟨retb26 (b := true) ?_, HB6.out⟩
  simp
  try omega
set_option maxHeartbeats 6400000 in
theorem backPG (v : Value) (xs : List En) (s : List UInt8) (w : World) (hs : SeesG enC 22 En.nil w v xs) (hwf : ∀ e ∈ xs, e.wf) (hx : xs.length ≤ 1048576) (hsl : s.length ≤ 1048576) (h : Laid w) (hal : xs.all plainE = true) (ks : List En) (hk : parE s = (ks, 0, 0)) (hks : s = textE ks) (hkp : ∀ i ∈ ks, plainE i = true ∧ i.wf) : Calls Tryd.prog 5 #[v, .string (str s)] w fun r w' => r = .returned (.bool true) ∧ Below w.heap.size w w' := by
  obtain ⟨i0, hi, hz0, hz1, hz2⟩ := info_parts infoEn26
  have HS := keepG hs
  have HWF := keepG hwf
  have HL : Hid (Laid w) := h
  obtain ⟨T, HT⟩ : ∃ T, Hid (textE xs = T) := ⟨_, rfl⟩
  have HQ : Hid (printE xs = (T, 0)) := by show _ = _; rw [print_plain hal, HT.out]
  have HPT : Hid (parE T = (xs, 0, 0)) := by show _ = _; rw [← HT.out]; exact par26_print (fun i hi => ⟨List.all_eq_true.1 hal i hi, hwf i hi⟩)
  have hTl : T.length ≤ xs.length * 332 := by rw [← HT.out]; exact textE_len xs
  have HJ : Hid (parE (T ++ s) = (xs ++ ks, 0, 0)) := by
    have h := par26_join (t := s) HPT.out
    rw [hk, if_pos rfl] at h
    exact h
  have hkl : ks.length ≤ 1048576 := by have := textE_ge ks; rw [← hks] at this; omega
  have HPK : Hid (printE ks = (s, 0)) := by show _ = _; rw [print_plain (List.all_eq_true.2 fun i hi => (hkp i hi).1), ← hks]
  have HKW : Hid (∀ e ∈ ks, e.wf) := fun e he => (hkp e he).2
  have HK := keepG hk
  obtain ⟨a, cap, rfl, hlc, hmx⟩ := hs.shape
  have HP : Hid (∀ wx, Below w.heap.size w wx → Calls Tryd.prog 12 #[.slice a xs.length cap] wx fun r w' => r = .returned (.tuple #[.string (str T), .int .i64 0]) ∧ Below wx.heap.size wx w') := by
    show ∀ wx, _
    intro wx hb
    have c := lprint26 _ xs wx (laid_keeps _ _ h hb) (hs.below hb (Nat.le_refl _)) hwf (by omega)
    rw [HQ.out] at c
    exact c
  have HPA : Hid (∀ wx, Below w.heap.size w wx → Calls Tryd.prog 16 #[.string (str T)] wx fun r w' => ∃ u, r = .returned (.tuple #[u, .int .i64 0, .int .i64 0]) ∧ w'.ownsRow wx.heap.size 36 22 u xs.length (flatG enC xs) ∧ Below wx.heap.size wx w') := by
    show ∀ wx, _
    intro wx hb
    have c := lparse_wide T wx (laid_keeps _ _ h hb) (by first | omega | simp) (by have := List.count_le_length (a := (10 : UInt8)) (l := T); first | omega | simp)
    rw [HPT.out] at c
    exact c
  have HPS : Hid (∀ wx, Below w.heap.size w wx → Calls Tryd.prog 16 #[.string (str s)] wx fun r w' => ∃ u, r = .returned (.tuple #[u, .int .i64 0, .int .i64 0]) ∧ w'.ownsRow wx.heap.size 36 22 u ks.length (flatG enC ks) ∧ Below wx.heap.size wx w') := by
    show ∀ wx, _
    intro wx hb
    have c := lparse_wide s wx (laid_keeps _ _ h hb) (by omega) (by have := List.count_le_length (a := (10 : UInt8)) (l := s); omega)
    rw [HK.out] at c
    exact c
  have HPJ : Hid (∀ wx, Below w.heap.size w wx → Calls Tryd.prog 16 #[.string (str T ++ str s)] wx fun r w' => ∃ u, r = .returned (.tuple #[u, .int .i64 0, .int .i64 0]) ∧ w'.ownsRow wx.heap.size 36 22 u (xs ++ ks).length (flatG enC (xs ++ ks)) ∧ Below wx.heap.size wx w') := by
    show ∀ wx, _
    intro wx hb
    rw [str_app]
    have c := lparse_wide (T ++ s) wx (laid_keeps _ _ h hb) (by simp; omega) (by have := List.count_le_length (a := (10 : UInt8)) (l := T ++ s); simp at this ⊢; omega)
    rw [HJ.out] at c
    exact c
  have hcat : ¬ 9223372036854775807 < T.length + s.length := by omega
  clear hs hwf h hal hk hks hkp
  go_enter Tryd.func5, Tryd.ntmps5
  go_wp2_with (first
    | (go_at_call 8; go_must (refine (awake26 _ HL.out).mono ?_); rintro x1 w1 ⟨rfl, hb1⟩; go_must (have HB1 := keepG hb1; clear hb1))
    | (have hq := HPA; clear hq; go_at_call 12; go_must (refine (HP.out _ HB1.out).mono ?_); rintro x2 w2 ⟨rfl, hb2⟩; go_must (have HB2 := keepG (HB1.out.trans (hb2.mono HB1.out.size)); clear hb2))
    | (have hq := HPA; clear hq; go_at_call 16; go_must (refine (HPA.out _ HB2.out).mono ?_); rintro x3 w3 ⟨u3, rfl, ho3, hb3⟩; go_must (obtain ⟨a3, c3, rfl⟩ := own_shape ho3; have HO3 := keepG (own_seesG enC_len En.nil ho3); have HB3 := keepG (HB2.out.trans (hb3.mono HB2.out.size)); have HSX := keepG (HS.out.below HB3.out (Nat.le_refl _)); clear ho3 hb3 HPA))
    | (have hq := HPS; clear hq; go_at_call 15; go_must (refine (logs26 _ _ xs _ HO3.out HSX.out).mono ?_); rintro x4 w4 ⟨rfl, hb4⟩; go_must (have HB4 := keepG (HB3.out.trans (hb4.mono HB3.out.size)); have HO4 := keepG (HO3.out.below hb4 (Nat.le_refl _)); clear hb4))
    | (have hq := HPS; clear hq; go_at_call 16; go_must (refine (HPS.out _ HB4.out).mono ?_); rintro x5 w5 ⟨u5, rfl, ho5, hb5⟩; go_must (obtain ⟨a5, c5, rfl⟩ := own_shape ho5; have HO5 := keepG (own_seesG enC_len En.nil ho5); have HB5 := keepG (HB4.out.trans (hb5.mono HB4.out.size)); have HO45 := keepG (HO4.out.below hb5 (Nat.le_refl _)); clear ho5 hb5 HPS))
    | (go_at_call 12; go_must (have c := lprint26 _ ks _ (laid_keeps _ _ HL.out HB5.out) HO5.out HKW.out (by omega); rw [HPK.out] at c; refine c.mono ?_; clear c); rintro x6 w6 ⟨rfl, hb6⟩; go_must (have HB6 := keepG (HB5.out.trans (hb6.mono HB5.out.size)); have HO46 := keepG (HO45.out.below hb6 (Nat.le_refl _)); have HO56 := keepG (HO5.out.below hb6 (Nat.le_refl _)); clear hb6))
    | (go_at_call 16; go_must (refine (HPJ.out _ HB6.out).mono ?_); rintro x7 w7 ⟨u7, rfl, ho7, hb7⟩; go_must (have HO7 := keepG (own_seesG enC_len En.nil ho7); have HB7 := keepG (HB6.out.trans (hb7.mono HB6.out.size)); have HO47 := keepG (HO46.out.below hb7 (Nat.le_refl _)); have HO57 := keepG (HO56.out.below hb7 (Nat.le_refl _)); clear ho7 hb7; obtain ⟨Z, HZ, HOZ, HBZ, hzZ⟩ := own_zero26 w7 22 36; have HO4Z := keepG (HO47.out.below HBZ.out (Nat.le_refl _)); have HO5Z := keepG (HO57.out.below HBZ.out (Nat.le_refl _)); have HO7Z := keepG (HO7.out.below HBZ.out (Nat.le_refl _))))
    | (rw [HZ.out])
    | (have hq := HOZ; clear hq; at_builtin; go_must (refine wpList_append26 (by rfl) (.tmp 128) (.tmp 129) 22 rfl w7.heap.size 36 i0 (.agg (enC En.nil).toArray) 22 176 Tryd.underlying22 hi hz0 hz1 hz2 rfl (by decide) _ ([] : List En) rfl HOZ.out _ xs rfl enC_len HO4Z.out (flat_oneE _) (by unfold maxLen; simp; try omega) (by simp; try omega) hzZ ?_); intro v8 w8 hown8 hg8; go_must (have HC8 : Hid (Below w7.heap.size w7 w8) := HBZ.out.grown hg8 hzZ (fun j hj => by first | (have hj : w7.heap.size = j := Option.some.inj hj; omega)); have HO8 := keepG hown8; have HO58 := keepG (HO57.out.below HC8.out (Nat.le_refl _)); have HO78 := keepG (HO7.out.below HC8.out (Nat.le_refl _)); have hz8 := HC8.out.size; clear hown8 hg8 HOZ))
    | (at_builtin; go_must (refine wpList_append26 (by rfl) (.tmp 130) (.tmp 131) 22 rfl w7.heap.size 36 i0 (.agg (enC En.nil).toArray) 22 176 Tryd.underlying22 hi hz0 hz1 hz2 rfl (by decide) _ ([] ++ xs) rfl HO8.out _ ks rfl enC_len HO58.out (flat_oneE _) (by unfold maxLen; simp; try omega) (by simp; try omega) hz8 ?_); intro v9 w9 hown9 hg9; go_must (have HC9 : Hid (Below w7.heap.size w7 w9) := HC8.out.grown hg9 hz8 (fun j hj => (HO8.out.lt j hj).1); have HO9 : Hid (SeesG enC 22 En.nil w9 v9 (xs ++ ks)) := own_seesG enC_len En.nil hown9; have HO79 := keepG (HO7.out.below HC9.out (Nat.le_refl _)); have HB9 := keepG (HB7.out.trans (HC9.out.mono HB7.out.size)); clear hown9 hg9))
    | (go_at_call 15; go_must (refine (logs26 _ _ (xs ++ ks) _ HO79.out HO9.out).mono ?_); rintro x10 w10 ⟨rfl, hb10⟩; go_must (have HB10 := keepG (HB9.out.trans (hb10.mono HB9.out.size)); clear hb10)))
  go_ret
  exact ⟨rfl, HB10.out⟩
set_option maxHeartbeats 6400000 in
theorem backNB (v : Value) (xs : List En) (s : List UInt8) (w : World) (hs : SeesG enC 22 En.nil w v xs) (hwf : ∀ e ∈ xs, e.wf) (hx : xs.length ≤ 1048576) (hsl : s.length ≤ 1048576) (h : Laid w) (hal : xs.all plainE = false) (N : Int) (hk : parE s = ([], N, 20)) (hN1 : 1 ≤ N) (hN2 : N ≤ 1048577) : Calls Tryd.prog 5 #[v, .string (str s)] w fun r w' => r = .returned (.bool true) ∧ Below w.heap.size w w' := by
  obtain ⟨i0, hi, hz0, hz1, hz2⟩ := info_parts infoEn26
  have HS := keepG hs
  have HWF := keepG hwf
  have HL : Hid (Laid w) := h
  have HQ : Hid (printE xs = ([], 12)) := print_not hal
  have HPT : Hid (parE ([] : List UInt8) = ([], 0, 0)) := rfl
  have HJ : Hid (parE (([] : List UInt8) ++ s) = ([], (([] : List En).length : Int) + N, 20)) := by
    have h := par26_join (t := s) HPT.out
    rw [hk, if_neg (by simp)] at h
    exact h
  have HK := keepG hk
  obtain ⟨a, cap, rfl, hlc, hmx⟩ := hs.shape
  have HP : Hid (∀ wx, Below w.heap.size w wx → Calls Tryd.prog 12 #[.slice a xs.length cap] wx fun r w' => r = .returned (.tuple #[.string (str []), .int .i64 12]) ∧ Below wx.heap.size wx w') := by
    show ∀ wx, _
    intro wx hb
    have c := lprint26 _ xs wx (laid_keeps _ _ h hb) (hs.below hb (Nat.le_refl _)) hwf (by omega)
    rw [HQ.out] at c
    exact c
  have HPA : Hid (∀ wx, Below w.heap.size w wx → Calls Tryd.prog 16 #[.string (str [])] wx fun r w' => ∃ u, r = .returned (.tuple #[u, .int .i64 0, .int .i64 0]) ∧ w'.ownsRow wx.heap.size 36 22 u ([] : List En).length (flatG enC ([] : List En)) ∧ Below wx.heap.size wx w') := by
    show ∀ wx, _
    intro wx hb
    have c := lparse_wide ([] : List UInt8) wx (laid_keeps _ _ h hb) (by first | omega | simp) (by have := List.count_le_length (a := (10 : UInt8)) (l := ([] : List UInt8)); first | omega | simp)
    rw [HPT.out] at c
    exact c
  have HPS : Hid (∀ wx, Below w.heap.size w wx → Calls Tryd.prog 16 #[.string (str s)] wx fun r w' => ∃ u, r = .returned (.tuple #[u, .int .i64 N, .int .i64 20]) ∧ w'.ownsRow wx.heap.size 36 22 u ([] : List En).length (flatG enC ([] : List En)) ∧ Below wx.heap.size wx w') := by
    show ∀ wx, _
    intro wx hb
    have c := lparse_wide s wx (laid_keeps _ _ h hb) (by omega) (by have := List.count_le_length (a := (10 : UInt8)) (l := s); omega)
    rw [HK.out] at c
    exact c
  have HPJ : Hid (∀ wx, Below w.heap.size w wx → Calls Tryd.prog 16 #[.string (str [] ++ str s)] wx fun r w' => ∃ u, r = .returned (.tuple #[u, .int .i64 ((([] : List En).length : Int) + N), .int .i64 20]) ∧ w'.ownsRow wx.heap.size 36 22 u ([] : List En).length (flatG enC ([] : List En)) ∧ Below wx.heap.size wx w') := by
    show ∀ wx, _
    intro wx hb
    rw [str_app]
    have c := lparse_wide (([] : List UInt8) ++ s) wx (laid_keeps _ _ h hb) (by simp; omega) (by have := List.count_le_length (a := (10 : UInt8)) (l := ([] : List UInt8) ++ s); simp at this ⊢; omega)
    rw [HJ.out] at c
    exact c
  have HPN : Hid (∀ wx, Below w.heap.size w wx → Calls Tryd.prog 14 #[.slice a xs.length cap] wx fun r w' => r = .returned (.bool false) ∧ Below wx.heap.size wx w') := by
    show ∀ wx, _
    intro wx hb
    have c := lPlain26 _ xs wx (laid_keeps _ _ h hb) (hs.below hb (Nat.le_refl _))
    rw [hal] at c
    exact c
  have hsum := sum_comm26 (n := ([] : List En).length) (N := N) (by first | exact hx | simp) hN1 hN2
  have hcat : ¬ 9223372036854775807 < ([] : List UInt8).length + s.length := by simp; omega
  clear hs hwf h hal hk
  go_enter Tryd.func5, Tryd.ntmps5
  go_wp2_with (first
    | (go_at_call 8; go_must (refine (awake26 _ HL.out).mono ?_); rintro x1 w1 ⟨rfl, hb1⟩; go_must (have HB1 := keepG hb1; clear hb1))
    | (have hq := HPA; clear hq; go_at_call 12; go_must (refine (HP.out _ HB1.out).mono ?_); rintro x2 w2 ⟨rfl, hb2⟩; go_must (have HB2 := keepG (HB1.out.trans (hb2.mono HB1.out.size)); clear hb2))
    | (have hq := HPA; clear hq; go_at_call 16; go_must (refine (HPA.out _ HB2.out).mono ?_); rintro x3 w3 ⟨u3, rfl, ho3, hb3⟩; go_must (obtain ⟨a3, c3, rfl⟩ := own_shape ho3; have HO3 := keepG (own_seesG enC_len En.nil ho3); have HB3 := keepG (HB2.out.trans (hb3.mono HB2.out.size)); have HSX := keepG (HS.out.below HB3.out (Nat.le_refl _)); clear ho3 hb3 HPA))
    | (have hq := HPS; clear hq; go_at_call 14; go_must (refine (HPN.out _ HB3.out).mono ?_); rintro x4 w4 ⟨rfl, hb4⟩; go_must (have HB4 := keepG (HB3.out.trans (hb4.mono HB3.out.size)); have HO4 := keepG (HO3.out.below hb4 (Nat.le_refl _)); clear hb4))
    | (have hq := HPS; clear hq; go_at_call 16; go_must (refine (HPS.out _ HB4.out).mono ?_); rintro x5 w5 ⟨u5, rfl, ho5, hb5⟩; go_must (obtain ⟨a5, c5, rfl⟩ := own_shape ho5; have HO5 := keepG (own_seesG enC_len En.nil ho5); have HB5 := keepG (HB4.out.trans (hb5.mono HB4.out.size)); have HO45 := keepG (HO4.out.below hb5 (Nat.le_refl _)); clear ho5 hb5 HPS))
    | (go_at_call 16; go_must (refine (HPJ.out _ HB5.out).mono ?_); rintro x6 w6 ⟨u6, rfl, ho6, hb6⟩; go_must (obtain ⟨a6, c6, rfl⟩ := own_shape ho6; have HB6 := keepG (HB5.out.trans (hb6.mono HB5.out.size)); clear ho6 hb6)))
  go_ret
  refine ⟨retb26 (b := true) ?_, HB6.out⟩
  simp
  try omega
set_option maxHeartbeats 6400000 in
theorem backNG (v : Value) (xs : List En) (s : List UInt8) (w : World) (hs : SeesG enC 22 En.nil w v xs) (hwf : ∀ e ∈ xs, e.wf) (hx : xs.length ≤ 1048576) (hsl : s.length ≤ 1048576) (h : Laid w) (hal : xs.all plainE = false) (ks : List En) (hk : parE s = (ks, 0, 0)) (hks : s = textE ks) (hkp : ∀ i ∈ ks, plainE i = true ∧ i.wf) : Calls Tryd.prog 5 #[v, .string (str s)] w fun r w' => r = .returned (.bool true) ∧ Below w.heap.size w w' := by
  obtain ⟨i0, hi, hz0, hz1, hz2⟩ := info_parts infoEn26
  have HS := keepG hs
  have HWF := keepG hwf
  have HL : Hid (Laid w) := h
  have HQ : Hid (printE xs = ([], 12)) := print_not hal
  have HPT : Hid (parE ([] : List UInt8) = ([], 0, 0)) := rfl
  have HJ : Hid (parE (([] : List UInt8) ++ s) = (([] : List En) ++ ks, 0, 0)) := by
    have h := par26_join (t := s) HPT.out
    rw [hk, if_pos rfl] at h
    exact h
  have hkl : ks.length ≤ 1048576 := by have := textE_ge ks; rw [← hks] at this; omega
  have HPK : Hid (printE ks = (s, 0)) := by show _ = _; rw [print_plain (List.all_eq_true.2 fun i hi => (hkp i hi).1), ← hks]
  have HKW : Hid (∀ e ∈ ks, e.wf) := fun e he => (hkp e he).2
  have HK := keepG hk
  obtain ⟨a, cap, rfl, hlc, hmx⟩ := hs.shape
  have HP : Hid (∀ wx, Below w.heap.size w wx → Calls Tryd.prog 12 #[.slice a xs.length cap] wx fun r w' => r = .returned (.tuple #[.string (str []), .int .i64 12]) ∧ Below wx.heap.size wx w') := by
    show ∀ wx, _
    intro wx hb
    have c := lprint26 _ xs wx (laid_keeps _ _ h hb) (hs.below hb (Nat.le_refl _)) hwf (by omega)
    rw [HQ.out] at c
    exact c
  have HPA : Hid (∀ wx, Below w.heap.size w wx → Calls Tryd.prog 16 #[.string (str [])] wx fun r w' => ∃ u, r = .returned (.tuple #[u, .int .i64 0, .int .i64 0]) ∧ w'.ownsRow wx.heap.size 36 22 u ([] : List En).length (flatG enC ([] : List En)) ∧ Below wx.heap.size wx w') := by
    show ∀ wx, _
    intro wx hb
    have c := lparse_wide ([] : List UInt8) wx (laid_keeps _ _ h hb) (by first | omega | simp) (by have := List.count_le_length (a := (10 : UInt8)) (l := ([] : List UInt8)); first | omega | simp)
    rw [HPT.out] at c
    exact c
  have HPS : Hid (∀ wx, Below w.heap.size w wx → Calls Tryd.prog 16 #[.string (str s)] wx fun r w' => ∃ u, r = .returned (.tuple #[u, .int .i64 0, .int .i64 0]) ∧ w'.ownsRow wx.heap.size 36 22 u ks.length (flatG enC ks) ∧ Below wx.heap.size wx w') := by
    show ∀ wx, _
    intro wx hb
    have c := lparse_wide s wx (laid_keeps _ _ h hb) (by omega) (by have := List.count_le_length (a := (10 : UInt8)) (l := s); omega)
    rw [HK.out] at c
    exact c
  have HPJ : Hid (∀ wx, Below w.heap.size w wx → Calls Tryd.prog 16 #[.string (str [] ++ str s)] wx fun r w' => ∃ u, r = .returned (.tuple #[u, .int .i64 0, .int .i64 0]) ∧ w'.ownsRow wx.heap.size 36 22 u (([] : List En) ++ ks).length (flatG enC (([] : List En) ++ ks)) ∧ Below wx.heap.size wx w') := by
    show ∀ wx, _
    intro wx hb
    rw [str_app]
    have c := lparse_wide (([] : List UInt8) ++ s) wx (laid_keeps _ _ h hb) (by simp; omega) (by have := List.count_le_length (a := (10 : UInt8)) (l := ([] : List UInt8) ++ s); simp at this ⊢; omega)
    rw [HJ.out] at c
    exact c
  have HPN : Hid (∀ wx, Below w.heap.size w wx → Calls Tryd.prog 14 #[.slice a xs.length cap] wx fun r w' => r = .returned (.bool false) ∧ Below wx.heap.size wx w') := by
    show ∀ wx, _
    intro wx hb
    have c := lPlain26 _ xs wx (laid_keeps _ _ h hb) (hs.below hb (Nat.le_refl _))
    rw [hal] at c
    exact c
  have hcat : ¬ 9223372036854775807 < ([] : List UInt8).length + s.length := by simp; omega
  clear hs hwf h hal hk hks hkp
  go_enter Tryd.func5, Tryd.ntmps5
  go_wp2_with (first
    | (go_at_call 8; go_must (refine (awake26 _ HL.out).mono ?_); rintro x1 w1 ⟨rfl, hb1⟩; go_must (have HB1 := keepG hb1; clear hb1))
    | (have hq := HPA; clear hq; go_at_call 12; go_must (refine (HP.out _ HB1.out).mono ?_); rintro x2 w2 ⟨rfl, hb2⟩; go_must (have HB2 := keepG (HB1.out.trans (hb2.mono HB1.out.size)); clear hb2))
    | (have hq := HPA; clear hq; go_at_call 16; go_must (refine (HPA.out _ HB2.out).mono ?_); rintro x3 w3 ⟨u3, rfl, ho3, hb3⟩; go_must (obtain ⟨a3, c3, rfl⟩ := own_shape ho3; have HO3 := keepG (own_seesG enC_len En.nil ho3); have HB3 := keepG (HB2.out.trans (hb3.mono HB2.out.size)); have HSX := keepG (HS.out.below HB3.out (Nat.le_refl _)); clear ho3 hb3 HPA))
    | (have hq := HPS; clear hq; go_at_call 14; go_must (refine (HPN.out _ HB3.out).mono ?_); rintro x4 w4 ⟨rfl, hb4⟩; go_must (have HB4 := keepG (HB3.out.trans (hb4.mono HB3.out.size)); have HO4 := keepG (HO3.out.below hb4 (Nat.le_refl _)); clear hb4))
    | (have hq := HPS; clear hq; go_at_call 16; go_must (refine (HPS.out _ HB4.out).mono ?_); rintro x5 w5 ⟨u5, rfl, ho5, hb5⟩; go_must (obtain ⟨a5, c5, rfl⟩ := own_shape ho5; have HO5 := keepG (own_seesG enC_len En.nil ho5); have HB5 := keepG (HB4.out.trans (hb5.mono HB4.out.size)); have HO45 := keepG (HO4.out.below hb5 (Nat.le_refl _)); clear ho5 hb5 HPS))
    | (go_at_call 12; go_must (have c := lprint26 _ ks _ (laid_keeps _ _ HL.out HB5.out) HO5.out HKW.out (by omega); rw [HPK.out] at c; refine c.mono ?_; clear c); rintro x6 w6 ⟨rfl, hb6⟩; go_must (have HB6 := keepG (HB5.out.trans (hb6.mono HB5.out.size)); have HO46 := keepG (HO45.out.below hb6 (Nat.le_refl _)); have HO56 := keepG (HO5.out.below hb6 (Nat.le_refl _)); clear hb6))
    | (go_at_call 16; go_must (refine (HPJ.out _ HB6.out).mono ?_); rintro x7 w7 ⟨u7, rfl, ho7, hb7⟩; go_must (have HO7 := keepG (own_seesG enC_len En.nil ho7); have HB7 := keepG (HB6.out.trans (hb7.mono HB6.out.size)); have HO47 := keepG (HO46.out.below hb7 (Nat.le_refl _)); have HO57 := keepG (HO56.out.below hb7 (Nat.le_refl _)); clear ho7 hb7; obtain ⟨Z, HZ, HOZ, HBZ, hzZ⟩ := own_zero26 w7 22 36; have HO4Z := keepG (HO47.out.below HBZ.out (Nat.le_refl _)); have HO5Z := keepG (HO57.out.below HBZ.out (Nat.le_refl _)); have HO7Z := keepG (HO7.out.below HBZ.out (Nat.le_refl _))))
    | (rw [HZ.out])
    | (have hq := HOZ; clear hq; at_builtin; go_must (refine wpList_append26 (by rfl) (.tmp 128) (.tmp 129) 22 rfl w7.heap.size 36 i0 (.agg (enC En.nil).toArray) 22 176 Tryd.underlying22 hi hz0 hz1 hz2 rfl (by decide) _ ([] : List En) rfl HOZ.out _ ([] : List En) rfl enC_len HO4Z.out (flat_oneE _) (by unfold maxLen; simp; try omega) (by simp; try omega) hzZ ?_); intro v8 w8 hown8 hg8; go_must (have HC8 : Hid (Below w7.heap.size w7 w8) := HBZ.out.grown hg8 hzZ (fun j hj => by first | (have hj : w7.heap.size = j := Option.some.inj hj; omega)); have HO8 := keepG hown8; have HO58 := keepG (HO57.out.below HC8.out (Nat.le_refl _)); have HO78 := keepG (HO7.out.below HC8.out (Nat.le_refl _)); have hz8 := HC8.out.size; clear hown8 hg8 HOZ))
    | (at_builtin; go_must (refine wpList_append26 (by rfl) (.tmp 130) (.tmp 131) 22 rfl w7.heap.size 36 i0 (.agg (enC En.nil).toArray) 22 176 Tryd.underlying22 hi hz0 hz1 hz2 rfl (by decide) _ ([] ++ ([] : List En)) rfl HO8.out _ ks rfl enC_len HO58.out (flat_oneE _) (by unfold maxLen; simp; try omega) (by simp; try omega) hz8 ?_); intro v9 w9 hown9 hg9; go_must (have HC9 : Hid (Below w7.heap.size w7 w9) := HC8.out.grown hg9 hz8 (fun j hj => (HO8.out.lt j hj).1); have HO9 : Hid (SeesG enC 22 En.nil w9 v9 (([] : List En) ++ ks)) := own_seesG enC_len En.nil hown9; have HO79 := keepG (HO7.out.below HC9.out (Nat.le_refl _)); have HB9 := keepG (HB7.out.trans (HC9.out.mono HB7.out.size)); clear hown9 hg9))
    | (go_at_call 15; go_must (refine (logs26 _ _ (([] : List En) ++ ks) _ HO79.out HO9.out).mono ?_); rintro x10 w10 ⟨rfl, hb10⟩; go_must (have HB10 := keepG (HB9.out.trans (hb10.mono HB9.out.size)); clear hb10)))
  go_ret
  exact ⟨rfl, HB10.out⟩
theorem back_law26 (v : Value) (xs : List En) (s : ByteArray) (w : World) (hs : SeesG enC 22 En.nil w v xs) (hwf : ∀ e ∈ xs, e.wf) (hx : xs.length ≤ 1048576) (hz : s.size ≤ 1048576) (h : Laid w) : Calls Tryd.prog 5 #[v, .string s] w fun r w' => r = .returned (.bool true) ∧ Below w.heap.size w w' := by
  have e : s = str s.data.toList := rfl
  have hl : s.data.toList.length ≤ 1048576 := by
    have : s.data.toList.length = s.size := by rw [Array.length_toList]; rfl
    omega
  rw [e]
  generalize s.data.toList = l at hl
  cases hal : xs.all plainE with
  | true =>
    rcases par_cases l with ⟨ks, hk, hks, hkp⟩ | ⟨N, hk, h1, h2⟩
    · exact backPG v xs l w hs hwf hx hl h hal ks hk hks hkp
    · exact backPB v xs l w hs hwf hx hl h hal N hk h1 (by omega)
  | false =>
    rcases par_cases l with ⟨ks, hk, hks, hkp⟩ | ⟨N, hk, h1, h2⟩
    · exact backNG v xs l w hs hwf hx hl h hal ks hk hks hkp
    · exact backNB v xs l w hs hwf hx hl h hal N hk h1 (by omega)
end Go.Proofs.YtbfbfbbpajaclaaDoor
