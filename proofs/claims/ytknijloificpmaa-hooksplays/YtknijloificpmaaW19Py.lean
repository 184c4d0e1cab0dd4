
/-
  One call of a script, by both tables of layer 19: the answers are alike. Condition: they lie where the pointers say; the call's list lies elsewhere.
-/
import Derived.Test.YtknijloificpmaaW19Pt
namespace Go.Proofs.Ytknijloificpmaa
open Go.RowKit
set_option linter.unusedVariables false
set_option linter.unusedSimpArgs false
set_option maxRecDepth 100000
set_option maxHeartbeats 12800000 in
theorem plays19_K0 {w0 w : World} {b d m : Nat} {F G : Ft} {t : Tb} (h : Pq w0 w b d F G t t m) (hm : m ≤ 9000) (hla : t.last ≤ 100000000000000) {ok ox op : Int} {ou : Value} {ow : List Int} (hs : ∀ wx, Below w0.heap.size w0 wx → Sees .i64 wx ou ow) (hlu : ow ≠ [] → ∀ k, ftV ou k → k < w0.heap.size) (hwf : (Lit.int .i64 ox).wf = true) (hz : ow.length * 8 ≤ 140737488351232) (hk : ok = 0) :
    Calls Try.prog 9 #[.pointer (some ⟨b, 0, none⟩), .pointer (some ⟨d, 0, none⟩), .agg #[.int .i64 ok, .int .i64 ox, .int .i64 op, ou]] w fun e w' => e = .returned (.bool true) ∧ ∃ F' G' t', Pq w0 w' b d F' G' t' t' (m + 4) ∧ t'.last ≤ t.last + 1 ∧ t'.at'.length = t.at'.length := by
  subst hk
  obtain ⟨i0, hi0, hz0, hzs, hzb⟩ := info_parts infoIntN
  have HSA := keepG hs
  have HLU := keepG hlu
  have HWF := keepG hwf
  have HP := keepG h
  have HZW : Hid (ow.length * 8 ≤ 140737488355328) := Nat.le_trans hz (by decide)
  have hl0 := h.okq.last
  obtain ⟨oa, oc, ev⟩ := (hs w h.la.be).shape
  subst ev
  obtain ⟨X, HX, hbX, HPX⟩ := op_box19 w ⟨0, ox, op, .slice oa ow.length oc, ow⟩
  obtain ⟨Z, HZ, hbZ, HOZ⟩ : ∃ Z, Hid (X.alloc (.cells #[] 3) = Z) ∧ Below X.heap.size X Z ∧ Hid (Z.ownsRow X.heap.size 3 1 (.slice (some ⟨X.heap.size, 0, none⟩) 0 0) ([] : List Int).length (([] : List Int).map (Value.int .i64))) := ⟨_, rfl, below_allocG _ _, own_emptyP X _ _⟩
  have HBZ : Hid (Below w.heap.size w Z) := hbX.trans (hbZ.mono hbX.size)
  have HSZ := keepG (HSA.out Z (h.la.be.trans (HBZ.out.mono h.la.be.size)))
  obtain ⟨bx, HBX⟩ : ∃ bx : Ow, Hid (⟨0, ox, op, .slice oa ow.length oc, ow⟩ = bx) := ⟨_, rfl⟩
  have HBC : Hid (∀ wx : World, Hp wx w.heap.size 35 (owC bx) → wx.cell? ⟨w.heap.size, 0, none⟩ = some (.int .i64 0) ∧ wx.cell? ⟨w.heap.size, 1, none⟩ = some (.int .i64 ox) ∧ wx.cell? ⟨w.heap.size, 2, none⟩ = some (.int .i64 op) ∧ wx.cell? ⟨w.heap.size, 3, none⟩ = some (.slice oa ow.length oc)) := by
    intro wx hx
    rw [← HBX.out] at hx
    exact ⟨hx.cell (j := 0) rfl, hx.cell (j := 1) rfl, hx.cell (j := 2) rfl, hx.cell (j := 3) rfl⟩
  rw [HBX.out] at HPX
  have hzZ := hbZ.size
  have c3X := (HBC.out _ HPX.out).2.2.2
  have c3Z := (HBC.out _ (HPX.out.below hbZ HPX.out.lt)).2.2.2
  have hXl0 : w.heap.size < X.heap.size := HPX.out.lt
  have hXn0 : ¬ w.heap.size = X.heap.size := by omega
  simp only at HX
  have HT8F : Hid (∀ w8 v8, Below X.heap.size X w8 → RoN w8 X.heap.size v8 ow → Pt w0 w8 b d w.heap.size F G t t m bx v8 ow) := by
    intro w8 v8 hb8 ho8
    have hb := hbX.trans (hb8.mono hbX.size)
    have hz0 := HP.out.la.be.size
    have hzx := hbX.size
    refine ⟨HP.out.below hb, HPX.out.below hb8 HPX.out.lt, ho8.low (by omega), fun e => ?_, fun e => ?_, fun k e1 e2 => ?_, fun k e1 e2 => ?_⟩
    · have := HP.out.la.lies _ e; omega
    · have := HP.out.liesG _ e; omega
    · have := HP.out.la.lies _ e1; have := (ho8.lt k e2).1; omega
    · have := HP.out.liesG _ e1; have := (ho8.lt k e2).1; omega
  clear h hs hlu hwf
  go_enter Try.func9, Try.ntmps9
  obtain ⟨v, E, t6, HQ⟩ : ∃ v E t6, Hid (t.put false ox op = (v, E, t6)) := ⟨_, _, _, rfl⟩
  have HPL := keepG (Tb.put_last HQ.out)
  have hvv : (v == v) = true := by simp
  have hEE : (E == E) = true := by simp
  go_wp2_with (first
    | (rw [HX.out])
    | (at_builtin; rw [HZ.out]; go_must (refine wpList_append_sees rfl _ _ 33 rfl X.heap.size 3 i0 _ 8 Try.underlying33 hi0 hz0 hzs hzb rfl .i64 (.slice (some ⟨X.heap.size, 0, none⟩) 0 0) [] rfl HOZ.out _ ow rfl HSZ.out (by unfold maxLen; simp; omega) (by simp; omega) hbZ.size ?_); intro v8 w8 hown8 hgr8; go_must (rw [List.nil_append] at hown8; have hb8 : Below X.heap.size X w8 := hbZ.trans ((Below.refl _ _).grown hgr8 hbZ.size (fun k hk => by have : X.heap.size = k := Option.some.inj hk; omega)); have HT8 := keepG (HT8F.out w8 v8 hb8 hown8); obtain ⟨va8, vc8, rfl⟩ := own_shape hown8; have q0 := (HBC.out _ HT8.out.box).1; have q1 := (HBC.out _ HT8.out.box).2.1; have q2 := (HBC.out _ HT8.out.box).2.2.1; have q3 := (HBC.out _ HT8.out.box).2.2.2; clear hown8 hgr8 hb8))
    | (go_at_call 13; go_must (refine (HT8.out.attachL (by omega) ox op HQ).mono ?_); rintro e w9 ⟨rfl, F9, ht9⟩; go_must (have HT9 := keepG ht9; have r0 := (HBC.out _ HT9.out.box).1; have r1 := (HBC.out _ HT9.out.box).2.1; have r2 := (HBC.out _ HT9.out.box).2.2.1; clear ht9))
    | (go_at_call 17; go_must (refine (HT9.out.putD (by omega) (by omega) false ox op HQ).mono ?_); rintro e w10 ⟨rfl, G10, ht10⟩; go_must (have HT10 := keepG ht10; clear ht10)))
  go_ret
  exact ⟨rfl, F9, G10, t6, HT10.out.pq, HPL.out.1, HPL.out.2.2⟩
set_option maxHeartbeats 12800000 in
theorem plays19_K1 {w0 w : World} {b d m : Nat} {F G : Ft} {t : Tb} (h : Pq w0 w b d F G t t m) (hm : m ≤ 9000) (hla : t.last ≤ 100000000000000) {ok ox op : Int} {ou : Value} {ow : List Int} (hs : ∀ wx, Below w0.heap.size w0 wx → Sees .i64 wx ou ow) (hlu : ow ≠ [] → ∀ k, ftV ou k → k < w0.heap.size) (hwf : (Lit.int .i64 ox).wf = true) (hz : ow.length * 8 ≤ 140737488351232) (hk : ok = 1) :
    Calls Try.prog 9 #[.pointer (some ⟨b, 0, none⟩), .pointer (some ⟨d, 0, none⟩), .agg #[.int .i64 ok, .int .i64 ox, .int .i64 op, ou]] w fun e w' => e = .returned (.bool true) ∧ ∃ F' G' t', Pq w0 w' b d F' G' t' t' (m + 4) ∧ t'.last ≤ t.last + 1 ∧ t'.at'.length = t.at'.length := by
  subst hk
  obtain ⟨i0, hi0, hz0, hzs, hzb⟩ := info_parts infoIntN
  have HSA := keepG hs
  have HLU := keepG hlu
  have HWF := keepG hwf
  have HP := keepG h
  have HZW : Hid (ow.length * 8 ≤ 140737488355328) := Nat.le_trans hz (by decide)
  have hl0 := h.okq.last
  obtain ⟨oa, oc, ev⟩ := (hs w h.la.be).shape
  subst ev
  obtain ⟨X, HX, hbX, HPX⟩ := op_box19 w ⟨1, ox, op, .slice oa ow.length oc, ow⟩
  obtain ⟨Z, HZ, hbZ, HOZ⟩ : ∃ Z, Hid (X.alloc (.cells #[] 3) = Z) ∧ Below X.heap.size X Z ∧ Hid (Z.ownsRow X.heap.size 3 1 (.slice (some ⟨X.heap.size, 0, none⟩) 0 0) ([] : List Int).length (([] : List Int).map (Value.int .i64))) := ⟨_, rfl, below_allocG _ _, own_emptyP X _ _⟩
  have HBZ : Hid (Below w.heap.size w Z) := hbX.trans (hbZ.mono hbX.size)
  have HSZ := keepG (HSA.out Z (h.la.be.trans (HBZ.out.mono h.la.be.size)))
  obtain ⟨bx, HBX⟩ : ∃ bx : Ow, Hid (⟨1, ox, op, .slice oa ow.length oc, ow⟩ = bx) := ⟨_, rfl⟩
  have HBC : Hid (∀ wx : World, Hp wx w.heap.size 35 (owC bx) → wx.cell? ⟨w.heap.size, 0, none⟩ = some (.int .i64 1) ∧ wx.cell? ⟨w.heap.size, 1, none⟩ = some (.int .i64 ox) ∧ wx.cell? ⟨w.heap.size, 2, none⟩ = some (.int .i64 op) ∧ wx.cell? ⟨w.heap.size, 3, none⟩ = some (.slice oa ow.length oc)) := by
    intro wx hx
    rw [← HBX.out] at hx
    exact ⟨hx.cell (j := 0) rfl, hx.cell (j := 1) rfl, hx.cell (j := 2) rfl, hx.cell (j := 3) rfl⟩
  rw [HBX.out] at HPX
  have hzZ := hbZ.size
  have c3X := (HBC.out _ HPX.out).2.2.2
  have c3Z := (HBC.out _ (HPX.out.below hbZ HPX.out.lt)).2.2.2
  have hXl0 : w.heap.size < X.heap.size := HPX.out.lt
  have hXn0 : ¬ w.heap.size = X.heap.size := by omega
  simp only at HX
  have HT8F : Hid (∀ w8 v8, Below X.heap.size X w8 → RoN w8 X.heap.size v8 ow → Pt w0 w8 b d w.heap.size F G t t m bx v8 ow) := by
    intro w8 v8 hb8 ho8
    have hb := hbX.trans (hb8.mono hbX.size)
    have hz0 := HP.out.la.be.size
    have hzx := hbX.size
    refine ⟨HP.out.below hb, HPX.out.below hb8 HPX.out.lt, ho8.low (by omega), fun e => ?_, fun e => ?_, fun k e1 e2 => ?_, fun k e1 e2 => ?_⟩
    · have := HP.out.la.lies _ e; omega
    · have := HP.out.liesG _ e; omega
    · have := HP.out.la.lies _ e1; have := (ho8.lt k e2).1; omega
    · have := HP.out.liesG _ e1; have := (ho8.lt k e2).1; omega
  clear h hs hlu hwf
  go_enter Try.func9, Try.ntmps9
  obtain ⟨v, E, t6, HQ⟩ : ∃ v E t6, Hid (t.put true ox op = (v, E, t6)) := ⟨_, _, _, rfl⟩
  have HPL := keepG (Tb.put_last HQ.out)
  have hvv : (v == v) = true := by simp
  have hEE : (E == E) = true := by simp
  go_wp2_with (first
    | (rw [HX.out])
    | (at_builtin; rw [HZ.out]; go_must (refine wpList_append_sees rfl _ _ 33 rfl X.heap.size 3 i0 _ 8 Try.underlying33 hi0 hz0 hzs hzb rfl .i64 (.slice (some ⟨X.heap.size, 0, none⟩) 0 0) [] rfl HOZ.out _ ow rfl HSZ.out (by unfold maxLen; simp; omega) (by simp; omega) hbZ.size ?_); intro v8 w8 hown8 hgr8; go_must (rw [List.nil_append] at hown8; have hb8 : Below X.heap.size X w8 := hbZ.trans ((Below.refl _ _).grown hgr8 hbZ.size (fun k hk => by have : X.heap.size = k := Option.some.inj hk; omega)); have HT8 := keepG (HT8F.out w8 v8 hb8 hown8); obtain ⟨va8, vc8, rfl⟩ := own_shape hown8; have q0 := (HBC.out _ HT8.out.box).1; have q1 := (HBC.out _ HT8.out.box).2.1; have q2 := (HBC.out _ HT8.out.box).2.2.1; have q3 := (HBC.out _ HT8.out.box).2.2.2; clear hown8 hgr8 hb8))
    | (go_at_call 14; go_must (refine (HT8.out.swapL (by omega) ox op HQ).mono ?_); rintro e w9 ⟨rfl, F9, ht9⟩; go_must (have HT9 := keepG ht9; have r0 := (HBC.out _ HT9.out.box).1; have r1 := (HBC.out _ HT9.out.box).2.1; have r2 := (HBC.out _ HT9.out.box).2.2.1; clear ht9))
    | (go_at_call 17; go_must (refine (HT9.out.putD (by omega) (by omega) true ox op HQ).mono ?_); rintro e w10 ⟨rfl, G10, ht10⟩; go_must (have HT10 := keepG ht10; clear ht10)))
  go_ret
  exact ⟨rfl, F9, G10, t6, HT10.out.pq, HPL.out.1, HPL.out.2.2⟩
set_option maxHeartbeats 12800000 in
theorem plays19_K2 {w0 w : World} {b d m : Nat} {F G : Ft} {t : Tb} (h : Pq w0 w b d F G t t m) (hm : m ≤ 9000) (hla : t.last ≤ 100000000000000) {ok ox op : Int} {ou : Value} {ow : List Int} (hs : ∀ wx, Below w0.heap.size w0 wx → Sees .i64 wx ou ow) (hlu : ow ≠ [] → ∀ k, ftV ou k → k < w0.heap.size) (hwf : (Lit.int .i64 ox).wf = true) (hz : ow.length * 8 ≤ 140737488351232) (hk : ok = 2) :
    Calls Try.prog 9 #[.pointer (some ⟨b, 0, none⟩), .pointer (some ⟨d, 0, none⟩), .agg #[.int .i64 ok, .int .i64 ox, .int .i64 op, ou]] w fun e w' => e = .returned (.bool true) ∧ ∃ F' G' t', Pq w0 w' b d F' G' t' t' (m + 4) ∧ t'.last ≤ t.last + 1 ∧ t'.at'.length = t.at'.length := by
  subst hk
  obtain ⟨i0, hi0, hz0, hzs, hzb⟩ := info_parts infoIntN
  have HSA := keepG hs
  have HLU := keepG hlu
  have HWF := keepG hwf
  have HP := keepG h
  have HZW : Hid (ow.length * 8 ≤ 140737488355328) := Nat.le_trans hz (by decide)
  have hl0 := h.okq.last
  obtain ⟨oa, oc, ev⟩ := (hs w h.la.be).shape
  subst ev
  obtain ⟨X, HX, hbX, HPX⟩ := op_box19 w ⟨2, ox, op, .slice oa ow.length oc, ow⟩
  obtain ⟨Z, HZ, hbZ, HOZ⟩ : ∃ Z, Hid (X.alloc (.cells #[] 3) = Z) ∧ Below X.heap.size X Z ∧ Hid (Z.ownsRow X.heap.size 3 1 (.slice (some ⟨X.heap.size, 0, none⟩) 0 0) ([] : List Int).length (([] : List Int).map (Value.int .i64))) := ⟨_, rfl, below_allocG _ _, own_emptyP X _ _⟩
  have HBZ : Hid (Below w.heap.size w Z) := hbX.trans (hbZ.mono hbX.size)
  have HSZ := keepG (HSA.out Z (h.la.be.trans (HBZ.out.mono h.la.be.size)))
  obtain ⟨bx, HBX⟩ : ∃ bx : Ow, Hid (⟨2, ox, op, .slice oa ow.length oc, ow⟩ = bx) := ⟨_, rfl⟩
  have HBC : Hid (∀ wx : World, Hp wx w.heap.size 35 (owC bx) → wx.cell? ⟨w.heap.size, 0, none⟩ = some (.int .i64 2) ∧ wx.cell? ⟨w.heap.size, 1, none⟩ = some (.int .i64 ox) ∧ wx.cell? ⟨w.heap.size, 2, none⟩ = some (.int .i64 op) ∧ wx.cell? ⟨w.heap.size, 3, none⟩ = some (.slice oa ow.length oc)) := by
    intro wx hx
    rw [← HBX.out] at hx
    exact ⟨hx.cell (j := 0) rfl, hx.cell (j := 1) rfl, hx.cell (j := 2) rfl, hx.cell (j := 3) rfl⟩
  rw [HBX.out] at HPX
  have hzZ := hbZ.size
  have c3X := (HBC.out _ HPX.out).2.2.2
  have c3Z := (HBC.out _ (HPX.out.below hbZ HPX.out.lt)).2.2.2
  have hXl0 : w.heap.size < X.heap.size := HPX.out.lt
  have hXn0 : ¬ w.heap.size = X.heap.size := by omega
  simp only at HX
  have HT8F : Hid (∀ w8 v8, Below X.heap.size X w8 → RoN w8 X.heap.size v8 ow → Pt w0 w8 b d w.heap.size F G t t m bx v8 ow) := by
    intro w8 v8 hb8 ho8
    have hb := hbX.trans (hb8.mono hbX.size)
    have hz0 := HP.out.la.be.size
    have hzx := hbX.size
    refine ⟨HP.out.below hb, HPX.out.below hb8 HPX.out.lt, ho8.low (by omega), fun e => ?_, fun e => ?_, fun k e1 e2 => ?_, fun k e1 e2 => ?_⟩
    · have := HP.out.la.lies _ e; omega
    · have := HP.out.liesG _ e; omega
    · have := HP.out.la.lies _ e1; have := (ho8.lt k e2).1; omega
    · have := HP.out.liesG _ e1; have := (ho8.lt k e2).1; omega
  clear h hs hlu hwf
  go_enter Try.func9, Try.ntmps9
  obtain ⟨E, t6, HQ⟩ : ∃ E t6, Hid (t.det [ox] = (E, t6)) := ⟨_, _, rfl⟩
  have HPL := keepG (Tb.det_last HQ.out)
  have hEE : (E == E) = true := by simp
  go_wp2_with (first
    | (rw [HX.out])
    | (at_builtin; rw [HZ.out]; go_must (refine wpList_append_sees rfl _ _ 33 rfl X.heap.size 3 i0 _ 8 Try.underlying33 hi0 hz0 hzs hzb rfl .i64 (.slice (some ⟨X.heap.size, 0, none⟩) 0 0) [] rfl HOZ.out _ ow rfl HSZ.out (by unfold maxLen; simp; omega) (by simp; omega) hbZ.size ?_); intro v8 w8 hown8 hgr8; go_must (rw [List.nil_append] at hown8; have hb8 : Below X.heap.size X w8 := hbZ.trans ((Below.refl _ _).grown hgr8 hbZ.size (fun k hk => by have : X.heap.size = k := Option.some.inj hk; omega)); have HT8 := keepG (HT8F.out w8 v8 hb8 hown8); obtain ⟨va8, vc8, rfl⟩ := own_shape hown8; have q0 := (HBC.out _ HT8.out.box).1; have q1 := (HBC.out _ HT8.out.box).2.1; have q2 := (HBC.out _ HT8.out.box).2.2.1; have q3 := (HBC.out _ HT8.out.box).2.2.2; clear hown8 hgr8 hb8)))
  obtain ⟨Y1, HY1, hbY1, HSY1⟩ := lit_one w8 ox HWF.out
  obtain ⟨Y2, HY2, hbY2, HSY2⟩ := lit_one Y1 ox HWF.out
  have HTY1 := keepG ((HT8.out.below hbY1).drewN 1)
  have HTY2 := keepG (((HT8.out.below hbY1).below hbY2).drewN 1)
  have hzY1 : w8.heap.size < Y1.heap.size := by rw [← HY1.out]; simp
  refine wp_region_held_drew (S := fun w' => w'.cell? ⟨w.heap.size, 1, none⟩ = some (.int .i64 ox)) (by kernel_rfl) q1 (fun hHeld => ?_)
  refine wpAnyH_take (i := 0) (v := ?v1) rfl (by kernel_rfl) (by kernel_rfl) (by kernel_rfl) (fun _ _ _ h => h) (Or.inl ⟨by rfl, ?hy1⟩) (by assumption) ?rest1
  case hy1 => (intro wy hSw; (try dsimp only at hSw); go_simp; (first | done | with_reducible rfl))
  try simp only [Act.put, List.getElem_toArray, List.getElem_cons_zero, List.getElem_cons_succ, List.setIfInBounds_toArray, List.set_cons_zero, List.set_cons_succ]
  refine wpAnyH_take (i := 1) (v := ?v2) rfl (by kernel_rfl) (by kernel_rfl) (by kernel_rfl) (fun _ _ _ h => h) (Or.inl ⟨by rfl, ?hy2⟩) (by assumption) ?rest2
  case hy2 => (intro wy hSw; (try dsimp only at hSw); go_simp; (first | done | with_reducible rfl))
  try simp only [Act.put, List.getElem_toArray, List.getElem_cons_zero, List.getElem_cons_succ, List.setIfInBounds_toArray, List.set_cons_zero, List.set_cons_succ]
  refine wpAnyH_take (i := 2) (v := ?v3) rfl (by kernel_rfl) (by kernel_rfl) (by kernel_rfl) (fun _ _ _ h => h) (Or.inl ⟨by rfl, ?hy3⟩) (by assumption) ?rest3
  case hy3 => (intro wy hSw; (try dsimp only at hSw); go_simp; (first | done | with_reducible rfl))
  try simp only [Act.put, List.getElem_toArray, List.getElem_cons_zero, List.getElem_cons_succ, List.setIfInBounds_toArray, List.set_cons_zero, List.set_cons_succ]
  refine wpAnyH_take (i := 5) (v := ?v4) rfl (by kernel_rfl) (by kernel_rfl) (by kernel_rfl) (fun _ _ _ h => h) (Or.inl ⟨by rfl, ?hy4⟩) (by assumption) ?rest4
  case hy4 => (intro wy hSw; (try dsimp only at hSw); go_simp; (first | done | with_reducible rfl))
  try simp only [Act.put, List.getElem_toArray, List.getElem_cons_zero, List.getElem_cons_succ, List.setIfInBounds_toArray, List.set_cons_zero, List.set_cons_succ]
  refine wpAnyH_take (i := 6) (v := ?v5) rfl (by kernel_rfl) (by kernel_rfl) (by kernel_rfl) (fun _ _ _ h => h) (Or.inl ⟨by rfl, ?hy5⟩) (by assumption) ?rest5
  case hy5 => (intro wy hSw; (try dsimp only at hSw); go_simp; (first | done | with_reducible rfl))
  try simp only [Act.put, List.getElem_toArray, List.getElem_cons_zero, List.getElem_cons_succ, List.setIfInBounds_toArray, List.set_cons_zero, List.set_cons_succ]
  refine wpAnyH_take (i := 7) (v := ?v6) rfl (by kernel_rfl) (by kernel_rfl) (by kernel_rfl) (fun _ _ _ h => h) (Or.inl ⟨by rfl, ?hy6⟩) (by assumption) ?rest6
  case hy6 => (intro wy hSw; (try dsimp only at hSw); go_simp; (first | done | with_reducible rfl))
  try simp only [Act.put, List.getElem_toArray, List.getElem_cons_zero, List.getElem_cons_succ, List.setIfInBounds_toArray, List.set_cons_zero, List.set_cons_succ]
  refine wpAnyH_ready (rs := [3, 8]) (by kernel_rfl) (by simp) ?_
  refine AllReadyH.cons rfl (fun KK hK => ?_) (AllReadyH.cons rfl (fun KK hK => ?_) AllReadyH.nil) <;> rw [if_pos (by rfl)]
  · go_simp
    rw [HY1.out]
    refine hK.out _ _ (HBC.out _ HTY1.out.box).2.1 (fun hHeld => ?_)
    clear hK KK
    try simp only [Act.put, List.getElem_toArray, List.getElem_cons_zero, List.getElem_cons_succ, List.setIfInBounds_toArray, List.set_cons_zero, List.set_cons_succ]
    refine wpAnyH_ready (rs := [4, 8]) (by kernel_rfl) (by simp) ?_
    refine AllReadyH.cons rfl (fun KK hK => ?_) (AllReadyH.cons rfl (fun KK hK => ?_) AllReadyH.nil) <;> rw [if_pos (by rfl)]
    · go_simp
      go_at_call 15
      refine (HTY1.out.detachL (HSY1.out.drewN 1) (fun _ k hk e => by have h5 := HT8.out.pq.la.lies k hk; have h6 := ft_lit e; omega) HQ).mono ?_
      rintro e w10 ⟨rfl, F10, ht10, hn10⟩
      have HT10 := keepG ht10
      have HN10 := keepG hn10
      go_simp
      refine hK.out _ _ (HBC.out _ HT10.out.box).2.1 (fun hHeld => ?_)
      clear hK KK ht10 hn10
      try simp only [Act.put, List.getElem_toArray, List.getElem_cons_zero, List.getElem_cons_succ, List.setIfInBounds_toArray, List.set_cons_zero, List.set_cons_succ]
      obtain ⟨Y3, HY3, hbY3, HSY3⟩ := lit_one w10 ox HWF.out
      have HTY3 := keepG (HT10.out.below hbY3)
      refine wpAnyH_ready (rs := [8]) (by kernel_rfl) (by simp) ?_
      refine AllReadyH.cons rfl (fun KK hK => ?_) AllReadyH.nil
      rw [if_pos (by rfl)]
      go_simp
      rw [HY3.out]
      refine hK.out _ _ (HBC.out _ HTY3.out.box).2.1 (fun hHeld => ?_)
      clear hK KK
      try simp only [Act.put, List.getElem_toArray, List.getElem_cons_zero, List.getElem_cons_succ, List.setIfInBounds_toArray, List.set_cons_zero, List.set_cons_succ]
      refine wpAnyH_ready (rs := [9]) (by kernel_rfl) (by simp) ?_
      refine AllReadyH.cons rfl (fun KK hK => ?_) AllReadyH.nil
      rw [if_pos (by rfl)]
      go_simp
      go_at_call 18
      refine (HTY3.out.detachD (by omega) HSY3.out (fun _ k hk e => by have h5 := HT10.out.pq.liesG k hk; have h6 := ft_lit e; omega) HQ).mono ?_
      rintro e w11 ⟨rfl, G11, ht11⟩
      have HT11 := keepG ht11
      go_simp
      refine hK.out _ _ (HBC.out _ HT11.out.box).2.1 (fun hHeld => ?_)
      clear hK KK ht11
      try simp only [Act.put, List.getElem_toArray, List.getElem_cons_zero, List.getElem_cons_succ, List.setIfInBounds_toArray, List.set_cons_zero, List.set_cons_succ]
      refine wpAnyH_take (i := 10) (v := ?v7) rfl (by kernel_rfl) (by kernel_rfl) (by kernel_rfl) (fun _ _ _ h => h) (Or.inl ⟨by rfl, ?hy7⟩) (by assumption) ?rest7
      case hy7 => (intro wy hSw; (try dsimp only at hSw); go_simp; (first | done | with_reducible rfl))
      try simp only [Act.put, List.getElem_toArray, List.getElem_cons_zero, List.getElem_cons_succ, List.setIfInBounds_toArray, List.set_cons_zero, List.set_cons_succ]
      refine wpAnyH_take (i := 11) (v := ?v8) rfl (by kernel_rfl) (by kernel_rfl) (by kernel_rfl) (fun _ _ _ h => h) (Or.inl ⟨by rfl, ?hy8⟩) (by assumption) ?rest8
      case hy8 => (intro wy hSw; (try dsimp only at hSw); go_simp; (first | done | with_reducible rfl))
      try simp only [Act.put, List.getElem_toArray, List.getElem_cons_zero, List.getElem_cons_succ, List.setIfInBounds_toArray, List.set_cons_zero, List.set_cons_succ]
      refine wpAnyH_done (by kernel_rfl) ?_ _
      clear hHeld
      go_wp2
      go_ret
      exact ⟨rfl, F10, G11, t6, HT11.out.pq, by have := HPL.out.1; omega, HPL.out.2⟩
    · go_simp
      rw [HY2.out]
      refine hK.out _ _ (HBC.out _ HTY2.out.box).2.1 (fun hHeld => ?_)
      clear hK KK
      try simp only [Act.put, List.getElem_toArray, List.getElem_cons_zero, List.getElem_cons_succ, List.setIfInBounds_toArray, List.set_cons_zero, List.set_cons_succ]
      refine wpAnyH_ready (rs := [4]) (by kernel_rfl) (by simp) ?_
      refine AllReadyH.cons rfl (fun KK hK => ?_) AllReadyH.nil
      rw [if_pos (by rfl)]
      go_simp
      go_at_call 15
      refine (HTY2.out.detachL ((HSY1.out.below hbY2 (Nat.le_refl _)).drewN 1) (fun _ k hk e => by have h5 := HT8.out.pq.la.lies k hk; have h6 := ft_lit e; omega) HQ).mono ?_
      rintro e w10 ⟨rfl, F10, ht10, hn10⟩
      have HT10 := keepG ht10
      have HN10 := keepG hn10
      go_simp
      refine hK.out _ _ (HBC.out _ HT10.out.box).2.1 (fun hHeld => ?_)
      clear hK KK ht10 hn10
      try simp only [Act.put, List.getElem_toArray, List.getElem_cons_zero, List.getElem_cons_succ, List.setIfInBounds_toArray, List.set_cons_zero, List.set_cons_succ]
      have HS10 := keepG ((HSY2.out.drewN 1).chg19 HN10.out.chg (fun _ k hk e => by have h5 := HT8.out.pq.la.lies k e; have h6 : Y1.heap.size = k := Option.some.inj hk; omega))
      refine wpAnyH_ready (rs := [9]) (by kernel_rfl) (by simp) ?_
      refine AllReadyH.cons rfl (fun KK hK => ?_) AllReadyH.nil
      rw [if_pos (by rfl)]
      go_simp
      go_at_call 18
      refine (HT10.out.detachD (by omega) HS10.out (fun _ k hk e => by have h5 := HT8.out.pq.liesG k hk; have h6 : Y1.heap.size = k := Option.some.inj e; omega) HQ).mono ?_
      rintro e w11 ⟨rfl, G11, ht11⟩
      have HT11 := keepG ht11
      go_simp
      refine hK.out _ _ (HBC.out _ HT11.out.box).2.1 (fun hHeld => ?_)
      clear hK KK ht11
      try simp only [Act.put, List.getElem_toArray, List.getElem_cons_zero, List.getElem_cons_succ, List.setIfInBounds_toArray, List.set_cons_zero, List.set_cons_succ]
      refine wpAnyH_take (i := 10) (v := ?v9) rfl (by kernel_rfl) (by kernel_rfl) (by kernel_rfl) (fun _ _ _ h => h) (Or.inl ⟨by rfl, ?hy9⟩) (by assumption) ?rest9
      case hy9 => (intro wy hSw; (try dsimp only at hSw); go_simp; (first | done | with_reducible rfl))
      try simp only [Act.put, List.getElem_toArray, List.getElem_cons_zero, List.getElem_cons_succ, List.setIfInBounds_toArray, List.set_cons_zero, List.set_cons_succ]
      refine wpAnyH_take (i := 11) (v := ?v10) rfl (by kernel_rfl) (by kernel_rfl) (by kernel_rfl) (fun _ _ _ h => h) (Or.inl ⟨by rfl, ?hy10⟩) (by assumption) ?rest10
      case hy10 => (intro wy hSw; (try dsimp only at hSw); go_simp; (first | done | with_reducible rfl))
      try simp only [Act.put, List.getElem_toArray, List.getElem_cons_zero, List.getElem_cons_succ, List.setIfInBounds_toArray, List.set_cons_zero, List.set_cons_succ]
      refine wpAnyH_done (by kernel_rfl) ?_ _
      clear hHeld
      go_wp2
      go_ret
      exact ⟨rfl, F10, G11, t6, HT11.out.pq, by have := HPL.out.1; omega, HPL.out.2⟩
  · go_simp
    rw [HY1.out]
    refine hK.out _ _ (HBC.out _ HTY1.out.box).2.1 (fun hHeld => ?_)
    clear hK KK
    try simp only [Act.put, List.getElem_toArray, List.getElem_cons_zero, List.getElem_cons_succ, List.setIfInBounds_toArray, List.set_cons_zero, List.set_cons_succ]
    refine wpAnyH_ready (rs := [3]) (by kernel_rfl) (by simp) ?_
    refine AllReadyH.cons rfl (fun KK hK => ?_) AllReadyH.nil
    rw [if_pos (by rfl)]
    go_simp
    rw [HY2.out]
    refine hK.out _ _ (HBC.out _ HTY2.out.box).2.1 (fun hHeld => ?_)
    clear hK KK
    try simp only [Act.put, List.getElem_toArray, List.getElem_cons_zero, List.getElem_cons_succ, List.setIfInBounds_toArray, List.set_cons_zero, List.set_cons_succ]
    refine wpAnyH_ready (rs := [4]) (by kernel_rfl) (by simp) ?_
    refine AllReadyH.cons rfl (fun KK hK => ?_) AllReadyH.nil
    rw [if_pos (by rfl)]
    go_simp
    go_at_call 15
    refine (HTY2.out.detachL (HSY2.out.drewN 1) (fun _ k hk e => by have h5 := HT8.out.pq.la.lies k hk; have h6 : Y1.heap.size = k := Option.some.inj e; omega) HQ).mono ?_
    rintro e w10 ⟨rfl, F10, ht10, hn10⟩
    have HT10 := keepG ht10
    have HN10 := keepG hn10
    go_simp
    refine hK.out _ _ (HBC.out _ HT10.out.box).2.1 (fun hHeld => ?_)
    clear hK KK ht10 hn10
    try simp only [Act.put, List.getElem_toArray, List.getElem_cons_zero, List.getElem_cons_succ, List.setIfInBounds_toArray, List.set_cons_zero, List.set_cons_succ]
    have HS10 := keepG (((HSY1.out.below hbY2 (Nat.le_refl _)).drewN 1).chg19 HN10.out.chg (fun _ k hk e => by have h5 := HT8.out.pq.la.lies k e; have h6 := ft_lit hk; omega))
    refine wpAnyH_ready (rs := [9]) (by kernel_rfl) (by simp) ?_
    refine AllReadyH.cons rfl (fun KK hK => ?_) AllReadyH.nil
    rw [if_pos (by rfl)]
    go_simp
    go_at_call 18
    refine (HT10.out.detachD (by omega) HS10.out (fun _ k hk e => by have h5 := HT8.out.pq.liesG k hk; have h6 := ft_lit e; omega) HQ).mono ?_
    rintro e w11 ⟨rfl, G11, ht11⟩
    have HT11 := keepG ht11
    go_simp
    refine hK.out _ _ (HBC.out _ HT11.out.box).2.1 (fun hHeld => ?_)
    clear hK KK ht11
    try simp only [Act.put, List.getElem_toArray, List.getElem_cons_zero, List.getElem_cons_succ, List.setIfInBounds_toArray, List.set_cons_zero, List.set_cons_succ]
    refine wpAnyH_take (i := 10) (v := ?v11) rfl (by kernel_rfl) (by kernel_rfl) (by kernel_rfl) (fun _ _ _ h => h) (Or.inl ⟨by rfl, ?hy11⟩) (by assumption) ?rest11
    case hy11 => (intro wy hSw; (try dsimp only at hSw); go_simp; (first | done | with_reducible rfl))
    try simp only [Act.put, List.getElem_toArray, List.getElem_cons_zero, List.getElem_cons_succ, List.setIfInBounds_toArray, List.set_cons_zero, List.set_cons_succ]
    refine wpAnyH_take (i := 11) (v := ?v12) rfl (by kernel_rfl) (by kernel_rfl) (by kernel_rfl) (fun _ _ _ h => h) (Or.inl ⟨by rfl, ?hy12⟩) (by assumption) ?rest12
    case hy12 => (intro wy hSw; (try dsimp only at hSw); go_simp; (first | done | with_reducible rfl))
    try simp only [Act.put, List.getElem_toArray, List.getElem_cons_zero, List.getElem_cons_succ, List.setIfInBounds_toArray, List.set_cons_zero, List.set_cons_succ]
    refine wpAnyH_done (by kernel_rfl) ?_ _
    clear hHeld
    go_wp2
    go_ret
    exact ⟨rfl, F10, G11, t6, HT11.out.pq, by have := HPL.out.1; omega, HPL.out.2⟩
set_option maxHeartbeats 12800000 in
theorem plays19_K3 {w0 w : World} {b d m : Nat} {F G : Ft} {t : Tb} (h : Pq w0 w b d F G t t m) (hm : m ≤ 9000) (hla : t.last ≤ 100000000000000) {ok ox op : Int} {ou : Value} {ow : List Int} (hs : ∀ wx, Below w0.heap.size w0 wx → Sees .i64 wx ou ow) (hlu : ow ≠ [] → ∀ k, ftV ou k → k < w0.heap.size) (hwf : (Lit.int .i64 ox).wf = true) (hz : ow.length * 8 ≤ 140737488351232) (hk : ok = 3) :
    Calls Try.prog 9 #[.pointer (some ⟨b, 0, none⟩), .pointer (some ⟨d, 0, none⟩), .agg #[.int .i64 ok, .int .i64 ox, .int .i64 op, ou]] w fun e w' => e = .returned (.bool true) ∧ ∃ F' G' t', Pq w0 w' b d F' G' t' t' (m + 4) ∧ t'.last ≤ t.last + 1 ∧ t'.at'.length = t.at'.length := by
  subst hk
  obtain ⟨i0, hi0, hz0, hzs, hzb⟩ := info_parts infoIntN
  have HSA := keepG hs
  have HLU := keepG hlu
  have HWF := keepG hwf
  have HP := keepG h
  have HZW : Hid (ow.length * 8 ≤ 140737488355328) := Nat.le_trans hz (by decide)
  have hl0 := h.okq.last
  obtain ⟨oa, oc, ev⟩ := (hs w h.la.be).shape
  subst ev
  obtain ⟨X, HX, hbX, HPX⟩ := op_box19 w ⟨3, ox, op, .slice oa ow.length oc, ow⟩
  obtain ⟨Z, HZ, hbZ, HOZ⟩ : ∃ Z, Hid (X.alloc (.cells #[] 3) = Z) ∧ Below X.heap.size X Z ∧ Hid (Z.ownsRow X.heap.size 3 1 (.slice (some ⟨X.heap.size, 0, none⟩) 0 0) ([] : List Int).length (([] : List Int).map (Value.int .i64))) := ⟨_, rfl, below_allocG _ _, own_emptyP X _ _⟩
  have HBZ : Hid (Below w.heap.size w Z) := hbX.trans (hbZ.mono hbX.size)
  have HSZ := keepG (HSA.out Z (h.la.be.trans (HBZ.out.mono h.la.be.size)))
  obtain ⟨bx, HBX⟩ : ∃ bx : Ow, Hid (⟨3, ox, op, .slice oa ow.length oc, ow⟩ = bx) := ⟨_, rfl⟩
  have HBC : Hid (∀ wx : World, Hp wx w.heap.size 35 (owC bx) → wx.cell? ⟨w.heap.size, 0, none⟩ = some (.int .i64 3) ∧ wx.cell? ⟨w.heap.size, 1, none⟩ = some (.int .i64 ox) ∧ wx.cell? ⟨w.heap.size, 2, none⟩ = some (.int .i64 op) ∧ wx.cell? ⟨w.heap.size, 3, none⟩ = some (.slice oa ow.length oc)) := by
    intro wx hx
    rw [← HBX.out] at hx
    exact ⟨hx.cell (j := 0) rfl, hx.cell (j := 1) rfl, hx.cell (j := 2) rfl, hx.cell (j := 3) rfl⟩
  rw [HBX.out] at HPX
  have hzZ := hbZ.size
  have c3X := (HBC.out _ HPX.out).2.2.2
  have c3Z := (HBC.out _ (HPX.out.below hbZ HPX.out.lt)).2.2.2
  have hXl0 : w.heap.size < X.heap.size := HPX.out.lt
  have hXn0 : ¬ w.heap.size = X.heap.size := by omega
  simp only at HX
  have HT8F : Hid (∀ w8 v8, Below X.heap.size X w8 → RoN w8 X.heap.size v8 ow → Pt w0 w8 b d w.heap.size F G t t m bx v8 ow) := by
    intro w8 v8 hb8 ho8
    have hb := hbX.trans (hb8.mono hbX.size)
    have hz0 := HP.out.la.be.size
    have hzx := hbX.size
    refine ⟨HP.out.below hb, HPX.out.below hb8 HPX.out.lt, ho8.low (by omega), fun e => ?_, fun e => ?_, fun k e1 e2 => ?_, fun k e1 e2 => ?_⟩
    · have := HP.out.la.lies _ e; omega
    · have := HP.out.liesG _ e; omega
    · have := HP.out.la.lies _ e1; have := (ho8.lt k e2).1; omega
    · have := HP.out.liesG _ e1; have := (ho8.lt k e2).1; omega
  clear h hs hlu hwf
  go_enter Try.func9, Try.ntmps9
  obtain ⟨E, t6, HQ⟩ : ∃ E t6, Hid (t.det ow = (E, t6)) := ⟨_, _, rfl⟩
  have HPL := keepG (Tb.det_last HQ.out)
  have hEE : (E == E) = true := by simp
  go_wp2_with (first
    | (rw [HX.out])
    | (at_builtin; rw [HZ.out]; go_must (refine wpList_append_sees rfl _ _ 33 rfl X.heap.size 3 i0 _ 8 Try.underlying33 hi0 hz0 hzs hzb rfl .i64 (.slice (some ⟨X.heap.size, 0, none⟩) 0 0) [] rfl HOZ.out _ ow rfl HSZ.out (by unfold maxLen; simp; omega) (by simp; omega) hbZ.size ?_); intro v8 w8 hown8 hgr8; go_must (rw [List.nil_append] at hown8; have hb8 : Below X.heap.size X w8 := hbZ.trans ((Below.refl _ _).grown hgr8 hbZ.size (fun k hk => by have : X.heap.size = k := Option.some.inj hk; omega)); have HT8 := keepG (HT8F.out w8 v8 hb8 hown8); obtain ⟨va8, vc8, rfl⟩ := own_shape hown8; have q0 := (HBC.out _ HT8.out.box).1; have q1 := (HBC.out _ HT8.out.box).2.1; have q2 := (HBC.out _ HT8.out.box).2.2.1; have q3 := (HBC.out _ HT8.out.box).2.2.2; clear hown8 hgr8 hb8)))
  have HTd := keepG (HT8.out.drewN 1)
  have HS8 : Hid (∀ wx : World, RoN wx w0.heap.size (.slice va8 ow.length vc8) ow → Sees .i64 wx (.slice va8 ow.length vc8) ow) := fun wx hx => Sees.own hx HSZ.out.wf
  refine wp_region_held_drew (S := fun w' => w'.cell? ⟨w.heap.size, 3, none⟩ = some (.slice oa ow.length oc)) (by kernel_rfl) q3 (fun hHeld => ?_)
  refine wpAnyH_take (i := 0) (v := ?v13) rfl (by kernel_rfl) (by kernel_rfl) (by kernel_rfl) (fun _ _ _ h => h) (Or.inl ⟨by rfl, ?hy13⟩) (by assumption) ?rest13
  case hy13 => (intro wy hSw; (try dsimp only at hSw); go_simp; (first | done | with_reducible rfl))
  try simp only [Act.put, List.getElem_toArray, List.getElem_cons_zero, List.getElem_cons_succ, List.setIfInBounds_toArray, List.set_cons_zero, List.set_cons_succ]
  refine wpAnyH_take (i := 1) (v := ?v14) rfl (by kernel_rfl) (by kernel_rfl) (by kernel_rfl) (fun _ _ _ h => h) (Or.inl ⟨by rfl, ?hy14⟩) (by assumption) ?rest14
  case hy14 => (intro wy hSw; (try dsimp only at hSw); go_simp; (first | done | with_reducible rfl))
  try simp only [Act.put, List.getElem_toArray, List.getElem_cons_zero, List.getElem_cons_succ, List.setIfInBounds_toArray, List.set_cons_zero, List.set_cons_succ]
  refine wpAnyH_take (i := 3) (v := ?v15) rfl (by kernel_rfl) (by kernel_rfl) (by kernel_rfl) (fun _ _ _ h => h) (Or.inl ⟨by rfl, ?hy15⟩) (by assumption) ?rest15
  case hy15 => (intro wy hSw; (try dsimp only at hSw); go_simp; (first | done | with_reducible rfl))
  try simp only [Act.put, List.getElem_toArray, List.getElem_cons_zero, List.getElem_cons_succ, List.setIfInBounds_toArray, List.set_cons_zero, List.set_cons_succ]
  refine wpAnyH_take (i := 4) (v := ?v16) rfl (by kernel_rfl) (by kernel_rfl) (by kernel_rfl) (fun _ _ _ h => h) (Or.inl ⟨by rfl, ?hy16⟩) (by assumption) ?rest16
  case hy16 => (intro wy hSw; (try dsimp only at hSw); go_simp; (first | done | with_reducible rfl))
  try simp only [Act.put, List.getElem_toArray, List.getElem_cons_zero, List.getElem_cons_succ, List.setIfInBounds_toArray, List.set_cons_zero, List.set_cons_succ]
  refine wpAnyH_take (i := 5) (v := ?v17) rfl (by kernel_rfl) (by kernel_rfl) (by kernel_rfl) (fun _ _ _ h => h) (Or.inl ⟨by rfl, ?hy17⟩) (by assumption) ?rest17
  case hy17 => (intro wy hSw; (try dsimp only at hSw); go_simp; (first | done | with_reducible rfl))
  try simp only [Act.put, List.getElem_toArray, List.getElem_cons_zero, List.getElem_cons_succ, List.setIfInBounds_toArray, List.set_cons_zero, List.set_cons_succ]
  refine wpAnyH_ready (rs := [2]) (by kernel_rfl) (by simp) ?_
  refine AllReadyH.cons rfl (fun KK hK => ?_) AllReadyH.nil
  rw [if_pos (by rfl)]
  go_simp
  go_at_call 15
  refine (HTd.out.detachL (HS8.out _ HTd.out.ro) (fun _ => HTd.out.fi) HQ).mono ?_
  rintro e w10 ⟨rfl, F10, ht10, _⟩
  have HT10 := keepG ht10
  go_simp
  refine hK.out _ _ (HBC.out _ HT10.out.box).2.2.2 (fun hHeld => ?_)
  clear hK KK ht10
  try simp only [Act.put, List.getElem_toArray, List.getElem_cons_zero, List.getElem_cons_succ, List.setIfInBounds_toArray, List.set_cons_zero, List.set_cons_succ]
  refine wpAnyH_ready (rs := [6]) (by kernel_rfl) (by simp) ?_
  refine AllReadyH.cons rfl (fun KK hK => ?_) AllReadyH.nil
  rw [if_pos (by rfl)]
  go_simp
  go_at_call 18
  refine (HT10.out.detachD (by omega) (HSA.out _ HT10.out.pq.la.be) (fun hne k hk e => by have h5 := HLU.out hne k e; have h6 := HT10.out.pq.sg k hk; omega) HQ).mono ?_
  rintro e w11 ⟨rfl, G11, ht11⟩
  have HT11 := keepG ht11
  go_simp
  refine hK.out _ _ (HBC.out _ HT11.out.box).2.2.2 (fun hHeld => ?_)
  clear hK KK ht11
  try simp only [Act.put, List.getElem_toArray, List.getElem_cons_zero, List.getElem_cons_succ, List.setIfInBounds_toArray, List.set_cons_zero, List.set_cons_succ]
  refine wpAnyH_take (i := 7) (v := ?v18) rfl (by kernel_rfl) (by kernel_rfl) (by kernel_rfl) (fun _ _ _ h => h) (Or.inl ⟨by rfl, ?hy18⟩) (by assumption) ?rest18
  case hy18 => (intro wy hSw; (try dsimp only at hSw); go_simp; (first | done | with_reducible rfl))
  try simp only [Act.put, List.getElem_toArray, List.getElem_cons_zero, List.getElem_cons_succ, List.setIfInBounds_toArray, List.set_cons_zero, List.set_cons_succ]
  refine wpAnyH_take (i := 8) (v := ?v19) rfl (by kernel_rfl) (by kernel_rfl) (by kernel_rfl) (fun _ _ _ h => h) (Or.inl ⟨by rfl, ?hy19⟩) (by assumption) ?rest19
  case hy19 => (intro wy hSw; (try dsimp only at hSw); go_simp; (first | done | with_reducible rfl))
  try simp only [Act.put, List.getElem_toArray, List.getElem_cons_zero, List.getElem_cons_succ, List.setIfInBounds_toArray, List.set_cons_zero, List.set_cons_succ]
  refine wpAnyH_take (i := 9) (v := ?v20) rfl (by kernel_rfl) (by kernel_rfl) (by kernel_rfl) (fun _ _ _ h => h) (Or.inl ⟨by rfl, ?hy20⟩) (by assumption) ?rest20
  case hy20 => (intro wy hSw; (try dsimp only at hSw); go_simp; (first | done | with_reducible rfl))
  try simp only [Act.put, List.getElem_toArray, List.getElem_cons_zero, List.getElem_cons_succ, List.setIfInBounds_toArray, List.set_cons_zero, List.set_cons_succ]
  refine wpAnyH_take (i := 10) (v := ?v21) rfl (by kernel_rfl) (by kernel_rfl) (by kernel_rfl) (fun _ _ _ h => h) (Or.inl ⟨by rfl, ?hy21⟩) (by assumption) ?rest21
  case hy21 => (intro wy hSw; (try dsimp only at hSw); go_simp; (first | done | with_reducible rfl))
  try simp only [Act.put, List.getElem_toArray, List.getElem_cons_zero, List.getElem_cons_succ, List.setIfInBounds_toArray, List.set_cons_zero, List.set_cons_succ]
  refine wpAnyH_take (i := 11) (v := ?v22) rfl (by kernel_rfl) (by kernel_rfl) (by kernel_rfl) (fun _ _ _ h => h) (Or.inl ⟨by rfl, ?hy22⟩) (by assumption) ?rest22
  case hy22 => (intro wy hSw; (try dsimp only at hSw); go_simp; (first | done | with_reducible rfl))
  try simp only [Act.put, List.getElem_toArray, List.getElem_cons_zero, List.getElem_cons_succ, List.setIfInBounds_toArray, List.set_cons_zero, List.set_cons_succ]
  refine wpAnyH_ready (rs := [12]) (by kernel_rfl) (by simp) ?_
  refine AllReadyH.cons rfl (fun KK hK => ?_) AllReadyH.nil
  rw [if_pos (by rfl)]
  go_simp
  go_at_call 19
  refine (wints19 HT11.out.ro.rdn (HSA.out _ HT11.out.pq.la.be).rdn).mono ?_
  rintro e w12 ⟨rfl, hb12⟩
  have HT12 := keepG (HT11.out.below hb12)
  go_simp
  refine hK.out _ _ (HBC.out _ HT12.out.box).2.2.2 (fun hHeld => ?_)
  clear hK KK hb12
  try simp only [Act.put, List.getElem_toArray, List.getElem_cons_zero, List.getElem_cons_succ, List.setIfInBounds_toArray, List.set_cons_zero, List.set_cons_succ]
  refine wpAnyH_take (i := 13) (v := ?v23) rfl (by kernel_rfl) (by kernel_rfl) (by kernel_rfl) (fun _ _ _ h => h) (Or.inl ⟨by rfl, ?hy23⟩) (by assumption) ?rest23
  case hy23 => (intro wy hSw; (try dsimp only at hSw); go_simp; (first | done | with_reducible rfl))
  try simp only [Act.put, List.getElem_toArray, List.getElem_cons_zero, List.getElem_cons_succ, List.setIfInBounds_toArray, List.set_cons_zero, List.set_cons_succ]
  refine wpAnyH_take (i := 14) (v := ?v24) rfl (by kernel_rfl) (by kernel_rfl) (by kernel_rfl) (fun _ _ _ h => h) (Or.inl ⟨by rfl, ?hy24⟩) (by assumption) ?rest24
  case hy24 => (intro wy hSw; (try dsimp only at hSw); go_simp; (first | done | with_reducible rfl))
  try simp only [Act.put, List.getElem_toArray, List.getElem_cons_zero, List.getElem_cons_succ, List.setIfInBounds_toArray, List.set_cons_zero, List.set_cons_succ]
  refine wpAnyH_done (by kernel_rfl) ?_ _
  clear hHeld
  go_wp2
  go_ret
  exact ⟨rfl, F10, G11, t6, HT12.out.pq, by have := HPL.out.1; omega, HPL.out.2⟩
set_option maxHeartbeats 12800000 in
theorem plays19_K4 {w0 w : World} {b d m : Nat} {F G : Ft} {t : Tb} (h : Pq w0 w b d F G t t m) (hm : m ≤ 9000) (hla : t.last ≤ 100000000000000) {ok ox op : Int} {ou : Value} {ow : List Int} (hs : ∀ wx, Below w0.heap.size w0 wx → Sees .i64 wx ou ow) (hlu : ow ≠ [] → ∀ k, ftV ou k → k < w0.heap.size) (hwf : (Lit.int .i64 ox).wf = true) (hz : ow.length * 8 ≤ 140737488351232) (hk : ok = 4) :
    Calls Try.prog 9 #[.pointer (some ⟨b, 0, none⟩), .pointer (some ⟨d, 0, none⟩), .agg #[.int .i64 ok, .int .i64 ox, .int .i64 op, ou]] w fun e w' => e = .returned (.bool true) ∧ ∃ F' G' t', Pq w0 w' b d F' G' t' t' (m + 4) ∧ t'.last ≤ t.last + 1 ∧ t'.at'.length = t.at'.length := by
  subst hk
  obtain ⟨i0, hi0, hz0, hzs, hzb⟩ := info_parts infoIntN
  have HSA := keepG hs
  have HLU := keepG hlu
  have HWF := keepG hwf
  have HP := keepG h
  have HZW : Hid (ow.length * 8 ≤ 140737488355328) := Nat.le_trans hz (by decide)
  have hl0 := h.okq.last
  obtain ⟨oa, oc, ev⟩ := (hs w h.la.be).shape
  subst ev
  obtain ⟨X, HX, hbX, HPX⟩ := op_box19 w ⟨4, ox, op, .slice oa ow.length oc, ow⟩
  obtain ⟨Z, HZ, hbZ, HOZ⟩ : ∃ Z, Hid (X.alloc (.cells #[] 3) = Z) ∧ Below X.heap.size X Z ∧ Hid (Z.ownsRow X.heap.size 3 1 (.slice (some ⟨X.heap.size, 0, none⟩) 0 0) ([] : List Int).length (([] : List Int).map (Value.int .i64))) := ⟨_, rfl, below_allocG _ _, own_emptyP X _ _⟩
  have HBZ : Hid (Below w.heap.size w Z) := hbX.trans (hbZ.mono hbX.size)
  have HSZ := keepG (HSA.out Z (h.la.be.trans (HBZ.out.mono h.la.be.size)))
  obtain ⟨bx, HBX⟩ : ∃ bx : Ow, Hid (⟨4, ox, op, .slice oa ow.length oc, ow⟩ = bx) := ⟨_, rfl⟩
  have HBC : Hid (∀ wx : World, Hp wx w.heap.size 35 (owC bx) → wx.cell? ⟨w.heap.size, 0, none⟩ = some (.int .i64 4) ∧ wx.cell? ⟨w.heap.size, 1, none⟩ = some (.int .i64 ox) ∧ wx.cell? ⟨w.heap.size, 2, none⟩ = some (.int .i64 op) ∧ wx.cell? ⟨w.heap.size, 3, none⟩ = some (.slice oa ow.length oc)) := by
    intro wx hx
    rw [← HBX.out] at hx
    exact ⟨hx.cell (j := 0) rfl, hx.cell (j := 1) rfl, hx.cell (j := 2) rfl, hx.cell (j := 3) rfl⟩
  rw [HBX.out] at HPX
  have hzZ := hbZ.size
  have c3X := (HBC.out _ HPX.out).2.2.2
  have c3Z := (HBC.out _ (HPX.out.below hbZ HPX.out.lt)).2.2.2
  have hXl0 : w.heap.size < X.heap.size := HPX.out.lt
  have hXn0 : ¬ w.heap.size = X.heap.size := by omega
  simp only at HX
  have HT8F : Hid (∀ w8 v8, Below X.heap.size X w8 → RoN w8 X.heap.size v8 ow → Pt w0 w8 b d w.heap.size F G t t m bx v8 ow) := by
    intro w8 v8 hb8 ho8
    have hb := hbX.trans (hb8.mono hbX.size)
    have hz0 := HP.out.la.be.size
    have hzx := hbX.size
    refine ⟨HP.out.below hb, HPX.out.below hb8 HPX.out.lt, ho8.low (by omega), fun e => ?_, fun e => ?_, fun k e1 e2 => ?_, fun k e1 e2 => ?_⟩
    · have := HP.out.la.lies _ e; omega
    · have := HP.out.liesG _ e; omega
    · have := HP.out.la.lies _ e1; have := (ho8.lt k e2).1; omega
    · have := HP.out.liesG _ e1; have := (ho8.lt k e2).1; omega
  clear h hs hlu hwf
  go_enter Try.func9, Try.ntmps9
  obtain ⟨t6, HQ⟩ : ∃ t6, Hid (t.fresh = t6) := ⟨_, rfl⟩
  have hw1 : IntKind.i64.wrap (t.last + 1) = t.last + 1 := by rw [IntKind.wrap_i64]; omega
  have HL6 : Hid (t6.last = t.last + 1 ∧ t6.at'.length = t.at'.length) := by rw [← HQ.out]; exact ⟨rfl, rfl⟩
  have hll : (t6.last == t.last + 1) = true := by rw [HL6.out.1]; simp
  go_wp2_with (first
    | (rw [HX.out])
    | (at_builtin; rw [HZ.out]; go_must (refine wpList_append_sees rfl _ _ 33 rfl X.heap.size 3 i0 _ 8 Try.underlying33 hi0 hz0 hzs hzb rfl .i64 (.slice (some ⟨X.heap.size, 0, none⟩) 0 0) [] rfl HOZ.out _ ow rfl HSZ.out (by unfold maxLen; simp; omega) (by simp; omega) hbZ.size ?_); intro v8 w8 hown8 hgr8; go_must (rw [List.nil_append] at hown8; have hb8 : Below X.heap.size X w8 := hbZ.trans ((Below.refl _ _).grown hgr8 hbZ.size (fun k hk => by have : X.heap.size = k := Option.some.inj hk; omega)); have HT8 := keepG (HT8F.out w8 v8 hb8 hown8); obtain ⟨va8, vc8, rfl⟩ := own_shape hown8; have q0 := (HBC.out _ HT8.out.box).1; have q1 := (HBC.out _ HT8.out.box).2.1; have q2 := (HBC.out _ HT8.out.box).2.2.1; have q3 := (HBC.out _ HT8.out.box).2.2.2; have cs := HT8.out.setLast HQ; have cs0 := cs.1; have cs1 := cs.2.1; obtain ⟨W3, HW3⟩ : ∃ W3, Hid (w8.setCell ⟨d, 1, none⟩ (.int .i64 (t.last + 1)) = W3) := ⟨_, rfl⟩; have HT9 := keepG cs.2.2; rw [HW3.out] at HT9; clear hown8 hgr8 hb8 cs))
    | (rw [HW3.out]))
  have HTd := keepG (HT9.out.drewN 1)
  have c1 := HT9.out.cellD
  rw [HL6.out.1] at c1
  refine wp_region_held_drew (S := fun w' => w'.cell? ⟨d, 1, none⟩ = some (.int .i64 (t.last + 1))) (by kernel_rfl) c1 (fun hHeld => ?_)
  refine wpAnyH_take (i := 0) (v := ?v25) rfl (by kernel_rfl) (by kernel_rfl) (by kernel_rfl) (fun _ _ _ h => h) (Or.inl ⟨by rfl, ?hy25⟩) (by assumption) ?rest25
  case hy25 => (intro wy hSw; (try dsimp only at hSw); go_simp; (first | done | with_reducible rfl))
  try simp only [Act.put, List.getElem_toArray, List.getElem_cons_zero, List.getElem_cons_succ, List.setIfInBounds_toArray, List.set_cons_zero, List.set_cons_succ]
  refine wpAnyH_take (i := 1) (v := ?v26) rfl (by kernel_rfl) (by kernel_rfl) (by kernel_rfl) (fun _ _ _ h => h) (Or.inl ⟨by rfl, ?hy26⟩) (by assumption) ?rest26
  case hy26 => (intro wy hSw; (try dsimp only at hSw); go_simp; (first | done | with_reducible rfl))
  try simp only [Act.put, List.getElem_toArray, List.getElem_cons_zero, List.getElem_cons_succ, List.setIfInBounds_toArray, List.set_cons_zero, List.set_cons_succ]
  refine wpAnyH_take (i := 2) (v := ?v27) rfl (by kernel_rfl) (by kernel_rfl) (by kernel_rfl) (fun _ _ _ h => h) (Or.inl ⟨by rfl, ?hy27⟩) (by assumption) ?rest27
  case hy27 => (intro wy hSw; (try dsimp only at hSw); go_simp; (first | done | with_reducible rfl))
  try simp only [Act.put, List.getElem_toArray, List.getElem_cons_zero, List.getElem_cons_succ, List.setIfInBounds_toArray, List.set_cons_zero, List.set_cons_succ]
  refine wpAnyH_take (i := 4) (v := ?v28) rfl (by kernel_rfl) (by kernel_rfl) (by kernel_rfl) (fun _ _ _ h => h) (Or.inl ⟨by rfl, ?hy28⟩) (by assumption) ?rest28
  case hy28 => (intro wy hSw; (try dsimp only at hSw); go_simp; (first | done | with_reducible rfl))
  try simp only [Act.put, List.getElem_toArray, List.getElem_cons_zero, List.getElem_cons_succ, List.setIfInBounds_toArray, List.set_cons_zero, List.set_cons_succ]
  refine wpAnyH_take (i := 5) (v := ?v29) rfl (by kernel_rfl) (by kernel_rfl) (by kernel_rfl) (fun _ _ _ h => h) (Or.inl ⟨by rfl, ?hy29⟩) (by assumption) ?rest29
  case hy29 => (intro wy hSw; (try dsimp only at hSw); go_simp; (first | done | with_reducible rfl))
  try simp only [Act.put, List.getElem_toArray, List.getElem_cons_zero, List.getElem_cons_succ, List.setIfInBounds_toArray, List.set_cons_zero, List.set_cons_succ]
  refine wpAnyH_take (i := 6) (v := ?v30) rfl (by kernel_rfl) (by kernel_rfl) (by kernel_rfl) (fun _ _ _ h => h) (Or.inl ⟨by rfl, ?hy30⟩) (by assumption) ?rest30
  case hy30 => (intro wy hSw; (try dsimp only at hSw); go_simp; (first | done | with_reducible rfl))
  try simp only [Act.put, List.getElem_toArray, List.getElem_cons_zero, List.getElem_cons_succ, List.setIfInBounds_toArray, List.set_cons_zero, List.set_cons_succ]
  refine wpAnyH_take (i := 7) (v := ?v31) rfl (by kernel_rfl) (by kernel_rfl) (by kernel_rfl) (fun _ _ _ h => h) (Or.inl ⟨by rfl, ?hy31⟩) (by assumption) ?rest31
  case hy31 => (intro wy hSw; (try dsimp only at hSw); go_simp; (first | done | with_reducible rfl))
  try simp only [Act.put, List.getElem_toArray, List.getElem_cons_zero, List.getElem_cons_succ, List.setIfInBounds_toArray, List.set_cons_zero, List.set_cons_succ]
  refine wpAnyH_ready (rs := [3]) (by kernel_rfl) (by simp) ?_
  refine AllReadyH.cons rfl (fun KK hK => ?_) AllReadyH.nil
  rw [if_pos (by rfl)]
  go_simp
  go_at_call 20
  refine (HTd.out.freshL (by omega) HQ).mono ?_
  rintro e w10 ⟨rfl, F10, ht10⟩
  have HT10 := keepG ht10
  have c10 := HT10.out.cellD
  rw [HL6.out.1] at c10
  go_simp
  refine hK.out _ _ c10 (fun hHeld => ?_)
  clear hK KK ht10
  try simp only [Act.put, List.getElem_toArray, List.getElem_cons_zero, List.getElem_cons_succ, List.setIfInBounds_toArray, List.set_cons_zero, List.set_cons_succ]
  refine wpAnyH_take (i := 8) (v := ?v32) rfl (by kernel_rfl) (by kernel_rfl) (by kernel_rfl) (fun _ _ _ h => h) (Or.inl ⟨by rfl, ?hy32⟩) (by assumption) ?rest32
  case hy32 => (intro wy hSw; (try dsimp only at hSw); go_simp; (first | done | with_reducible rfl))
  try simp only [Act.put, List.getElem_toArray, List.getElem_cons_zero, List.getElem_cons_succ, List.setIfInBounds_toArray, List.set_cons_zero, List.set_cons_succ]
  refine wpAnyH_take (i := 9) (v := ?v33) rfl (by kernel_rfl) (by kernel_rfl) (by kernel_rfl) (fun _ _ _ h => h) (Or.inl ⟨by rfl, ?hy33⟩) (by assumption) ?rest33
  case hy33 => (intro wy hSw; (try dsimp only at hSw); go_simp; (first | done | with_reducible rfl))
  try simp only [Act.put, List.getElem_toArray, List.getElem_cons_zero, List.getElem_cons_succ, List.setIfInBounds_toArray, List.set_cons_zero, List.set_cons_succ]
  refine wpAnyH_done (by kernel_rfl) ?_ _
  clear hHeld
  go_wp2
  go_ret
  exact ⟨rfl, F10, G, t6, HT10.out.pq.mono (by omega), by rw [HL6.out.1]; omega, HL6.out.2⟩
set_option maxHeartbeats 12800000 in
theorem plays19_KW {w0 w : World} {b d m : Nat} {F G : Ft} {t : Tb} (h : Pq w0 w b d F G t t m) (hm : m ≤ 9000) (hla : t.last ≤ 100000000000000) {ok ox op : Int} {ou : Value} {ow : List Int} (hs : ∀ wx, Below w0.heap.size w0 wx → Sees .i64 wx ou ow) (hlu : ow ≠ [] → ∀ k, ftV ou k → k < w0.heap.size) (hwf : (Lit.int .i64 ox).wf = true) (hz : ow.length * 8 ≤ 140737488351232) (k0 : ok ≠ 0) (k1 : ok ≠ 1) (k2 : ok ≠ 2) (k3 : ok ≠ 3) (k4 : ok ≠ 4) :
    Calls Try.prog 9 #[.pointer (some ⟨b, 0, none⟩), .pointer (some ⟨d, 0, none⟩), .agg #[.int .i64 ok, .int .i64 ox, .int .i64 op, ou]] w fun e w' => e = .returned (.bool true) ∧ ∃ F' G' t', Pq w0 w' b d F' G' t' t' (m + 4) ∧ t'.last ≤ t.last + 1 ∧ t'.at'.length = t.at'.length := by
  have b0 : (ok == 0) = false := by simpa using k0
  have b1 : (ok == 1) = false := by simpa using k1
  have b2 : (ok == 2) = false := by simpa using k2
  have b3 : (ok == 3) = false := by simpa using k3
  have b4 : (ok == 4) = false := by simpa using k4
  obtain ⟨i0, hi0, hz0, hzs, hzb⟩ := info_parts infoIntN
  have HSA := keepG hs
  have HLU := keepG hlu
  have HWF := keepG hwf
  have HP := keepG h
  have HZW : Hid (ow.length * 8 ≤ 140737488355328) := Nat.le_trans hz (by decide)
  have hl0 := h.okq.last
  obtain ⟨oa, oc, ev⟩ := (hs w h.la.be).shape
  subst ev
  obtain ⟨X, HX, hbX, HPX⟩ := op_box19 w ⟨ok, ox, op, .slice oa ow.length oc, ow⟩
  obtain ⟨Z, HZ, hbZ, HOZ⟩ : ∃ Z, Hid (X.alloc (.cells #[] 3) = Z) ∧ Below X.heap.size X Z ∧ Hid (Z.ownsRow X.heap.size 3 1 (.slice (some ⟨X.heap.size, 0, none⟩) 0 0) ([] : List Int).length (([] : List Int).map (Value.int .i64))) := ⟨_, rfl, below_allocG _ _, own_emptyP X _ _⟩
  have HBZ : Hid (Below w.heap.size w Z) := hbX.trans (hbZ.mono hbX.size)
  have HSZ := keepG (HSA.out Z (h.la.be.trans (HBZ.out.mono h.la.be.size)))
  obtain ⟨bx, HBX⟩ : ∃ bx : Ow, Hid (⟨ok, ox, op, .slice oa ow.length oc, ow⟩ = bx) := ⟨_, rfl⟩
  have HBC : Hid (∀ wx : World, Hp wx w.heap.size 35 (owC bx) → wx.cell? ⟨w.heap.size, 0, none⟩ = some (.int .i64 ok) ∧ wx.cell? ⟨w.heap.size, 1, none⟩ = some (.int .i64 ox) ∧ wx.cell? ⟨w.heap.size, 2, none⟩ = some (.int .i64 op) ∧ wx.cell? ⟨w.heap.size, 3, none⟩ = some (.slice oa ow.length oc)) := by
    intro wx hx
    rw [← HBX.out] at hx
    exact ⟨hx.cell (j := 0) rfl, hx.cell (j := 1) rfl, hx.cell (j := 2) rfl, hx.cell (j := 3) rfl⟩
  rw [HBX.out] at HPX
  have hzZ := hbZ.size
  have c3X := (HBC.out _ HPX.out).2.2.2
  have c3Z := (HBC.out _ (HPX.out.below hbZ HPX.out.lt)).2.2.2
  have hXl0 : w.heap.size < X.heap.size := HPX.out.lt
  have hXn0 : ¬ w.heap.size = X.heap.size := by omega
  simp only at HX
  have HT8F : Hid (∀ w8 v8, Below X.heap.size X w8 → RoN w8 X.heap.size v8 ow → Pt w0 w8 b d w.heap.size F G t t m bx v8 ow) := by
    intro w8 v8 hb8 ho8
    have hb := hbX.trans (hb8.mono hbX.size)
    have hz0 := HP.out.la.be.size
    have hzx := hbX.size
    refine ⟨HP.out.below hb, HPX.out.below hb8 HPX.out.lt, ho8.low (by omega), fun e => ?_, fun e => ?_, fun k e1 e2 => ?_, fun k e1 e2 => ?_⟩
    · have := HP.out.la.lies _ e; omega
    · have := HP.out.liesG _ e; omega
    · have := HP.out.la.lies _ e1; have := (ho8.lt k e2).1; omega
    · have := HP.out.liesG _ e1; have := (ho8.lt k e2).1; omega
  clear h hs hlu hwf
  go_enter Try.func9, Try.ntmps9
  obtain ⟨A, HA⟩ : ∃ A, Hid (t.wh ow = A) := ⟨_, rfl⟩
  go_wp2_with (first
    | (rw [HX.out])
    | (at_builtin; rw [HZ.out]; go_must (refine wpList_append_sees rfl _ _ 33 rfl X.heap.size 3 i0 _ 8 Try.underlying33 hi0 hz0 hzs hzb rfl .i64 (.slice (some ⟨X.heap.size, 0, none⟩) 0 0) [] rfl HOZ.out _ ow rfl HSZ.out (by unfold maxLen; simp; omega) (by simp; omega) hbZ.size ?_); intro v8 w8 hown8 hgr8; go_must (rw [List.nil_append] at hown8; have hb8 : Below X.heap.size X w8 := hbZ.trans ((Below.refl _ _).grown hgr8 hbZ.size (fun k hk => by have : X.heap.size = k := Option.some.inj hk; omega)); have HT8 := keepG (HT8F.out w8 v8 hb8 hown8); obtain ⟨va8, vc8, rfl⟩ := own_shape hown8; have q0 := (HBC.out _ HT8.out.box).1; have q1 := (HBC.out _ HT8.out.box).2.1; have q2 := (HBC.out _ HT8.out.box).2.2.1; have q3 := (HBC.out _ HT8.out.box).2.2.2; clear hown8 hgr8 hb8)))
  have HTd := keepG (HT8.out.drewN 1)
  have HS8 : Hid (∀ wx : World, RoN wx w0.heap.size (.slice va8 ow.length vc8) ow → Sees .i64 wx (.slice va8 ow.length vc8) ow) := fun wx hx => Sees.own hx HSZ.out.wf
  refine wp_region_held_drew (S := fun w' => w'.cell? ⟨w.heap.size, 3, none⟩ = some (.slice oa ow.length oc)) (by kernel_rfl) q3 (fun hHeld => ?_)
  refine wpAnyH_take (i := 0) (v := ?v34) rfl (by kernel_rfl) (by kernel_rfl) (by kernel_rfl) (fun _ _ _ h => h) (Or.inl ⟨by rfl, ?hy34⟩) (by assumption) ?rest34
  case hy34 => (intro wy hSw; (try dsimp only at hSw); go_simp; (first | done | with_reducible rfl))
  try simp only [Act.put, List.getElem_toArray, List.getElem_cons_zero, List.getElem_cons_succ, List.setIfInBounds_toArray, List.set_cons_zero, List.set_cons_succ]
  refine wpAnyH_take (i := 1) (v := ?v35) rfl (by kernel_rfl) (by kernel_rfl) (by kernel_rfl) (fun _ _ _ h => h) (Or.inl ⟨by rfl, ?hy35⟩) (by assumption) ?rest35
  case hy35 => (intro wy hSw; (try dsimp only at hSw); go_simp; (first | done | with_reducible rfl))
  try simp only [Act.put, List.getElem_toArray, List.getElem_cons_zero, List.getElem_cons_succ, List.setIfInBounds_toArray, List.set_cons_zero, List.set_cons_succ]
  refine wpAnyH_take (i := 3) (v := ?v36) rfl (by kernel_rfl) (by kernel_rfl) (by kernel_rfl) (fun _ _ _ h => h) (Or.inl ⟨by rfl, ?hy36⟩) (by assumption) ?rest36
  case hy36 => (intro wy hSw; (try dsimp only at hSw); go_simp; (first | done | with_reducible rfl))
  try simp only [Act.put, List.getElem_toArray, List.getElem_cons_zero, List.getElem_cons_succ, List.setIfInBounds_toArray, List.set_cons_zero, List.set_cons_succ]
  refine wpAnyH_take (i := 4) (v := ?v37) rfl (by kernel_rfl) (by kernel_rfl) (by kernel_rfl) (fun _ _ _ h => h) (Or.inl ⟨by rfl, ?hy37⟩) (by assumption) ?rest37
  case hy37 => (intro wy hSw; (try dsimp only at hSw); go_simp; (first | done | with_reducible rfl))
  try simp only [Act.put, List.getElem_toArray, List.getElem_cons_zero, List.getElem_cons_succ, List.setIfInBounds_toArray, List.set_cons_zero, List.set_cons_succ]
  refine wpAnyH_take (i := 5) (v := ?v38) rfl (by kernel_rfl) (by kernel_rfl) (by kernel_rfl) (fun _ _ _ h => h) (Or.inl ⟨by rfl, ?hy38⟩) (by assumption) ?rest38
  case hy38 => (intro wy hSw; (try dsimp only at hSw); go_simp; (first | done | with_reducible rfl))
  try simp only [Act.put, List.getElem_toArray, List.getElem_cons_zero, List.getElem_cons_succ, List.setIfInBounds_toArray, List.set_cons_zero, List.set_cons_succ]
  refine wpAnyH_ready (rs := [2]) (by kernel_rfl) (by simp) ?_
  refine AllReadyH.cons rfl (fun KK hK => ?_) AllReadyH.nil
  rw [if_pos (by rfl)]
  go_simp
  go_at_call 16
  refine (HTd.out.pq.la.wher (HS8.out _ HTd.out.ro) HA).mono ?_
  rintro e w10 ⟨vx, rfl, hx, hb10⟩
  have HT10 := keepG (HTd.out.below hb10)
  obtain ⟨xa, xc, rfl⟩ := own_shape hx
  have HX10 := keepG hx
  go_simp
  refine hK.out _ _ (HBC.out _ HT10.out.box).2.2.2 (fun hHeld => ?_)
  clear hK KK hb10 hx
  try simp only [Act.put, List.getElem_toArray, List.getElem_cons_zero, List.getElem_cons_succ, List.setIfInBounds_toArray, List.set_cons_zero, List.set_cons_succ]
  refine wpAnyH_ready (rs := [6]) (by kernel_rfl) (by simp) ?_
  refine AllReadyH.cons rfl (fun KK hK => ?_) AllReadyH.nil
  rw [if_pos (by rfl)]
  go_simp
  go_at_call 21
  refine (HT10.out.whereD (by omega) (HSA.out _ HT10.out.pq.la.be) HA).mono ?_
  rintro e w11 ⟨vy, rfl, hy, hb11⟩
  have HT11 := keepG (HT10.out.below hb11)
  have HX11 := keepG (HX10.out.below hb11)
  obtain ⟨ya, yc, rfl⟩ := own_shape hy
  have HY11 := keepG hy
  go_simp
  refine hK.out _ _ (HBC.out _ HT11.out.box).2.2.2 (fun hHeld => ?_)
  clear hK KK hb11 hy
  try simp only [Act.put, List.getElem_toArray, List.getElem_cons_zero, List.getElem_cons_succ, List.setIfInBounds_toArray, List.set_cons_zero, List.set_cons_succ]
  refine wpAnyH_ready (rs := [7]) (by kernel_rfl) (by simp) ?_
  refine AllReadyH.cons rfl (fun KK hK => ?_) AllReadyH.nil
  rw [if_pos (by rfl)]
  go_simp
  go_at_call 19
  refine (wints19 HX11.out.rdn HY11.out.rdn).mono ?_
  rintro e w12 ⟨rfl, hb12⟩
  have HT12 := keepG (HT11.out.below hb12)
  go_simp
  refine hK.out _ _ (HBC.out _ HT12.out.box).2.2.2 (fun hHeld => ?_)
  clear hK KK hb12
  try simp only [Act.put, List.getElem_toArray, List.getElem_cons_zero, List.getElem_cons_succ, List.setIfInBounds_toArray, List.set_cons_zero, List.set_cons_succ]
  refine wpAnyH_take (i := 8) (v := ?v39) rfl (by kernel_rfl) (by kernel_rfl) (by kernel_rfl) (fun _ _ _ h => h) (Or.inl ⟨by rfl, ?hy39⟩) (by assumption) ?rest39
  case hy39 => (intro wy hSw; (try dsimp only at hSw); go_simp; (first | done | with_reducible rfl))
  try simp only [Act.put, List.getElem_toArray, List.getElem_cons_zero, List.getElem_cons_succ, List.setIfInBounds_toArray, List.set_cons_zero, List.set_cons_succ]
  refine wpAnyH_take (i := 9) (v := ?v40) rfl (by kernel_rfl) (by kernel_rfl) (by kernel_rfl) (fun _ _ _ h => h) (Or.inl ⟨by rfl, ?hy40⟩) (by assumption) ?rest40
  case hy40 => (intro wy hSw; (try dsimp only at hSw); go_simp; (first | done | with_reducible rfl))
  try simp only [Act.put, List.getElem_toArray, List.getElem_cons_zero, List.getElem_cons_succ, List.setIfInBounds_toArray, List.set_cons_zero, List.set_cons_succ]
  refine wpAnyH_take (i := 10) (v := ?v41) rfl (by kernel_rfl) (by kernel_rfl) (by kernel_rfl) (fun _ _ _ h => h) (Or.inl ⟨by rfl, ?hy41⟩) (by assumption) ?rest41
  case hy41 => (intro wy hSw; (try dsimp only at hSw); go_simp; (first | done | with_reducible rfl))
  try simp only [Act.put, List.getElem_toArray, List.getElem_cons_zero, List.getElem_cons_succ, List.setIfInBounds_toArray, List.set_cons_zero, List.set_cons_succ]
  refine wpAnyH_take (i := 11) (v := ?v42) rfl (by kernel_rfl) (by kernel_rfl) (by kernel_rfl) (fun _ _ _ h => h) (Or.inl ⟨by rfl, ?hy42⟩) (by assumption) ?rest42
  case hy42 => (intro wy hSw; (try dsimp only at hSw); go_simp; (first | done | with_reducible rfl))
  try simp only [Act.put, List.getElem_toArray, List.getElem_cons_zero, List.getElem_cons_succ, List.setIfInBounds_toArray, List.set_cons_zero, List.set_cons_succ]
  refine wpAnyH_ready (rs := [12]) (by kernel_rfl) (by simp) ?_
  refine AllReadyH.cons rfl (fun KK hK => ?_) AllReadyH.nil
  rw [if_pos (by rfl)]
  go_simp
  go_at_call 19
  refine (wints19 HT12.out.ro.rdn (HSA.out _ HT12.out.pq.la.be).rdn).mono ?_
  rintro e w13 ⟨rfl, hb13⟩
  have HT13 := keepG (HT12.out.below hb13)
  go_simp
  refine hK.out _ _ (HBC.out _ HT13.out.box).2.2.2 (fun hHeld => ?_)
  clear hK KK hb13
  try simp only [Act.put, List.getElem_toArray, List.getElem_cons_zero, List.getElem_cons_succ, List.setIfInBounds_toArray, List.set_cons_zero, List.set_cons_succ]
  refine wpAnyH_take (i := 13) (v := ?v43) rfl (by kernel_rfl) (by kernel_rfl) (by kernel_rfl) (fun _ _ _ h => h) (Or.inl ⟨by rfl, ?hy43⟩) (by assumption) ?rest43
  case hy43 => (intro wy hSw; (try dsimp only at hSw); go_simp; (first | done | with_reducible rfl))
  try simp only [Act.put, List.getElem_toArray, List.getElem_cons_zero, List.getElem_cons_succ, List.setIfInBounds_toArray, List.set_cons_zero, List.set_cons_succ]
  refine wpAnyH_take (i := 14) (v := ?v44) rfl (by kernel_rfl) (by kernel_rfl) (by kernel_rfl) (fun _ _ _ h => h) (Or.inl ⟨by rfl, ?hy44⟩) (by assumption) ?rest44
  case hy44 => (intro wy hSw; (try dsimp only at hSw); go_simp; (first | done | with_reducible rfl))
  try simp only [Act.put, List.getElem_toArray, List.getElem_cons_zero, List.getElem_cons_succ, List.setIfInBounds_toArray, List.set_cons_zero, List.set_cons_succ]
  refine wpAnyH_done (by kernel_rfl) ?_ _
  clear hHeld
  go_wp2
  go_ret
  exact ⟨rfl, F, G, t, HT13.out.pq.mono (by omega), by omega, rfl⟩
/-- One call of a script. -/
theorem plays19 {w0 w : World} {b d m : Nat} {F G : Ft} {t : Tb} (h : Pq w0 w b d F G t t m) (hm : m ≤ 9000) (hla : t.last ≤ 100000000000000) {ok ox op : Int} {ou : Value} {ow : List Int} (hs : ∀ wx, Below w0.heap.size w0 wx → Sees .i64 wx ou ow) (hlu : ow ≠ [] → ∀ k, ftV ou k → k < w0.heap.size) (hwf : (Lit.int .i64 ox).wf = true) (hz : ow.length * 8 ≤ 140737488351232) :
    Calls Try.prog 9 #[.pointer (some ⟨b, 0, none⟩), .pointer (some ⟨d, 0, none⟩), .agg #[.int .i64 ok, .int .i64 ox, .int .i64 op, ou]] w fun e w' => e = .returned (.bool true) ∧ ∃ F' G' t', Pq w0 w' b d F' G' t' t' (m + 4) ∧ t'.last ≤ t.last + 1 ∧ t'.at'.length = t.at'.length := by
  by_cases k0 : ok = 0
  · exact plays19_K0 h hm hla hs hlu hwf hz k0
  · by_cases k1 : ok = 1
    · exact plays19_K1 h hm hla hs hlu hwf hz k1
    · by_cases k2 : ok = 2
      · exact plays19_K2 h hm hla hs hlu hwf hz k2
      · by_cases k3 : ok = 3
        · exact plays19_K3 h hm hla hs hlu hwf hz k3
        · by_cases k4 : ok = 4
          · exact plays19_K4 h hm hla hs hlu hwf hz k4
          · exact plays19_KW h hm hla hs hlu hwf hz k0 k1 k2 k3 k4
end Go.Proofs.Ytknijloificpmaa
