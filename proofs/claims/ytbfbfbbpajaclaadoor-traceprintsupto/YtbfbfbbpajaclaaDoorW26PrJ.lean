
/-
  Layer 26: TracePrints walked. Conditions: the listed variables read as they are laid; the entries' fields are of their kinds; a million entries at most.
-/
import Derived.Test.YtbfbfbbpajaclaaDoorMB0
import Derived.Test.YtbfbfbbpajaclaaDoorMB41
import Derived.Test.YtbfbfbbpajaclaaDoorT26ApJ
import Derived.Test.YtbfbfbbpajaclaaDoorMB32
import Derived.Test.YtbfbfbbpajaclaaDoorW26EaJ
namespace Go.Proofs.YtbfbfbbpajaclaaDoor
open Go.RowKit
set_option linter.unusedVariables false
set_option linter.unusedSimpArgs false
set_option maxRecDepth 100000
theorem size_En26 (w : World) : (Go.sizeOf 36).run Tryd.prog w = .ok 22 w := by
  obtain ⟨i0, hi, hz0, hz1, hz2⟩ := info_parts infoEn26
  simp [Go.sizeOf, typeInfo, hi, hz1]
theorem run_one26 (bk off n cap k : Nat) (h : k < n) (hc : n ≤ cap) (w : World) : (Instr.slice 22 (.slice (some ⟨bk, off, none⟩) n cap) (some (.int .i64 k)) (some (.int .i64 ((k : Int) + 1))) none).run Tryd.prog w = .ok (.slice (some ⟨bk, off + k * 22, none⟩) 1 (cap - k)) w := by
  have h0 : ((k : Int) + 1) ≤ (cap : Int) := by omega
  have h1 : (0 : Int) ≤ (k : Int) + 1 := by omega
  have h2 : ¬ cap = k := by omega
  have h3 : ((k : Int) + 1).toNat = k + 1 := by omega
  have h4 : (k : Int) ≤ (k : Int) + 1 := by omega
  simp [Instr.slice, run_underlying Tryd.underlying22, Instr.sliceBounds, run_sliceBound, h0, h1, h2, h3, h4, size_En26, Addr.add_mid]
theorem sees_one26 {w : World} {p o cap : Nat} {e : En} (hp : p < w.heap.size) (hc : 1 ≤ cap) (hm : cap ≤ 9223372036854775807) (h : w.rangeAt p o (enC e)) : SeesG enC 22 En.nil w (.slice (some ⟨p, o, none⟩) 1 cap) [e] := by
  refine ⟨_, cap, rfl, hc, by unfold maxLen; omega, (fun h => by cases h), fun _ => ⟨p, o, rfl, hp, fun k hk j hj => ?_⟩⟩
  obtain rfl : k = 0 := by simpa using hk
  obtain ⟨v, hv⟩ : ∃ v, (enC e)[j]? = some v := ⟨_, List.getElem?_eq_getElem hj⟩
  show w.cell? ⟨p, o + 0 * 22 + j, none⟩ = (enC e)[j]?
  rw [Nat.zero_mul, Nat.add_zero, hv]
  exact h j v hv
theorem en_lt26 {w : World} {n cap p off : Nat} {l : List En} (h : SeesG enC 22 En.nil w (.slice (some ⟨p, off, none⟩) n cap) l) (hl : l ≠ []) : p < w.heap.size := by
  obtain ⟨a', cap', ev, _, _, _, hat⟩ := h
  simp only [Value.slice.injEq] at ev
  obtain ⟨rfl, _, rfl⟩ := ev
  obtain ⟨p', off', he, hlt, _⟩ := hat hl
  injection he with he
  injection he with h1 h2
  subst h1
  exact hlt
set_option maxHeartbeats 12800000 in
theorem prints26 (v : Value) (xs : List En) (mark : Int) (w : World) (hs : SeesG enC 22 En.nil w v xs) (hwf : ∀ e ∈ xs, e.wf) (hx : xs.length ≤ 1048576) (h : Laid w) : Calls Tryd.prog 3 #[v, .int .i64 mark] w fun r w' => r = .returned (.bool true) ∧ Below w.heap.size w w' := by
  obtain ⟨i0, hi, hz0, hz1, hz2⟩ := info_parts infoEn26
  have HS := keepG hs
  have HWF := keepG hwf
  have HL : Hid (Laid w) := h
  obtain ⟨T, E, HQ⟩ : ∃ T E, Hid (printE xs = (T, E)) := ⟨_, _, rfl⟩
  obtain ⟨nm, HNM⟩ : ∃ nm, Hid (nmE mark = nm) := ⟨_, rfl⟩
  have hnn : (nm == nm) = true := by simp
  have htt : (T == T) = true := by simp
  obtain ⟨a, cap, rfl, hlc, hmx⟩ := hs.shape
  clear hs hwf h
  go_enter Tryd.func3, Tryd.ntmps3
  go_wp2_with (first
    | (go_at_call 8; go_must (refine (awake26 _ HL.out).mono ?_); rintro x1 w1 ⟨rfl, hb1⟩; go_must (have HB1 := keepG hb1; clear hb1))
    | (go_at_call 9; go_must (refine (lname26 mark _).mono ?_); rintro x2 w2 ⟨rfl, rfl⟩; go_must (rw [HNM.out]))
    | (go_at_call 10; go_must (refine (rname26 mark _).mono ?_); rintro x3 w3 ⟨rfl, hb3⟩; go_must (rw [HNM.out]; have HB3 := keepG (HB1.out.trans (hb3.mono HB1.out.size)); clear hb3; obtain ⟨Z, HZ, HOZ, HBZ, hzZ⟩ := own_zero26 w3 22 36; have HSZ := keepG ((HS.out.below HB3.out (Nat.le_refl _)).below HBZ.out (Nat.le_refl _))))
    | (rw [HZ.out])
    | (at_builtin; go_must (refine wpList_append26 (by rfl) (.tmp 26) (.tmp 27) 22 rfl w3.heap.size 36 i0 (.agg (enC En.nil).toArray) 22 176 Tryd.underlying22 hi hz0 hz1 hz2 rfl (by decide) _ ([] : List En) rfl HOZ.out _ xs rfl enC_len HSZ.out (flat_oneE _) (by unfold maxLen; simp; omega) (by simp; omega) hzZ ?_); intro v5 wi hown8 hg8; go_must (have HC8 : Hid (Below w3.heap.size w3 wi) := HBZ.out.grown hg8 hzZ (fun j hj => by first | (have hj : w3.heap.size = j := Option.some.inj hj; omega)); have HI5 : Hid (SeesG enC 22 En.nil wi v5 xs) := own_seesG enC_len En.nil hown8; have HBI : Hid (Below w.heap.size w wi) := HB3.out.trans (HC8.out.mono HB3.out.size); clear hown8 hg8 HOZ HSZ)))
  go_loopw [6, 7] (fun al i wr => ∃ k : Nat, k ≤ xs.length ∧ i = .int .i64 k ∧ al = .bool ((xs.take k).all plainE) ∧ Hid (Below wi.heap.size wi wr)) (fun _ i _ => xs.length - (intOf i).toNat)
  case atStart => exact ⟨0, by omega, rfl, rfl, Below.refl _ _⟩
  case round =>
    rename World => wr
    obtain ⟨k, hk, rfl, rfl, HBK⟩ := hrel
    have HBW : Hid (Below w.heap.size w wr) := HBI.out.trans (HBK.out.mono HBI.out.size)
    have hzi := HBI.out.size
    by_cases hlt : k < xs.length
    · have hltI : (k : Int) < xs.length := by omega
      obtain ⟨p, off, ea, hat⟩ := enAt26 HS.out hlt
      subst ea
      have hpw := en_lt26 HS.out (fun e => by rw [e] at hlt; simp at hlt)
      obtain ⟨e, HE⟩ : ∃ e, Hid (xs.getD k En.nil = e) := ⟨_, rfl⟩
      have HAT : Hid (∀ wx, Below w.heap.size w wx → wx.rangeAt p (off + k * 22) (enC e)) := fun wx hb => hat wx e hb HE.out
      have HR1 := keepG (HAT.out wr HBW.out)
      have hxk : xs[k] = e := by have h := HE.out; rw [List.getD_eq_getElem?_getD, List.getElem?_eq_getElem hlt] at h; exact h
      have HEW : Hid e.wf := HWF.out e (by rw [← hxk]; exact List.getElem_mem _)
      have HALL : Hid ((xs.take (k + 1)).all plainE = ((xs.take k).all plainE && plainE e)) := by show _ = _; rw [take_more xs hlt hxk, List.all_append]; simp
      have hsl := run_one26 p off xs.length cap k hlt hlc
      clear hat hxk
      obtain ⟨b, HBB⟩ : ∃ b, Hid ((xs.take k).all plainE = b) := ⟨_, rfl⟩
      obtain ⟨pb, HPB⟩ : ∃ pb, Hid (plainE e = pb) := ⟨_, rfl⟩
      rw [HBB.out, HPB.out] at HALL
      rw [HBB.out]
      obtain ⟨S1, E1, HP1⟩ : ∃ S1 E1, Hid (printE [e] = (S1, E1)) := ⟨_, _, rfl⟩
      have HW1 : Hid (∀ x ∈ [e], x.wf) := fun x hx => by
        simp only [List.mem_cons, List.not_mem_nil, or_false] at hx
        subst hx
        exact HEW.out
      obtain ⟨ne, HNE⟩ : ∃ ne, Hid (nmE e.wh = ne) := ⟨_, rfl⟩
      have hss : (S1 == S1) = true := by simp
      have hne : (ne == ne) = true := by simp
      have hpp : (pb == pb) = true := by simp
      have HSS : Hid (∀ wx, Below w.heap.size w wx → wx.rangeAt p (off + k * 22) (enC e) ∧ wx.cell? ⟨p, off + k * 22, none⟩ = some (.int .i64 e.wh)) := fun wx hb => ⟨HAT.out wx hb, HAT.out wx hb 0 _ rfl⟩
      cases b
      all_goals
        go_wp2_with (first
          | ((with_reducible refine wpList_load_mid ?_ 36 (.tmp 37) ?_ p (off + k * 22) ?_ (enC e) _ HR1.out Tryd.underlying36 ?_ (sizeEn _) ?_); rfl; rfl; rfl; rfl)
          | (go_at_call 11; go_must (refine (plain26 e HEW.out _).mono ?_); rintro x4 w4 ⟨rfl, hb4⟩; go_must (rw [HPB.out]; have HK4 : Hid (Below wi.heap.size wi w4) := HBK.out.trans (hb4.mono HBK.out.size); have HB4 : Hid (Below w.heap.size w w4) := HBI.out.trans (HK4.out.mono HBI.out.size); have HR4 := keepG (HAT.out w4 HB4.out); clear hb4; obtain ⟨X, HX, HSX, HBX⟩ := one_box26 w4 e; have HX := HX.out; dsimp only [enC] at HX; have HX := keepG HX; have HKX : Hid (Below wi.heap.size wi X) := HK4.out.trans (HBX.out.mono HK4.out.size); have HBXw : Hid (Below w.heap.size w X) := HBI.out.trans (HKX.out.mono HBI.out.size)))
          | ((with_reducible refine wpList_load_mid ?_ 36 (.tmp 47) ?_ p (off + k * 22) ?_ (enC e) _ HR4.out Tryd.underlying36 ?_ (sizeEn _) ?_); rfl; rfl; rfl; rfl)
          | (rw [HX.out])
          | (go_at_call 12; go_must (have c := lprint26 _ [e] _ (laid_keeps _ _ HL.out HBXw.out) HSX.out HW1.out (by simp); rw [HP1.out] at c; refine c.mono ?_; clear c); rintro x5 w5 ⟨rfl, hb5⟩; go_must (have HK5 : Hid (Below wi.heap.size wi w5) := HKX.out.trans (hb5.mono HKX.out.size); have HB5 : Hid (Below w.heap.size w w5) := HBI.out.trans (HK5.out.mono HBI.out.size); have HS5 := keepG (sees_one26 (cap := cap - k) (Nat.lt_of_lt_of_le hpw HB5.out.size) (by omega) (by omega) (HAT.out w5 HB5.out)); clear hb5))
          | (go_at_call 13; go_must (have c := print26 _ [e] _ HS5.out HW1.out (by simp); rw [HP1.out] at c; refine c.mono ?_; clear c); rintro x6 w6 ⟨rfl, hb6⟩; go_must (have HK6 : Hid (Below wi.heap.size wi w6) := HK5.out.trans (hb6.mono HK5.out.size); have HB6 : Hid (Below w.heap.size w w6) := HBI.out.trans (HK6.out.mono HBI.out.size); clear hb6)))
        obtain ⟨X2, HX2, HSX2, HBX2⟩ := one_box26 w6 e
        have HX2 := HX2.out
        dsimp only [enC] at HX2
        have HX2 := keepG HX2
        have HKX2 : Hid (Below wi.heap.size wi X2.drew) := below_drG (HK6.out.trans (HBX2.out.mono HK6.out.size))
        have HBX2w : Hid (Below w.heap.size w X2.drew) := HBI.out.trans (HKX2.out.mono HBI.out.size)
        refine wp_region_held_drew (S := fun w' => w'.rangeAt p (off + k * 22) (enC e) ∧ w'.cell? ⟨p, off + k * 22, none⟩ = some (.int .i64 e.wh)) (by kernel_rfl) (HSS.out w6 HB6.out) (fun hHeld => ?_)
        refine tkGo [0, 1, 2] ?_
        repeat (refine tkO (v := ?_) rfl ?_ ?_; rotate_left; (intro wy hSw; (try dsimp only at hSw); go_simp; (first | done | with_reducible rfl)); try simp only [Act.put, p1q, p2q, p3q, p4q, p5q, p6q])
        refine tkEnd ?_
        refine wpAnyH_take (i := 3) rfl (by kernel_rfl) (by kernel_rfl) (by kernel_rfl) (fun _ _ _ h => h) (yieldsIf_load_mid (by rfl) _ _ rfl _ _ rfl (enC e) _ (fun w h => h.1) Tryd.underlying36 rfl (sizeEn e)) (by assumption) ?_
        try simp only [Act.put, p1q, p2q, p3q, p4q, p5q, p6q]
        refine tkGo [6] ?_
        repeat (refine tkO (v := ?_) rfl ?_ ?_; rotate_left; (intro wy hSw; (try dsimp only at hSw); go_simp; (first | done | with_reducible rfl)); try simp only [Act.put, p1q, p2q, p3q, p4q, p5q, p6q])
        refine tkEnd ?_
        refine runO 4 (by kernel_rfl) rfl (by rfl) (fun KK hK => ?_)
        go_simp
        try rw [HX2.out]
        refine hK.out _ _ (HSS.out _ HBX2w.out) (fun hHeld => ?_)
        clear hK KK
        try simp only [Act.put, p1q, p2q, p3q, p4q, p5q, p6q]
        refine runO 5 (by kernel_rfl) rfl (by rfl) (fun KK hK => ?_)
        go_simp
        go_at_call 14
        have c := lPlain26 _ [e] X2.drew (laid_keeps _ _ HL.out HBX2w.out) HSX2.out.drew
        rw [show [e].all plainE = pb by simp [HPB.out]] at c
        refine c.mono ?_
        clear c
        rintro x7 w7 ⟨rfl, hb7⟩
        have HK7 : Hid (Below wi.heap.size wi w7) := HKX2.out.trans (hb7.mono HKX2.out.size)
        have HB7 : Hid (Below w.heap.size w w7) := HBI.out.trans (HK7.out.mono HBI.out.size)
        go_simp
        refine hK.out _ _ (HSS.out _ HB7.out) (fun hHeld => ?_)
        clear hK KK hb7
        try simp only [Act.put, p1q, p2q, p3q, p4q, p5q, p6q]
        refine tkGo [7, 8, 9, 10, 11, 12, 13, 14, 15, 16, 17, 18, 19, 20, 21, 22, 23, 25, 26, 27, 28, 29] ?_
        repeat (refine tkO (v := ?_) rfl ?_ ?_; rotate_left; (intro wy hSw; (try dsimp only at hSw); go_simp; (first | done | with_reducible rfl)); try simp only [Act.put, p1q, p2q, p3q, p4q, p5q, p6q])
        refine tkEnd ?_
        refine runO 24 (by kernel_rfl) rfl (by rfl) (fun KK hK => ?_)
        go_simp
        go_at_call 9
        refine (lname26 e.wh _).mono ?_
        rintro x8 w8 ⟨rfl, rfl⟩
        rw [HNE.out]
        go_simp
        refine hK.out _ _ (HSS.out _ HB7.out) (fun hHeld => ?_)
        clear hK KK
        try simp only [Act.put, p1q, p2q, p3q, p4q, p5q, p6q]
        refine runO 30 (by kernel_rfl) rfl (by rfl) (fun KK hK => ?_)
        go_simp
        go_at_call 10
        refine (rname26 e.wh _).mono ?_
        rintro x9 w9 ⟨rfl, hb9⟩
        rw [HNE.out]
        have HK9 : Hid (Below wi.heap.size wi w9) := HK7.out.trans (hb9.mono HK7.out.size)
        have HB9 : Hid (Below w.heap.size w w9) := HBI.out.trans (HK9.out.mono HBI.out.size)
        go_simp
        refine hK.out _ _ (HSS.out _ HB9.out) (fun hHeld => ?_)
        clear hK KK hb9
        try simp only [Act.put, p1q, p2q, p3q, p4q, p5q, p6q]
        refine tkGo [31, 32] ?_
        repeat (refine tkO (v := ?_) rfl ?_ ?_; rotate_left; (intro wy hSw; (try dsimp only at hSw); go_simp; (first | done | with_reducible rfl)); try simp only [Act.put, p1q, p2q, p3q, p4q, p5q, p6q])
        refine tkEnd ?_
        refine wpAnyH_done (by kernel_rfl) ?_ _
        go_wp2
        exact ⟨⟨k + 1, by omega, by go_num, by rw [HALL.out]; rfl, HK9.out⟩, by simp [intOf]; omega⟩
    · obtain rfl : k = xs.length := by omega
      rw [List.take_length]
      obtain ⟨al, HAL⟩ : ∃ al, Hid (xs.all plainE = al) := ⟨_, rfl⟩
      rw [HAL.out]
      have haa : (al == al) = true := by simp
      have hEE : (E == E) = true := by simp
      have HSI := keepG (HI5.out.below HBK.out (Nat.le_refl _))
      have HSE := keepG (HS.out.below HBW.out (Nat.le_refl _))
      obtain ⟨ai, ci, rfl, _, _⟩ := HI5.out.shape
      go_wp2_with (first
        | (go_at_call 12; go_must (have c := lprint26 _ xs _ (laid_keeps _ _ HL.out HBW.out) HSI.out HWF.out (by omega); rw [HQ.out] at c; refine c.mono ?_; clear c); rintro x5 w5 ⟨rfl, hb5⟩; go_must (have HB5 : Hid (Below w.heap.size w w5) := HBW.out.trans (hb5.mono HBW.out.size); have HSI5 := keepG (HSI.out.below hb5 (Nat.le_refl _)); have HSE5 := keepG (HSE.out.below hb5 (Nat.le_refl _)); clear hb5))
        | (go_at_call 13; go_must (have c := print26 _ xs _ HSE5.out HWF.out (by omega); rw [HQ.out] at c; refine c.mono ?_; clear c); rintro x6 w6 ⟨rfl, hb6⟩; go_must (have HB6 : Hid (Below w.heap.size w w6) := HB5.out.trans (hb6.mono HB5.out.size); have HSI6 := keepG (HSI5.out.below hb6 (Nat.le_refl _)); have HSE6 := keepG (HSE5.out.below hb6 (Nat.le_refl _)); clear hb6))
        | (go_at_call 14; go_must (have c := lPlain26 _ xs _ (laid_keeps _ _ HL.out HB6.out) HSI6.out; rw [HAL.out] at c; refine c.mono ?_; clear c); rintro x7 w7 ⟨rfl, hb7⟩; go_must (have HB7 : Hid (Below w.heap.size w w7) := HB6.out.trans (hb7.mono HB6.out.size); have HSI7 := keepG (HSI6.out.below hb7 (Nat.le_refl _)); have HSE7 := keepG (HSE6.out.below hb7 (Nat.le_refl _)); clear hb7))
        | (go_at_call 15; go_must (refine (logs26 _ _ xs _ HSI7.out HSE7.out).mono ?_); rintro x8 w8 ⟨rfl, hb8⟩; go_must (have HB8 : Hid (Below w.heap.size w w8) := HB7.out.trans (hb8.mono HB7.out.size); clear hb8)))
      go_ret
      exact ⟨rfl, HB8.out⟩
theorem prints_law26 (v : Value) (xs : List En) (mark : Int) (w : World) (hs : SeesG enC 22 En.nil w v xs) (hwf : ∀ e ∈ xs, e.wf) (hx : xs.length ≤ 1048576) (hb : -9223372036854775808 ≤ mark ∧ mark ≤ 9223372036854775807) (h : Laid w) : Calls Tryd.prog 3 #[v, .int .i64 mark] w fun r w' => r = .returned (.bool true) ∧ Below w.heap.size w w' := prints26 v xs mark w hs hwf hx h
end Go.Proofs.YtbfbfbbpajaclaaDoor
