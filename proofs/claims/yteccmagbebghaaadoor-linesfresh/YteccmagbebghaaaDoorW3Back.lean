/-
  The law LinesBack, walked: it answers true. Conditions: the listed variables read as they are laid; a million instructions and a million bytes at most.
-/
import Derived.Test.YteccmagbebghaaaDoorW3Prints
namespace Go.Proofs.YteccmagbebghaaaDoor
open Go.RowKit
set_option linter.unusedVariables false
set_option linter.unusedSimpArgs false
set_option maxRecDepth 100000

theorem printB_ge (xs : List In) : xs.length ≤ (printB xs).length := by
  induction xs with
  | nil => simp
  | cons x xs ih =>
    have e : printB (x :: xs) = x.line ++ [10] ++ printB xs := by simp [printB]
    rw [e]
    simp
    omega
theorem print_right {xs : List In} (h : xs.all In.right = true) : printL xs = (printB xs, 0) := by unfold printL; rw [if_pos h]
theorem print_wrong {xs : List In} (h : xs.all In.right = false) : printL xs = ([], 12) := by unfold printL; rw [if_neg (by simp [h])]
theorem parse_cases (s : List UInt8) : (∃ js, parseL s = (js, 0, 0) ∧ s = printB js ∧ js.all In.right = true ∧ (∀ i ∈ js, i.wf)) ∨ (∃ n, parseL s = ([], n, 20) ∧ 1 ≤ n) := by
  rcases hp : parseL s with ⟨js, n, c⟩
  rcases parse_err s with h | ⟨h1, h2, h3⟩
  · rw [hp] at h
    simp only at h
    subst h
    obtain ⟨rfl, h2, h3⟩ := parse_ok hp
    exact .inl ⟨js, rfl, h2, by simp; exact fun i hi => (h3 i hi).1, fun i hi => (h3 i hi).2⟩
  · rw [hp] at h1 h2 h3
    simp only at h1 h2 h3
    subst h1 h3
    exact .inr ⟨n, rfl, h2⟩

theorem own_shape {w : World} {base : Nat} {e : TypeId} {v : Value} {n : Nat} {xs : List Value} (h : w.ownsRow base e 5 v n xs) : ∃ a cap, v = .slice a n cap := by
  rcases h with ⟨h1, ⟨rfl, rfl⟩ | ⟨g, cap, cur, rfl, _⟩⟩
  · exact ⟨none, 0, rfl⟩
  · exact ⟨_, cap, rfl⟩
set_option maxHeartbeats 3200000 in
theorem back_ro (va : Option Addr) (vc : Nat) (xs : List In) (s : List UInt8) (w : World) (h : Laid w) (hv : SeesI w (.slice va xs.length vc) xs) (hw : ∀ i ∈ xs, i.wf) (hx : xs.length ≤ 1048576) (hl : s.length ≤ 1048576) (hr : xs.all In.right = true) (T : List UInt8) (hT : T = printB xs) (js : List In) (hs : s = printB js) (hj : js.all In.right = true) (hjw : ∀ i ∈ js, i.wf) :
    Calls Tryd.prog 5 #[.slice va xs.length vc, .string (str s)] w fun e w' => e = .returned (.bool true) ∧ Below w.heap.size w w' := by
  have HLd : Hid (Laid w) := h
  have HL : Hid (s.length ≤ 1048576) := hl
  have HX : Hid (xs.length ≤ 1048576) := hx
  have HW : Hid (∀ i ∈ xs, i.wf) := hw
  have HV : Hid (∀ w', Below w.heap.size w w' → SeesI w' (.slice va xs.length vc) xs) := fun w' hb => hv.below hb
  have HG : Hid (printL xs = (T, 0)) := by rw [hT]; exact print_right hr
  have HGL : Hid (T.length ≤ 1073741824) := by rw [hT]; exact Nat.le_trans (printB_len xs) (by omega)
  have HH : Hid (parseL T = (xs, 0, 0)) := by rw [hT]; exact parse_print fun i hi => ⟨by simpa using (List.all_eq_true.1 hr) i hi, hw i hi⟩
  have HJ : Hid (parseL s = (js, 0, 0)) := by rw [hs]; exact parse_print fun i hi => ⟨by simpa using (List.all_eq_true.1 hj) i hi, hjw i hi⟩
  have HJP : Hid (printL js = (s, 0)) := by rw [hs]; exact print_right hj
  have HJW : Hid (∀ i ∈ js, i.wf) := hjw
  have HJL : Hid (js.length ≤ 1048576) := Nat.le_trans (printB_ge js) (hs ▸ hl)
  clear hs hj hjw
  clear h hl hx hw hv hr hT
  go_enter Tryd.func5, Tryd.ntmps5
  go_wp2_with (first
    | (go_at_call 9; go_must (refine (lawake _ HLd.out).mono ?_); rintro e w1 ⟨rfl, hB1⟩)
    | (go_at_call 10; have hq := hB1; clear hq; go_must (refine (lprint_any _ xs _ (laid_keeps _ _ HLd.out hB1) (HV.out _ hB1) HW.out (Nat.le_trans HX.out (by decide))).mono ?_); rintro e w2 ⟨rfl, hb2⟩; go_must (rw [HG.out]; have hB2 : Below w.heap.size w w2 := hB1.trans (hb2.mono hB1.size); clear hb2 hB1))
    | (go_at_call 13; have hq := hB2; clear hq; go_must (refine (lparse_any T _ (laid_keeps _ _ HLd.out hB2) HGL.out).mono ?_); rintro e w3 ⟨v3, rfl, hown3, hb3⟩; go_must (rw [HH.out] at hown3 ⊢; have hB3 : Below w.heap.size w w3 := hB2.trans (hb3.mono hB2.size); have HS3 : Hid (SeesI w3 v3 xs) := own_seesI hown3; clear hb3 hown3 hB2))
    | (go_at_call 12; have hq := hB3; clear hq; go_must (refine (alike_any _ v3 xs xs _ (HV.out _ hB3) HS3.out).mono ?_); rintro e w4 ⟨rfl, n4, rfl⟩; go_must (rw [sameI_true rfl]; have hB4 := below_drewN hB3 n4; clear hB3 HS3))
    | (go_at_call 13; have hq := hB4; clear hq; go_must (refine (lparse_any s _ (laid_keeps _ _ HLd.out hB4) (Nat.le_trans HL.out (by decide))).mono ?_); rintro e w5 ⟨v5, rfl, hown5, hb5⟩; go_must (rw [HJ.out] at hown5 ⊢; have hB5 : Below w.heap.size w w5 := hB4.trans (hb5.mono hB4.size); have HS5 : Hid (SeesI w5 v5 js) := own_seesI hown5; clear hb5 hown5 hB4))
    | (go_at_call 10; have hq := hB5; clear hq; go_must (refine (lprint_any v5 js _ (laid_keeps _ _ HLd.out hB5) HS5.out HJW.out (Nat.le_trans HJL.out (by decide))).mono ?_); rintro e w6 ⟨rfl, hb6⟩; go_must (rw [HJP.out]; have hB6 : Below w.heap.size w w6 := hB5.trans (hb6.mono hB5.size); clear hb6 hB5 HS5)))
  go_ret
  exact ⟨retb (by simp; try omega), hB6⟩
set_option maxHeartbeats 3200000 in
theorem back_re (va : Option Addr) (vc : Nat) (xs : List In) (s : List UInt8) (w : World) (h : Laid w) (hv : SeesI w (.slice va xs.length vc) xs) (hw : ∀ i ∈ xs, i.wf) (hx : xs.length ≤ 1048576) (hl : s.length ≤ 1048576) (hr : xs.all In.right = true) (T : List UInt8) (hT : T = printB xs) (n : Int) (hs : parseL s = ([], n, 20)) (hn : 1 ≤ n) :
    Calls Tryd.prog 5 #[.slice va xs.length vc, .string (str s)] w fun e w' => e = .returned (.bool true) ∧ Below w.heap.size w w' := by
  have HLd : Hid (Laid w) := h
  have HL : Hid (s.length ≤ 1048576) := hl
  have HX : Hid (xs.length ≤ 1048576) := hx
  have HW : Hid (∀ i ∈ xs, i.wf) := hw
  have HV : Hid (∀ w', Below w.heap.size w w' → SeesI w' (.slice va xs.length vc) xs) := fun w' hb => hv.below hb
  have HG : Hid (printL xs = (T, 0)) := by rw [hT]; exact print_right hr
  have HGL : Hid (T.length ≤ 1073741824) := by rw [hT]; exact Nat.le_trans (printB_len xs) (by omega)
  have HH : Hid (parseL T = (xs, 0, 0)) := by rw [hT]; exact parse_print fun i hi => ⟨by simpa using (List.all_eq_true.1 hr) i hi, hw i hi⟩
  have HJ : Hid (parseL s = ([], n, 20)) := hs
  clear hs
  clear h hl hx hw hv hr hT
  go_enter Tryd.func5, Tryd.ntmps5
  go_wp2_with (first
    | (go_at_call 9; go_must (refine (lawake _ HLd.out).mono ?_); rintro e w1 ⟨rfl, hB1⟩)
    | (go_at_call 10; have hq := hB1; clear hq; go_must (refine (lprint_any _ xs _ (laid_keeps _ _ HLd.out hB1) (HV.out _ hB1) HW.out (Nat.le_trans HX.out (by decide))).mono ?_); rintro e w2 ⟨rfl, hb2⟩; go_must (rw [HG.out]; have hB2 : Below w.heap.size w w2 := hB1.trans (hb2.mono hB1.size); clear hb2 hB1))
    | (go_at_call 13; have hq := hB2; clear hq; go_must (refine (lparse_any T _ (laid_keeps _ _ HLd.out hB2) HGL.out).mono ?_); rintro e w3 ⟨v3, rfl, hown3, hb3⟩; go_must (rw [HH.out] at hown3 ⊢; have hB3 : Below w.heap.size w w3 := hB2.trans (hb3.mono hB2.size); have HS3 : Hid (SeesI w3 v3 xs) := own_seesI hown3; clear hb3 hown3 hB2))
    | (go_at_call 12; have hq := hB3; clear hq; go_must (refine (alike_any _ v3 xs xs _ (HV.out _ hB3) HS3.out).mono ?_); rintro e w4 ⟨rfl, n4, rfl⟩; go_must (rw [sameI_true rfl]; have hB4 := below_drewN hB3 n4; clear hB3 HS3))
    | (go_at_call 13; have hq := hB4; clear hq; go_must (refine (lparse_any s _ (laid_keeps _ _ HLd.out hB4) (Nat.le_trans HL.out (by decide))).mono ?_); rintro e w5 ⟨v5, rfl, hown5, hb5⟩; go_must (rw [HJ.out] at hown5 ⊢; have hB5 : Below w.heap.size w w5 := hB4.trans (hb5.mono hB4.size); clear hb5 hB4; obtain ⟨ad, cp, rfl⟩ := own_shape hown5; clear hown5)))
  go_ret
  exact ⟨retb (by simp; try omega), hB5⟩
set_option maxHeartbeats 3200000 in
theorem back_no (va : Option Addr) (vc : Nat) (xs : List In) (s : List UInt8) (w : World) (h : Laid w) (hv : SeesI w (.slice va xs.length vc) xs) (hw : ∀ i ∈ xs, i.wf) (hx : xs.length ≤ 1048576) (hl : s.length ≤ 1048576) (hr : xs.all In.right = false) (js : List In) (hs : s = printB js) (hj : js.all In.right = true) (hjw : ∀ i ∈ js, i.wf) :
    Calls Tryd.prog 5 #[.slice va xs.length vc, .string (str s)] w fun e w' => e = .returned (.bool true) ∧ Below w.heap.size w w' := by
  have HLd : Hid (Laid w) := h
  have HL : Hid (s.length ≤ 1048576) := hl
  have HX : Hid (xs.length ≤ 1048576) := hx
  have HW : Hid (∀ i ∈ xs, i.wf) := hw
  have HV : Hid (∀ w', Below w.heap.size w w' → SeesI w' (.slice va xs.length vc) xs) := fun w' hb => hv.below hb
  have HG : Hid (printL xs = ([], 12)) := print_wrong hr
  have HH : Hid (xs.all In.right = false) := hr
  have HJ : Hid (parseL s = (js, 0, 0)) := by rw [hs]; exact parse_print fun i hi => ⟨by simpa using (List.all_eq_true.1 hj) i hi, hjw i hi⟩
  have HJP : Hid (printL js = (s, 0)) := by rw [hs]; exact print_right hj
  have HJW : Hid (∀ i ∈ js, i.wf) := hjw
  have HJL : Hid (js.length ≤ 1048576) := Nat.le_trans (printB_ge js) (hs ▸ hl)
  clear hs hj hjw
  clear h hl hx hw hv hr
  go_enter Tryd.func5, Tryd.ntmps5
  go_wp2_with (first
    | (go_at_call 9; go_must (refine (lawake _ HLd.out).mono ?_); rintro e w1 ⟨rfl, hB1⟩)
    | (go_at_call 10; have hq := hB1; clear hq; go_must (refine (lprint_any _ xs _ (laid_keeps _ _ HLd.out hB1) (HV.out _ hB1) HW.out (Nat.le_trans HX.out (by decide))).mono ?_); rintro e w2 ⟨rfl, hb2⟩; go_must (rw [HG.out]; have hB2 : Below w.heap.size w w2 := hB1.trans (hb2.mono hB1.size); clear hb2 hB1))
    | (go_at_call 15; have hq := hB2; clear hq; go_must (refine (rights_any _ xs _ (HV.out _ hB2)).mono ?_); rintro e w4 ⟨rfl, hb4⟩; go_must (rw [HH.out]; have hB4 : Below w.heap.size w w4 := hB2.trans (hb4.mono hB2.size); clear hb4 hB2))
    | (go_at_call 13; have hq := hB4; clear hq; go_must (refine (lparse_any s _ (laid_keeps _ _ HLd.out hB4) (Nat.le_trans HL.out (by decide))).mono ?_); rintro e w5 ⟨v5, rfl, hown5, hb5⟩; go_must (rw [HJ.out] at hown5 ⊢; have hB5 : Below w.heap.size w w5 := hB4.trans (hb5.mono hB4.size); have HS5 : Hid (SeesI w5 v5 js) := own_seesI hown5; clear hb5 hown5 hB4))
    | (go_at_call 10; have hq := hB5; clear hq; go_must (refine (lprint_any v5 js _ (laid_keeps _ _ HLd.out hB5) HS5.out HJW.out (Nat.le_trans HJL.out (by decide))).mono ?_); rintro e w6 ⟨rfl, hb6⟩; go_must (rw [HJP.out]; have hB6 : Below w.heap.size w w6 := hB5.trans (hb6.mono hB5.size); clear hb6 hB5 HS5)))
  go_ret
  exact ⟨retb (by simp; try omega), hB6⟩
set_option maxHeartbeats 3200000 in
theorem back_ne (va : Option Addr) (vc : Nat) (xs : List In) (s : List UInt8) (w : World) (h : Laid w) (hv : SeesI w (.slice va xs.length vc) xs) (hw : ∀ i ∈ xs, i.wf) (hx : xs.length ≤ 1048576) (hl : s.length ≤ 1048576) (hr : xs.all In.right = false) (n : Int) (hs : parseL s = ([], n, 20)) (hn : 1 ≤ n) :
    Calls Tryd.prog 5 #[.slice va xs.length vc, .string (str s)] w fun e w' => e = .returned (.bool true) ∧ Below w.heap.size w w' := by
  have HLd : Hid (Laid w) := h
  have HL : Hid (s.length ≤ 1048576) := hl
  have HX : Hid (xs.length ≤ 1048576) := hx
  have HW : Hid (∀ i ∈ xs, i.wf) := hw
  have HV : Hid (∀ w', Below w.heap.size w w' → SeesI w' (.slice va xs.length vc) xs) := fun w' hb => hv.below hb
  have HG : Hid (printL xs = ([], 12)) := print_wrong hr
  have HH : Hid (xs.all In.right = false) := hr
  have HJ : Hid (parseL s = ([], n, 20)) := hs
  clear hs
  clear h hl hx hw hv hr
  go_enter Tryd.func5, Tryd.ntmps5
  go_wp2_with (first
    | (go_at_call 9; go_must (refine (lawake _ HLd.out).mono ?_); rintro e w1 ⟨rfl, hB1⟩)
    | (go_at_call 10; have hq := hB1; clear hq; go_must (refine (lprint_any _ xs _ (laid_keeps _ _ HLd.out hB1) (HV.out _ hB1) HW.out (Nat.le_trans HX.out (by decide))).mono ?_); rintro e w2 ⟨rfl, hb2⟩; go_must (rw [HG.out]; have hB2 : Below w.heap.size w w2 := hB1.trans (hb2.mono hB1.size); clear hb2 hB1))
    | (go_at_call 15; have hq := hB2; clear hq; go_must (refine (rights_any _ xs _ (HV.out _ hB2)).mono ?_); rintro e w4 ⟨rfl, hb4⟩; go_must (rw [HH.out]; have hB4 : Below w.heap.size w w4 := hB2.trans (hb4.mono hB2.size); clear hb4 hB2))
    | (go_at_call 13; have hq := hB4; clear hq; go_must (refine (lparse_any s _ (laid_keeps _ _ HLd.out hB4) (Nat.le_trans HL.out (by decide))).mono ?_); rintro e w5 ⟨v5, rfl, hown5, hb5⟩; go_must (rw [HJ.out] at hown5 ⊢; have hB5 : Below w.heap.size w w5 := hB4.trans (hb5.mono hB4.size); clear hb5 hB4; obtain ⟨ad, cp, rfl⟩ := own_shape hown5; clear hown5)))
  go_ret
  exact ⟨retb (by simp; try omega), hB5⟩
theorem back_walk (v : Value) (xs : List In) (s : ByteArray) (w : World) (hs : SeesI w v xs ∧ ∀ i ∈ xs, i.wf) (hx : xs.length ≤ 1048576) (hl : s.size ≤ 1048576) (h : Laid w) :
    Calls Tryd.prog 5 #[v, .string s] w fun e w' => e = .returned (.bool true) ∧ Below w.heap.size w w' := by
  have hs1 := hs.1
  obtain ⟨va, vc, rfl, _⟩ := hs.1
  obtain ⟨l, rfl⟩ : ∃ l, s = str l := ⟨s.data.toList, rfl⟩
  have hl : l.length ≤ 1048576 := hl
  rcases Bool.eq_false_or_eq_true (xs.all In.right) with hr | hr <;> rcases parse_cases l with ⟨js, _, h2, h3, h4⟩ | ⟨n, h1, h2⟩
  · exact back_ro va vc xs l w h hs1 hs.2 hx hl hr _ rfl js h2 h3 h4
  · exact back_re va vc xs l w h hs1 hs.2 hx hl hr _ rfl n h1 h2
  · exact back_no va vc xs l w h hs1 hs.2 hx hl hr js h2 h3 h4
  · exact back_ne va vc xs l w h hs1 hs.2 hx hl hr n h1 h2
end Go.Proofs.YteccmagbebghaaaDoor
