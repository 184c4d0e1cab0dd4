
/-
  What the landed digits does: a field's digits. Conditions: the listed variables read as they are laid; the entry's fields are of their kinds; the letter is one of the twenty.
-/
import Derived.Test.YtbfbfbbpajaclaaDoorMB33
import Derived.Test.YtbfbfbbpajaclaaDoorMB19
namespace Go.Proofs.YtbfbfbbpajaclaaDoor
open Go.RowKit
set_option linter.unusedVariables false
set_option linter.unusedSimpArgs false
set_option maxRecDepth 100000
set_option maxHeartbeats 1600000 in
theorem ldg116 (e : En) (hw : e.wf) (w : World) (h : Laid w) : Calls Tryd.prog 40 #[enV e, .int .u8 116] w fun r w' => r = .returned (.string (str (dgE e 116))) ∧ Below w.heap.size w w' := by
  obtain ⟨X, HX, HP, HB⟩ := box_en w e
  have HX := HX.out
  dsimp only [enC] at HX
  have HX := keepG HX
  have HL : Hid (Laid X) := laid_keeps _ _ h HB.out
  clear h
  have q := HP.out.cell (j := 1) rfl
  have hs : -9223372036854775808 ≤ e.ta ∧ e.ta ≤ 9223372036854775807 := hw.si 116
  unfold enV
  go_enter Tryd.func40, Tryd.ntmps40
  go_wp2_with (first
    | (rw [HX.out])
    | (go_at_call 55; go_must (refine (itoa_any e.ta _ HL.out hs).mono ?_); rintro e1 w1 ⟨rfl, hb1⟩))
  go_ret
  exact ⟨rfl, HB.out.trans (hb1.mono HB.out.size)⟩
set_option maxHeartbeats 1600000 in
theorem ldg102 (e : En) (hw : e.wf) (w : World) (h : Laid w) : Calls Tryd.prog 40 #[enV e, .int .u8 102] w fun r w' => r = .returned (.string (str (dgE e 102))) ∧ Below w.heap.size w w' := by
  obtain ⟨X, HX, HP, HB⟩ := box_en w e
  have HX := HX.out
  dsimp only [enC] at HX
  have HX := keepG HX
  have HL : Hid (Laid X) := laid_keeps _ _ h HB.out
  clear h
  have q := HP.out.cell (j := 2) rfl
  have hs : -9223372036854775808 ≤ e.fr ∧ e.fr ≤ 9223372036854775807 := hw.si 102
  unfold enV
  go_enter Tryd.func40, Tryd.ntmps40
  go_wp2_with (first
    | (rw [HX.out])
    | (go_at_call 55; go_must (refine (itoa_any e.fr _ HL.out hs).mono ?_); rintro e1 w1 ⟨rfl, hb1⟩))
  go_ret
  exact ⟨rfl, HB.out.trans (hb1.mono HB.out.size)⟩
set_option maxHeartbeats 1600000 in
theorem ldg99 (e : En) (hw : e.wf) (w : World) (h : Laid w) : Calls Tryd.prog 40 #[enV e, .int .u8 99] w fun r w' => r = .returned (.string (str (dgE e 99))) ∧ Below w.heap.size w w' := by
  obtain ⟨X, HX, HP, HB⟩ := box_en w e
  have HX := HX.out
  dsimp only [enC] at HX
  have HX := keepG HX
  have HL : Hid (Laid X) := laid_keeps _ _ h HB.out
  clear h
  have q := HP.out.cell (j := 3) rfl
  have hs : -9223372036854775808 ≤ e.cm ∧ e.cm ≤ 9223372036854775807 := hw.si 99
  unfold enV
  go_enter Tryd.func40, Tryd.ntmps40
  go_wp2_with (first
    | (rw [HX.out])
    | (go_at_call 55; go_must (refine (itoa_any e.cm _ HL.out hs).mono ?_); rintro e1 w1 ⟨rfl, hb1⟩))
  go_ret
  exact ⟨rfl, HB.out.trans (hb1.mono HB.out.size)⟩
set_option maxHeartbeats 1600000 in
theorem ldg103 (e : En) (hw : e.wf) (w : World) (h : Laid w) : Calls Tryd.prog 40 #[enV e, .int .u8 103] w fun r w' => r = .returned (.string (str (dgE e 103))) ∧ Below w.heap.size w w' := by
  obtain ⟨X, HX, HP, HB⟩ := box_en w e
  have HX := HX.out
  dsimp only [enC] at HX
  have HX := keepG HX
  have HL : Hid (Laid X) := laid_keeps _ _ h HB.out
  clear h
  have q := HP.out.cell (j := 4) rfl
  have hs : -9223372036854775808 ≤ e.tg ∧ e.tg ≤ 9223372036854775807 := hw.si 103
  unfold enV
  go_enter Tryd.func40, Tryd.ntmps40
  go_wp2_with (first
    | (rw [HX.out])
    | (go_at_call 55; go_must (refine (itoa_any e.tg _ HL.out hs).mono ?_); rintro e1 w1 ⟨rfl, hb1⟩))
  go_ret
  exact ⟨rfl, HB.out.trans (hb1.mono HB.out.size)⟩
set_option maxHeartbeats 1600000 in
theorem ldg101 (e : En) (hw : e.wf) (w : World) (h : Laid w) : Calls Tryd.prog 40 #[enV e, .int .u8 101] w fun r w' => r = .returned (.string (str (dgE e 101))) ∧ Below w.heap.size w w' := by
  obtain ⟨X, HX, HP, HB⟩ := box_en w e
  have HX := HX.out
  dsimp only [enC] at HX
  have HX := keepG HX
  have HL : Hid (Laid X) := laid_keeps _ _ h HB.out
  clear h
  have q := HP.out.cell (j := 5) rfl
  have hs : -9223372036854775808 ≤ e.ev ∧ e.ev ≤ 9223372036854775807 := hw.si 101
  unfold enV
  go_enter Tryd.func40, Tryd.ntmps40
  go_wp2_with (first
    | (rw [HX.out])
    | (go_at_call 55; go_must (refine (itoa_any e.ev _ HL.out hs).mono ?_); rintro e1 w1 ⟨rfl, hb1⟩))
  go_ret
  exact ⟨rfl, HB.out.trans (hb1.mono HB.out.size)⟩
set_option maxHeartbeats 1600000 in
theorem ldg104 (e : En) (hw : e.wf) (w : World) (h : Laid w) : Calls Tryd.prog 40 #[enV e, .int .u8 104] w fun r w' => r = .returned (.string (str (dgE e 104))) ∧ Below w.heap.size w w' := by
  obtain ⟨X, HX, HP, HB⟩ := box_en w e
  have HX := HX.out
  dsimp only [enC] at HX
  have HX := keepG HX
  have HL : Hid (Laid X) := laid_keeps _ _ h HB.out
  clear h
  have q := HP.out.cell (j := 6) rfl
  have hs : -9223372036854775808 ≤ e.hk ∧ e.hk ≤ 9223372036854775807 := hw.si 104
  unfold enV
  go_enter Tryd.func40, Tryd.ntmps40
  go_wp2_with (first
    | (rw [HX.out])
    | (go_at_call 55; go_must (refine (itoa_any e.hk _ HL.out hs).mono ?_); rintro e1 w1 ⟨rfl, hb1⟩))
  go_ret
  exact ⟨rfl, HB.out.trans (hb1.mono HB.out.size)⟩
set_option maxHeartbeats 1600000 in
theorem ldg112 (e : En) (hw : e.wf) (w : World) (h : Laid w) : Calls Tryd.prog 40 #[enV e, .int .u8 112] w fun r w' => r = .returned (.string (str (dgE e 112))) ∧ Below w.heap.size w w' := by
  obtain ⟨X, HX, HP, HB⟩ := box_en w e
  have HX := HX.out
  dsimp only [enC] at HX
  have HX := keepG HX
  have HL : Hid (Laid X) := laid_keeps _ _ h HB.out
  clear h
  have q := HP.out.cell (j := 7) rfl
  have hs : -9223372036854775808 ≤ e.pg ∧ e.pg ≤ 9223372036854775807 := hw.si 112
  unfold enV
  go_enter Tryd.func40, Tryd.ntmps40
  go_wp2_with (first
    | (rw [HX.out])
    | (go_at_call 55; go_must (refine (itoa_any e.pg _ HL.out hs).mono ?_); rintro e1 w1 ⟨rfl, hb1⟩))
  go_ret
  exact ⟨rfl, HB.out.trans (hb1.mono HB.out.size)⟩
set_option maxHeartbeats 1600000 in
theorem ldg118 (e : En) (hw : e.wf) (w : World) (h : Laid w) : Calls Tryd.prog 40 #[enV e, .int .u8 118] w fun r w' => r = .returned (.string (str (dgE e 118))) ∧ Below w.heap.size w w' := by
  obtain ⟨X, HX, HP, HB⟩ := box_en w e
  have HX := HX.out
  dsimp only [enC] at HX
  have HX := keepG HX
  have HL : Hid (Laid X) := laid_keeps _ _ h HB.out
  clear h
  have q := HP.out.cell (j := 8) rfl
  have hs : -9223372036854775808 ≤ e.ve ∧ e.ve ≤ 9223372036854775807 := hw.si 118
  unfold enV
  go_enter Tryd.func40, Tryd.ntmps40
  go_wp2_with (first
    | (rw [HX.out])
    | (go_at_call 55; go_must (refine (itoa_any e.ve _ HL.out hs).mono ?_); rintro e1 w1 ⟨rfl, hb1⟩))
  go_ret
  exact ⟨rfl, HB.out.trans (hb1.mono HB.out.size)⟩
set_option maxHeartbeats 1600000 in
theorem ldg97 (e : En) (hw : e.wf) (w : World) (h : Laid w) : Calls Tryd.prog 40 #[enV e, .int .u8 97] w fun r w' => r = .returned (.string (str (dgE e 97))) ∧ Below w.heap.size w w' := by
  obtain ⟨X, HX, HP, HB⟩ := box_en w e
  have HX := HX.out
  dsimp only [enC] at HX
  have HX := keepG HX
  have HL : Hid (Laid X) := laid_keeps _ _ h HB.out
  clear h
  have q := HP.out.cell (j := 9) rfl
  have hs : -9223372036854775808 ≤ e.pc ∧ e.pc ≤ 9223372036854775807 := hw.si 97
  unfold enV
  go_enter Tryd.func40, Tryd.ntmps40
  go_wp2_with (first
    | (rw [HX.out])
    | (go_at_call 55; go_must (refine (itoa_any e.pc _ HL.out hs).mono ?_); rintro e1 w1 ⟨rfl, hb1⟩))
  go_ret
  exact ⟨rfl, HB.out.trans (hb1.mono HB.out.size)⟩
set_option maxHeartbeats 1600000 in
theorem ldg120 (e : En) (hw : e.wf) (w : World) (h : Laid w) : Calls Tryd.prog 40 #[enV e, .int .u8 120] w fun r w' => r = .returned (.string (str (dgE e 120))) ∧ Below w.heap.size w w' := by
  obtain ⟨X, HX, HP, HB⟩ := box_en w e
  have HX := HX.out
  dsimp only [enC] at HX
  have HX := keepG HX
  have HL : Hid (Laid X) := laid_keeps _ _ h HB.out
  clear h
  have q := HP.out.cell (j := 21) rfl
  have hs : -9223372036854775808 ≤ e.xe ∧ e.xe ≤ 9223372036854775807 := hw.si 120
  unfold enV
  go_enter Tryd.func40, Tryd.ntmps40
  go_wp2_with (first
    | (rw [HX.out])
    | (go_at_call 55; go_must (refine (itoa_any e.xe _ HL.out hs).mono ?_); rintro e1 w1 ⟨rfl, hb1⟩))
  go_ret
  exact ⟨rfl, HB.out.trans (hb1.mono HB.out.size)⟩
set_option maxHeartbeats 1600000 in
theorem ldg109 (e : En) (hw : e.wf) (w : World) (h : Laid w) : Calls Tryd.prog 40 #[enV e, .int .u8 109] w fun r w' => r = .returned (.string (str (dgE e 109))) ∧ Below w.heap.size w w' := by
  obtain ⟨X, HX, HP, HB⟩ := box_en w e
  have HX := HX.out
  dsimp only [enC] at HX
  have HX := keepG HX
  have HL : Hid (Laid X) := laid_keeps _ _ h HB.out
  clear h
  have q := HP.out.cell (j := 10) rfl
  have hs : -9223372036854775808 ≤ e.mp ∧ e.mp ≤ 9223372036854775807 := hw.si 109
  unfold enV
  go_enter Tryd.func40, Tryd.ntmps40
  go_wp2_with (first
    | (rw [HX.out])
    | (go_at_call 55; go_must (refine (itoa_any e.mp _ HL.out hs).mono ?_); rintro e1 w1 ⟨rfl, hb1⟩))
  go_ret
  exact ⟨rfl, HB.out.trans (hb1.mono HB.out.size)⟩
set_option maxHeartbeats 1600000 in
theorem ldg111 (e : En) (hw : e.wf) (w : World) (h : Laid w) : Calls Tryd.prog 40 #[enV e, .int .u8 111] w fun r w' => r = .returned (.string (str (dgE e 111))) ∧ Below w.heap.size w w' := by
  obtain ⟨X, HX, HP, HB⟩ := box_en w e
  have HX := HX.out
  dsimp only [enC] at HX
  have HX := keepG HX
  have HL : Hid (Laid X) := laid_keeps _ _ h HB.out
  clear h
  have q := HP.out.cell (j := 11) rfl
  have hs : -9223372036854775808 ≤ e.op ∧ e.op ≤ 9223372036854775807 := hw.si 111
  unfold enV
  go_enter Tryd.func40, Tryd.ntmps40
  go_wp2_with (first
    | (rw [HX.out])
    | (go_at_call 55; go_must (refine (itoa_any e.op _ HL.out hs).mono ?_); rintro e1 w1 ⟨rfl, hb1⟩))
  go_ret
  exact ⟨rfl, HB.out.trans (hb1.mono HB.out.size)⟩
set_option maxHeartbeats 1600000 in
theorem ldg121 (e : En) (hw : e.wf) (w : World) (h : Laid w) : Calls Tryd.prog 40 #[enV e, .int .u8 121] w fun r w' => r = .returned (.string (str (dgE e 121))) ∧ Below w.heap.size w w' := by
  obtain ⟨X, HX, HP, HB⟩ := box_en w e
  have HX := HX.out
  dsimp only [enC] at HX
  have HX := keepG HX
  have HL : Hid (Laid X) := laid_keeps _ _ h HB.out
  clear h
  have q := HP.out.cell (j := 14) rfl
  have hs : -9223372036854775808 ≤ e.er ∧ e.er ≤ 9223372036854775807 := hw.si 121
  unfold enV
  go_enter Tryd.func40, Tryd.ntmps40
  go_wp2_with (first
    | (rw [HX.out])
    | (go_at_call 55; go_must (refine (itoa_any e.er _ HL.out hs).mono ?_); rintro e1 w1 ⟨rfl, hb1⟩))
  go_ret
  exact ⟨rfl, HB.out.trans (hb1.mono HB.out.size)⟩
set_option maxHeartbeats 1600000 in
theorem ldg110 (e : En) (hw : e.wf) (w : World) (h : Laid w) : Calls Tryd.prog 40 #[enV e, .int .u8 110] w fun r w' => r = .returned (.string (str (dgE e 110))) ∧ Below w.heap.size w w' := by
  obtain ⟨X, HX, HP, HB⟩ := box_en w e
  have HX := HX.out
  dsimp only [enC] at HX
  have HX := keepG HX
  have HL : Hid (Laid X) := laid_keeps _ _ h HB.out
  clear h
  have q := HP.out.cell (j := 20) rfl
  have hs : 0 ≤ e.va ∧ e.va < 18446744073709551616 := hw.un 110
  unfold enV
  go_enter Tryd.func40, Tryd.ntmps40
  go_wp2_with (first
    | (rw [HX.out])
    | (go_at_call 56; go_must (refine (fmtu_int e.va _ HL.out hs).mono ?_); rintro e1 w1 ⟨rfl, hb1⟩))
  go_ret
  exact ⟨rfl, HB.out.trans (hb1.mono HB.out.size)⟩
set_option maxHeartbeats 1600000 in
theorem ldg107 (e : En) (hw : e.wf) (w : World) (h : Laid w) : Calls Tryd.prog 40 #[enV e, .int .u8 107] w fun r w' => r = .returned (.string (str (dgE e 107))) ∧ Below w.heap.size w w' := by
  obtain ⟨X, HX, HP, HB⟩ := box_en w e
  have HX := HX.out
  dsimp only [enC] at HX
  have HX := keepG HX
  have HL : Hid (Laid X) := laid_keeps _ _ h HB.out
  clear h
  have q := HP.out.cell (j := 12) rfl
  have hs : 0 ≤ e.ky ∧ e.ky < 18446744073709551616 := hw.un 107
  unfold enV
  go_enter Tryd.func40, Tryd.ntmps40
  go_wp2_with (first
    | (rw [HX.out])
    | (go_at_call 56; go_must (refine (fmtu_int e.ky _ HL.out hs).mono ?_); rintro e1 w1 ⟨rfl, hb1⟩))
  go_ret
  exact ⟨rfl, HB.out.trans (hb1.mono HB.out.size)⟩
set_option maxHeartbeats 1600000 in
theorem ldg119 (e : En) (hw : e.wf) (w : World) (h : Laid w) : Calls Tryd.prog 40 #[enV e, .int .u8 119] w fun r w' => r = .returned (.string (str (dgE e 119))) ∧ Below w.heap.size w w' := by
  obtain ⟨X, HX, HP, HB⟩ := box_en w e
  have HX := HX.out
  dsimp only [enC] at HX
  have HX := keepG HX
  have HL : Hid (Laid X) := laid_keeps _ _ h HB.out
  clear h
  have q := HP.out.cell (j := 13) rfl
  have hs : 0 ≤ e.vl ∧ e.vl < 18446744073709551616 := hw.un 119
  unfold enV
  go_enter Tryd.func40, Tryd.ntmps40
  go_wp2_with (first
    | (rw [HX.out])
    | (go_at_call 56; go_must (refine (fmtu_int e.vl _ HL.out hs).mono ?_); rintro e1 w1 ⟨rfl, hb1⟩))
  go_ret
  exact ⟨rfl, HB.out.trans (hb1.mono HB.out.size)⟩
set_option maxHeartbeats 1600000 in
theorem ldg114 (e : En) (hw : e.wf) (w : World) (h : Laid w) : Calls Tryd.prog 40 #[enV e, .int .u8 114] w fun r w' => r = .returned (.string (str (dgE e 114))) ∧ Below w.heap.size w w' := by
  obtain ⟨X, HX, HP, HB⟩ := box_en w e
  have HX := HX.out
  dsimp only [enC] at HX
  have HX := keepG HX
  have HL : Hid (Laid X) := laid_keeps _ _ h HB.out
  clear h
  have q := HP.out.cell (j := 16) rfl
  have hs : 0 ≤ e.rv ∧ e.rv < 18446744073709551616 := hw.un 114
  unfold enV
  go_enter Tryd.func40, Tryd.ntmps40
  go_wp2_with (first
    | (rw [HX.out])
    | (go_at_call 56; go_must (refine (fmtu_int e.rv _ HL.out hs).mono ?_); rintro e1 w1 ⟨rfl, hb1⟩))
  go_ret
  exact ⟨rfl, HB.out.trans (hb1.mono HB.out.size)⟩
set_option maxHeartbeats 1600000 in
theorem ldg79 (e : En) (hw : e.wf) (w : World) (h : Laid w) : Calls Tryd.prog 40 #[enV e, .int .u8 79] w fun r w' => r = .returned (.string (str (dgE e 79))) ∧ Below w.heap.size w w' := by
  obtain ⟨X, HX, HP, HB⟩ := box_en w e
  have HX := HX.out
  dsimp only [enC] at HX
  have HX := keepG HX
  have HL : Hid (Laid X) := laid_keeps _ _ h HB.out
  clear h
  have q := HP.out.cell (j := 18) rfl
  have hs : 0 ≤ e.ok ∧ e.ok < 18446744073709551616 := hw.un 79
  unfold enV
  go_enter Tryd.func40, Tryd.ntmps40
  go_wp2_with (first
    | (rw [HX.out])
    | (go_at_call 56; go_must (refine (fmtu_int e.ok _ HL.out hs).mono ?_); rintro e1 w1 ⟨rfl, hb1⟩))
  go_ret
  exact ⟨rfl, HB.out.trans (hb1.mono HB.out.size)⟩
set_option maxHeartbeats 1600000 in
theorem ldg86 (e : En) (hw : e.wf) (w : World) (h : Laid w) : Calls Tryd.prog 40 #[enV e, .int .u8 86] w fun r w' => r = .returned (.string (str (dgE e 86))) ∧ Below w.heap.size w w' := by
  obtain ⟨X, HX, HP, HB⟩ := box_en w e
  have HX := HX.out
  dsimp only [enC] at HX
  have HX := keepG HX
  have HL : Hid (Laid X) := laid_keeps _ _ h HB.out
  clear h
  have q := HP.out.cell (j := 19) rfl
  have hs : 0 ≤ e.ov ∧ e.ov < 18446744073709551616 := hw.un 86
  unfold enV
  go_enter Tryd.func40, Tryd.ntmps40
  go_wp2_with (first
    | (rw [HX.out])
    | (go_at_call 56; go_must (refine (fmtu_int e.ov _ HL.out hs).mono ?_); rintro e1 w1 ⟨rfl, hb1⟩))
  go_ret
  exact ⟨rfl, HB.out.trans (hb1.mono HB.out.size)⟩
theorem dg98f (e : En) : [48] = dgE { e with fo := false } 98 := by
  show [48] = numL 0
  decide +kernel
theorem dg98t (e : En) : [49] = dgE { e with fo := true } 98 := by
  show [49] = numL 1
  decide +kernel
set_option maxHeartbeats 1600000 in
theorem ldg98b (e : En) (b : Bool) (w : World) : Calls Tryd.prog 40 #[enV { e with fo := b }, .int .u8 98] w fun r w' => r = .returned (.string (str (dgE { e with fo := b } 98))) ∧ Below w.heap.size w w' := by
  obtain ⟨X, HX, HP, HB⟩ := box_en w { e with fo := b }
  have HX := HX.out
  dsimp only [enC] at HX
  have HX := keepG HX
  have q := HP.out.cell (j := 15) rfl
  unfold enV
  cases b
  all_goals
    go_enter Tryd.func40, Tryd.ntmps40
    go_wp2_with (rw [HX.out])
    go_ret
    first | exact ⟨rets (congrArg str (dg98f e)), HB.out⟩ | exact ⟨rets (congrArg str (dg98t e)), HB.out⟩
theorem ldg98 (e : En) (hw : e.wf) (w : World) (h : Laid w) : Calls Tryd.prog 40 #[enV e, .int .u8 98] w fun r w' => r = .returned (.string (str (dgE e 98))) ∧ Below w.heap.size w w' := ldg98b e e.fo w
theorem ldig26 (e : En) (hw : e.wf) (c : UInt8) (hc : c ∈ allL) (w : World) (h : Laid w) : Calls Tryd.prog 40 #[enV e, .int .u8 c.toNat] w fun r w' => r = .returned (.string (str (dgE e c))) ∧ Below w.heap.size w w' := by
  simp only [allL, List.mem_cons, List.not_mem_nil, or_false] at hc
  rcases hc with rfl | rfl | rfl | rfl | rfl | rfl | rfl | rfl | rfl | rfl | rfl | rfl | rfl | rfl | rfl | rfl | rfl | rfl | rfl | rfl
  · exact ldg116 e hw w h
  · exact ldg102 e hw w h
  · exact ldg99 e hw w h
  · exact ldg103 e hw w h
  · exact ldg101 e hw w h
  · exact ldg104 e hw w h
  · exact ldg112 e hw w h
  · exact ldg118 e hw w h
  · exact ldg97 e hw w h
  · exact ldg120 e hw w h
  · exact ldg109 e hw w h
  · exact ldg111 e hw w h
  · exact ldg121 e hw w h
  · exact ldg98 e hw w h
  · exact ldg110 e hw w h
  · exact ldg107 e hw w h
  · exact ldg119 e hw w h
  · exact ldg114 e hw w h
  · exact ldg79 e hw w h
  · exact ldg86 e hw w h
end Go.Proofs.YtbfbfbbpajaclaaDoor
