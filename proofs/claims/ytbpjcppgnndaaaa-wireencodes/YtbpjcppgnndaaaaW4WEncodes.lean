/-
  WireEncodes, walked: true. Conditions: the module's slices read as numbers and as instructions, and take up no more bytes than an argument may.
-/
import Derived.Test.YtbpjcppgnndaaaaW4Copied
import Derived.Test.YtbpjcppgnndaaaaW4REncode
namespace Go.Proofs.Ytbpjcppgnndaaaa
open Go.RowKit
set_option linter.unusedVariables false
set_option maxRecDepth 100000

set_option maxHeartbeats 3200000 in
theorem wencodes_law (vm vc : Value) (ms : List Int) (is : List In) (w : World) (h : SeesM w vm vc ms is) (z : ms.length * 8 ≤ 140737488351232 ∧ is.length * 40 ≤ 140737488355328) :
    Calls Try.prog 3 #[modV vm vc] w fun e w' => e = .returned (.bool true) ∧ Below w.heap.size w w' := by
  obtain ⟨am, km, hvm⟩ := h.maps.shape
  obtain ⟨ac, kc, hvc⟩ := h.code.shape
  obtain ⟨W0, HW0⟩ : ∃ W0, Hid (W0 = w.alloc (.cells #[vm, vc] 25)) := ⟨_, keepH rfl⟩
  have HM : Hid (∀ wk, Below W0.heap.size W0 wk → SeesM wk vm vc ms is) := fun wk hb => by
    rw [HW0.out] at hb
    exact (h.below (below_alloc w _)).below hb
  have HD : Hid (∀ wk, Below W0.heap.size W0 wk → wk.cell? ⟨w.heap.size, 0, none⟩ = some vm ∧ wk.cell? ⟨w.heap.size, 1, none⟩ = some vc) := fun wk hb => by
    rw [HW0.out] at hb
    exact ((MdC.new w vm vc).below hb (by simp)).cells
  have HEND : Hid (∀ wk, Below W0.heap.size W0 wk → Below w.heap.size w wk) := fun wk hb => by
    rw [HW0.out] at hb
    exact below_of_alloc hb
  have HZ := keepH z
  have HBY := keepH (encL_byte (ms := ms) (is := is) h.wf)
  obtain ⟨bs, e, HEL⟩ : ∃ bs e, Hid (encL ms is = (bs, e)) := ⟨_, _, rfl⟩
  rw [HEL.out] at HBY
  subst hvm hvc
  clear h z
  go_enter Try.func3, Try.ntmps3
  go_wp2_with (first
    | (go_at_call 9; go_must (refine (awake_any _).mono ?_); rintro e w1 ⟨rfl, hb1⟩; go_must (rw [← HW0.out] at hb1; obtain ⟨d0, d1⟩ := HD.out _ hb1))
    | (go_at_call 10; go_must (refine (copied_any _ _ ms is _ (HM.out _ hb1) HZ.out).mono ?_); rintro e w2 ⟨xm, xc, rfl, hs2, hb2⟩; go_must (have hB2 := hb1.trans (hb2.mono hb1.size); obtain ⟨a2, k2, hxm⟩ := hs2.maps.shape; obtain ⟨a3, k3, hxc⟩ := hs2.code.shape; subst hxm hxc; have HS2 := keepH hs2; clear hb1 hb2 d0 d1 hs2))
    | (go_at_call 11; go_must (refine (encode_any _ _ ms is _ (HS2.out.below (below_alloc _ _))).mono ?_); rintro e w3 ⟨v3, rfl, ho3, hb3⟩; rw [HEL.out] at ho3 ⊢; go_must (have hB3 := (hB2.alloc hB2.size _).trans (hb3.mono (hB2.alloc hB2.size _).size); have hm3 := (MdC.new w2 (.slice a2 ms.length k2) (.slice a3 is.length k3)).below hb3 (by simp); have HS3 := keepH ((HS2.out.below (below_alloc _ _)).below hb3); have hs3 : Sees .u8 w3 v3 bs := Sees.own ho3 (wf_bytes HBY.out); obtain ⟨a4, k4, hv3⟩ := hs3.shape; subst hv3; have HB3 := keepH hs3; obtain ⟨d0, d1⟩ := HD.out _ hB3; have HM3 := keepH hm3; clear ho3 hb3 hs3 hB2 HS2 hm3))
    | (go_at_call 12; go_must (refine (rencode_any _ _ ms is _ (HM.out _ hB3)).mono ?_); rintro e w4 ⟨v4, rfl, ho4, hb4⟩; rw [HEL.out] at ho4 ⊢; go_must (have hB4 := hB3.trans (hb4.mono hB3.size); have HS4 := keepH (HS3.out.below hb4); have hs4 : Sees .u8 w4 v4 bs := Sees.own ho4 (wf_bytes HBY.out); obtain ⟨a5, k5, hv4⟩ := hs4.shape; subst hv4; have hcv := run_string (src := 28) (dst := 9) Try.underlying28 Try.underlying5 Try.underlying9 hs4; have hcb := run_string (src := 28) (dst := 9) Try.underlying28 Try.underlying5 Try.underlying9 (HB3.out.below hb4 (Nat.le_refl _)); obtain ⟨g0, g1⟩ := HD.out _ hB4; obtain ⟨y0, y1⟩ := (HM3.out.below hb4 HM3.out.lt).cells; clear ho4 hb4 hs4 hB3 HS3 d0 d1 HB3 HM3))
    | (go_at_call 13; go_must (refine (rsame_any _ _ _ _ ms is ms is _ HS4.out (HM.out _ hB4)).mono ?_); rintro e w5 ⟨rfl, hb5⟩; rw [sameM_true]; go_must (have hB5 := hB4.trans (hb5.mono hB4.size); clear hb5 hB4)))
  go_ret
  exact ⟨rfl, HEND.out _ hB5⟩
theorem wencodes_all (vm vc : Value) (ms : List Int) (is : List In) (w : World) (h : SeesM w vm vc ms is) (z : ms.length * 8 ≤ 140737488351232 ∧ is.length * 40 ≤ 140737488355328) :
    Calls Try.prog 3 #[modV vm vc] w fun e w' => e = .returned (.bool true) ∧ Below w.heap.size w w' := wencodes_law vm vc ms is w h z
end Go.Proofs.Ytbpjcppgnndaaaa
