/-
  WireSame, walked: true. Conditions: the modules' slices read as numbers and as instructions, and take up no more bytes than an argument may.
-/
import Derived.Test.YtbpjcppgnndaaaaW4Copied
import Derived.Test.YtbpjcppgnndaaaaW4Same
namespace Go.Proofs.Ytbpjcppgnndaaaa
open Go.RowKit
set_option linter.unusedVariables false
set_option maxRecDepth 100000
attribute [local go_sem ↓] Go.wp_at_zero Go.wp_at_succ

theorem SeesI.nil (w : World) : SeesI w (.slice none 0 0) [] := ⟨none, 0, rfl, by simp, by simp [maxLen], fun _ => rfl, fun h => absurd rfl h⟩
theorem SeesM.zero (w : World) : SeesM w (.slice none 0 0) (.slice none 0 0) [] [] := ⟨Sees.nil _ _, SeesI.nil _, by simp⟩
theorem small_zero : sameM [2] smallIs [] [] = false := by rfl
theorem below_drew {B : Nat} {a w : World} (h : Below B a w) : Below B a w.drew := ⟨h.os, h.tape, h.output, h.size, h.block⟩

set_option maxHeartbeats 12800000 in
theorem wsame_law (vm vc um uc : Value) (ms : List Int) (is : List In) (ns : List Int) (js : List In) (w : World) (h : SeesM w vm vc ms is) (h' : SeesM w um uc ns js)
    (z : ms.length * 8 ≤ 140737488351232 ∧ is.length * 40 ≤ 140737488355328) (z' : ns.length * 8 ≤ 140737488351232 ∧ js.length * 40 ≤ 140737488355328) :
    Calls Try.prog 6 #[modV vm vc, modV um uc] w fun e w' => e = .returned (.bool true) ∧ Below w.heap.size w w' := by
  obtain ⟨am, km, hvm⟩ := h.maps.shape
  obtain ⟨ac, kc, hvc⟩ := h.code.shape
  obtain ⟨bm, lm, hum⟩ := h'.maps.shape
  obtain ⟨bc, lc, huc⟩ := h'.code.shape
  obtain ⟨W0, HW⟩ : ∃ W0, Hid (W0 = (w.alloc (.cells #[vm, vc] 25)).alloc (.cells #[um, uc] 25)) := ⟨_, keepH rfl⟩
  have HB : Hid (Below w.heap.size w W0) := by rw [HW.out]; exact (below_alloc w _).alloc (by simp) _
  have HM1 : Hid (∀ wk, Below W0.heap.size W0 wk → SeesM wk vm vc ms is) := fun wk hb => (h.below HB.out).below hb
  have HM2 : Hid (∀ wk, Below W0.heap.size W0 wk → SeesM wk um uc ns js) := fun wk hb => (h'.below HB.out).below hb
  have HSz : Hid (W0.heap.size = w.heap.size + 2) := by rw [HW.out]; show _ = _; simp
  have HD : Hid (∀ wk, Below W0.heap.size W0 wk → ((wk.cell? ⟨w.heap.size, 0, none⟩ = some vm ∧ wk.cell? ⟨w.heap.size, 1, none⟩ = some vc) ∧ wk.cell? ⟨w.heap.size + 1, 0, none⟩ = some um ∧ wk.cell? ⟨w.heap.size + 1, 1, none⟩ = some uc) ∧ Below W0.heap.size W0 wk) := fun wk hb => by
    have h1 : MdC W0 w.heap.size vm vc := by rw [HW.out]; exact (MdC.new w vm vc).kept (grown_alloc _ _ none) (by simp)
    have h2 : MdC W0 (w.heap.size + 1) um uc := by
      rw [HW.out]
      have := MdC.new (w.alloc (.cells #[vm, vc] 25)) um uc
      rwa [World.size_alloc] at this
    have hz := HSz.out
    exact ⟨⟨(h1.below hb (by omega)).cells, (h2.below hb (by omega)).cells⟩, hb⟩
  have HEND : Hid (∀ wk, Below W0.heap.size W0 wk → Below w.heap.size w wk) := fun wk hb => HB.out.trans (hb.mono HB.out.size)
  have HZ := keepH z
  have HZ' := keepH z'
  subst hvm hvc hum huc
  clear h h' z z'
  have hB0 : Below W0.heap.size W0 W0 := Below.refl _ _
  go_enter Try.func6, Try.ntmps6
  go_wp2_with fail
  rw [← HW.out]
  go_region_held_law (fun w' => ((w'.cell? ⟨w.heap.size, 0, none⟩ = some (.slice am ms.length km) ∧ w'.cell? ⟨w.heap.size, 1, none⟩ = some (.slice ac is.length kc)) ∧ w'.cell? ⟨w.heap.size + 1, 0, none⟩ = some (.slice bm ns.length lm) ∧ w'.cell? ⟨w.heap.size + 1, 1, none⟩ = some (.slice bc js.length lc)) ∧ Below W0.heap.size W0 w')
    ((refine HD.out _ ?_; repeat (first | assumption | refine below_drew ?_)))
    (first
      | (go_at_call 9; refine (awake_any _).mono ?_; rintro e w1 ⟨rfl, hb⟩; have hB1 := (And.right ‹_ ∧ Below W0.heap.size W0 _›).trans (hb.mono (And.right ‹_ ∧ Below W0.heap.size W0 _›).size); clear hb)
      | (go_at_call 16; refine (lsame_any _ _ _ _ ms is ns js _ (HM1.out _ hB1) (HM2.out _ hB1)).mono ?_; rintro e w2 ⟨rfl, hb⟩; have hB2 := hB1.trans (hb.mono hB1.size); clear hb hB1)
      | (go_at_call 13; refine (rsame_any _ _ _ _ ms is ns js _ (HM1.out _ hB2) (HM2.out _ hB2)).mono ?_; rintro e w3 ⟨rfl, hb⟩; have hB3 := hB2.trans (hb.mono hB2.size); clear hb hB2)
      | (go_at_call 10; refine (copied_any _ _ ms is _ (HM1.out _ hB3) HZ.out).mono ?_; rintro e w4 ⟨xm, xc, rfl, hs4, hb⟩; have hB4 := hB3.trans (hb.mono hB3.size); clear hb hB3)
      | (go_at_call 16; refine (lsame_any _ _ _ _ ms is ms is _ hs4 (HM1.out _ hB4)).mono ?_; rw [sameM_true]; rintro e w5 ⟨rfl, hb⟩; have hB5 := hB4.trans (hb.mono hB4.size); clear hb hB4 hs4)
      | (go_at_call 10; refine (copied_any _ _ ns js _ (HM2.out _ hB5) HZ'.out).mono ?_; rintro e w6 ⟨ym, yc, rfl, hs6, hb⟩; have hB6 := hB5.trans (hb.mono hB5.size); clear hb hB5)
      | (go_at_call 16; refine (lsame_any _ _ _ _ ns js ns js _ (HM2.out _ hB6) hs6).mono ?_; rw [sameM_true]; rintro e w7 ⟨rfl, hb⟩; have hB7 := hB6.trans (hb.mono hB6.size); clear hb hB6 hs6)
      | (go_at_call 17; refine (small_any _).mono ?_; rintro e w8 ⟨tm, tc, rfl, hs8, hb⟩; have hB8 := hB7.trans (hb.mono hB7.size); clear hb hB7)
      | (go_at_call 16; refine (lsame_any _ _ _ _ [2] smallIs [] [] _ hs8 (SeesM.zero _)).mono ?_; rw [small_zero]; rintro e w9 ⟨rfl, hb⟩; have hB9 := hB8.trans (hb.mono hB8.size); clear hb hB8 hs8))
  go_wp2_with fail
  go_ret
  exact ⟨rfl, HEND.out _ hB9⟩
theorem wsame_all (vm vc : Value) (ms : List Int) (is : List In) (um uc : Value) (ns : List Int) (js : List In) (w : World) (h : SeesM w vm vc ms is) (z : ms.length * 8 ≤ 140737488351232 ∧ is.length * 40 ≤ 140737488355328) (h' : SeesM w um uc ns js) (z' : ns.length * 8 ≤ 140737488351232 ∧ js.length * 40 ≤ 140737488355328) :
    Calls Try.prog 6 #[modV vm vc, modV um uc] w fun e w' => e = .returned (.bool true) ∧ Below w.heap.size w w' := wsame_law vm vc um uc ms is ns js w h h' z z'
end Go.Proofs.Ytbpjcppgnndaaaa
