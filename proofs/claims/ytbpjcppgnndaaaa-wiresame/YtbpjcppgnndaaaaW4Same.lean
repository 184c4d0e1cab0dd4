/-
  What the project's Same does: have two modules the same maps and the same code. Condition: the modules' slices read as numbers and as instructions.
-/
import Derived.Test.YtbpjcppgnndaaaaW4RSame
namespace Go.Proofs.Ytbpjcppgnndaaaa
open Go.RowKit
set_option linter.unusedVariables false
set_option maxRecDepth 100000

set_option maxHeartbeats 1600000 in
theorem lsame_any (vm vc um uc : Value) (ms : List Int) (is : List In) (ns : List Int) (js : List In) (w : World) (h : SeesM w vm vc ms is) (h' : SeesM w um uc ns js) :
    Calls Try.prog 16 #[modV vm vc, modV um uc] w fun e w' => e = .returned (.bool (sameM ms is ns js)) ∧ Below w.heap.size w w' := by
  obtain ⟨am, km, hvm⟩ := h.maps.shape
  obtain ⟨ac, kc, hvc⟩ := h.code.shape
  obtain ⟨bm, lm, hum⟩ := h'.maps.shape
  obtain ⟨bc, lc, huc⟩ := h'.code.shape
  obtain ⟨W, HW⟩ : ∃ W, Hid (W = (w.alloc (.cells #[vm, vc] 25)).alloc (.cells #[um, uc] 25)) := ⟨_, keepH rfl⟩
  have HB : Hid (Below w.heap.size w W) := by rw [HW.out]; exact (below_alloc w _).alloc (by simp) _
  have HM1 := keepH (h.below HB.out)
  have HM2 := keepH (h'.below HB.out)
  have HD1 : Hid (MdC W w.heap.size vm vc) := by rw [HW.out]; exact (MdC.new w vm vc).kept (grown_alloc _ _ none) (by simp)
  have HD2 : Hid (MdC W (w.heap.size + 1) um uc) := by
    rw [HW.out]
    have := MdC.new (w.alloc (.cells #[vm, vc] 25)) um uc
    rwa [World.size_alloc] at this
  subst hvm hvc hum huc
  clear h h'
  obtain ⟨c0, c1⟩ := HD1.out.cells
  obtain ⟨d0, d1⟩ := HD2.out.cells
  clear HD1 HD2
  rw [HW.out] at HB HM1 HM2 c0 c1 d0 d1
  cases he : eqB ms ns with
  | false =>
    go_enter Try.func16, Try.ntmps16
    go_wp2_with (go_at_call 33; go_must (refine (equal_any _ _ ms ns _ HM1.out.maps HM2.out.maps).mono ?_); rintro e w' ⟨rfl, n, rfl⟩; rw [he])
    go_ret
    exact ⟨retb (by rw [sameM, he]; rfl), below_drewN HB.out _⟩
  | true =>
    go_enter Try.func16, Try.ntmps16
    go_wp2_with (first
      | (go_at_call 33; go_must (refine (equal_any _ _ ms ns _ HM1.out.maps HM2.out.maps).mono ?_); rintro e w' ⟨rfl, n, rfl⟩; rw [he])
      | (go_at_call 34; go_must (refine (equalI_any _ _ is js _ (HM1.out.code.below (below_drewN (Below.refl _ _) _)) (HM2.out.code.below (below_drewN (Below.refl _ _) _))).mono ?_); rintro e w' ⟨rfl, m, rfl⟩))
    go_ret
    exact ⟨retb (by rw [sameM, he]; rfl), below_drewN HB.out _⟩
end Go.Proofs.Ytbpjcppgnndaaaa
