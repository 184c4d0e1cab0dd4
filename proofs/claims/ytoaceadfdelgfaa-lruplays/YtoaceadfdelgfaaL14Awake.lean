
/-
  Layer 14: the calls whose answers the document's examples fix. No condition.
-/
import Derived.Test.YtoaceadfdelgfaaL14LG
namespace Go.Proofs.Ytoaceadfdelgfaa
open Go.RowKit
set_option linter.unusedVariables false
set_option linter.unusedSimpArgs false
set_option maxRecDepth 100000

set_option maxHeartbeats 4000000 in
theorem awake14_any (w : World) : Calls Try.prog 7 #[] w fun e w' => e = .returned (.bool true) ∧ Below w.heap.size w w' := by
  have HQ1 : Hid (doA 2 [] [] 2 1 10 = (⟨0, false, 0, false, 0, 0⟩, [⟨1, 10⟩], [1])) := by show _ = _; rfl
  have HQ2 : Hid (doA 2 [⟨1, 10⟩] [1] 2 2 20 = (⟨0, false, 0, false, 0, 0⟩, [⟨1, 10⟩, ⟨2, 20⟩], [2, 1])) := by show _ = _; rfl
  have HQ3 : Hid (doA 2 [⟨1, 10⟩, ⟨2, 20⟩] [2, 1] 0 1 0 = (⟨0, true, 10, false, 0, 0⟩, [⟨1, 10⟩, ⟨2, 20⟩], [1, 2])) := by show _ = _; rfl
  have HQ4 : Hid (doA 2 [⟨1, 10⟩, ⟨2, 20⟩] [1, 2] 2 3 30 = (⟨0, false, 0, true, 2, 20⟩, [⟨1, 10⟩, ⟨3, 30⟩], [3, 1])) := by show _ = _; rfl
  have HI0 : Hid (InvA 2 [] []) := InvA.new (by omega)
  have HI1 : Hid (InvA 2 [⟨1, 10⟩] [1]) := by have := HI0.out.do 2 1 10; rw [HQ1.out] at this; exact this
  have HI2 : Hid (InvA 2 [⟨1, 10⟩, ⟨2, 20⟩] [2, 1]) := by have := HI1.out.do 2 2 20; rw [HQ2.out] at this; exact this
  have HI3 : Hid (InvA 2 [⟨1, 10⟩, ⟨2, 20⟩] [1, 2]) := by have := HI2.out.do 0 1 0; rw [HQ3.out] at this; exact this
  have HI4 : Hid (InvA 2 [⟨1, 10⟩, ⟨3, 30⟩] [3, 1]) := by have := HI3.out.do 2 3 30; rw [HQ4.out] at this; exact this
  have P1 : True := trivial
  have P2 : True := trivial
  have P3 : True := trivial
  have P4 : True := trivial
  go_enter Try.func7, Try.ntmps7
  go_wp2_with (first
    | (go_at_call 8; go_must (refine (lunew_ok 2 (by omega) (by omega) w).mono ?_); rintro e w0 ⟨l, F0, rfl, hL0, hs0, hb0⟩; go_must (have HL0 := keepG hL0; have HS0 := keepG hs0; have HB0 := keepG hb0; have hz0 := hb0.size; clear hL0 hs0 hb0))
    | (go_at_call 11; have hq := P1; clear hq; go_must (refine (HL0.out.do_as HQ1 HI0.out (by omega) (by omega)).mono ?_); rintro e w1 ⟨rfl, F1, hL1, hn1⟩; go_must (have HL1 := keepG hL1; have HS1 := keepG (HS0.out.next hz0 hn1); have HB1 := keepG (HS0.out.be HB0.out hn1); have hz1 := HB1.out.size; clear hL1 hn1 P1 HL0 HS0 HB0))
    | (go_at_call 11; have hq := P2; clear hq; go_must (refine (HL1.out.do_as HQ2 HI1.out (by omega) (by omega)).mono ?_); rintro e w2 ⟨rfl, F2, hL2, hn2⟩; go_must (have HL2 := keepG hL2; have HS2 := keepG (HS1.out.next hz1 hn2); have HB2 := keepG (HS1.out.be HB1.out hn2); have hz2 := HB2.out.size; clear hL2 hn2 P2 HL1 HS1 HB1))
    | (go_at_call 11; have hq := P3; clear hq; go_must (refine (HL2.out.do_as HQ3 HI2.out (by omega) (by omega)).mono ?_); rintro e w3 ⟨rfl, F3, hL3, hn3⟩; go_must (have HL3 := keepG hL3; have HS3 := keepG (HS2.out.next hz2 hn3); have HB3 := keepG (HS2.out.be HB2.out hn3); have hz3 := HB3.out.size; clear hL3 hn3 P3 HL2 HS2 HB2))
    | (go_at_call 11; have hq := P4; clear hq; go_must (refine (HL3.out.do_as HQ4 HI3.out (by omega) (by omega)).mono ?_); rintro e w4 ⟨rfl, F4, hL4, hn4⟩; go_must (have HL4 := keepG hL4; have HB4 := keepG (HS3.out.be HB3.out hn4); have hz4 := HB4.out.size; clear hL4 hn4 P4 HL3 HS3 HB3))
    | (go_at_call 15; go_must (refine (HL4.out.order HI4.out (by omega)).mono ?_); rintro e w5 ⟨u, rfl, ho5, hb5⟩; go_must (obtain ⟨ua, uc, rfl⟩ := own_shape ho5; have HB5 := keepG (HB4.out.trans (hb5.mono hz4)); clear ho5 hb5)))
  go_ret
  exact ⟨rfl, HB5.out⟩
end Go.Proofs.Ytoaceadfdelgfaa
