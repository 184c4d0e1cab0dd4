
/-
  Layer 15: the calls whose answers the document's examples fix. No condition.
-/
import Derived.Test.YtinoelooccmmnaaC15LB
namespace Go.Proofs.Ytinoelooccmmnaa
open Go.RowKit
set_option linter.unusedVariables false
set_option linter.unusedSimpArgs false
set_option maxRecDepth 100000

theorem newM_inv {κ : Bool} {cap n : Nat} (h : 1 ≤ cap) : InvM κ cap (List.replicate n Sr.nil) := InvM.new h
set_option maxHeartbeats 4000000 in
theorem awake15_any (w : World) : Calls Try.prog 7 #[] w fun e w' => e = .returned (.bool true) ∧ Below w.heap.size w w' := by
  have HQ1 : Hid (doM true 1 [Sr.nil, Sr.nil] 2 0 5 = (⟨0, false, 0, false, 0, 0⟩, [([⟨0, 5⟩], [0]), Sr.nil])) := by show _ = _; rfl
  have HQ2 : Hid (doM true 1 [([⟨0, 5⟩], [0]), Sr.nil] 2 2 6 = (⟨0, false, 0, true, 0, 5⟩, [([⟨2, 6⟩], [2]), Sr.nil])) := by show _ = _; rfl
  have HI0 : Hid (InvM true 1 [Sr.nil, Sr.nil]) := newM_inv (n := 2) (by omega)
  have HI1 : Hid (InvM true 1 [([⟨0, 5⟩], [0]), Sr.nil]) := by have := HI0.out.do 2 0 5 (atM_lt (n := 2) (by omega) (by omega)); rw [HQ1.out] at this; exact this
  have HI2 : Hid (InvM true 1 [([⟨2, 6⟩], [2]), Sr.nil]) := by have := HI1.out.do 2 2 6 (atM_lt (n := 2) (by omega) (by omega)); rw [HQ2.out] at this; exact this
  have hnw := lnewM_ok true 1 2 (by omega) (by omega) (by omega) (by omega) w
  have HNW : Hid (Calls Try.prog 8 #[defW 1 1, .int .i64 2] w fun e w' => ∃ r G, e = .returned (.tuple #[.pointer (some ⟨r, 0, none⟩), .int .i64 0]) ∧ Lmo w' w.heap.size r 2 1 true 1 [Sr.nil, Sr.nil] G ∧ Since w G ∧ Below w.heap.size w w') := hnw
  clear hnw
  have P1 : True := trivial
  go_enter Try.func7, Try.ntmps7
  go_wp2_with (first
    | (go_at_call 8; go_must (refine HNW.out.mono ?_); rintro e w0 ⟨r, G0, rfl, hL0, hs0, hb0⟩; go_must (have HL0 := keepG hL0; have HS0 := keepG hs0; have HB0 := keepG hb0; have hz0 := hb0.size; clear hL0 hs0 hb0))
    | (go_at_call 11; have hq := P1; clear hq; go_must (refine (HL0.out.do_any 2 0 5 HI0.out (by omega) (by omega) (by omega) (by omega) (by omega) HQ1).mono ?_); rintro e w1 ⟨rfl, G1, hL1, hn1⟩; go_must (have HL1 := keepG hL1; have HS1 := keepG (HS0.out.next hz0 hn1); have HB1 := keepG (HS0.out.be HB0.out hn1); have hz1 := HB1.out.size; clear hL1 hn1 P1 HL0 HS0 HB0))
    | (go_at_call 11; go_must (refine (HL1.out.do_any 2 2 6 HI1.out (by omega) (by omega) (by omega) (by omega) (by omega) HQ2).mono ?_); rintro e w2 ⟨rfl, G2, hL2, hn2⟩; go_must (have HL2 := keepG hL2; have HB2 := keepG (HS1.out.be HB1.out hn2); clear hL2 hn2 HL1 HS1 HB1))
    | (go_at_call 16; go_must (refine (HL2.out.lenM HI2.out (by omega) (by omega) (l := 1) (show Hid _ from rfl)).mono ?_); rintro e w3 ⟨rfl, rfl⟩))
  go_ret
  exact ⟨rfl, HB2.out⟩
end Go.Proofs.Ytinoelooccmmnaa
