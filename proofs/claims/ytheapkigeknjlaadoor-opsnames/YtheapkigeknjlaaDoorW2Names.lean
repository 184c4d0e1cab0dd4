/-
  The law OpsNames, walked: it answers true. Condition: the package-level variable 'names' reads as it is laid.
-/
import Derived.Test.YtheapkigeknjlaaDoorO2Awake
namespace Go.Proofs.YtheapkigeknjlaaDoor
open Go.RowKit
set_option linter.unusedVariables false

set_option maxHeartbeats 800000 in
theorem names_walk (op : Int) (s : ByteArray) (w : World) (_ : -9223372036854775808 ≤ op ∧ op ≤ 9223372036854775807) (_ : s.size ≤ maxLen) (h : Named w) : Calls Tryd.prog 3 #[.int .i64 op, .string s] w fun e w' => e = .returned (.bool true) ∧ Below w.heap.size w w' := by
  have HN : Hid (Named w) := h
  have h0 := h.1
  clear h
  go_enter Tryd.func3, Tryd.ntmps3
  go_wp2_with (first
    | (go_at_call 8; go_must (refine (awake_any _ HN.out).mono ?_); rintro e w1 ⟨rfl, hB1⟩; go_must (have hz1 := hB1.size; have HN1 : Hid (Named w1) := HN.out.below hB1 h0))
    | (go_at_call 9; go_must (refine (ofind_any s _ HN1.out).mono ?_); rintro e w' ⟨rfl, rfl⟩)
    | (go_at_call 10; go_must (refine (find_any s _).mono ?_); rintro e w2 ⟨rfl, hb2⟩; go_must (have hB2 := hB1.trans (hb2.mono hz1); have HN2 : Hid (Named w2) := HN1.out.below hb2 (by omega); have hz2 := hB2.size))
    | (go_at_call 11; go_must (refine (oname_any op _ HN2.out).mono ?_); rintro e w' ⟨rfl, rfl⟩)
    | (go_at_call 12; go_must (refine (name_any op _).mono ?_); rintro e w3 ⟨rfl, hb3⟩; have hB3 := hB2.trans (hb3.mono hz2)))
  go_ret
  exact ⟨r2b (by simp), hB3⟩
end Go.Proofs.YtheapkigeknjlaaDoor
