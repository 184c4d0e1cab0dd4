/-
  What the document's r, source and Line do: the line of an instruction. Condition: the numbers are of their kinds.
-/
import Derived.Test.YteccmagbebghaaaDoorR3Number
import Derived.Test.YteccmagbebghaaaDoorR2Boxes
import Derived.Deep.RegionHeld3
namespace Go.Proofs.YteccmagbebghaaaDoor
open Go.RowKit
set_option linter.unusedVariables false

abbrev i64R (n : Int) : Prop := -9223372036854775808 ≤ n ∧ n ≤ 9223372036854775807
/-- Number, its answer a letter. -/
theorem number_let (n : Int) (w : World) (hn : i64R n) : Calls Tryd.prog 40 #[.int .i64 n] w fun e w' => (∃ l, e = .returned (.string (str l)) ∧ Hid (l = numL n) ∧ l.length ≤ 21) ∧ w = w' :=
  (number_any n w hn).mono fun e w' ⟨he, hw⟩ => ⟨⟨_, he, rfl, numL_len n⟩, hw⟩
theorem r_any (n : Int) (w : World) (hn : i64R n) : Calls Tryd.prog 38 #[.int .i64 n] w fun e w' => (∃ l, e = .returned (.string (str l)) ∧ Hid (l = rL n) ∧ l.length ≤ 22) ∧ w = w' := by
  go_enter Tryd.func38, Tryd.ntmps38
  go_wp2_with (go_at_call 40; go_must (refine (number_let n _ hn).mono ?_); rintro e w' ⟨⟨l, rfl, HL, hl⟩, rfl⟩)
  go_ret
  exact ⟨⟨114 :: l, retstr (str_app [114] l), by show _ = _; rw [HL.out]; rfl, by simp; omega⟩, rfl⟩
theorem rsource_any (op d a b imm : Int) (w : World) (hb : i64R b) (hi : i64R imm) : Calls Tryd.prog 39 #[instV op d a b imm] w fun e w' => (∃ l, e = .returned (.string (str l)) ∧ Hid (l = srcL b imm) ∧ l.length ≤ 22) ∧ w.alloc (instO op d a b imm) = w' := by
  cases h8 : (b == 8)
  · have HE : Hid (srcL b imm = rL b) := by show _ = _; unfold srcL; rw [if_neg (by simpa using h8)]
    go_enter Tryd.func39, Tryd.ntmps39
    go_wp2_with (go_at_call 38; go_must (refine (r_any b _ hb).mono ?_); rintro e w' ⟨⟨l, rfl, HL, hl⟩, rfl⟩)
    go_ret
    exact ⟨⟨l, rfl, by show _ = _; rw [HL.out, HE.out], hl⟩, rfl⟩
  · have HE : Hid (srcL b imm = numL imm) := by show _ = _; unfold srcL; rw [if_pos (by simpa using h8)]
    go_enter Tryd.func39, Tryd.ntmps39
    go_wp2_with (go_at_call 40; go_must (refine (number_let imm _ hi).mono ?_); rintro e w' ⟨⟨l, rfl, HL, hl⟩, rfl⟩)
    go_ret
    exact ⟨⟨l, rfl, by show _ = _; rw [HL.out, HE.out], by omega⟩, rfl⟩
end Go.Proofs.YteccmagbebghaaaDoor
