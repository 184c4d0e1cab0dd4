
/-
  What the document's r, source and Line do: the line of an instruction. Condition: the numbers are of their kinds.
-/
import Derived.Test.YtbfbfbbpajaclaaDoorKR3Number
import Derived.Test.YtbfbfbbpajaclaaDoorR2Boxes
import Derived.Deep.RegionHeld3
namespace Go.Proofs.YtbfbfbbpajaclaaDoor
open Go.RowKit
set_option linter.unusedVariables false

abbrev i64R (n : Int) : Prop := -9223372036854775808 ≤ n ∧ n ≤ 9223372036854775807
/-- Number, its answer a letter. -/
theorem number_let (n : Int) (w : World) (hn : i64R n) : Calls Tryd.prog 43 #[.int .i64 n] w fun e w' => (∃ l, e = .returned (.string (str l)) ∧ Hid (l = numL n) ∧ l.length ≤ 21) ∧ w = w' :=
  (number_any_l n w hn).mono fun e w' ⟨he, hw⟩ => ⟨⟨_, he, rfl, numL_len n⟩, hw⟩
end Go.Proofs.YtbfbfbbpajaclaaDoor
