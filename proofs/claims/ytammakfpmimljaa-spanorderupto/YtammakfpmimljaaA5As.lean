/-
  What arith.Do, arith.Holds and the document's Do answer, as letters; memory stays. Condition: numbers of 64 bits.
-/
import Derived.Test.YtammakfpmimljaaA5RAll
namespace Go.Proofs.Ytammakfpmimljaa
open Go.RowKit
set_option linter.unusedVariables false

/-! The same, what is answered as letters. -/
theorem do_as {op a b n : Int} {c : Bool} (h1 : Hid (n = doL op a b)) (h2 : Hid (c = isOp op)) (w : World) (ha : 0 ≤ a ∧ a ≤ 18446744073709551615) (hb : 0 ≤ b ∧ b ≤ 18446744073709551615) :
    Calls Try.prog 27 #[.int .i64 op, .int .u64 a, .int .u64 b] w fun e w' => e = .returned (.tuple #[.int .u64 n, .bool c]) ∧ w = w' := by
  rw [h1.out, h2.out]; exact do_any op a b w ha hb
theorem rdo_as {op a b n : Int} {c : Bool} (h1 : Hid (n = doL op a b)) (h2 : Hid (c = isOp op)) (w : World) (ha : 0 ≤ a ∧ a ≤ 18446744073709551615) (hb : 0 ≤ b ∧ b ≤ 18446744073709551615) :
    Calls Try.prog 38 #[.int .i64 op, .int .u64 a, .int .u64 b] w fun e w' => e = .returned (.tuple #[.int .u64 n, .bool c]) ∧ w = w' := by
  rw [h1.out, h2.out]; exact rdo_any op a b w ha hb
theorem holds_as {op a b : Int} {n c : Bool} (h1 : Hid (n = holdL op a b)) (h2 : Hid (c = isCond op)) (w : World) (ha : 0 ≤ a ∧ a ≤ 18446744073709551615) (hb : 0 ≤ b ∧ b ≤ 18446744073709551615) :
    Calls Try.prog 28 #[.int .i64 op, .int .u64 a, .int .u64 b] w fun e w' => e = .returned (.tuple #[.bool n, .bool c]) ∧ w = w' := by
  rw [h1.out, h2.out]; exact holds_any op a b w ha hb
end Go.Proofs.Ytammakfpmimljaa
