/-
  SpanDoes and SpanRefines, walked: they answer true. Condition: numbers of 64 bits.
-/
import Derived.Test.YtammakfpmimljaaS6LRefine
import Derived.Test.YtammakfpmimljaaS6WRefines
import Derived.Test.YtammakfpmimljaaS6ROr
namespace Go.Proofs.Ytammakfpmimljaa
open Go.RowKit
set_option linter.unusedVariables false

theorem rdo6 : RDo := fun op a A b B w ha hA hb hB => sdo_any or_way op a A b B w ha hA hb hB
theorem rrefine6 : RRefine := fun op a A b B h w ha hA hb hB => srefine_any op a A b B h w ha hA hb hB
theorem does_walk (op a A b B : Int) (w : World) (hop : -9223372036854775808 ≤ op ∧ op ≤ 9223372036854775807) (ha : W64 a) (hA : W64 A) (hb : W64 b) (hB : W64 B) :
    Calls Try.prog 5 #[.int .i64 op, .agg #[.int .u64 a, .int .u64 A], .agg #[.int .u64 b, .int .u64 B]] w fun e w' => e = .returned (.bool true) ∧ Below w.heap.size w w' := does_road awake6 ldo_any rdo6 op a A b B w hop ha hA hb hB
theorem refines_walk (op a A b B : Int) (w : World) (hop : -9223372036854775808 ≤ op ∧ op ≤ 9223372036854775807) (ha : W64 a) (hA : W64 A) (hb : W64 b) (hB : W64 B) :
    Calls Try.prog 6 #[.int .i64 op, .agg #[.int .u64 a, .int .u64 A], .agg #[.int .u64 b, .int .u64 B]] w fun e w' => e = .returned (.bool true) ∧ Below w.heap.size w w' := refines_road awake6 lrefine_any rrefine6 op a A b B w hop ha hA hb hB
end Go.Proofs.Ytammakfpmimljaa
