/-
  SpanHolds, walked: it answers true. Condition: numbers of 64 bits.
-/
import Derived.Test.YtammakfpmimljaaS6WHolds
namespace Go.Proofs.Ytammakfpmimljaa
open Go.RowKit
theorem holds_walk (a A b B x y : Int) (w : World) (ha : W64 a) (hA : W64 A) (hb : W64 b) (hB : W64 B) (hx : W64 x) (hy : W64 y) :
    Calls Try.prog 7 #[.agg #[.int .u64 a, .int .u64 A, .int .u64 b, .int .u64 B, .int .u64 x, .int .u64 y]] w fun e w' => e = .returned (.bool true) ∧ Below w.heap.size w w' := by
  by_cases h : a ≤ A ∧ b ≤ B
  · exact holds_yes a A b B x y w ha hA hb hB hx hy h.1 h.2
  · exact holds_no a A b B x y w ha hA hb hB h
end Go.Proofs.Ytammakfpmimljaa
