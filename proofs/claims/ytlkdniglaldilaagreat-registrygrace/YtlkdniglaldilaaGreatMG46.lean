
/-
 The law's small and awake: the document's examples, by the landed judge's contracts. No condition.
-/
import Derived.Test.YtlkdniglaldilaaGreatMG45
import Derived.Test.YtlkdniglaldilaaGreatMG30
namespace Go.Proofs.YtlkdniglaldilaaGreat
open Go.RowKit
set_option linter.unusedVariables false
set_option linter.unusedSimpArgs false
set_option maxRecDepth 100000

theorem ljudge_as {vm vc : Value} {ms : List Int} {xs : List In} {w : World} (hm : Sees .i64 w vm ms) (hx : SeesI w vc xs) {P E : Int} (h : Hid (judgeR ms xs = (P, E))) : Calls Tryz.prog 54 #[.agg #[vm, vc]] w fun e w' => e = .returned (.tuple #[.int .i64 P, .int .i64 E]) /\ Below w.heap.size w w' := by
 refine (ljudge_any vm ms vc xs w hm hx).mono ?_
 rintro e w' ⟨P', E', h1, _, _, rfl, hb⟩
 rw [h.out] at h1
 injection h1 with h2 h3
 subst h2 h3
 exact ⟨rfl, hb⟩
end Go.Proofs.YtlkdniglaldilaaGreat
