/-
  The law LinesParses, walked: it answers true. Conditions: the listed variables read as they are laid; a text of a million bytes at most.
-/
import Derived.Test.YtmfcilgocffggaaDoorW3Prints
import Derived.Test.YtmfcilgocffggaaDoorR3Parse
namespace Go.Proofs.YtmfcilgocffggaaDoor
open Go.RowKit
set_option linter.unusedVariables false

theorem parses_walk (s : ByteArray) (w : World) (hs : s.size ≤ 1048576) (h : Laid w) : Calls Tryd.prog 4 #[.string s] w fun e w' => e = .returned (.bool true) ∧ Below w.heap.size w w' := by
  obtain ⟨l, rfl⟩ : ∃ l, s = str l := ⟨s.data.toList, rfl⟩
  have hl : l.length ≤ 1048576 := hs
  exact parses_law laid_keeps lprint_any lparse_any rparse_any l w h (by omega)
end Go.Proofs.YtmfcilgocffggaaDoor
