
/-
  What the document's names, Name and Find do: the operations' names by number, and the number of a name. Condition: a name's length fits.
-/
import Derived.Test.YtbfbfbbpajaclaaDoorRows
import Derived.Test.YtbfbfbbpajaclaaDoorR2Plain
import Derived.WalkSpells
import Derived.OpenShut
import Derived.Below
import Derived.Laws.Strings
import Derived.WideShapes
namespace Go.Proofs.YtbfbfbbpajaclaaDoor
open Go.RowKit
set_option linter.unusedVariables false

/-- The operations' names. -/
def nameL : List ByteArray := [⟨#[115, 101, 116]⟩, ⟨#[97, 100, 100]⟩, ⟨#[115, 117, 98]⟩, ⟨#[109, 117, 108]⟩, ⟨#[100, 105, 118]⟩, ⟨#[114, 101, 109]⟩, ⟨#[97, 110, 100]⟩, ⟨#[111, 114]⟩, ⟨#[120, 111, 114]⟩, ⟨#[115, 104, 108]⟩, ⟨#[115, 104, 114]⟩, ⟨#[108, 111, 97, 100]⟩, ⟨#[115, 116, 111, 114, 101]⟩, ⟨#[102, 105, 101, 108, 100]⟩, ⟨#[109, 97, 112]⟩, ⟨#[106, 117, 109, 112]⟩, ⟨#[106, 101, 113]⟩, ⟨#[106, 110, 101]⟩, ⟨#[106, 108, 116]⟩, ⟨#[106, 103, 101]⟩, ⟨#[108, 111, 111, 112]⟩, ⟨#[99, 97, 108, 108]⟩, ⟨#[101, 120, 105, 116]⟩]
def nameS (i : Nat) : ByteArray := nameL.getD i ⟨#[]⟩

/-- The name of a number. -/
def nameF (op : Int) : ByteArray := if 0 ≤ op ∧ op < 23 then nameS op.toNat else ⟨#[]⟩
theorem rets {a b : ByteArray} (h : a = b) : Ending.returned (.string a) = .returned (.string b) := by rw [h]

theorem str_ne {t s : ByteArray} (h : t ≠ s) : (t.toList == s.toList) = false := by
  rw [beq_eq_false_iff_ne]
  intro e
  rw [ByteArray.toList_eq, ByteArray.toList_eq] at e
  exact h (Go.WideShapes.bytes_inj e)
/-- The first number from i on whose name it is. -/
def findF (s : ByteArray) : Nat → Nat → Int × Bool
  | 0, _ => (0, false)
  | f + 1, i => if nameS i = s then ((i : Int), true) else findF s f (i + 1)
def findL (s : ByteArray) : Int × Bool := findF s 23 0

end Go.Proofs.YtbfbfbbpajaclaaDoor
