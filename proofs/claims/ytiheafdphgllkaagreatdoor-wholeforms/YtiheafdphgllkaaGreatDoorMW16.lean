
/-
 What the document's words does: a line cut at each blank, in new memory. Condition: the line is of a million bytes and some at most.
-/
import Derived.Test.YtiheafdphgllkaaGreatDoorMW12
import Derived.Test.YtiheafdphgllkaaGreatDoorMW15
import Derived.Laws.AppendOwn
import Derived.Deep.MidRow
namespace Go.Proofs.YtiheafdphgllkaaGreatDoor
open Go.RowKit
set_option linter.unusedVariables false

abbrev strV (ws : List (List UInt8)) : List Value := ws.map fun x => Value.string (str x)
theorem Tryz.infoStr : (Tryz.prog.info? 9).map (fun i => (i.zero, i.size, i.bytes)) = some (some (.string ⟨#[]⟩), 1, 16) := by kernel_rfl
theorem one_str (w : World) (e : TypeId) (s : ByteArray) (n : Nat) (hn : n = w.heap.size) : ∀ j u, [Value.string s][j]? = some u -> (w.alloc (.cells #[.string s] e)).cell? ((⟨n, 0, none⟩ : Addr).add j) = some u := by
 subst hn
 intro j u hu
 cases j with
 | zero => rw [Addr.add_mid]; simp at hu; subst hu; simp
 | succ j => simp at hu
theorem one_cellS (s : ByteArray) : ∀ u ∈ [Value.string s], u.oneCell' = true := by intro u hu; simp at hu; subst hu; rfl

end Go.Proofs.YtiheafdphgllkaaGreatDoor
