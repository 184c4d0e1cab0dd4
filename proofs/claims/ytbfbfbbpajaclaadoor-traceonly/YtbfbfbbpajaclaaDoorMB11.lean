
/-
  What the document's words does: a line cut at each blank, in new memory. Condition: the line is of a million bytes and some at most.
-/
import Derived.Test.YtbfbfbbpajaclaaDoorMB10
import Derived.Test.YtbfbfbbpajaclaaDoorMB2
import Derived.Laws.AppendOwn
import Derived.Deep.MidRow
namespace Go.Proofs.YtbfbfbbpajaclaaDoor
open Go.RowKit
set_option linter.unusedVariables false

theorem str_cut (l : List UInt8) (a b : Nat) : (str l).extract a b = str ((l.drop a).take (b - a)) := by
  apply ByteArray.ext
  rw [ByteArray.data_extract]
  simp [List.extract_eq_take_drop]
theorem seg_succ {l : List UInt8} {a k : Nat} {c : UInt8} (hak : a ≤ k) (hk : k < l.length) (hc : l[k] = c) : (l.drop a).take (k + 1 - a) = (l.drop a).take (k - a) ++ [c] := by
  rw [show k + 1 - a = (k - a) + 1 by omega, List.take_succ_eq_append_getElem (by simp; omega)]
  congr 2
  rw [List.getElem_drop]
  subst hc
  congr 1
  omega
theorem wordsF_len : ∀ (l acc : List UInt8), (wordsF acc l).length ≤ l.length + 1
  | [], acc => by simp [wordsF]
  | c :: r, acc => by
    unfold wordsF
    split
    · have := wordsF_len r []; simp; omega
    · have := wordsF_len r (acc ++ [c]); simp; omega
abbrev strV (ws : List (List UInt8)) : List Value := ws.map fun x => Value.string (str x)
theorem Tryd.infoStr : (Tryd.prog.info? 9).map (fun i => (i.zero, i.size, i.bytes)) = some (some (.string ⟨#[]⟩), 1, 16) := by kernel_rfl
theorem one_str (w : World) (e : TypeId) (s : ByteArray) (n : Nat) (hn : n = w.heap.size) : ∀ j u, [Value.string s][j]? = some u → (w.alloc (.cells #[.string s] e)).cell? ((⟨n, 0, none⟩ : Addr).add j) = some u := by
  subst hn
  intro j u hu
  cases j with
  | zero => rw [Addr.add_mid]; simp at hu; subst hu; simp
  | succ j => simp at hu
theorem one_cellS (s : ByteArray) : ∀ u ∈ [Value.string s], u.oneCell' = true := by intro u hu; simp at hu; subst hu; rfl

end Go.Proofs.YtbfbfbbpajaclaaDoor
