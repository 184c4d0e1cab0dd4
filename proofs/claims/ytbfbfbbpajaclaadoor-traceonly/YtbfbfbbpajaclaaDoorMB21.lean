
/-
  What the document's Print does: the text of instructions, or none. Conditions: the slice reads as instructions; its text is no greater than a slice may be.
-/
import Derived.Test.YtbfbfbbpajaclaaDoorMB20
import Derived.Test.YtbfbfbbpajaclaaDoorMB7
import Derived.Test.YtbfbfbbpajaclaaDoorMB13
import Derived.Lib.AppendStr
import Derived.Laws.IdiomStrings
import Derived.Deep.MidRow
namespace Go.Proofs.YtbfbfbbpajaclaaDoor
open Go.RowKit
set_option linter.unusedVariables false
set_option maxRecDepth 100000

abbrev In.line (i : In) : List UInt8 := lineL i.op i.d i.a i.b i.imm
/-- The text of instructions. -/
def printB (xs : List In) : List UInt8 := xs.flatMap fun i => i.line ++ [10]
/-- A text, and whether there is one. -/
def printL (xs : List In) : List UInt8 × Int := if xs.all In.right = true then (printB xs, 0) else ([], 12)
theorem printB_len (xs : List In) : (printB xs).length ≤ xs.length * 81 := by
  induction xs with
  | nil => simp [printB]
  | cons x xs ih =>
    have e : printB (x :: xs) = x.line ++ [10] ++ printB xs := by simp [printB]
    have : x.line.length ≤ 80 := lineL_len x.op x.d x.a x.b x.imm
    rw [e]
    simp only [List.length_append, List.length_cons, List.length_nil]
    omega
theorem printB_short (xs : List In) (h : xs.all In.right = true) : (printB xs).length ≤ xs.length * 40 := by
  induction xs with
  | nil => simp [printB]
  | cons x xs ih =>
    have e : printB (x :: xs) = x.line ++ [10] ++ printB xs := by simp [printB]
    rw [List.all_cons, Bool.and_eq_true] at h
    have h1 : x.line.length ≤ 39 := lineL_short h.1
    have h2 := ih h.2
    rw [e]
    simp only [List.length_append, List.length_cons, List.length_nil]
    omega
theorem printB_take {xs : List In} {k : Nat} (hk : k < xs.length) : printB (xs.take (k + 1)) = printB (xs.take k) ++ ((xs.getD k In.nil).line ++ [10]) := by
  have e : xs.getD k In.nil = xs[k] := by simp [hk]
  rw [e, List.take_succ_eq_append_getElem hk]
  unfold printB
  rw [List.flatMap_append]
  simp only [List.flatMap_cons, List.flatMap_nil, List.append_nil]
/-- Bytes as values. -/
abbrev bytesV (l : List UInt8) : List Value := l.map fun b => Value.int .u8 b.toNat
theorem strCells_str (l : List UInt8) : Lib.strCells (str l) = bytesV l := rfl
theorem ret2si {a a' : ByteArray} {b b' : Int} (h1 : a = a') (h2 : b = b') : Ending.returned (.tuple #[.string a, .int .i64 b]) = .returned (.tuple #[.string a', .int .i64 b']) := by rw [h1, h2]
/-- 'string(b)' of an own row of bytes. -/
theorem run_own_string {w : World} {base : Nat} {e src dst : TypeId} {v : Value} {l : List UInt8} (hs : Tryd.prog.underlying src = some (.slice e)) (he : Tryd.prog.underlying e = some (.int .u8)) (hd : Tryd.prog.underlying dst = some .string)
    (hown : w.ownsRow base e 1 v l.length (bytesV l)) : (convert src dst v).run Tryd.prog w = .ok (.string (str l)) w := by
  have h0 := hown
  rcases hown with ⟨h1, ⟨rfl, h2⟩ | ⟨g, cap, cur, rfl, hb, hh, h3, h4, h5, h6⟩⟩
  · have : l = [] := List.eq_nil_of_length_eq_zero h2
    subst this
    rw [run_convert_bytes_string w src dst e none 0 0 hs he hd]
    rfl
  · refine run_convert_bytes_back w src dst e ⟨g, 0, none⟩ cap l hs he hd ?_
    intro j hj
    rw [Addr.add_mid, Nat.zero_add, h0.cellAt j (by omega)]
    simp [hj]
theorem Tryd.infoByte : (Tryd.prog.info? 5).map (fun i => (i.zero, i.size, i.bytes)) = some (some (.int .u8 0), 1, 1) := by kernel_rfl
theorem one_byte (w : World) (e : TypeId) (c : Int) (n : Nat) (hn : n = w.heap.size) : ∀ j u, [Value.int .u8 c][j]? = some u → (w.alloc (.cells #[.int .u8 c] e)).cell? ((⟨n, 0, none⟩ : Addr).add j) = some u := by
  subst hn
  intro j u hu
  cases j with
  | zero => rw [Addr.add_mid]; simp at hu; subst hu; simp
  | succ j => simp at hu
theorem one_cell8 (c : Int) : ∀ u ∈ [Value.int .u8 c], u.oneCell' = true := by intro u hu; simp at hu; subst hu; rfl

end Go.Proofs.YtbfbfbbpajaclaaDoor
