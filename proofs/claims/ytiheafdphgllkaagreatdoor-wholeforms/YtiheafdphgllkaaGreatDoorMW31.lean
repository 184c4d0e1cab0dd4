/-
  KR3Print
  KR3Text
  KL3Laws
  KL3Own
-/
import Derived.Test.YtiheafdphgllkaaGreatDoorMW13
import Derived.Test.YtiheafdphgllkaaGreatDoorMW7
import Derived.Test.YtiheafdphgllkaaGreatDoorMW30
import Derived.Test.YtiheafdphgllkaaGreatDoorMW12
import Derived.Lib.AppendStr
import Derived.Laws.IdiomStrings
import Derived.Deep.MidRow
import Derived.Deep.RegionHeld3
namespace Go.Proofs.YtiheafdphgllkaaGreatDoor
open Go.RowKit
set_option linter.unusedVariables false
set_option maxRecDepth 100000
set_option linter.unusedSimpArgs false
abbrev In.line (i : In) : List UInt8 := lineL i.op i.d i.a i.b i.imm
def printB (xs : List In) : List UInt8 := xs.flatMap fun i => i.line ++ [10]
def printL (xs : List In) : List UInt8 × Int := if xs.all In.right = true then (printB xs, 0) else ([], 12)
theorem printB_len (xs : List In) : (printB xs).length <= xs.length * 81 := by
 induction xs with
 | nil => simp [printB]
 | cons x xs ih =>
  have e : printB (x :: xs) = x.line ++ [10] ++ printB xs := by simp [printB]
  have : x.line.length <= 80 := lineL_len x.op x.d x.a x.b x.imm
  rw [e]
  simp only [List.length_append, List.length_cons, List.length_nil]
  omega
theorem printB_short (xs : List In) (h : xs.all In.right = true) : (printB xs).length <= xs.length * 40 := by
 induction xs with
 | nil => simp [printB]
 | cons x xs ih =>
  have e : printB (x :: xs) = x.line ++ [10] ++ printB xs := by simp [printB]
  rw [List.all_cons, Bool.and_eq_true] at h
  have h1 : x.line.length <= 39 := lineL_short h.1
  have h2 := ih h.2
  rw [e]
  simp only [List.length_append, List.length_cons, List.length_nil]
  omega
theorem printB_take {xs : List In} {k : Nat} (hk : k < xs.length) : printB (xs.take (k + 1)) = printB (xs.take k) ++ ((xs.getD k In.nil).line ++ [10]) := by
 have e : xs.getD k In.nil = xs[k] := by simp [hk]
 rw [e, List.take_succ_eq_append_getElem hk]
 unfold printB
 rw [List.flatMap_append]
 simp only [List.flatMap_cons, List.flatMap_nil, List.append_nil]
abbrev bytesV (l : List UInt8) : List Value := l.map fun b => Value.int .u8 b.toNat
theorem strCells_str (l : List UInt8) : Lib.strCells (str l) = bytesV l := rfl
theorem ret2si {a a' : ByteArray} {b b' : Int} (h1 : a = a') (h2 : b = b') : Ending.returned (.tuple #[.string a, .int .i64 b]) = .returned (.tuple #[.string a', .int .i64 b']) := by rw [h1, h2]
theorem readL_some {s : List UInt8} {i : In} (h : readL s = some i) : i.right = true /\ i.line = s := by
 unfold readL readW at h
 split at h
 ·cases h
 split at h
 ·cases h
 split at h
 ·rename_i h3
  simp only [Option.some.injEq] at h
  subst h
  simp only [Bool.and_eq_true, decide_eq_true_eq] at h3
  exact ⟨h3.1, h3.2⟩
 ·cases h
theorem findF_bd : ∀ (s : ByteArray) (f i : Nat), 0 <= (findF s f i).1 /\ (findF s f i).1 < (f + i : Nat) + 1
 | s, 0, i => by unfold findF; simp only []; omega
 | s, f + 1, i => by
  unfold findF
  split
  ·simp; omega
  ·have := findF_bd s f (i + 1); omega
theorem valueL_bd (l : List UInt8) : -9223372036854775808 <= (valueL l).1 /\ (valueL l).1 <= 9223372036854775807 := by
 unfold valueL
 split
 ·simp
 ·split
  ·simp
  ·simp only []
   go_arith
theorem mW_bd (l : List UInt8) : -9223372036854775808 <= mW l /\ mW l <= 9223372036854775807 := by
 unfold mW
 split
 ·simp
 ·exact valueL_bd l
theorem nW_bd (l : List UInt8) : -9223372036854775808 <= nW l /\ nW l <= 9223372036854775807 := by
 unfold nW
 split
 ·have : (l.getD 1 0).toNat < 256 := UInt8.toNat_lt _
  omega
 ·simp
theorem candI_wf {op : Int} (ho : 0 <= op /\ op <= 23) (ws : List (List UInt8)) : (candI op ws).wf := by
 have z : ∀ n : Int, (-9223372036854775808 <= n /\ n <= 9223372036854775807) -> (Lit.int .i64 n).wf = true := fun n hn => WalkArith.wf_i64 (by omega)
 have zo : (Lit.int .i64 op).wf = true := z op (by omega)
 unfold candI
 repeat' split
 all_goals exact ⟨zo, z _ (by first | exact nW_bd _ | exact mW_bd _ | simp), z _ (by first | exact nW_bd _ | exact mW_bd _ | simp), z _ (by first | exact nW_bd _ | simp), z _ (by first | exact mW_bd _ | simp)⟩
theorem readL_wf {s : List UInt8} {i : In} (h : readL s = some i) : i.wf := by
 unfold readL readW at h
 split at h
 ·cases h
 split at h
 ·cases h
 split at h
 ·simp only [Option.some.injEq] at h
  subst h
  have := findF_bd (str ((wordsL s).headD [])) 23 0
  exact candI_wf (by unfold findL; omega) _
 ·cases h
theorem numL_nl (n : Int) : ∀ c ∈ numL n, c ≠ 10 := by
 intro c hc he
 subst he
 unfold numL at hc
 split at hc
 ·rcases List.mem_cons.1 hc with h | h
  ·exact absurd h (by decide)
  ·have := digF_dig _ _ _ h; revert this; decide
 ·have := digF_dig _ _ _ hc; revert this; decide
theorem rL_nl (n : Int) : ∀ c ∈ rL n, c ≠ 10 := by
 intro c hc
 rcases List.mem_cons.1 hc with h | h
 ·subst h; decide
 ·exact numL_nl n c h
theorem srcL_nl (b imm : Int) : ∀ c ∈ srcL b imm, c ≠ 10 := by
 unfold srcL
 split
 ·exact numL_nl imm
 ·exact rL_nl b
theorem nameS_nl : ∀ k : Fin 23, ((nameS k.val).data.toList.all fun c => c != 10) = true := by decide +kernel
theorem nmL_nl (op : Int) : ∀ c ∈ nmL op, c ≠ 10 := by
 intro c hc
 unfold nmL nameF at hc
 split at hc
 ·rename_i h
  have := List.all_eq_true.1 (nameS_nl ⟨op.toNat, by omega⟩) c hc
  simpa using this
 ·simp at hc
theorem lineL_nl (op d a b imm : Int) : ∀ c ∈ lineL op d a b imm, c ≠ 10 := by
 intro c hc
 have h1 := numL_nl d c
 have h2 := numL_nl imm c
 have h3 := rL_nl d c
 have h4 := rL_nl a c
 have h5 := srcL_nl b imm c
 unfold lineL at hc
 rcases List.mem_append.1 hc with h | h
 ·exact nmL_nl op c h
 rcases List.mem_cons.1 h with h | h
 ·subst h; decide
 have h32 : c = 32 -> c ≠ 10 := fun e => by subst e; decide
 unfold tailL at h
 repeat' split at h
 all_goals try simp only [List.mem_append, List.mem_cons] at h
 all_goals repeat' (first | exact h1 h | exact h2 h | exact h3 h | exact h4 h | exact h5 h | exact h32 h | (rcases h with h | h))
def parseF (acc : List UInt8) (is : List In) : List UInt8 -> List In × Int × Int
 | [] => if acc = [] then (is, 0, 0) else ([], (is.length : Int) + 1, 20)
 | c :: r => if c = 10 then (match readL acc with | none => ([], (is.length : Int) + 1, 20) | some i => parseF [] (is ++ [i]) r) else parseF (acc ++ [c]) is r
def parseL (s : List UInt8) : List In × Int × Int := parseF [] [] s
theorem parseF_line : ∀ (l acc : List UInt8) (is : List In) (r : List UInt8), (∀ c ∈ l, c ≠ 10) -> parseF acc is (l ++ 10 :: r) = (match readL (acc ++ l) with | none => ([], (is.length : Int) + 1, 20) | some i => parseF [] (is ++ [i]) r)
 | [], acc, is, r, _ => by simp [parseF]
 | c :: l, acc, is, r, h => by
  have hc : c ≠ 10 := h c (by simp)
  simp only [List.cons_append, parseF, if_neg hc]
  rw [parseF_line l (acc ++ [c]) is r (fun x hx => h x (by simp [hx]))]
  simp
theorem parseF_printed : ∀ (xs is : List In) (r : List UInt8), (∀ i ∈ xs, i.right = true /\ i.wf) -> parseF [] is (printB xs ++ r) = parseF [] (is ++ xs) r
 | [], is, r, _ => by simp [printB]
 | x :: xs, is, r, h => by
  have hx := h x (by simp)
  have e : printB (x :: xs) ++ r = x.line ++ 10 :: (printB xs ++ r) := by simp [printB]
  rw [e, parseF_line _ _ _ _ (lineL_nl _ _ _ _ _)]
  have hrd : readL ([] ++ x.line) = some x := readL_line hx.1 hx.2
  rw [hrd]
  show parseF [] (is ++ [x]) (printB xs ++ r) = _
  rw [parseF_printed xs (is ++ [x]) r (fun i hi => h i (by simp [hi]))]
  simp
theorem parse_print {xs : List In} (h : ∀ i ∈ xs, i.right = true /\ i.wf) : parseL (printB xs) = (xs, 0, 0) := by
 have := parseF_printed xs [] [] h
 simp only [List.append_nil, List.nil_append] at this
 unfold parseL
 rw [this]
 simp [parseF]
def PrintsLike (K : World -> Prop) : Prop := ∀ (v : Value) (xs : List In) (w : World), K w -> SeesI w v xs -> (∀ i ∈ xs, i.wf) -> xs.length <= 3518437208780 ->
 Calls Tryz.prog 5 #[v] w fun e w' => e = .returned (.tuple #[.string (str (printL xs).1), .int .i64 (printL xs).2]) /\ Below w.heap.size w w'
def ParsesLike (K : World -> Prop) : Prop := ∀ (l : List UInt8) (w : World), K w -> l.length <= 1073741824 ->
 Calls Tryz.prog 8 #[.string (str l)] w fun e w' => ∃ v, e = .returned (.tuple #[v, .int .i64 (parseL l).2.1, .int .i64 (parseL l).2.2]) /\ w'.ownsRow w.heap.size 59 5 v (parseL l).1.length (flat (parseL l).1) /\ Below w.heap.size w w'
theorem one_inst (w : World) (e : TypeId) (i : In) (n : Nat) (hn : n = w.heap.size) : ∀ j u, (flat [i])[j]? = some u -> (w.alloc (.cells #[.int .i64 i.op, .int .i64 i.d, .int .i64 i.a, .int .i64 i.b, .int .i64 i.imm] e)).cell? ((⟨n, 0, none⟩ : Addr).add j) = some u := by
 subst hn
 intro j u hu
 have hf : flat [i] = i.cells := by simp [flat]
 rw [hf] at hu
 rw [Addr.add_mid, Nat.zero_add, World.cell?_alloc_at _ _ _ _ rfl]
 simpa using hu
theorem Tryz.infoInst3 : (Tryz.prog.info? 59).map (fun i => (i.zero, i.size, i.bytes)) = some (some (instV 0 0 0 0 0), 5, 40) := by kernel_rfl
theorem ret3v {v : Value} {a a' b b' : Int} (h1 : a = a') (h2 : b = b') : Ending.returned (.tuple #[v, .int .i64 a, .int .i64 b]) = .returned (.tuple #[v, .int .i64 a', .int .i64 b']) := by rw [h1, h2]
theorem flat_app (a b : List In) : flat a ++ flat b = flat (a ++ b) := by simp [flat]
def strLen : Value -> Nat
 | .string s => s.size
 | _ => 0
theorem strLen_str (l : List UInt8) : strLen (.string (str l)) = l.length := rfl
theorem parseF_last : ∀ (l acc : List UInt8) (is : List In), (∀ c ∈ l, c ≠ 10) -> acc ++ l ≠ [] -> parseF acc is l = ([], (is.length : Int) + 1, 20)
 | [], acc, is, _, hne => by simp only [parseF]; rw [if_neg (by simpa using hne)]
 | c :: l, acc, is, h, hne => by
  have hc : c ≠ 10 := h c (by simp)
  simp only [parseF, if_neg hc]
  exact parseF_last l (acc ++ [c]) is (fun x hx => h x (by simp [hx])) (by simp)
end Go.Proofs.YtiheafdphgllkaaGreatDoor
