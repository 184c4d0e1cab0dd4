/-
  Texts of several lines, with no Go text in sight: what is printed is read back, what is read is printed so, and texts one behind the other are read one behind the other.
-/
import Derived.Test.YteccmagbebghaaaDoorR3Back
import Derived.Test.YteccmagbebghaaaDoorR3Print
namespace Go.Proofs.YteccmagbebghaaaDoor
open Go.RowKit
set_option linter.unusedVariables false
set_option maxRecDepth 100000

/-- What is read is right, and is written so. -/
theorem readL_some {s : List UInt8} {i : In} (h : readL s = some i) : i.right = true ∧ i.line = s := by
  unfold readL readW at h
  split at h
  · cases h
  split at h
  · cases h
  split at h
  · rename_i h3
    simp only [Option.some.injEq] at h
    subst h
    simp only [Bool.and_eq_true, decide_eq_true_eq] at h3
    exact ⟨h3.1, h3.2⟩
  · cases h
theorem findF_bd : ∀ (s : ByteArray) (f i : Nat), 0 ≤ (findF s f i).1 ∧ (findF s f i).1 < (f + i : Nat) + 1
  | s, 0, i => by unfold findF; simp only []; omega
  | s, f + 1, i => by
    unfold findF
    split
    · simp; omega
    · have := findF_bd s f (i + 1); omega
theorem valueL_bd (l : List UInt8) : -9223372036854775808 ≤ (valueL l).1 ∧ (valueL l).1 ≤ 9223372036854775807 := by
  unfold valueL
  split
  · simp
  · split
    · simp
    · simp only []
      go_arith
theorem mW_bd (l : List UInt8) : -9223372036854775808 ≤ mW l ∧ mW l ≤ 9223372036854775807 := by
  unfold mW
  split
  · simp
  · exact valueL_bd l
theorem nW_bd (l : List UInt8) : -9223372036854775808 ≤ nW l ∧ nW l ≤ 9223372036854775807 := by
  unfold nW
  split
  · have : (l.getD 1 0).toNat < 256 := UInt8.toNat_lt _
    omega
  · simp
theorem candI_wf {op : Int} (ho : 0 ≤ op ∧ op ≤ 23) (ws : List (List UInt8)) : (candI op ws).wf := by
  have z : ∀ n : Int, (-9223372036854775808 ≤ n ∧ n ≤ 9223372036854775807) → (Lit.int .i64 n).wf = true := fun n hn => WalkArith.wf_i64 (by omega)
  have zo : (Lit.int .i64 op).wf = true := z op (by omega)
  unfold candI
  repeat' split
  all_goals exact ⟨zo, z _ (by first | exact nW_bd _ | exact mW_bd _ | simp), z _ (by first | exact nW_bd _ | exact mW_bd _ | simp), z _ (by first | exact nW_bd _ | simp), z _ (by first | exact mW_bd _ | simp)⟩
theorem readL_wf {s : List UInt8} {i : In} (h : readL s = some i) : i.wf := by
  unfold readL readW at h
  split at h
  · cases h
  split at h
  · cases h
  split at h
  · simp only [Option.some.injEq] at h
    subst h
    have := findF_bd (str ((wordsL s).headD [])) 23 0
    exact candI_wf (by unfold findL; omega) _
  · cases h
/-- Unlike right instructions have unlike lines. -/
theorem line_inj {i j : In} (hi : i.right = true) (hj : j.right = true) (wi : i.wf) (wj : j.wf) (h : i.line = j.line) : i = j := by
  have h1 : readL i.line = some i := readL_line hi wi
  have h2 : readL j.line = some j := readL_line hj wj
  rw [h, h2] at h1
  exact (Option.some.inj h1).symm
/-! ### No line has a line feed -/
theorem numL_nl (n : Int) : ∀ c ∈ numL n, c ≠ 10 := by
  intro c hc he
  subst he
  unfold numL at hc
  split at hc
  · rcases List.mem_cons.1 hc with h | h
    · exact absurd h (by decide)
    · have := digF_dig _ _ _ h; revert this; decide
  · have := digF_dig _ _ _ hc; revert this; decide
theorem rL_nl (n : Int) : ∀ c ∈ rL n, c ≠ 10 := by
  intro c hc
  rcases List.mem_cons.1 hc with h | h
  · subst h; decide
  · exact numL_nl n c h
theorem srcL_nl (b imm : Int) : ∀ c ∈ srcL b imm, c ≠ 10 := by
  unfold srcL
  split
  · exact numL_nl imm
  · exact rL_nl b
theorem nameS_nl : ∀ k : Fin 23, ((nameS k.val).data.toList.all fun c => c != 10) = true := by decide +kernel
theorem nmL_nl (op : Int) : ∀ c ∈ nmL op, c ≠ 10 := by
  intro c hc
  unfold nmL nameF at hc
  split at hc
  · rename_i h
    have := List.all_eq_true.1 (nameS_nl ⟨op.toNat, by omega⟩) c hc
    simpa using this
  · simp at hc
theorem lineL_nl (op d a b imm : Int) : ∀ c ∈ lineL op d a b imm, c ≠ 10 := by
  intro c hc
  have h1 := numL_nl d c
  have h2 := numL_nl imm c
  have h3 := rL_nl d c
  have h4 := rL_nl a c
  have h5 := srcL_nl b imm c
  unfold lineL at hc
  rcases List.mem_append.1 hc with h | h
  · exact nmL_nl op c h
  rcases List.mem_cons.1 h with h | h
  · subst h; decide
  have h32 : c = 32 → c ≠ 10 := fun e => by subst e; decide
  unfold tailL at h
  repeat' split at h
  all_goals try simp only [List.mem_append, List.mem_cons] at h
  all_goals repeat' (first | exact h1 h | exact h2 h | exact h3 h | exact h4 h | exact h5 h | exact h32 h | (rcases h with h | h))
/-! ### Texts -/
/-- What is left of a text, read on: the line so far, the instructions so far. -/
def parseF (acc : List UInt8) (is : List In) : List UInt8 → List In × Int × Int
  | [] => if acc = [] then (is, 0, 0) else ([], (is.length : Int) + 1, 20)
  | c :: r => if c = 10 then (match readL acc with | none => ([], (is.length : Int) + 1, 20) | some i => parseF [] (is ++ [i]) r) else parseF (acc ++ [c]) is r
/-- A text read. -/
def parseL (s : List UInt8) : List In × Int × Int := parseF [] [] s
theorem parseF_line : ∀ (l acc : List UInt8) (is : List In) (r : List UInt8), (∀ c ∈ l, c ≠ 10) → parseF acc is (l ++ 10 :: r) = (match readL (acc ++ l) with | none => ([], (is.length : Int) + 1, 20) | some i => parseF [] (is ++ [i]) r)
  | [], acc, is, r, _ => by simp [parseF]
  | c :: l, acc, is, r, h => by
    have hc : c ≠ 10 := h c (by simp)
    simp only [List.cons_append, parseF, if_neg hc]
    rw [parseF_line l (acc ++ [c]) is r (fun x hx => h x (by simp [hx]))]
    simp
theorem parseF_printed : ∀ (xs is : List In) (r : List UInt8), (∀ i ∈ xs, i.right = true ∧ i.wf) → parseF [] is (printB xs ++ r) = parseF [] (is ++ xs) r
  | [], is, r, _ => by simp [printB]
  | x :: xs, is, r, h => by
    have hx := h x (by simp)
    have e : printB (x :: xs) ++ r = x.line ++ 10 :: (printB xs ++ r) := by simp [printB]
    rw [e, parseF_line _ _ _ _ (lineL_nl _ _ _ _ _)]
    have hrd : readL ([] ++ x.line) = some x := readL_line hx.1 hx.2
    rw [hrd]
    show parseF [] (is ++ [x]) (printB xs ++ r) = _
    rw [parseF_printed xs (is ++ [x]) r (fun i hi => h i (by simp [hi]))]
    simp
/-- What is printed is read back. -/
theorem parse_print {xs : List In} (h : ∀ i ∈ xs, i.right = true ∧ i.wf) : parseL (printB xs) = (xs, 0, 0) := by
  have := parseF_printed xs [] [] h
  simp only [List.append_nil, List.nil_append] at this
  unfold parseL
  rw [this]
  simp [parseF]
/-- What is read is printed so. -/
theorem parseF_ok : ∀ (r acc : List UInt8) (is js : List In) (n : Int), parseF acc is r = (js, n, 0) → n = 0 ∧ ∃ ys, js = is ++ ys ∧ acc ++ r = printB ys ∧ ∀ i ∈ ys, i.right = true ∧ i.wf
  | [], acc, is, js, n, h => by
    unfold parseF at h
    split at h
    · rename_i ha
      simp only [Prod.mk.injEq] at h
      exact ⟨h.2.1.symm, [], by simp [h.1], by simp [ha, printB], by simp⟩
    · simp at h
  | c :: r, acc, is, js, n, h => by
    unfold parseF at h
    split at h
    · rename_i hc
      subst hc
      split at h
      · simp at h
      · rename_i i hi
        obtain ⟨h0, ys, h1, h2, h3⟩ := parseF_ok r [] (is ++ [i]) js n h
        have hs := readL_some hi
        refine ⟨h0, i :: ys, by simp [h1], ?_, ?_⟩
        · rw [List.nil_append] at h2
          have e : printB (i :: ys) = i.line ++ 10 :: printB ys := by simp [printB]
          rw [e, hs.2, h2]
        · intro x hx
          rcases List.mem_cons.1 hx with rfl | hx
          · exact ⟨hs.1, readL_wf hi⟩
          · exact h3 x hx
    · obtain ⟨h0, ys, h1, h2, h3⟩ := parseF_ok r (acc ++ [c]) is js n h
      exact ⟨h0, ys, h1, by rw [← h2]; simp, h3⟩
theorem parse_ok {s : List UInt8} {js : List In} {n : Int} (h : parseL s = (js, n, 0)) : n = 0 ∧ s = printB js ∧ ∀ i ∈ js, i.right = true ∧ i.wf := by
  obtain ⟨h0, ys, h1, h2, h3⟩ := parseF_ok s [] [] js n h
  simp only [List.nil_append] at h1 h2
  subst h1
  exact ⟨h0, h2, h3⟩
/-- An answer is no error, or tells a line from 1 on and no instruction. -/
theorem parseF_err : ∀ (r acc : List UInt8) (is : List In), (parseF acc is r).2.2 = 0 ∨ ((parseF acc is r).2.2 = 20 ∧ 1 ≤ (parseF acc is r).2.1 ∧ (parseF acc is r).1 = [])
  | [], acc, is => by
    unfold parseF
    split
    · exact .inl rfl
    · exact .inr ⟨rfl, by simp; omega, rfl⟩
  | c :: r, acc, is => by
    unfold parseF
    split
    · split
      · exact .inr ⟨rfl, by simp; omega, rfl⟩
      · exact parseF_err r [] _
    · exact parseF_err r _ is
theorem parse_err (s : List UInt8) : (parseL s).2.2 = 0 ∨ ((parseL s).2.2 = 20 ∧ 1 ≤ (parseL s).2.1 ∧ (parseL s).1 = []) := parseF_err s [] []
/-- Texts one behind the other. -/
theorem parseF_shift : ∀ (r acc : List UInt8) (is js : List In), parseF acc (is ++ js) r = (if (parseF acc js r).2.2 = 0 then (is ++ (parseF acc js r).1, 0, 0) else ([], (is.length : Int) + (parseF acc js r).2.1, 20))
  | [], acc, is, js => by
    unfold parseF
    split
    · simp
    · simp; omega
  | c :: r, acc, is, js => by
    unfold parseF
    split
    · split
      · simp; omega
      · rename_i i hi
        rw [List.append_assoc]
        exact parseF_shift r [] is (js ++ [i])
    · exact parseF_shift r _ is js
theorem parse_join {s t : List UInt8} {xs : List In} {n : Int} (h : parseL s = (xs, n, 0)) : parseL (s ++ t) = (if (parseL t).2.2 = 0 then (xs ++ (parseL t).1, 0, 0) else ([], (xs.length : Int) + (parseL t).2.1, 20)) := by
  obtain ⟨_, rfl, h3⟩ := parse_ok h
  unfold parseL
  rw [parseF_printed xs [] t h3, List.nil_append]
  have := parseF_shift t [] xs []
  rw [List.append_nil] at this
  exact this
end Go.Proofs.YteccmagbebghaaaDoor
