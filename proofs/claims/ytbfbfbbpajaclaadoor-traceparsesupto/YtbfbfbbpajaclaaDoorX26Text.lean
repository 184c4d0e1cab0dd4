
/-
  Layer 26's texts, plain: printed, parsed, and back; texts one behind the other. No Go text in sight.
-/
import Derived.Test.YtbfbfbbpajaclaaDoorX26Bk4
import Derived.Test.YtbfbfbbpajaclaaDoorR26L
namespace Go.Proofs.YtbfbfbbpajaclaaDoor
open Go.RowKit
set_option linter.unusedVariables false
set_option linter.unusedSimpArgs false
set_option maxRecDepth 100000
theorem nm_nl : ∀ (k : Fin 18), (nmE (k.val : Int)).all (fun c => c != 10) = true := by decide +kernel
theorem all_nl : allL.all (fun c => c != 10) = true := by decide
theorem digF_nl (f u : Nat) : ∀ c ∈ digF f u, c ≠ 10 := by
  intro c hc he
  subst he
  have := digF_dig _ _ _ hc
  revert this; decide
theorem numL_nl26 (n : Int) : ∀ c ∈ numL n, c ≠ 10 := by
  intro c hc
  by_cases h0 : n < 0
  · rw [numL_neg h0] at hc
    rcases List.mem_cons.1 hc with g | g
    · rw [g]; decide
    · exact digF_nl _ _ c g
  · rw [numL_pos h0] at hc
    exact digF_nl _ _ c hc
theorem lineE_nl {e : En} (h : plainE e = true) : ∀ c ∈ lineE e, c ≠ 10 := by
  unfold plainE at h
  rw [Bool.and_eq_true, Bool.and_eq_true] at h
  have hm := of_decide_eq_true h.1.1
  obtain ⟨m, hmm⟩ : ∃ m : Nat, e.wh = m := ⟨e.wh.toNat, by omega⟩
  have hm2 : (1 : Int) ≤ m ∧ (m : Int) ≤ 17 := by omega
  intro c hc
  unfold lineE at hc
  rw [hmm] at hc
  rcases List.mem_append.1 hc with g | g
  · have := List.all_eq_true.1 (nm_nl ⟨m, by omega⟩) c g
    simpa using this
  · obtain ⟨d, hd, hcd⟩ := List.mem_flatMap.1 g
    have hda := List.all_eq_true.1 all_nl d (fld_mem hm2 hd).1
    unfold wdE at hcd
    rcases List.mem_cons.1 hcd with g | g
    · rw [g]; decide
    rcases List.mem_cons.1 g with g | g
    · rw [g]; simpa using hda
    · split at g
      · exact digF_nl _ _ c g
      · exact numL_nl26 _ c g
theorem parF26_line : ∀ (l acc : List UInt8) (is : List En) (r : List UInt8), (∀ c ∈ l, c ≠ 10) → parF26 acc is (l ++ 10 :: r) = (match readE (acc ++ l) with | none => ([], (is.length : Int) + 1, 20) | some i => parF26 [] (is ++ [i]) r)
  | [], acc, is, r, _ => by simp [parF26]; rfl
  | c :: l, acc, is, r, h => by
    have hc : c ≠ 10 := h c (by simp)
    simp only [List.cons_append, parF26, if_neg hc]
    rw [parF26_line l (acc ++ [c]) is r (fun x hx => h x (by simp [hx]))]
    simp
theorem parF26_printed : ∀ (xs is : List En) (r : List UInt8), (∀ i ∈ xs, plainE i = true ∧ i.wf) → parF26 [] is (textE xs ++ r) = parF26 [] (is ++ xs) r
  | [], is, r, _ => by simp [textE]
  | x :: xs, is, r, h => by
    have hx := h x (by simp)
    have e : textE (x :: xs) ++ r = lineE x ++ 10 :: (textE xs ++ r) := by simp [textE]
    rw [e, parF26_line _ _ _ _ (lineE_nl hx.1)]
    have hrd : readE ([] ++ lineE x) = some x := readE_line hx.2 hx.1
    rw [hrd]
    show parF26 [] (is ++ [x]) (textE xs ++ r) = _
    rw [parF26_printed xs (is ++ [x]) r (fun i hi => h i (by simp [hi]))]
    simp
/-- What is printed is read back. -/
theorem par26_print {xs : List En} (h : ∀ i ∈ xs, plainE i = true ∧ i.wf) : parE (textE xs) = (xs, 0, 0) := by
  have := parF26_printed xs [] [] h
  simp only [List.append_nil, List.nil_append] at this
  unfold parE
  rw [this]
  simp [parF26]
/-- What is read is printed so. -/
theorem parF26_ok : ∀ (r acc : List UInt8) (is js : List En) (n : Int), parF26 acc is r = (js, n, 0) → n = 0 ∧ ∃ ys, js = is ++ ys ∧ acc ++ r = textE ys ∧ ∀ i ∈ ys, plainE i = true ∧ i.wf
  | [], acc, is, js, n, h => by
    unfold parF26 at h
    split at h
    · rename_i ha
      simp only [Prod.mk.injEq] at h
      exact ⟨h.2.1.symm, [], by simp [h.1], by simp [ha, textE], by simp⟩
    · simp at h
  | c :: r, acc, is, js, n, h => by
    unfold parF26 at h
    split at h
    · rename_i hc
      subst hc
      split at h
      · simp at h
      · rename_i i hi
        obtain ⟨h0, ys, h1, h2, h3⟩ := parF26_ok r [] (is ++ [i]) js n h
        have hs := readE_some hi
        refine ⟨h0, i :: ys, by simp [h1], ?_, ?_⟩
        · rw [List.nil_append] at h2
          have e : textE (i :: ys) = lineE i ++ 10 :: textE ys := by simp [textE]
          rw [e, hs.2.2, h2]
        · intro x hx
          rcases List.mem_cons.1 hx with rfl | hx
          · exact ⟨hs.2.1, hs.1⟩
          · exact h3 x hx
    · obtain ⟨h0, ys, h1, h2, h3⟩ := parF26_ok r (acc ++ [c]) is js n h
      exact ⟨h0, ys, h1, by rw [← h2]; simp, h3⟩
theorem par26_ok {s : List UInt8} {js : List En} {n : Int} (h : parE s = (js, n, 0)) : n = 0 ∧ s = textE js ∧ ∀ i ∈ js, plainE i = true ∧ i.wf := by
  obtain ⟨h0, ys, h1, h2, h3⟩ := parF26_ok s [] [] js n h
  simp only [List.nil_append] at h1 h2
  subst h1
  exact ⟨h0, h2, h3⟩
/-- An answer is no error, or tells a line from 1 on and no instruction. -/
theorem parF26_err : ∀ (r acc : List UInt8) (is : List En), (parF26 acc is r).2.2 = 0 ∨ ((parF26 acc is r).2.2 = 20 ∧ 1 ≤ (parF26 acc is r).2.1 ∧ (parF26 acc is r).1 = [])
  | [], acc, is => by
    unfold parF26
    split
    · exact .inl rfl
    · exact .inr ⟨rfl, by simp; omega, rfl⟩
  | c :: r, acc, is => by
    unfold parF26
    split
    · split
      · exact .inr ⟨rfl, by simp; omega, rfl⟩
      · exact parF26_err r [] _
    · exact parF26_err r _ is
theorem par26_err (s : List UInt8) : (parE s).2.2 = 0 ∨ ((parE s).2.2 = 20 ∧ 1 ≤ (parE s).2.1 ∧ (parE s).1 = []) := parF26_err s [] []
/-- Texts one behind the other. -/
theorem parF26_shift : ∀ (r acc : List UInt8) (is js : List En), parF26 acc (is ++ js) r = (if (parF26 acc js r).2.2 = 0 then (is ++ (parF26 acc js r).1, 0, 0) else ([], (is.length : Int) + (parF26 acc js r).2.1, 20))
  | [], acc, is, js => by
    unfold parF26
    split
    · simp
    · simp; omega
  | c :: r, acc, is, js => by
    unfold parF26
    split
    · split
      · simp; omega
      · rename_i i hi
        rw [List.append_assoc]
        exact parF26_shift r [] is (js ++ [i])
    · exact parF26_shift r _ is js
theorem par26_join {s t : List UInt8} {xs : List En} {n : Int} (h : parE s = (xs, n, 0)) : parE (s ++ t) = (if (parE t).2.2 = 0 then (xs ++ (parE t).1, 0, 0) else ([], (xs.length : Int) + (parE t).2.1, 20)) := by
  obtain ⟨_, rfl, h3⟩ := par26_ok h
  unfold parE
  rw [parF26_printed xs [] t h3, List.nil_append]
  have := parF26_shift t [] xs []
  rw [List.append_nil] at this
  exact this
end Go.Proofs.YtbfbfbbpajaclaaDoor
