
/-
  Layer 26's lines, plain: what the document reads is just the plain entries' lines. No Go text in sight.
-/
import Derived.Test.YtbfbfbbpajaclaaDoorX26Bk3
namespace Go.Proofs.YtbfbfbbpajaclaaDoor
open Go.RowKit
set_option linter.unusedVariables false
set_option linter.unusedSimpArgs false
set_option maxRecDepth 100000
theorem markF_in {w0 : List UInt8} : ∀ (k m n : Nat), markF w0 m k = some n → m ≤ n ∧ n < m + k ∧ nmE n = w0
  | 0, m, n, h => by cases h
  | k + 1, m, n, h => by
    unfold markF at h
    split at h
    · rename_i g
      injection h with h
      subst h
      exact ⟨Nat.le_refl _, by omega, g⟩
    · obtain ⟨h1, h2, h3⟩ := markF_in k (m + 1) n h
      exact ⟨by omega, by omega, h3⟩
theorem start_un (m : Int) (o : Bool) (c : Nat) : (unE (startM m o) c).1 = 0 := by
  unfold unE startM En.nil
  simp only
  repeat' split
  all_goals rfl
theorem start_sg (m : Int) (o : Bool) (c : Nat) : sgE (startM m o) c = 0 := by unfold sgE startM En.nil; simp
theorem inL_iff {f : List UInt8} {c : UInt8} : inL26 f c = true ↔ c ∈ f := by unfold inL26; exact List.contains_iff_mem
/-- What is read is plain, of its kinds, and has this line. -/
theorem readE_some {s : List UInt8} {e : En} (h : readE s = some e) : e.wf ∧ plainE e = true ∧ lineE e = s := by
  unfold readE at h
  cases hm : markF ((wordsL s).headD []) 1 17 with
  | none => rw [hm] at h; cases h
  | some m =>
    rw [hm] at h
    obtain ⟨m1, m2, -⟩ := markF_in 17 1 m hm
    have h : readM m ((wordsL s).drop 1) s = some e := h
    rw [readM_rest] at h
    generalize (wordsL s).drop 1 = ts at h
    unfold restE at h
    split at h
    · rename_i hlen
      cases hg : goE (startM m (outB m ts)) (fldL m (outB m ts)) ts with
      | none => rw [hg] at h; cases h
      | some e' =>
        rw [hg] at h
        have h : (if lineE e' = s then some e' else none) = some e := h
        split at h
        · rename_i hl
          injection h with h
          subst h
          have hmm : (1 : Int) ≤ m ∧ (m : Int) ≤ 17 := by omega
          obtain ⟨g1, g2, g3, g4⟩ := goE_only _ _ _ (fun c hc => (fld_mem hmm hc).1) hg
          have g1 : e'.wh = m := g1
          have g2 : e'.ou = outB m ts := g2
          refine ⟨g3 (startM_wf hmm _), ?_, hl⟩
          unfold plainE
          rw [g1, g2, decide_eq_true hmm, Bool.true_and, Bool.and_eq_true]
          refine ⟨List.all_eq_true.2 (fun c hc => ?_), ?_⟩
          · unfold zeroE
            by_cases hcf : c ∈ fldL m (outB m ts)
            · rw [inL_iff.2 hcf]; rfl
            · obtain ⟨a1, a2⟩ := g4 c hc hcf
              rw [a1]
              cases hu : (unE (startM m (outB m ts)) c.toNat).2 with
              | true => rw [start_un]; simp
              | false => rw [a2 hu, start_sg]; simp
          · cases ho : outB m ts with
            | false => rfl
            | true =>
              unfold outB at ho
              rw [Bool.and_eq_true] at ho
              have h2 := (fld_out ⟨m, by omega⟩).1
              show (!true || inL26 (fldL m true) 121) = true
              rw [show inL26 (fldL (m : Int) true) 121 = inL26 (fldL (m : Int) false) 121 from h2, ho.2]
              rfl
        · cases h
    · cases h
/-- A plain entry is read out of its line. -/
theorem readE_line {e : En} (hw : e.wf) (hp : plainE e = true) : readE (lineE e) = some e := by
  unfold plainE at hp
  rw [Bool.and_eq_true, Bool.and_eq_true] at hp
  obtain ⟨⟨hm, hz⟩, ho⟩ := hp
  have hm := of_decide_eq_true hm
  obtain ⟨m, hmm⟩ : ∃ m : Nat, e.wh = m := ⟨e.wh.toNat, by omega⟩
  have hm2 : (1 : Int) ≤ m ∧ (m : Int) ≤ 17 := by omega
  have hws : wordsL (lineE e) = nmE m :: (fldL m e.ou).map (wd1 e) := by
    unfold lineE
    rw [hmm]
    refine words_flat e _ _ (fun c hc => (fld_mem hm2 hc).2) (fun c hc => ?_)
    have := List.all_eq_true.1 (nm_sp ⟨m, by omega⟩) c hc
    simpa using this
  have hmk : markF (nmE m) 1 17 = some m := markF_some 17 1 m (fun j h1 h2 he => by
    have := nm_apart ⟨j - 1, by omega⟩ ⟨m - 1, by omega⟩ (by
      show nmE (((j - 1 : Nat) : Int) + 1) = nmE (((m - 1 : Nat) : Int) + 1)
      rw [show (((j - 1 : Nat) : Int) + 1) = j by omega, show (((m - 1 : Nat) : Int) + 1) = m by omega]
      exact he)
    have := congrArg Fin.val this
    simp at this
    omega) (by omega) (by omega) rfl
  have hout : outB m ((fldL m e.ou).map (wd1 e)) = e.ou := by
    unfold outB
    rw [List.length_map]
    cases hou : e.ou with
    | false =>
      have : ¬ (fldL m false).length + 1 = (fldL m false).length + 3 := by omega
      rw [beq_eq_false_iff_ne.2 this]
      rfl
    | true =>
      rw [hou, hmm] at ho
      have h121 : inL26 (fldL m true) 121 = true := by simpa using ho
      obtain ⟨f1, f2⟩ := fld_out ⟨m, by omega⟩
      have f1 : inL26 (fldL m true) 121 = inL26 (fldL m false) 121 := f1
      have f2 : (fldL m true).length = (fldL m false).length + 2 := f2 h121
      rw [← f1, h121, f2]
      simp
  unfold readE
  rw [hws]
  show (match markF (nmE m) 1 17 with | none => none | some m' => readM m' ((fldL m e.ou).map (wd1 e)) (lineE e)) = some e
  rw [hmk]
  show readM m ((fldL m e.ou).map (wd1 e)) (lineE e) = some e
  rw [readM_rest, hout]
  unfold restE
  rw [if_pos (by rw [List.length_map])]
  obtain ⟨r, g1, g2, g3, g4⟩ := goE_back hw (fldL m e.ou) (startM m e.ou) (fun c hc => (fld_mem hm2 hc).1)
  rw [g1]
  have hre : r = e := by
    refine en_ext (g2.trans hmm.symm) g3 (fun c hc => ?_)
    by_cases hcf : c ∈ fldL m e.ou
    · exact (g4 c hc).1 hcf
    · refine ((g4 c hc).2 hcf).trans ?_
      have h0 := List.all_eq_true.1 hz c hc
      unfold zeroE at h0
      rw [hmm, Bool.eq_false_iff.2 (fun h => hcf (inL_iff.1 h)), Bool.false_or] at h0
      have hs := un_snd (startM m e.ou) e c.toNat
      cases hu : (unE e c.toNat).2 with
      | true =>
        rw [if_pos hu] at h0
        refine ⟨Prod.ext ?_ hs, fun h => by rw [hu] at h; cases h⟩
        rw [start_un]
        exact (by simpa using h0 : (unE e c.toNat).1 = 0).symm
      | false =>
        rw [if_neg (by rw [hu]; decide)] at h0
        refine ⟨Prod.ext ?_ hs, fun _ => ?_⟩
        · rw [start_un, un_no hu]
        · rw [start_sg]
          exact (by simpa using h0 : sgE e c.toNat = 0).symm
  subst hre
  show (if lineE r = lineE r then some r else none) = some r
  rw [if_pos rfl]
end Go.Proofs.YtbfbfbbpajaclaaDoor
