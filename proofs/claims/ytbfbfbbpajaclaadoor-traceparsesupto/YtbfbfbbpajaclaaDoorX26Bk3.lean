
/-
  Layer 26's lines, plain: an entry is read back from its line just where it is plain. No Go text in sight.
-/
import Derived.Test.YtbfbfbbpajaclaaDoorX26Bk2
namespace Go.Proofs.YtbfbfbbpajaclaaDoor
open Go.RowKit
set_option linter.unusedVariables false
set_option linter.unusedSimpArgs false
set_option maxRecDepth 100000
theorem fld_mem {m : Int} (hm : 1 ≤ m ∧ m ≤ 17) {o : Bool} {c : UInt8} (hc : c ∈ fldL m o) : c ∈ allL ∧ c ≠ 32 := by
  obtain ⟨k, rfl⟩ : ∃ k : Nat, m = k := ⟨m.toNat, by omega⟩
  have h := List.all_eq_true.1 (fld_in ⟨k, by omega⟩ o) c hc
  simp only [Bool.and_eq_true, bne_iff_ne, ne_eq] at h
  exact ⟨List.contains_iff_mem.1 h.1, h.2⟩
theorem put_back {e e0 : En} (hw : e.wf) {c : UInt8} (hc : c ∈ allL) : ∃ k n, setE e0 c (wd1 e c) = (putE e0 c.toNat k n, true) ∧ Eq26 (putE e0 c.toNat k n) e c := by
  have hb := hw.un c.toNat
  have hs := hw.si c.toNat
  cases hu : (unE e c.toNat).2 with
  | true =>
    have h2 : wd1 e c = c :: digF 20 (unE e c.toNat).1.toNat := by unfold wd1; rw [if_pos hu]
    obtain ⟨k, hk⟩ := setE_dig e0 c (u := (unE e c.toNat).1.toNat) (by omega)
    refine ⟨k, _, by rw [h2]; exact hk, ?_, fun h => by rw [hu] at h; cases h⟩
    rw [put_un e0 _ _ hc (by rw [un_snd e0 e]; exact hu)]
    rw [← hu]
    have : (((unE e c.toNat).1.toNat : Nat) : Int) = (unE e c.toNat).1 := by omega
    rw [this]
  | false =>
    have h2 : wd1 e c = c :: numL (sgE e c.toNat) := by unfold wd1; rw [if_neg (by rw [hu]; decide)]
    obtain ⟨n, hn⟩ := setE_num e0 c hs
    have h98 : c = 98 → sgE e c.toNat = 0 ∨ sgE e c.toNat = 1 := fun h => by
      subst h
      show (if e.fo = true then (1 : Int) else 0) = 0 ∨ (if e.fo = true then (1 : Int) else 0) = 1
      cases e.fo <;> simp
    obtain ⟨p1, p2⟩ := put_sg e0 (sgE e c.toNat) n hc (by rw [un_snd e0 e]; exact hu) h98
    refine ⟨_, n, by rw [h2]; exact hn, ?_, fun _ => p2⟩
    rw [p1, un_no hu]
/-- Fields set out of their words. -/
theorem goE_back {e : En} (hw : e.wf) : ∀ (f : List UInt8) (e0 : En), (∀ c ∈ f, c ∈ allL) → ∃ r, goE e0 f (f.map (wd1 e)) = some r ∧ r.wh = e0.wh ∧ r.ou = e0.ou ∧ ∀ c ∈ allL, (c ∈ f → Eq26 r e c) ∧ (c ∉ f → Eq26 r e0 c)
  | [], e0, _ => ⟨e0, rfl, rfl, rfl, fun c _ => ⟨(fun h => by cases h), fun _ => Eq26.rfl' e0 c⟩⟩
  | d :: f, e0, hf => by
    obtain ⟨k, n, h1, h2⟩ := put_back (e0 := e0) hw (hf d (by simp))
    obtain ⟨r, g1, g2, g3, g4⟩ := goE_back hw f (putE e0 d.toNat k n) (fun c hc => hf c (by simp [hc]))
    refine ⟨r, ?_, g2.trans (put_wh _ _ _ _), g3.trans (put_ou _ _ _ _), fun c hc => ?_⟩
    · show (if (setE e0 d (((d :: f).map (wd1 e)).getD 0 [])).2 = true then goE (setE e0 d (((d :: f).map (wd1 e)).getD 0 [])).1 f (((d :: f).map (wd1 e)).drop 1) else none) = _
      have h0 : ((d :: f).map (wd1 e)).getD 0 [] = wd1 e d := rfl
      rw [h0, h1, if_pos rfl]
      exact g1
    · obtain ⟨a1, a2⟩ := g4 c hc
      by_cases hcf : c ∈ f
      · exact ⟨fun _ => a1 hcf, fun h => absurd (List.mem_cons_of_mem _ hcf) h⟩
      · by_cases hcd : c = d
        · subst hcd
          exact ⟨fun _ => (a2 hcf).trans h2, fun h => absurd (by simp) h⟩
        · refine ⟨fun h => ?_, fun _ => (a2 hcf).trans (put_other e0 k n hc (hf d (by simp)) hcd)⟩
          rcases List.mem_cons.1 h with g | g
          · exact absurd g hcd
          · exact absurd g hcf
theorem goE_only : ∀ (f : List UInt8) (e0 : En) (ts : List (List UInt8)) {r : En}, (∀ c ∈ f, c ∈ allL) → goE e0 f ts = some r → r.wh = e0.wh ∧ r.ou = e0.ou ∧ (e0.wf → r.wf) ∧ ∀ c ∈ allL, c ∉ f → Eq26 r e0 c
  | [], e0, ts, r, _, h => by
    injection h with h
    subst h
    exact ⟨rfl, rfl, fun h => h, fun c _ _ => Eq26.rfl' e0 c⟩
  | d :: f, e0, ts, r, hf, h => by
    have h : (if (setE e0 d (ts.getD 0 [])).2 = true then goE (setE e0 d (ts.getD 0 [])).1 f (ts.drop 1) else none) = some r := h
    split at h
    · rename_i hs
      obtain ⟨g1, g2, g3, g4⟩ := goE_only f _ _ (fun c hc => hf c (by simp [hc])) h
      have hput : ∃ k n, (setE e0 d (ts.getD 0 [])).1 = putE e0 d.toNat k n := by
        revert hs
        unfold setE
        split
        · intro hs; cases hs
        split
        · intro hs; cases hs
        generalize accL 0 (if negL (ts.getD 0 []) = true then (ts.getD 0 []).drop 2 else (ts.getD 0 []).drop 1) = q
        cases q with
        | none => intro hs; cases hs
        | some n => intro _; exact ⟨_, _, rfl⟩
      obtain ⟨k, n, hk⟩ := hput
      refine ⟨by rw [g1, hk, put_wh], by rw [g2, hk, put_ou], fun hw => g3 (setE_wf hw _ _), fun c hc hcf => ?_⟩
      have hcd : c ≠ d := fun e => hcf (by simp [e])
      refine (g4 c hc (fun e => hcf (by simp [e]))).trans ?_
      rw [hk]
      exact put_other e0 k n hc (hf d (by simp)) hcd
    · cases h
end Go.Proofs.YtbfbfbbpajaclaaDoor
