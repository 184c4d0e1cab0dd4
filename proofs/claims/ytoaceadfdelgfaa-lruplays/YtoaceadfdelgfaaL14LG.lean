
/-
  The landed LRU of layer 14: Fill, Touch. Condition: it lies where the pointer says, its rows are the call's own; what is handed in lies apart from it.
-/
import Derived.Test.YtoaceadfdelgfaaL14LF
namespace Go.Proofs.Ytoaceadfdelgfaa
open Go.RowKit
set_option linter.unusedVariables false
set_option linter.unusedSimpArgs false
set_option maxRecDepth 100000

/-- Puts, one behind the other. -/
def fillA (cap : Nat) : List Pp × List Int → List Pp → List Pp × List Int
  | s, [] => s
  | s, p :: ps => fillA cap (doA cap s.1 s.2 2 p.k p.v).2 ps
theorem fillA_app (cap : Nat) (ps : List Pp) (p : Pp) : ∀ s, fillA cap s (ps ++ [p]) = (doA cap (fillA cap s ps).1 (fillA cap s ps).2 2 p.k p.v).2 := by
  induction ps with
  | nil => intro s; rfl
  | cons q qs ih => intro s; exact ih _
theorem fillA_inv {cap : Nat} (ps : List Pp) : ∀ {s : List Pp × List Int}, InvA cap s.1 s.2 → InvA cap (fillA cap s ps).1 (fillA cap s ps).2 := by
  induction ps with
  | nil => intro s h; exact h
  | cons q qs ih => intro s h; exact ih (h.do 2 q.k q.v)
/-- Gets, one behind the other: how many were found. -/
def touchA (cap : Nat) : List Pp × List Int → List Int → Nat × List Pp × List Int
  | s, [] => (0, s)
  | s, k :: ks => ((touchA cap (doA cap s.1 s.2 0 k 0).2 ks).1 + (if (doA cap s.1 s.2 0 k 0).1.f = true then 1 else 0), (touchA cap (doA cap s.1 s.2 0 k 0).2 ks).2)
theorem touchA_app (cap : Nat) (ks : List Int) (k : Int) : ∀ s, touchA cap s (ks ++ [k]) = ((touchA cap s ks).1 + (if (doA cap (touchA cap s ks).2.1 (touchA cap s ks).2.2 0 k 0).1.f = true then 1 else 0), (doA cap (touchA cap s ks).2.1 (touchA cap s ks).2.2 0 k 0).2) := by
  induction ks with
  | nil => intro s; simp only [List.nil_append, touchA, Nat.zero_add]; rfl
  | cons q qs ih =>
    intro s
    rw [List.cons_append, touchA, ih, touchA]
    simp only
    congr 1
    omega
theorem touchA_inv {cap : Nat} (ks : List Int) : ∀ {s : List Pp × List Int}, InvA cap s.1 s.2 → InvA cap (touchA cap s ks).2.1 (touchA cap s ks).2.2 := by
  induction ks with
  | nil => intro s h; exact h
  | cons q qs ih => intro s h; exact ih (h.do 0 q 0)
theorem touchA_le (cap : Nat) (ks : List Int) : ∀ s, (touchA cap s ks).1 ≤ ks.length := by
  induction ks with
  | nil => intro s; simp [touchA]
  | cons q qs ih =>
    intro s
    have := ih (doA cap s.1 s.2 0 q 0).2
    unfold touchA
    simp only [List.length_cons]
    split <;> omega
/-- What is handed to a Get besides does not matter. -/
theorem doA_get (cap : Nat) (S : List Pp) (R : List Int) (key v v' : Int) : doA cap S R 0 key v = doA cap S R 0 key v' := by
  unfold doA
  rw [do_get, do_get]
section
variable {w : World} {B l cap : Nat} {S : List Pp} {R : List Int} {F : Ft}
set_option maxHeartbeats 4000000 in
theorem Lu.fill {pv : Value} {ps : List Pp} (h : Lu w B l cap S R F) (hi : InvA cap S R) (hc16 : cap ≤ 16) (hB : B ≤ w.heap.size) (hs : SeesG ppC 2 Pp.nil w pv ps) (hlen : ps.length ≤ 4611686018427387904) (hap : Apt F (ftV pv)) :
    Calls Try.prog 21 #[.pointer (some ⟨l, 0, none⟩), pv] w fun e w' => e = .returned (.int .i64 ps.length) ∧ ∃ F', Lu w' B l cap (fillA cap (S, R) ps).1 (fillA cap (S, R) ps).2 F' ∧ Nx w w' F F' := by
  have HSS : Hid (∀ wr, Chg w wr F → SeesG ppC 2 Pp.nil wr pv ps) := fun wr hc => hs.keeps hc hap
  obtain ⟨a, c, rfl, hc, hm, _, _⟩ := hs
  have hm' : c ≤ 9223372036854775807 := by unfold maxLen at hm; omega
  go_enter Try.func21, Try.ntmps21
  go_wp2
  go_loopw [9] (fun i wr => ∃ j : Nat, j ≤ ps.length ∧ i = .int .i64 j ∧ ∃ F', Hid (Lu wr B l cap (fillA cap (S, R) (ps.take j)).1 (fillA cap (S, R) (ps.take j)).2 F' ∧ Nx w wr F F')) (fun i _ => ps.length - (intOf i).toNat)
  case atStart => exact ⟨0, by omega, rfl, F, h, Nx.refl _ _⟩
  case round =>
    obtain ⟨j, hj, rfl, F1, HL⟩ := hrel
    rename World => wr
    have hz1 := HL.out.2.chg.size
    by_cases hlt : j < ps.length
    · have hltI : (j : Int) < ps.length := by omega
      obtain ⟨a', c', ev, _, _, _, hcell⟩ := HSS.out _ HL.out.2.chg
      simp only [Value.slice.injEq, true_and] at ev
      obtain ⟨rfl, rfl⟩ := ev
      obtain ⟨g, off, rfl, hg, hat⟩ := hcell (fun e => by rw [e] at hlt; simp at hlt)
      have d0 := hat j hlt 0 (by omega)
      have d1 := hat j hlt 1 (by omega)
      simp only [List.getElem?_cons_zero, List.getElem?_cons_succ, Nat.add_zero] at d0 d1
      clear hat hcell
      obtain ⟨p, HP⟩ : ∃ p, Hid (ps.getD j Pp.nil = p) := ⟨_, rfl⟩
      rw [HP.out] at d0 d1
      have HT : Hid (fillA cap (S, R) (ps.take (j + 1)) = (doA cap (fillA cap (S, R) (ps.take j)).1 (fillA cap (S, R) (ps.take j)).2 2 p.k p.v).2) := by
        show _ = _
        rw [take_more hlt, HP.out, fillA_app]
      have HI := keepG (fillA_inv (ps.take j) (s := (S, R)) hi)
      obtain ⟨S1, R1, HSR⟩ : ∃ S1 R1, Hid (fillA cap (S, R) (ps.take j) = (S1, R1)) := ⟨_, _, rfl⟩
      rw [HSR.out] at HT HL HI
      obtain ⟨q, S2, R2, HQ⟩ : ∃ q S2 R2, Hid (doA cap S1 R1 2 p.k p.v = (q, S2, R2)) := ⟨_, _, _, rfl⟩
      rw [HQ.out] at HT
      obtain ⟨X, HX, hbX, hpX⟩ : ∃ X, Hid (wr.alloc (.cells #[.int .u64 p.k, .int .u64 p.v] 58) = X) ∧ Below wr.heap.size wr X ∧ Hp X wr.heap.size 58 (ppC p) := ⟨_, rfl, below_allocG _ _, Hp.new wr (ppC p) _⟩
      have HLX := keepG (HL.out.1.below hbX)
      have q0 := hpX.cell (j := 0) rfl
      have q1 := hpX.cell (j := 1) rfl
      have hzX := hbX.size
      clear h hpX
      go_wp2_with (go_at_call 11; rw [HX.out]; go_must (refine (HLX.out.do_as HQ HI.out hc16 (by omega)).mono ?_); rintro e w2 ⟨rfl, F2, hn2, hx2⟩; go_must (have HN2 : Hid (Lu w2 B l cap (fillA cap (S, R) (ps.take (j + 1))).1 (fillA cap (S, R) (ps.take (j + 1))).2 F2 ∧ Nx w w2 F F2) := (by rw [HT.out]; exact ⟨hn2, (HL.out.2.trans (Nx.below hbX)).trans hx2⟩); clear hn2 hx2))
      first
        | (go_roundw
           case rel => exact ⟨j + 1, by omega, by go_num, F2, HN2⟩
           case measure => simp [intOf]; omega)
        | exact ⟨⟨j + 1, by omega, by go_num, F2, HN2⟩, by simp [intOf]; omega⟩
    · have hltI : ¬ (j : Int) < ps.length := by omega
      have hT : ps.take j = ps := List.take_of_length_le (by omega)
      rw [hT] at HL
      go_wp2
      go_ret
      exact ⟨rfl, F1, HL.out⟩
set_option maxHeartbeats 4000000 in
theorem Lu.touch {pv : Value} {ps : List Int} (h : Lu w B l cap S R F) (hi : InvA cap S R) (hc16 : cap ≤ 16) (hB : B ≤ w.heap.size) (hs : SeesG uC 1 0 w pv ps) (hlen : ps.length ≤ 4611686018427387904) (hap : Apt F (ftV pv)) {n : Nat} (HN : Hid ((touchA cap (S, R) ps).1 = n)) :
    Calls Try.prog 22 #[.pointer (some ⟨l, 0, none⟩), pv] w fun e w' => e = .returned (.int .i64 n) ∧ ∃ F', Lu w' B l cap (touchA cap (S, R) ps).2.1 (touchA cap (S, R) ps).2.2 F' ∧ Nx w w' F F' := by
  have HSS : Hid (∀ wr, Chg w wr F → SeesG uC 1 0 wr pv ps) := fun wr hc => hs.keeps hc hap
  obtain ⟨a, c, rfl, hc, hm, _, _⟩ := hs
  have hm' : c ≤ 9223372036854775807 := by unfold maxLen at hm; omega
  go_enter Try.func22, Try.ntmps22
  go_wp2
  go_loopw [5, 10] (fun t i wr => ∃ j m : Nat, j ≤ ps.length ∧ i = .int .i64 j ∧ t = .int .i64 m ∧ Hid ((touchA cap (S, R) (ps.take j)).1 = m) ∧ m ≤ j ∧ ∃ F', Hid (Lu wr B l cap (touchA cap (S, R) (ps.take j)).2.1 (touchA cap (S, R) (ps.take j)).2.2 F' ∧ Nx w wr F F')) (fun _ i _ => ps.length - (intOf i).toNat)
  case atStart => exact ⟨0, 0, by omega, rfl, rfl, rfl, by omega, F, h, Nx.refl _ _⟩
  case round =>
    obtain ⟨j, m, hj, rfl, rfl, HM, hmj, F1, HL⟩ := hrel
    rename World => wr
    have hz1 := HL.out.2.chg.size
    by_cases hlt : j < ps.length
    · have hltI : (j : Int) < ps.length := by omega
      obtain ⟨a', c', ev, _, _, _, hcell⟩ := HSS.out _ HL.out.2.chg
      simp only [Value.slice.injEq, true_and] at ev
      obtain ⟨rfl, rfl⟩ := ev
      obtain ⟨g, off, rfl, hg, hat⟩ := hcell (fun e => by rw [e] at hlt; simp at hlt)
      have d0 := hat j hlt 0 (by omega)
      simp only [List.getElem?_cons_zero, Nat.add_zero, Nat.mul_one] at d0
      clear hat hcell
      obtain ⟨p, HP⟩ : ∃ p, Hid (ps.getD j 0 = p) := ⟨_, rfl⟩
      rw [HP.out] at d0
      have HT : Hid (touchA cap (S, R) (ps.take (j + 1)) = (m + (if (doA cap (touchA cap (S, R) (ps.take j)).2.1 (touchA cap (S, R) (ps.take j)).2.2 0 p 0).1.f = true then 1 else 0), (doA cap (touchA cap (S, R) (ps.take j)).2.1 (touchA cap (S, R) (ps.take j)).2.2 0 p 0).2)) := by
        show _ = _
        rw [take_moreI hlt, HP.out, touchA_app, HM.out]
      have HI := keepG (touchA_inv (ps.take j) (s := (S, R)) hi)
      obtain ⟨S1, R1, HSR⟩ : ∃ S1 R1, Hid ((touchA cap (S, R) (ps.take j)).2 = (S1, R1)) := ⟨_, _, rfl⟩
      rw [HSR.out] at HT HL HI
      obtain ⟨q, S2, R2, HQ⟩ : ∃ q S2 R2, Hid (doA cap S1 R1 0 p 0 = (q, S2, R2)) := ⟨_, _, _, rfl⟩
      rw [HQ.out] at HT
      obtain ⟨f, HF⟩ : ∃ f, Hid (q.f = f) := ⟨_, rfl⟩
      have hmI : IntKind.i64.wrap ((m : Int) + 1) = (m : Int) + 1 := by rw [IntKind.wrap_i64]; omega
      have HLX := keepG HL.out.1
      clear h
      cases f with
      | true =>
        have HT2 : Hid ((touchA cap (S, R) (ps.take (j + 1))).1 = m + 1) := by
          show _ = _
          rw [HT.out]
          show m + (if q.f = true then 1 else 0) = m + 1
          rw [HF.out]
          rfl
        go_wp2_with (first | (go_at_call 11; go_must (refine (HLX.out.do_as HQ HI.out hc16 (by omega)).mono ?_); rintro e w2 ⟨rfl, F2, hn2, hx2⟩; go_must (rw [HF.out]; have HN2 : Hid (Lu w2 B l cap (touchA cap (S, R) (ps.take (j + 1))).2.1 (touchA cap (S, R) (ps.take (j + 1))).2.2 F2 ∧ Nx w w2 F F2) := (by rw [HT.out]; exact ⟨hn2, HL.out.2.trans hx2⟩); clear hn2 hx2)) | (rw [run_fieldR1]))
        first
          | (go_roundw
             case rel => exact ⟨j + 1, m + 1, by omega, by go_num, by go_num, HT2, by omega, F2, HN2⟩
             case measure => simp [intOf]; omega)
          | exact ⟨⟨j + 1, m + 1, by omega, by go_num, by go_num, HT2, by omega, F2, HN2⟩, by simp [intOf]; omega⟩
      | false =>
        have HT2 : Hid ((touchA cap (S, R) (ps.take (j + 1))).1 = m) := by
          show _ = _
          rw [HT.out]
          show m + (if q.f = true then 1 else 0) = m
          rw [HF.out]
          rfl
        go_wp2_with (first | (go_at_call 11; go_must (refine (HLX.out.do_as HQ HI.out hc16 (by omega)).mono ?_); rintro e w2 ⟨rfl, F2, hn2, hx2⟩; go_must (rw [HF.out]; have HN2 : Hid (Lu w2 B l cap (touchA cap (S, R) (ps.take (j + 1))).2.1 (touchA cap (S, R) (ps.take (j + 1))).2.2 F2 ∧ Nx w w2 F F2) := (by rw [HT.out]; exact ⟨hn2, HL.out.2.trans hx2⟩); clear hn2 hx2)) | (rw [run_fieldR1]))
        first
          | (go_roundw
             case rel => exact ⟨j + 1, m, by omega, by go_num, rfl, HT2, by omega, F2, HN2⟩
             case measure => simp [intOf]; omega)
          | exact ⟨⟨j + 1, m, by omega, by go_num, rfl, HT2, by omega, F2, HN2⟩, by simp [intOf]; omega⟩
    · have hltI : ¬ (j : Int) < ps.length := by omega
      have hT : ps.take j = ps := List.take_of_length_le (by omega)
      rw [hT] at HL HM
      go_wp2
      go_ret
      exact ⟨by rw [← HN.out, HM.out]; rfl, F1, HL.out⟩
end
end Go.Proofs.Ytoaceadfdelgfaa
