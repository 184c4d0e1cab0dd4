
/-
  The landed book's Pairs and Fill. Condition: the book lies where the pointer says, its row is the call's own; at most 16 pairs.
-/
import Derived.Test.YtlinfpnkeiahlaaB13LDo
import Derived.Laws.AppendOwnNone
namespace Go.Proofs.Ytlinfpnkeiahlaa
open Go.RowKit
set_option linter.unusedVariables false
set_option linter.unusedSimpArgs false
set_option maxRecDepth 100000

theorem run_fieldR0 {E : Int} {f : Bool} {x : Int} {o : Bool} {k u : Int} (w : World) : (Instr.field 36 (resG E f x o k u) 0).run Try.prog w = .ok (.int .i64 E) w := by
  simp [Instr.field, run_underlying Try.underlying36, asAgg, part, Try.isAgg25, resG]
section
variable {w : World} {B b cap : Nat} {v : Value} {L : List Pp}
theorem LbNext.trans {w1 w2 : World} {v1 : Value} {L1 L2 : List Pp} (h1 : Lb w1 B b cap v1 L1) (hc : Chg w w1 (bkS b v)) (hr : RowNew w v v1) (h2 : LbNext w1 B b cap v1 L2 w2) : LbNext w B b cap v L2 w2 := by
  obtain ⟨v2, g1, g2, g3⟩ := h2
  exact ⟨v2, g1, hc.trans g2 (fun k hk e => hr.old hk e), hr.trans g3 hc.size⟩
theorem lpairs_any (h : Lb w B b cap v L) (hl : L.length ≤ 1000) :
    Calls Try.prog 15 #[.pointer (some ⟨b, 0, none⟩)] w fun e w' => ∃ u, e = .returned u ∧ w'.ownsRow w.heap.size 47 2 u L.length (flatG ppC L) ∧ Below w.heap.size w w' := by
  obtain ⟨i0, hi0, hz0, hzs, hzb⟩ := info_parts infoPr
  have c1 := h.hp.cell (j := 1) rfl
  have hfl := flatG_len (f := ppC) ppC_len L
  have HO := keepG (flat_one L)
  have hrow := h.row
  rcases hrow with ⟨_, ⟨rfl, h2⟩ | ⟨g, c, cur, rfl, _, _, hnc, hcm, _⟩⟩
  · obtain rfl : L = [] := List.eq_nil_of_length_eq_zero h2
    clear h
    go_enter Try.func15, Try.ntmps15
    go_wp2_with (at_builtin; go_must (refine wpList_append_own_none rfl _ _ 40 rfl w.heap.size 47 i0 2 Try.underlying40 hi0 _ 0 [] rfl (World.ownsRow_nil w w.heap.size _ _) rfl ?_))
    go_ret
    exact ⟨_, rfl, World.ownsRow_nil w w.heap.size _ _, Below.refl _ _⟩
  · have HC := keepG (h.row.cells (g := g) rfl)
    clear h
    go_enter Try.func15, Try.ntmps15
    go_wp2_with (at_builtin; go_must (refine wpList_append_own_at _ rfl _ _ 40 rfl w.heap.size 47 i0 _ 2 16 Try.underlying40 hi0 hz0 hzs hzb rfl (by decide) (.slice none 0 0) 0 [] rfl (World.ownsRow_nil w w.heap.size _ _) ⟨g, 0, none⟩ L.length c (flatG ppC L) rfl hfl HC.out HO.out (by unfold maxLen; omega) (by omega) (Nat.le_refl _) ?_); intro v' w' hown hg _ hnew)
    go_ret
    refine ⟨_, rfl, ?_, ⟨hg.os, hg.tape, hg.output, hg.size, fun k hk => hg.block k hk (fun e => by cases e)⟩⟩
    have := hown
    rw [Nat.zero_add, List.nil_append] at this
    exact this
/-- Puts, one behind the other: how many went in, and what is there. -/
def fillS (cap : Nat) : List Pp → List Pp → Nat × List Pp
  | L, [] => (0, L)
  | L, p :: ps => ((fillS cap (doS cap L 2 p.k p.v).2 ps).1 + (if (doS cap L 2 p.k p.v).1.E = 0 then 1 else 0), (fillS cap (doS cap L 2 p.k p.v).2 ps).2)
theorem fillS_app (cap : Nat) (ps : List Pp) (p : Pp) : ∀ L, fillS cap L (ps ++ [p]) = ((fillS cap L ps).1 + (if (doS cap (fillS cap L ps).2 2 p.k p.v).1.E = 0 then 1 else 0), (doS cap (fillS cap L ps).2 2 p.k p.v).2) := by
  induction ps with
  | nil => intro L; simp only [List.nil_append, fillS, Nat.zero_add]; rfl
  | cons q qs ih =>
    intro L
    rw [List.cons_append, fillS, ih, fillS]
    simp only
    congr 1
    omega
theorem fillS_len {cap : Nat} (ps : List Pp) : ∀ {L : List Pp}, L.length ≤ cap → (fillS cap L ps).2.length ≤ cap := by
  induction ps with
  | nil => intro L h; exact h
  | cons q qs ih => intro L h; exact ih (doS_len h)
theorem fillS_le (cap : Nat) (ps : List Pp) : ∀ L, (fillS cap L ps).1 ≤ ps.length := by
  induction ps with
  | nil => intro L; simp [fillS]
  | cons q qs ih =>
    intro L
    have := ih (doS cap L 2 q.k q.v).2
    unfold fillS
    simp only [List.length_cons]
    split <;> omega
theorem take_more {ps : List Pp} {j : Nat} (hj : j < ps.length) : ps.take (j + 1) = ps.take j ++ [ps.getD j Pp.nil] := by
  rw [List.take_add_one, List.getD_eq_getElem?_getD, List.getElem?_eq_getElem hj]
  rfl
set_option maxHeartbeats 4000000 in
theorem lfill_any {pv : Value} {ps : List Pp} (h : Lb w B b cap v L) (hl : L.length ≤ cap) (hc16 : cap ≤ 16) (hB : B ≤ w.heap.size) (hs : SeesG ppC 2 Pp.nil w pv ps) (hlen : ps.length ≤ 4611686018427387904) (hap : ∀ k, pv.ownBlock = some k → k ≠ b ∧ v.ownBlock ≠ some k) {n : Nat} (HN : Hid ((fillS cap L ps).1 = n)) :
    Calls Try.prog 17 #[.pointer (some ⟨b, 0, none⟩), pv] w fun e w' => e = .returned (.int .i64 n) ∧ LbNext w B b cap v (fillS cap L ps).2 w' := by
  have hblt := h.hp.lt
  have HSS : Hid (∀ wr, Chg w wr (bkS b v) → SeesG ppC 2 Pp.nil wr pv ps) := fun wr hc => hs.chg hc (fun k hk e => by
    rcases e with e | e
    · exact (hap k hk).1 e
    · exact (hap k hk).2 e)
  obtain ⟨a, c, rfl, hc, hm, _, _⟩ := hs
  have hm' : c ≤ 9223372036854775807 := by unfold maxLen at hm; omega
  go_enter Try.func17, Try.ntmps17
  go_wp2
  go_loopw [5, 10] (fun t i wr => ∃ j m : Nat, j ≤ ps.length ∧ i = .int .i64 j ∧ t = .int .i64 m ∧ Hid ((fillS cap L (ps.take j)).1 = m) ∧ m ≤ j ∧ LbNext w B b cap v (fillS cap L (ps.take j)).2 wr) (fun t i _ => ps.length - (intOf i).toNat)
  case atStart => exact ⟨0, 0, by omega, rfl, rfl, rfl, Nat.le_refl _, LbNext.same h (Below.refl _ _)⟩
  case round =>
    obtain ⟨j, m, hj, rfl, rfl, HM, hmj, hnx⟩ := hrel
    rename_i wr _
    obtain ⟨v1, hL1, hc1, hr1⟩ := hnx
    have hz1 := hc1.size
    by_cases hlt : j < ps.length
    · have hltI : (j : Int) < ps.length := by omega
      obtain ⟨a', c', ev, _, _, _, hcell⟩ := HSS.out _ hc1
      simp only [Value.slice.injEq, true_and] at ev
      obtain ⟨rfl, rfl⟩ := ev
      obtain ⟨g, off, rfl, hg, hat⟩ := hcell (fun e => by rw [e] at hlt; simp at hlt)
      have d0 := hat j hlt 0 (by omega)
      have d1 := hat j hlt 1 (by omega)
      simp only [List.getElem?_cons_zero, List.getElem?_cons_succ, Nat.add_zero] at d0 d1
      clear hat hcell
      obtain ⟨p, HP⟩ : ∃ p, Hid (ps.getD j Pp.nil = p) := ⟨_, rfl⟩
      rw [HP.out] at d0 d1
      have HT : Hid (fillS cap L (ps.take (j + 1)) = (m + (if (doS cap (fillS cap L (ps.take j)).2 2 p.k p.v).1.E = 0 then 1 else 0), (doS cap (fillS cap L (ps.take j)).2 2 p.k p.v).2)) := by
        show _ = _
        rw [take_more hlt, HP.out, fillS_app, HM.out]
      obtain ⟨M, HMM⟩ : ∃ M, Hid ((fillS cap L (ps.take j)).2 = M) := ⟨_, rfl⟩
      have hMl : M.length ≤ cap := by rw [← HMM.out]; exact fillS_len _ hl
      rw [HMM.out] at HT hL1
      obtain ⟨E, HE⟩ : ∃ E, Hid ((doS cap M 2 p.k p.v).1.E = E) := ⟨_, rfl⟩
      obtain ⟨X, HX, hbX, hpX⟩ : ∃ X, Hid (wr.alloc (.cells #[.int .u64 p.k, .int .u64 p.v] 47) = X) ∧ Below wr.heap.size wr X ∧ Hp X wr.heap.size 47 (ppC p) := ⟨_, rfl, below_allocG _ _, Hp.new wr (ppC p) _⟩
      have HLX := keepG (hL1.below hbX)
      have HL1 := keepG hL1
      have q0 := hpX.cell (j := 0) rfl
      have q1 := hpX.cell (j := 1) rfl
      have hzX := hbX.size
      clear hL1 h
      have hmI : IntKind.i64.wrap ((m : Int) + 1) = (m : Int) + 1 := by rw [IntKind.wrap_i64]; omega
      by_cases hE : E = 0
      · have HT2 : Hid ((fillS cap L (ps.take (j + 1))).1 = m + 1) := by
          show _ = _
          rw [HT.out, HE.out, if_pos hE]
        subst hE
        go_wp2_with (first | (go_at_call 11; rw [HX.out]; go_must (refine (ldo_any 2 p.k p.v HLX.out hMl hc16 (by omega)).mono ?_); rintro e w2 ⟨rfl, hn2⟩; go_must (have HN2 := keepG (hn2.first hbX); clear hn2; rw [HE.out])) | (rw [run_fieldR0]))
        refine ⟨⟨j + 1, m + 1, by omega, by go_num, by go_num, HT2.out, by omega, ?_⟩, by simp [intOf]; omega⟩
        rw [HT.out]
        exact LbNext.trans HL1.out hc1 hr1 HN2.out
      · have HT2 : Hid ((fillS cap L (ps.take (j + 1))).1 = m) := by
          show _ = _
          rw [HT.out, HE.out, if_neg hE]
          rfl
        have hEb : (E == 0) = false := by simpa using hE
        go_wp2_with (first | (go_at_call 11; rw [HX.out]; go_must (refine (ldo_any 2 p.k p.v HLX.out hMl hc16 (by omega)).mono ?_); rintro e w2 ⟨rfl, hn2⟩; go_must (have HN2 := keepG (hn2.first hbX); clear hn2; rw [HE.out])) | (rw [run_fieldR0]))
        refine ⟨⟨j + 1, m, by omega, by go_num, rfl, HT2.out, by omega, ?_⟩, by simp [intOf]; omega⟩
        rw [HT.out]
        exact LbNext.trans HL1.out hc1 hr1 HN2.out
    · have hltI : ¬ (j : Int) < ps.length := by omega
      have hT : ps.take j = ps := List.take_of_length_le (by omega)
      rw [hT] at HM
      rw [hT] at hL1
      go_wp2
      go_ret
      exact ⟨by rw [← HN.out, ← HM.out]; rfl, v1, hL1, hc1, hr1⟩
end
end Go.Proofs.Ytlinfpnkeiahlaa
