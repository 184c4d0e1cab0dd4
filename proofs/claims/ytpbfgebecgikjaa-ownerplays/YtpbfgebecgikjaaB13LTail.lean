
/-
  The landed book's Pairs and Fill. Condition: the book lies where the pointer says, its row is the call's own; at most 16 pairs.
-/
import Derived.Test.YtpbfgebecgikjaaB13LDo
import Derived.Laws.AppendOwnNone
namespace Go.Proofs.Ytpbfgebecgikjaa
open Go.RowKit
set_option linter.unusedVariables false
set_option linter.unusedSimpArgs false
set_option maxRecDepth 100000

theorem run_fieldR0 {E : Int} {f : Bool} {x : Int} {o : Bool} {k u : Int} (w : World) : (Instr.field 47 (resG E f x o k u) 0).run Try.prog w = .ok (.int .i64 E) w := by
  simp [Instr.field, run_underlying Try.underlying47, asAgg, part, Try.isAgg28, resG]
section
variable {w : World} {B b cap : Nat} {v : Value} {L : List Pp}
theorem LbNext.trans {w1 w2 : World} {v1 : Value} {L1 L2 : List Pp} (h1 : Lb w1 B b cap v1 L1) (hc : Chg w w1 (bkS b v)) (hr : RowNew w v v1) (h2 : LbNext w1 B b cap v1 L2 w2) : LbNext w B b cap v L2 w2 := by
  obtain ⟨v2, g1, g2, g3⟩ := h2
  exact ⟨v2, g1, hc.trans g2 (fun k hk e => hr.old hk e), hr.trans g3 hc.size⟩
theorem lpairs_any (h : Lb w B b cap v L) (hl : L.length ≤ 1000) :
    Calls Try.prog 61 #[.pointer (some ⟨b, 0, none⟩)] w fun e w' => ∃ u, e = .returned u ∧ w'.ownsRow w.heap.size 80 2 u L.length (flatG ppC L) ∧ Below w.heap.size w w' := by
  obtain ⟨i0, hi0, hz0, hzs, hzb⟩ := info_parts infoPr
  have c1 := h.hp.cell (j := 1) rfl
  have hfl := flatG_len (f := ppC) ppC_len L
  have HO := keepG (flat_one L)
  have hrow := h.row
  rcases hrow with ⟨_, ⟨rfl, h2⟩ | ⟨g, c, cur, rfl, _, _, hnc, hcm, _⟩⟩
  · obtain rfl : L = [] := List.eq_nil_of_length_eq_zero h2
    clear h
    go_enter Try.func61, Try.ntmps61
    go_wp2_with (at_builtin; go_must (refine wpList_append_own_none rfl _ _ 48 rfl w.heap.size 80 i0 2 Try.underlying48 hi0 _ 0 [] rfl (World.ownsRow_nil w w.heap.size _ _) rfl ?_))
    go_ret
    exact ⟨_, rfl, World.ownsRow_nil w w.heap.size _ _, Below.refl _ _⟩
  · have HC := keepG (h.row.cells (g := g) rfl)
    clear h
    go_enter Try.func61, Try.ntmps61
    go_wp2_with (at_builtin; go_must (refine wpList_append_own_at _ rfl _ _ 48 rfl w.heap.size 80 i0 _ 2 16 Try.underlying48 hi0 hz0 hzs hzb rfl (by decide) (.slice none 0 0) 0 [] rfl (World.ownsRow_nil w w.heap.size _ _) ⟨g, 0, none⟩ L.length c (flatG ppC L) rfl hfl HC.out HO.out (by unfold maxLen; omega) (by omega) (Nat.le_refl _) ?_); intro v' w' hown hg _ hnew)
    go_ret
    refine ⟨_, rfl, ?_, ⟨hg.os, hg.tape, hg.output, hg.size, fun k hk => hg.block k hk (fun e => by cases e)⟩⟩
    have := hown
    rw [Nat.zero_add, List.nil_append] at this
    exact this
/-- Puts, one behind the other: how many went in, and what is there. -/
def fillS (cap : Nat) : List Pp → List Pp → Nat × List Pp
  | L, [] => (0, L)
  | L, p :: ps => ((fillS cap (doS cap L 2 p.k p.v).2 ps).1 + (if (doS cap L 2 p.k p.v).1.E = 0 then 1 else 0), (fillS cap (doS cap L 2 p.k p.v).2 ps).2)
theorem fillS_app (cap : Nat) (ps : List Pp) (p : Pp) : ∀ L, fillS cap L (ps ++ [p]) = ((fillS cap L ps).1 + (if (doS cap (fillS cap L ps).2 2 p.k p.v).1.E = 0 then 1 else 0), (doS cap (fillS cap L ps).2 2 p.k p.v).2) := by
  induction ps with
  | nil => intro L; simp only [List.nil_append, fillS, Nat.zero_add]; rfl
  | cons q qs ih =>
    intro L
    rw [List.cons_append, fillS, ih, fillS]
    simp only
    congr 1
    omega
theorem fillS_len {cap : Nat} (ps : List Pp) : ∀ {L : List Pp}, L.length ≤ cap → (fillS cap L ps).2.length ≤ cap := by
  induction ps with
  | nil => intro L h; exact h
  | cons q qs ih => intro L h; exact ih (doS_len h)
theorem fillS_le (cap : Nat) (ps : List Pp) : ∀ L, (fillS cap L ps).1 ≤ ps.length := by
  induction ps with
  | nil => intro L; simp [fillS]
  | cons q qs ih =>
    intro L
    have := ih (doS cap L 2 q.k q.v).2
    unfold fillS
    simp only [List.length_cons]
    split <;> omega
theorem take_more {ps : List Pp} {j : Nat} (hj : j < ps.length) : ps.take (j + 1) = ps.take j ++ [ps.getD j Pp.nil] := by
  rw [List.take_add_one, List.getD_eq_getElem?_getD, List.getElem?_eq_getElem hj]
  rfl
end
end Go.Proofs.Ytpbfgebecgikjaa
