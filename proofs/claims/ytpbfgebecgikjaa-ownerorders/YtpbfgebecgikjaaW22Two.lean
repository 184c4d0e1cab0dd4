
/-
  Layer 22: two owners apart; what sending comes to. No condition.
-/
import Derived.Test.YtpbfgebecgikjaaW22Aw
namespace Go.Proofs.Ytpbfgebecgikjaa
open Go.RowKit
set_option linter.unusedVariables false
set_option linter.unusedSimpArgs false
set_option maxRecDepth 100000
theorem newO_line {sh n : Int} {es : List (Int × Int)} {o : On} (h : newO sh n es = some o) : o.line [] = o ∧ o.over = false ∧ o.ln = [] ∧ o.st.length = es.length := by
  obtain ⟨_, _, _, ds, h1, rfl, _⟩ := newO_some h
  refine ⟨rfl, rfl, rfl, ?_⟩
  show (List.replicate ds.length Sr.nil).length = _
  rw [List.length_replicate]
  exact (allDf_some h1).1
theorem send_one {o : On} (ho : o.over = false) (l : List Rt) (q : Rt) : (o.line l).send [q] = if o.takes q = true then (0, o.line (l ++ [q])) else (2, o.line l) := by
  have ht : (o.line l).takes q = o.takes q := takes_same rfl rfl rfl q
  have ho' : (o.line l).over = false := ho
  unfold On.send
  rw [if_neg (by rw [ho']; decide)]
  simp only [List.all_cons, List.all_nil, Bool.and_true, ht]
  rfl
theorem send_all {o : On} (ho : o.over = false) (hl : o.ln = []) (qs : List Rt) : o.send qs = if qs.all o.takes = true then (0, o.line qs) else (2, o) := by
  unfold On.send
  rw [if_neg (by rw [ho]; decide), hl, List.nil_append]
theorem step_cons {o : On} {q : Rt} {r : List Rt} (h : o.ln = q :: r) : ∃ p o', o.step = (p, true, o') ∧ o'.ln = r ∧ o'.over = o.over ∧ o'.st.length = o.st.length := by
  refine ⟨_, _, by unfold On.step; rw [h], ?_, ?_, ?_⟩
  · unfold On.serve; split <;> rfl
  · unfold On.serve; split <;> rfl
  · unfold On.serve; split
    · rfl
    · simp
/-- Two owners, apart. -/
structure L2 (w0 w : World) (a b : Nat) (F G : Ft) (o p : On) : Prop where
  la : Lz w0 w a F o
  lb : Lz w0 w b G p
  fg : Apt F G
section
variable {w0 w w' : World} {a b : Nat} {F F' G G' : Ft} {o o' p p' : On}
theorem L2.below (h : L2 w0 w a b F G o p) (hb : Below w.heap.size w w') : L2 w0 w' a b F G o p := ⟨h.la.below hb, h.lb.below hb, h.fg⟩
theorem L2.goA (h : L2 w0 w a b F G o p) (hl : Lz w0 w' a F' o') (hn : Nx w w' F F') : L2 w0 w' a b F' G o' p := ⟨hl, h.lb.keeps hn.chg h.fg h.la.since, h.fg.next h.lb.lies hn⟩
theorem L2.goB (h : L2 w0 w a b F G o p) (hl : Lz w0 w' b G' p') (hn : Nx w w' G G') : L2 w0 w' a b F G' o p' := ⟨h.la.keeps hn.chg h.fg.symm h.lb.since, hl, (h.fg.symm.next h.la.lies hn).symm⟩
end
/-- The fourteen cells of a reply's box. -/
theorem rp_cells {w : World} {n : Nat} {p : Ry} {u : Value} (h : Hp w n 50 (rpC p u)) : (w.cell? ⟨n, 0, none⟩ = some (.int .i64 p.q.f) ∧ w.cell? ⟨n, 1, none⟩ = some (.int .i64 p.q.t) ∧ w.cell? ⟨n, 2, none⟩ = some (.bool p.q.wk) ∧ w.cell? ⟨n, 3, none⟩ = some (.int .i64 p.q.m) ∧ w.cell? ⟨n, 4, none⟩ = some (.int .i64 p.q.op) ∧ w.cell? ⟨n, 5, none⟩ = some (.int .u64 p.q.k) ∧ w.cell? ⟨n, 6, none⟩ = some (.int .u64 p.q.v)) ∧ w.cell? ⟨n, 7, none⟩ = some (.int .i64 p.x.E) ∧ w.cell? ⟨n, 8, none⟩ = some (.bool p.x.f) ∧ w.cell? ⟨n, 9, none⟩ = some (.int .u64 p.x.v) ∧ w.cell? ⟨n, 10, none⟩ = some (.bool p.x.o) ∧ w.cell? ⟨n, 11, none⟩ = some (.int .u64 p.x.k) ∧ w.cell? ⟨n, 12, none⟩ = some (.int .u64 p.x.u) ∧ w.cell? ⟨n, 13, none⟩ = some u :=
  ⟨⟨h.cell (j := 0) rfl, h.cell (j := 1) rfl, h.cell (j := 2) rfl, h.cell (j := 3) rfl, h.cell (j := 4) rfl, h.cell (j := 5) rfl, h.cell (j := 6) rfl⟩, h.cell (j := 7) rfl, h.cell (j := 8) rfl, h.cell (j := 9) rfl, h.cell (j := 10) rfl, h.cell (j := 11) rfl, h.cell (j := 12) rfl, h.cell (j := 13) rfl⟩
theorem filter_take {T : Rt → Bool} {qs : List Rt} {j : Nat} (hj : j < qs.length) : (qs.take (j + 1)).filter T = if T (qs.getD j Rt.nil) = true then (qs.take j).filter T ++ [qs.getD j Rt.nil] else (qs.take j).filter T := by
  rw [take_atR qs j hj, List.filter_append]
  by_cases h : T (qs.getD j Rt.nil) = true
  · rw [if_pos h, List.filter_cons_of_pos h]; rfl
  · rw [if_neg h, List.filter_cons_of_neg h]; simp
theorem drop_cons {qs : List Rt} {j : Nat} (hj : j < qs.length) : qs.drop j = qs.getD j Rt.nil :: qs.drop (j + 1) := by
  rw [List.drop_eq_getElem_cons hj]
  simp [List.getD, hj]
end Go.Proofs.Ytpbfgebecgikjaa
