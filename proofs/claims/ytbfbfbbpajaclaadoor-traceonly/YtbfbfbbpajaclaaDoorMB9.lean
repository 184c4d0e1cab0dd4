/-
  O2Small
  O2Fits
  O2Plain
  O2Named
  O2Like
-/
import Derived.Test.YtbfbfbbpajaclaaDoorMB6
import Derived.Handy
/-
  What the project's register, bounds.has and shapeOf do. No condition beyond the numbers' kinds.
-/
namespace Go.Proofs.YtbfbfbbpajaclaaDoor
open Go.RowKit
set_option linter.unusedVariables false

abbrev boundsV (l m : Int) : Value := .agg #[.int .i64 l, .int .i64 m]
def hasB (l m n : Int) : Bool := decide (l ≤ n) && decide (n ≤ m)
/-- An operation's shape. -/
structure Shape where
  dest : Bool
  first : Bool
  source : Bool
  farL : Int
  farM : Int
  immL : Int
  immM : Int
abbrev Shape.v (s : Shape) : Value := .agg #[.bool s.dest, .bool s.first, .bool s.source, .int .i64 s.farL, .int .i64 s.farM, .int .i64 s.immL, .int .i64 s.immM]
def shapeL (op : Int) : Shape :=
  if op = 0 ∨ op = 11 then ⟨true, false, true, 0, 0, 0, 0⟩
  else if 1 ≤ op ∧ op ≤ 10 then ⟨true, true, true, 0, 0, 0, 0⟩
  else if op = 12 then ⟨false, true, true, 0, 0, 0, 0⟩
  else if op = 13 then ⟨true, false, false, 0, 0, 0, 1⟩
  else if op = 14 then ⟨true, false, false, 0, 0, 0, 3⟩
  else if op = 15 then ⟨false, false, false, 0, 63, 0, 0⟩
  else if 16 ≤ op ∧ op ≤ 19 then ⟨false, true, true, 0, 63, 0, 0⟩
  else if op = 20 then ⟨false, true, false, 1, 63, 1, 255⟩
  else if op = 21 then ⟨false, false, false, 0, 0, 0, 6⟩
  else if op = 22 then ⟨false, true, false, 0, 0, 0, 0⟩
  else ⟨false, false, false, 0, 0, 0, 0⟩

theorem shapeL_none {op : Int} (h : op < 0 ∨ 22 < op) : shapeL op = ⟨false, false, false, 0, 0, 0, 0⟩ := by
  unfold shapeL
  rw [if_neg (by omega), if_neg (by omega), if_neg (by omega), if_neg (by omega), if_neg (by omega), if_neg (by omega), if_neg (by omega), if_neg (by omega), if_neg (by omega), if_neg (by omega)]
end Go.Proofs.YtbfbfbbpajaclaaDoor
/-
  What the project's shape.fits does, at every shape. No condition beyond the numbers' kinds.
-/
namespace Go.Proofs.YtbfbfbbpajaclaaDoor
open Go.RowKit
set_option linter.unusedVariables false
set_option maxHeartbeats 800000

def fitsB (dest source : Bool) (fl fm il im d a b imm : Int) : Bool := (if dest then regB d else hasB fl fm d) && (regB a && (regB b || b == 8)) && (source || hasB il im imm)

end Go.Proofs.YtbfbfbbpajaclaaDoor
/-
  The project's shapes against the document's rule, with no Go text in sight: an instruction is right just as what its shape names is all that it has, and that fits.
-/
namespace Go.Proofs.YtbfbfbbpajaclaaDoor
open Go.RowKit
set_option linter.unusedVariables false

theorem shape_A {op : Int} (h : op = 0 ∨ op = 11) : shapeL op = ⟨true, false, true, 0, 0, 0, 0⟩ := by unfold shapeL; rw [if_pos h]
theorem shape_B {op : Int} (h : 1 ≤ op ∧ op ≤ 10) : shapeL op = ⟨true, true, true, 0, 0, 0, 0⟩ := by unfold shapeL; rw [if_neg (by omega), if_pos h]
theorem shape_G {op : Int} (h : 16 ≤ op ∧ op ≤ 19) : shapeL op = ⟨false, true, true, 0, 63, 0, 0⟩ := by unfold shapeL; rw [if_neg (by omega), if_neg (by omega), if_neg (by omega), if_neg (by omega), if_neg (by omega), if_neg (by omega), if_pos h]
theorem right_A {op d a b imm : Int} (h : op = 0 ∨ op = 11) : rightB op d a b imm = ((a == 0 && (b == 8 || imm == 0)) && fitsB true true 0 0 0 0 d a b imm) := by
  rcases h with rfl | rfl
  all_goals
    simp only [rightB_0, rightB_11, regB, sourcedB, fitsB, hasB]; rw [Bool.eq_iff_iff]; simp; omega
theorem right_B {op d a b imm : Int} (h : 1 ≤ op ∧ op ≤ 10) : rightB op d a b imm = ((b == 8 || imm == 0) && fitsB true true 0 0 0 0 d a b imm) := by
  rw [rightB_three h]; simp only [regB, sourcedB, fitsB, hasB]; rw [Bool.eq_iff_iff]; simp; omega
theorem right_C {d a b imm : Int} : rightB 12 d a b imm = ((d == 0 && (b == 8 || imm == 0)) && fitsB false true 0 0 0 0 d a b imm) := by
  simp only [rightB_12, regB, sourcedB, fitsB, hasB]; rw [Bool.eq_iff_iff]; simp; omega
theorem right_D {d a b imm : Int} : rightB 13 d a b imm = ((a == 0 && b == 0) && fitsB true false 0 0 0 1 d a b imm) := by
  simp only [rightB_13, regB, fitsB, hasB]; rw [Bool.eq_iff_iff]; simp; omega
theorem right_E {d a b imm : Int} : rightB 14 d a b imm = ((a == 0 && b == 0) && fitsB true false 0 0 0 3 d a b imm) := by
  simp only [rightB_14, regB, fitsB, hasB]; rw [Bool.eq_iff_iff]; simp; omega
theorem right_F {d a b imm : Int} : rightB 15 d a b imm = ((a == 0 && (b == 0 && imm == 0)) && fitsB false false 0 63 0 0 d a b imm) := by
  simp only [rightB_15, regB, fitsB, hasB]; rw [Bool.eq_iff_iff]; simp; omega
theorem right_G {op d a b imm : Int} (h : 16 ≤ op ∧ op ≤ 19) : rightB op d a b imm = ((b == 8 || imm == 0) && fitsB false true 0 63 0 0 d a b imm) := by
  rw [rightB_jump h]; simp only [regB, sourcedB, fitsB, hasB]; rw [Bool.eq_iff_iff]; simp; omega
theorem right_H {d a b imm : Int} : rightB 20 d a b imm = ((b == 0) && fitsB false false 1 63 1 255 d a b imm) := by
  simp only [rightB_20, regB, fitsB, hasB]; rw [Bool.eq_iff_iff]; simp; omega
theorem right_I {d a b imm : Int} : rightB 21 d a b imm = ((d == 0 && (a == 0 && b == 0)) && fitsB false false 0 0 0 6 d a b imm) := by
  simp only [rightB_21, regB, fitsB, hasB]; rw [Bool.eq_iff_iff]; simp; omega
theorem right_J {d a b imm : Int} : rightB 22 d a b imm = ((d == 0 && (b == 0 && imm == 0)) && fitsB false false 0 0 0 0 d a b imm) := by
  simp only [rightB_22, regB, fitsB, hasB]; rw [Bool.eq_iff_iff]; simp; omega

/-- Is it the shape of a number that is no operation? -/
def Shape.zero (s : Shape) : Bool := s.dest == false && (s.first == false && (s.source == false && (decide (s.farL = 0) && (decide (s.farM = 0) && (decide (s.immL = 0) && decide (s.immM = 0))))))
/-- An instruction. -/
structure In where
  op : Int
  d : Int
  a : Int
  b : Int
  imm : Int
def In.nil : In := ⟨0, 0, 0, 0, 0⟩
abbrev In.v (i : In) : Value := instV i.op i.d i.a i.b i.imm
def In.right (i : In) : Bool := rightB i.op i.d i.a i.b i.imm
def In.wf (i : In) : Prop := (Lit.int .i64 i.op).wf = true ∧ (Lit.int .i64 i.d).wf = true ∧ (Lit.int .i64 i.a).wf = true ∧ (Lit.int .i64 i.b).wf = true ∧ (Lit.int .i64 i.imm).wf = true
/-- The five cells of an instruction. -/
def At (w : World) (b off : Nat) (i : In) : Prop := w.cell? ⟨b, off, none⟩ = some (.int .i64 i.op) ∧ w.cell? ⟨b, off + 1, none⟩ = some (.int .i64 i.d) ∧ w.cell? ⟨b, off + 2, none⟩ = some (.int .i64 i.a) ∧ w.cell? ⟨b, off + 3, none⟩ = some (.int .i64 i.b) ∧ w.cell? ⟨b, off + 4, none⟩ = some (.int .i64 i.imm)
theorem At.below {w w' : World} {b off B : Nat} {i : In} (h : At w b off i) (hb : Below B w w') (hB : b < B) : At w' b off i := by
  unfold At
  rw [hb.cell (p := ⟨b, off, none⟩) hB, hb.cell (p := ⟨b, off + 1, none⟩) hB, hb.cell (p := ⟨b, off + 2, none⟩) hB, hb.cell (p := ⟨b, off + 3, none⟩) hB, hb.cell (p := ⟨b, off + 4, none⟩) hB]
  exact h
/-- A slice that reads, in a world, as these instructions. -/
def SeesI (w : World) (v : Value) (xs : List In) : Prop :=
  ∃ a cap, v = .slice a xs.length cap ∧ xs.length ≤ cap ∧ cap ≤ maxLen ∧ (a = none → cap = 0) ∧
    (xs ≠ [] → ∃ b off, a = some ⟨b, off, none⟩ ∧ b < w.heap.size ∧ ∀ k, k < xs.length → At w b (off + k * 5) (xs.getD k In.nil))
theorem SeesI.below {w w' : World} {v : Value} {xs : List In} (h : SeesI w v xs) (hb : Below w.heap.size w w') : SeesI w' v xs := by
  obtain ⟨a, cap, rfl, h1, h2, h3, h4⟩ := h
  refine ⟨a, cap, rfl, h1, h2, h3, fun hne => ?_⟩
  obtain ⟨b, off, rfl, hlt, hat⟩ := h4 hne
  exact ⟨b, off, rfl, Nat.lt_of_lt_of_le hlt hb.size, fun k hk => (hat k hk).below hb hlt⟩
theorem zero_run {α : Type} (s : Shape) (f : Bool → α) : (if s.dest = true then f false else if s.first = true then f false else if s.source = true then f false else if s.farL = 0 then (if s.farM = 0 then (if s.immL = 0 then (if s.immM = 0 then f true else f false) else f false) else f false) else f false) = f s.zero := by
  obtain ⟨de, fi, so, fl, fm, il, im⟩ := s
  by_cases h1 : fl = 0 <;> by_cases h2 : fm = 0 <;> by_cases h3 : il = 0 <;> by_cases h4 : im = 0 <;> cases de <;> cases fi <;> cases so <;> simp [Shape.zero, h1, h2, h3, h4]
/-- Are two instructions unlike? -/
def neI (i j : In) : Bool := !(i.op == j.op && (i.d == j.d && (i.a == j.a && (i.b == j.b && i.imm == j.imm))))
theorem ne_run {α : Type} (i j : In) (f : Bool → α) : (if i.op = j.op then (if i.d = j.d then (if i.a = j.a then (if i.b = j.b then (if i.imm = j.imm then f false else f true) else f true) else f true) else f true) else f true) = f (neI i j) := by
  by_cases h0 : i.op = j.op
  case neg => rw [if_neg h0]; have e : (i.op == j.op) = false := by simp [h0]
              simp [neI, e]
  rw [if_pos h0]
  have e0 : (i.op == j.op) = true := by simp [h0]
  by_cases h1 : i.d = j.d
  case neg => rw [if_neg h1]; have e : (i.d == j.d) = false := by simp [h1]
              simp [neI, e]
  rw [if_pos h1]
  have e1 : (i.d == j.d) = true := by simp [h1]
  by_cases h2 : i.a = j.a
  case neg => rw [if_neg h2]; have e : (i.a == j.a) = false := by simp [h2]
              simp [neI, e]
  rw [if_pos h2]
  have e2 : (i.a == j.a) = true := by simp [h2]
  by_cases h3 : i.b = j.b
  case neg => rw [if_neg h3]; have e : (i.b == j.b) = false := by simp [h3]
              simp [neI, e]
  rw [if_pos h3]
  have e3 : (i.b == j.b) = true := by simp [h3]
  by_cases h4 : i.imm = j.imm
  case neg => rw [if_neg h4]; have e : (i.imm == j.imm) = false := by simp [h4]
              simp [neI, e]
  rw [if_pos h4]
  have e4 : (i.imm == j.imm) = true := by simp [h4]
  simp [neI, e0, e1, e2, e3, e4]
abbrev Held (n4 n5 : Nat) (op d a b imm : Int) (s : Shape) (w : World) : Prop := (w.cell? ⟨n4, 0, none⟩ = some (.int .i64 op) ∧ w.cell? ⟨n4, 1, none⟩ = some (.int .i64 d) ∧ w.cell? ⟨n4, 2, none⟩ = some (.int .i64 a) ∧ w.cell? ⟨n4, 3, none⟩ = some (.int .i64 b) ∧ w.cell? ⟨n4, 4, none⟩ = some (.int .i64 imm)) ∧
  w.cell? ⟨n5, 0, none⟩ = some (.bool s.dest) ∧ w.cell? ⟨n5, 1, none⟩ = some (.bool s.first) ∧ w.cell? ⟨n5, 2, none⟩ = some (.bool s.source) ∧ w.cell? ⟨n5, 3, none⟩ = some (.int .i64 s.farL) ∧ w.cell? ⟨n5, 4, none⟩ = some (.int .i64 s.farM) ∧ w.cell? ⟨n5, 5, none⟩ = some (.int .i64 s.immL) ∧ w.cell? ⟨n5, 6, none⟩ = some (.int .i64 s.immM)
theorem Held.below {n4 n5 B : Nat} {op d a b imm : Int} {s : Shape} {w w' : World} (h : Held n4 n5 op d a b imm s w) (hb : Below B w w') (h4 : n4 < B) (h5 : n5 < B) : Held n4 n5 op d a b imm s w' := by
  unfold Held
  rw [hb.cell (p := ⟨n4, 0, none⟩) h4, hb.cell (p := ⟨n4, 1, none⟩) h4, hb.cell (p := ⟨n4, 2, none⟩) h4, hb.cell (p := ⟨n4, 3, none⟩) h4, hb.cell (p := ⟨n4, 4, none⟩) h4, hb.cell (p := ⟨n5, 0, none⟩) h5, hb.cell (p := ⟨n5, 1, none⟩) h5, hb.cell (p := ⟨n5, 2, none⟩) h5, hb.cell (p := ⟨n5, 3, none⟩) h5, hb.cell (p := ⟨n5, 4, none⟩) h5, hb.cell (p := ⟨n5, 5, none⟩) h5, hb.cell (p := ⟨n5, 6, none⟩) h5]
  exact h
theorem all_take {xs : List In} {k : Nat} (hk : k < xs.length) : (xs.take (k + 1)).all In.right = ((xs.take k).all In.right && (xs.getD k In.nil).right) := by
  have e : xs.getD k In.nil = xs[k] := by simp [hk]
  rw [e, List.take_succ_eq_append_getElem hk, List.all_append]
  simp only [List.all_cons, List.all_nil, Bool.and_true]
theorem all_false {xs : List In} {k : Nat} (hk : k < xs.length) (h : (xs.getD k In.nil).right = false) : xs.all In.right = false := by
  have e : xs.getD k In.nil = xs[k] := by simp [hk]
  rw [e] at h
  rw [Bool.eq_false_iff]
  intro hall
  rw [List.all_eq_true.1 hall _ (List.getElem_mem hk)] at h
  cases h
end Go.Proofs.YtbfbfbbpajaclaaDoor
/-
  What the project's shape.named and shape.fits do, at the ten shapes that there are. No condition beyond the numbers' kinds.
-/
namespace Go.Proofs.YtbfbfbbpajaclaaDoor
open Go.RowKit
set_option linter.unusedVariables false
set_option maxHeartbeats 800000

end Go.Proofs.YtbfbfbbpajaclaaDoor
/-
  The project's shape.named at every operation's shape, in one contract: what comes back is like what went in just where nothing is left over. No condition beyond the numbers' kinds.
-/
namespace Go.Proofs.YtbfbfbbpajaclaaDoor
open Go.RowKit
set_option linter.unusedVariables false
set_option linter.unusedSimpArgs false

theorem zero_op {op : Int} (h : (shapeL op).zero = false) : 0 ≤ op ∧ op ≤ 22 := by
  by_cases hx : op < 0 ∨ 22 < op
  · rw [shapeL_none hx] at h; cases h
  · omega
theorem cases_op {op : Int} (h : 0 ≤ op ∧ op ≤ 22) : (op = 0 ∨ op = 11) ∨ (1 ≤ op ∧ op ≤ 10) ∨ op = 12 ∨ op = 13 ∨ op = 14 ∨ op = 15 ∨ (16 ≤ op ∧ op ≤ 19) ∨ op = 20 ∨ op = 21 ∨ op = 22 := by omega
theorem zero_right {op d a b imm : Int} (h : (shapeL op).zero = true) : rightB op d a b imm = false := by
  by_cases hx : op < 0 ∨ 22 < op
  · exact rightB_none hx
  · exfalso
    rcases cases_op (op := op) (by omega) with hop | hop | rfl | rfl | rfl | rfl | hop | rfl | rfl | rfl
    · rw [shape_A hop] at h; cases h
    · rw [shape_B hop] at h; cases h
    · cases h
    · cases h
    · cases h
    · cases h
    · rw [shape_G hop] at h; cases h
    · cases h
    · cases h
    · cases h
end Go.Proofs.YtbfbfbbpajaclaaDoor
