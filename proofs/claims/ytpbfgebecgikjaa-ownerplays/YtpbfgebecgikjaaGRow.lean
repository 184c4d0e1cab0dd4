
/-
  Rows of records: what is put in between, what is taken out; copy over a row. No Go text in sight.
-/
import Derived.Test.YtpbfgebecgikjaaGx
import Derived.Laws.CopyRow
import Derived.Laws.IdiomCopy
import Derived.Lib.AppendZerosOnto
import Derived.Lib.Overlaps
import Derived.Lib.SliceRun
import Derived.Deep.RegionLaw
namespace Go.Proofs.Ytpbfgebecgikjaa
open Go.RowKit
set_option linter.unusedVariables false
set_option linter.unusedSimpArgs false
set_option maxRecDepth 100000

/-- A row with an element lies at a block. -/
theorem own_row {w : World} {B : Nat} {e : TypeId} {z : Nat} {v : Value} {n : Nat} {xs : List Value} (h : w.ownsRow B e z v n xs) (hn : 0 < n) : ∃ g cap, ∃ cur : Array Value, v = .slice (some ⟨g, 0, none⟩) n cap ∧ B ≤ g ∧ w.heap[g]? = some (.cells cur e (0, 0)) ∧ n ≤ cap ∧ cap ≤ maxLen ∧ cur.size = cap * z ∧ cur.toList.take (n * z) = xs := by
  rcases h with ⟨h1, ⟨rfl, h2⟩ | ⟨g, cap, cur, h⟩⟩
  · omega
  · exact ⟨g, cap, cur, h⟩
theorem own_of {w : World} {B g n cap z : Nat} {e : TypeId} {cs xs : List Value} (hb : B ≤ g) (hh : w.heap[g]? = some (.cells cs.toArray e (0, 0))) (hnc : n ≤ cap) (hcm : cap ≤ maxLen) (hcs : cs.length = cap * z) (ht : cs.take (n * z) = xs) : w.ownsRow B e z (.slice (some ⟨g, 0, none⟩) n cap) n xs := by
  refine ⟨?_, .inr ⟨g, cap, cs.toArray, rfl, hb, hh, hnc, hcm, by simpa using hcs, by simpa using ht⟩⟩
  rw [← ht, List.length_take, hcs]
  exact Nat.min_eq_left (Nat.mul_le_mul_right z hnc)
/-- What stands at b goes up by v's length, v comes between. -/
def putIn (cur : List Value) (a : Nat) (vs B : List Value) : List Value :=
  let c1 := cur.take (a + vs.length) ++ B ++ cur.drop (a + vs.length + B.length)
  c1.take a ++ vs ++ c1.drop (a + vs.length)
theorem putIn_eq (cur : List Value) (a : Nat) (vs B : List Value) (h : a + vs.length + B.length ≤ cur.length) : putIn cur a vs B = cur.take a ++ vs ++ (B ++ cur.drop (a + vs.length + B.length)) := by
  have h1 : (cur.take (a + vs.length)).length = a + vs.length := by rw [List.length_take]; omega
  have e1 : (cur.take (a + vs.length) ++ B ++ cur.drop (a + vs.length + B.length)).take a = cur.take a := by
    rw [List.append_assoc, List.take_append_of_le_length (by omega), List.take_take]
    congr 1
    omega
  have e2 : (cur.take (a + vs.length) ++ B ++ cur.drop (a + vs.length + B.length)).drop (a + vs.length) = B ++ cur.drop (a + vs.length + B.length) := by
    rw [List.append_assoc, List.drop_append_of_le_length (by omega), List.drop_eq_nil_of_le (by omega)]
    rfl
  show (cur.take (a + vs.length) ++ B ++ cur.drop (a + vs.length + B.length)).take a ++ vs ++ (cur.take (a + vs.length) ++ B ++ cur.drop (a + vs.length + B.length)).drop (a + vs.length) = _
  rw [e1, e2]
theorem putIn_len (cur : List Value) (a : Nat) (vs B : List Value) (h : a + vs.length + B.length ≤ cur.length) : (putIn cur a vs B).length = cur.length := by
  rw [putIn_eq cur a vs B h]
  simp
  omega
theorem putIn_take (cur : List Value) (a : Nat) (vs B : List Value) (h : a + vs.length + B.length ≤ cur.length) : (putIn cur a vs B).take (a + vs.length + B.length) = cur.take a ++ vs ++ B := by
  rw [putIn_eq cur a vs B h, ← List.append_assoc]
  apply List.take_left'
  simp
  omega
/-- The same, v first. -/
def putIn' (cur : List Value) (a : Nat) (vs B : List Value) : List Value :=
  let c1 := cur.take a ++ vs ++ cur.drop (a + vs.length)
  c1.take (a + vs.length) ++ B ++ c1.drop (a + vs.length + B.length)
theorem putIn'_eq (cur : List Value) (a : Nat) (vs B : List Value) (h : a + vs.length + B.length ≤ cur.length) : putIn' cur a vs B = cur.take a ++ vs ++ (B ++ cur.drop (a + vs.length + B.length)) := by
  have h1 : (cur.take a ++ vs).length = a + vs.length := by rw [List.length_append, List.length_take]; omega
  have e1 : (cur.take a ++ vs ++ cur.drop (a + vs.length)).take (a + vs.length) = cur.take a ++ vs := by
    rw [List.take_append_of_le_length (by omega), List.take_of_length_le (by omega)]
  have e2 : (cur.take a ++ vs ++ cur.drop (a + vs.length)).drop (a + vs.length + B.length) = cur.drop (a + vs.length + B.length) := by
    rw [List.drop_append, h1, List.drop_eq_nil_of_le (by omega), List.nil_append, List.drop_drop]
    congr 1
    omega
  show (cur.take a ++ vs ++ cur.drop (a + vs.length)).take (a + vs.length) ++ B ++ (cur.take a ++ vs ++ cur.drop (a + vs.length)).drop (a + vs.length + B.length) = _
  rw [e1, e2, List.append_assoc]
theorem putIn'_len (cur : List Value) (a : Nat) (vs B : List Value) (h : a + vs.length + B.length ≤ cur.length) : (putIn' cur a vs B).length = cur.length := by
  rw [putIn'_eq cur a vs B h]
  simp
  omega
theorem putIn'_take (cur : List Value) (a : Nat) (vs B : List Value) (h : a + vs.length + B.length ≤ cur.length) : (putIn' cur a vs B).take (a + vs.length + B.length) = cur.take a ++ vs ++ B := by
  rw [putIn'_eq cur a vs B h, ← List.append_assoc]
  apply List.take_left'
  simp
  omega
/-- copy into a row. -/
theorem run_copyG {P : Program} (w : World) (dT sT ty elem : TypeId) (z g o dLen dCap : Nat) (a : Addr) (sLen sCap : Nat) (cur : List Value) (t : TypeId) (cs : List Value)
    (hu : P.underlying dT = some (.slice elem)) (hs : (P.info? elem).map (·.size) = some z) (hg : w.heap[g]? = some (.cells cur.toArray t (0, 0))) (m : Nat) (hm : Nat.min sLen dLen = m) (hn : cs.length = m * z)
    (hsrc : ∀ j v, cs[j]? = some v → w.cell? (a.add j) = some v) (hfit : o + cs.length ≤ cur.length) (h1 : ∀ v ∈ cs, v.oneCell' = true) :
    ∃ w', (Builtin.copy_ #[dT, sT] ty #[.slice (some ⟨g, o, none⟩) dLen dCap, .slice (some a) sLen sCap]).run P w = .ok (goInt m) w' ∧ w'.heap[g]? = some (.cells (cur.take o ++ cs ++ cur.drop (o + cs.length)).toArray t (0, 0)) ∧ Chg w w' (fun k => k = g) := by
  have hst := run_storeCells_at P g o t cs 0 cur.toArray w hg (by simpa using hfit) h1
  simp only [Nat.add_zero] at hst
  refine ⟨_, ?_, setRow_heap w g _ _ t _ hg, ⟨rfl, rfl, rfl, by simp [World.setRow], fun k hk hne => setRow_other w g k _ hne⟩⟩
  cases hq : P.info? elem with
  | none => simp [hq] at hs
  | some i =>
    have hi : i.size = z := by simpa [hq] using hs
    have hl := run_firstCells_some (P := P) w i.size m a sLen sCap cs (by rw [hi]; exact hn) hsrc
    have hm' : sLen.min dLen = m := hm
    simp [Builtin.copy_, run_underlying hu, Builtin.lenOf, sizeOf, typeInfo, hq, hm', hl, hst]
/-- The operation, where its run is known. -/
theorem wp_copyG {P : Program} (w : World) {o : Oper} {a : Act} {K : Act → World → Prop} {Q : Exit → Act → World → Prop} (d s : Operand) (t t' : TypeId)
    (ho : o.op = .call { callee := .builtin .copy, args := #[d, s], argTypes := #[t, t'] }) (v u : Value) (hd : a.eval d = v) (hs : a.eval s = u) {v' : Value} {w' : World}
    (hr : (Builtin.copy_ #[t, t'] o.type #[v, u]).run P w = .ok v' w') (h : K (a.put o.dst v') w') : o.wp P a w K Q := by
  unfold Oper.wp
  simp [execOp, ho, resolve, invoke, builtin, hd, hs, hr, Result.andThen]
  exact h
theorem wpList_copyG {P : Program} (w : World) {ops : Array Oper} {rest : List Oper} {o : Oper} {a : Act} {Q : Exit → Act → World → Prop} (hgd : o.guard = none) (d s : Operand) (t t' : TypeId)
    (ho : o.op = .call { callee := .builtin .copy, args := #[d, s], argTypes := #[t, t'] }) (v u : Value) (hd : a.eval d = v) (hs : a.eval s = u) {v' : Value} {w' : World}
    (hr : (Builtin.copy_ #[t, t'] o.type #[v, u]).run P w = .ok v' w') (h : wpList P ops Q rest (a.put o.dst v') w') : wpList P ops Q (o :: rest) a w :=
  wpList_plain hgd fun _ hK => wp_copyG w d s t t' ho v u hd hs hr (hK _ _ h)
theorem wp_appG {P : Program} (w : World) {o : Oper} {a : Act} {K : Act → World → Prop} {Q : Exit → Act → World → Prop} (d s : Operand) (t t' : TypeId)
    (ho : o.op = .call { callee := .builtin .append, args := #[d, s], argTypes := #[t, t'] }) (v u : Value) (hd : a.eval d = v) (hs : a.eval s = u) {v' : Value} {w' : World}
    (hr : (Builtin.append_ #[t, t'] o.type #[v, u]).run P w = .ok v' w') (h : K (a.put o.dst v') w') : o.wp P a w K Q := by
  unfold Oper.wp
  simp [execOp, ho, resolve, invoke, builtin, hd, hs, hr, Result.andThen]
  exact h
theorem wpList_appG {P : Program} (w : World) {ops : Array Oper} {rest : List Oper} {o : Oper} {a : Act} {Q : Exit → Act → World → Prop} (hgd : o.guard = none) (d s : Operand) (t t' : TypeId)
    (ho : o.op = .call { callee := .builtin .append, args := #[d, s], argTypes := #[t, t'] }) (v u : Value) (hd : a.eval d = v) (hs : a.eval s = u) {v' : Value} {w' : World}
    (hr : (Builtin.append_ #[t, t'] o.type #[v, u]).run P w = .ok v' w') (h : wpList P ops Q rest (a.put o.dst v') w') : wpList P ops Q (o :: rest) a w := by
  refine wpList_plain hgd fun _ hK => ?_
  unfold Oper.wp
  simp [execOp, ho, resolve, invoke, builtin, hd, hs, hr, Result.andThen]
  exact hK _ _ h
/-- A cut of a slice of records. -/
theorem run_fromZ {P : Program} {t e : TypeId} {z : Nat} (ht : P.underlying t = some (.slice e)) (hs : ∀ w, (Go.sizeOf e).run P w = .ok z w) (g off len cap i : Nat) (hi : i ≤ len) (hc : i < cap) (w : World) :
    (Instr.slice t (.slice (some ⟨g, off, none⟩) len cap) (some (.int .i64 i)) none none).run P w = .ok (.slice (some ⟨g, off + i * z, none⟩) (len - i) (cap - i)) w := by
  have h0 : (0 : Int) ≤ i ∧ (i : Int) ≤ len := by omega
  have h1 : ¬ cap = i := by omega
  simp [Instr.slice, run_underlying ht, Instr.sliceBounds, run_sliceBound, h0, hs, h1, Addr.add]
theorem run_uptoZ {P : Program} {t e : TypeId} {z : Nat} (ht : P.underlying t = some (.slice e)) (hs : ∀ w, (Go.sizeOf e).run P w = .ok z w) (g off len cap i : Nat) (hi : i ≤ cap) (w : World) :
    (Instr.slice t (.slice (some ⟨g, off, none⟩) len cap) none (some (.int .i64 i)) none).run P w = .ok (.slice (some ⟨g, off, none⟩) i cap) w := by
  have h0 : (0 : Int) ≤ i ∧ (i : Int) ≤ cap := by omega
  simp [Instr.slice, run_underlying ht, Instr.sliceBounds, run_sliceBound, h0, hs, Addr.add]
end Go.Proofs.Ytpbfgebecgikjaa
