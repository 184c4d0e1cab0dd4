
/-
  Layer 22: requests and replies as they lie in memory. No condition.
-/
import Derived.Test.YtpbfgebecgikjaaO22Plain
import Derived.Test.YtpbfgebecgikjaaGObj
import Derived.Test.YtpbfgebecgikjaaGSees
import Derived.Test.YtpbfgebecgikjaaGRes
import Derived.Test.YtpbfgebecgikjaaB13Ref
import Derived.Test.YtpbfgebecgikjaaTk
import Derived.Deep.RegionHeld3
import Derived.Deep.RegionHeldLaw
namespace Go.Proofs.Ytpbfgebecgikjaa
open Go.RowKit
set_option linter.unusedVariables false
set_option linter.unusedSimpArgs false
set_option maxRecDepth 100000
abbrev rtC (q : Rt) : List Value := [.int .i64 q.f, .int .i64 q.t, .bool q.wk, .int .i64 q.m, .int .i64 q.op, .int .u64 q.k, .int .u64 q.v]
theorem rtC_len (q : Rt) : (rtC q).length = 7 := rfl
theorem rt_one (q : Rt) : ∀ u ∈ rtC q, u.oneCell' = true := by
  intro u hu
  simp only [rtC, List.mem_cons, List.not_mem_nil, or_false] at hu
  rcases hu with rfl | rfl | rfl | rfl | rfl | rfl | rfl <;> rfl
theorem rt_flat (qs : List Rt) : ∀ u ∈ flatG rtC qs, u.oneCell' = true := by
  intro u hu
  obtain ⟨x, _, h2⟩ := List.mem_flatMap.1 hu
  exact rt_one x u h2
theorem infoRt : (Try.prog.info? 45).map (fun i => (i.zero, i.size, i.bytes)) = some (some (.agg #[.int .i64 0, .int .i64 0, .bool false, .int .i64 0, .int .i64 0, .int .u64 0, .int .u64 0]), 7, 56) := by kernel_rfl
/-- A key is a number that the machine holds. -/
def Rt.wf (q : Rt) : Prop := 0 ≤ q.k ∧ q.k < 18446744073709551616
/-- A reply's cells, its pairs where the slice says. -/
abbrev rpC (p : Ry) (u : Value) : List Value := [.int .i64 p.q.f, .int .i64 p.q.t, .bool p.q.wk, .int .i64 p.q.m, .int .i64 p.q.op, .int .u64 p.q.k, .int .u64 p.q.v, .int .i64 p.x.E, .bool p.x.f, .int .u64 p.x.v, .bool p.x.o, .int .u64 p.x.k, .int .u64 p.x.u, u]
def rpV (p : Ry) (u : Value) : Value := .agg (rpC p u).toArray
theorem run_boxRp {w : World} {n : Nat} {p : Ry} {u : Value} (h : Hp w n 50 (rpC p u)) : (loadVar 50 ⟨n, 0, none⟩).run Try.prog w = .ok (rpV p u) w := by
  refine run_loadVar_mid w n 0 50 (rpC p u) _ ?_ Try.underlying50 rfl (by kernel_rfl)
  intro j x hx
  rw [Nat.zero_add]
  exact h.cell hx
theorem results_cell_tmpO {fn : Func} {p u : Tmp} {ty : TypeId} (h : fn.results = #[.cell p ty, .tmp u]) (tmps : Array Value) (P : Program) (w : World) :
    (results fn tmps).run P w = ((asAddr (tmps.getD p undef)).run P w).andThen fun a w₁ => ((loadVar ty a).run P w₁).andThen fun x w₂ => .ok (.tuple #[x, tmps.getD u undef]) w₂ := by
  simp only [results, h]
  simp [Sem.run_bind, Result.andThen]
theorem rp_ret {fn : Func} {p t : Tmp} {w2 : World} {n : Nat} {tmps : Array Value} {r : Ry} {u : Value} {b : Bool} {Q : Ending → World → Prop} (hr : fn.results = #[.cell p 50, .tmp t]) (hp : tmps.getD p undef = .pointer (some ⟨n, 0, none⟩)) (ht : tmps.getD t undef = .bool b) (hx : Hp w2 n 50 (rpC r u)) (hQ : Q (.returned (.tuple #[rpV r u, .bool b])) w2) : bodyPost Try.prog fn Q .ret ⟨tmps, []⟩ w2 := by
  refine bodyPost_ret (v := .tuple #[rpV r u, .bool b]) ?_ rfl hQ
  rw [results_cell_tmpO hr, hp, ht]
  simp only [asAddr, Sem.run_pure, Result.andThen]
  rw [run_boxRp hx]
section
variable {w w' : World}
/-- A row of requests of the call's own. -/
def RoRt (w : World) (B : Nat) (v : Value) (l : List Rt) : Prop := w.ownsRow B 45 7 v l.length (flatG rtC l)
theorem RoRt.sees {B : Nat} {v : Value} {l : List Rt} (h : RoRt w B v l) : SeesG rtC 7 Rt.nil w v l := own_seesG rtC_len Rt.nil h
theorem RoRt.below {B : Nat} {v : Value} {l : List Rt} (h : RoRt w B v l) (hb : Below w.heap.size w w') : RoRt w' B v l := own_below h hb (Nat.le_refl _)
/-- A row of pairs of the call's own. -/
def RoPp (w : World) (B : Nat) (v : Value) (l : List Pp) : Prop := w.ownsRow B 80 2 v l.length (flatG ppC l)
theorem RoPp.below {B : Nat} {v : Value} {l : List Pp} (h : RoPp w B v l) (hb : Below w.heap.size w w') : RoPp w' B v l := own_below h hb (Nat.le_refl _)
theorem rtAt {a : Option Addr} {n cap : Nat} {l : List Rt} (h : SeesG rtC 7 Rt.nil w (.slice a n cap) l) {j : Nat} (hj : j < l.length) : ∃ p off, a = some ⟨p, off, none⟩ ∧ ∀ i, i < l.length → ∀ q, l.getD i Rt.nil = q → w.cell? ⟨p, off + i * 7, none⟩ = some (.int .i64 q.f) ∧ w.cell? ⟨p, off + i * 7 + 1, none⟩ = some (.int .i64 q.t) ∧ w.cell? ⟨p, off + i * 7 + 2, none⟩ = some (.bool q.wk) ∧ w.cell? ⟨p, off + i * 7 + 3, none⟩ = some (.int .i64 q.m) ∧ w.cell? ⟨p, off + i * 7 + 4, none⟩ = some (.int .i64 q.op) ∧ w.cell? ⟨p, off + i * 7 + 5, none⟩ = some (.int .u64 q.k) ∧ w.cell? ⟨p, off + i * 7 + 6, none⟩ = some (.int .u64 q.v) := by
  obtain ⟨a', cap', ev, _, _, _, hat⟩ := h
  simp only [Value.slice.injEq] at ev
  obtain ⟨rfl, _, rfl⟩ := ev
  obtain ⟨p, off, rfl, _, hc⟩ := hat (fun e => by rw [e] at hj; simp at hj)
  refine ⟨p, off, rfl, fun i hi q hq => ?_⟩
  have g0 := hc i hi 0 (by omega)
  have g1 := hc i hi 1 (by omega)
  have g2 := hc i hi 2 (by omega)
  have g3 := hc i hi 3 (by omega)
  have g4 := hc i hi 4 (by omega)
  have g5 := hc i hi 5 (by omega)
  have g6 := hc i hi 6 (by omega)
  rw [hq] at g0 g1 g2 g3 g4 g5 g6
  exact ⟨g0, g1, g2, g3, g4, g5, g6⟩
end
theorem take_atR (xs : List Rt) (k : Nat) (h : k < xs.length) : xs.take (k + 1) = xs.take k ++ [xs.getD k Rt.nil] := by
  rw [List.take_succ_eq_append_getElem h]; simp [List.getD, h]
theorem all_takeR {p : Rt → Bool} {xs : List Rt} {j : Nat} (hj : j < xs.length) : (xs.take (j + 1)).all p = ((xs.take j).all p && p (xs.getD j Rt.nil)) := by
  rw [take_atR xs j hj, List.all_append]
  simp
theorem all_noR {p : Rt → Bool} {xs : List Rt} {j : Nat} (h : (xs.take j).all p = false) : xs.all p = false := by
  cases hh : xs.all p with
  | false => rfl
  | true =>
    have : (xs.take j).all p = true := by
      simp only [List.all_eq_true] at hh ⊢
      exact fun x hx => hh x (List.mem_of_mem_take hx)
    rw [h] at this; cases this
theorem getD_memR2 (xs : List Rt) (k : Nat) (h : k < xs.length) : xs.getD k Rt.nil ∈ xs := by simp [List.getD, h]
end Go.Proofs.Ytpbfgebecgikjaa
