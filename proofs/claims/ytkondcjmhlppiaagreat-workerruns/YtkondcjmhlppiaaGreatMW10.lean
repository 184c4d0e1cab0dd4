/-
  KGRow
  KGSees
  KS20DA
  KS20DB
  KW20Ta
-/
import Derived.Test.YtkondcjmhlppiaaGreatMW9
import Derived.Laws.CopyRow
import Derived.Laws.IdiomCopy
import Derived.Lib.AppendZerosOnto
import Derived.Lib.Overlaps
import Derived.Lib.SliceRun
import Derived.Deep.RegionLaw
import Derived.Laws.AppendOwnNone
import Derived.Deep.RegionHeld3
import Derived.Deep.RegionHeldLaw
import Derived.Deep.MidRow
namespace Go.Proofs.YtkondcjmhlppiaaGreat
open Go.RowKit
set_option linter.unusedVariables false
set_option linter.unusedSimpArgs false
set_option maxRecDepth 100000
abbrev taC (t : Ta) : List Value := [.int .u64 t.r, .int .u64 t.m, .int .u64 t.s, .int .u64 t.c, .int .u64 t.u]
def taV (t : Ta) : Value := .agg #[.int .u64 t.r, .int .u64 t.m, .int .u64 t.s, .int .u64 t.c, .int .u64 t.u]
theorem taC_len (t : Ta) : (taC t).length = 5 := rfl
theorem results_cell_tmpS {fn : Func} {p u : Tmp} {ty : TypeId} (h : fn.results = #[.cell p ty, .tmp u]) (tmps : Array Value) (P : Program) (w : World) :
  (results fn tmps).run P w = ((asAddr (tmps.getD p undef)).run P w).andThen fun a w₁ => ((loadVar ty a).run P w₁).andThen fun x w₂ => .ok (.tuple #[x, tmps.getD u undef]) w₂ := by
 simp only [results, h]
 simp [Sem.run_bind, Result.andThen]
section
variable {w w' : World} {B : Nat} {v : Value} {l : List To}
end
theorem run_boxTa {w : World} {n : Nat} {t : Ta} (h : Hp w n 37 (taC t)) : (loadVar 37 ⟨n, 0, none⟩).run Tryz.prog w = .ok (taV t) w := by
 refine run_loadVar_mid w n 0 37 (taC t) _ ?_ Tryz.underlying37 rfl (by kernel_rfl)
 intro j x hx
 rw [Nat.zero_add]
 exact h.cell hx
theorem ta_ret {fn : Func} {p u : Tmp} {w2 : World} {n : Nat} {tmps : Array Value} {t : Ta} {E : Int} {Q : Ending -> World -> Prop} (hr : fn.results = #[.cell p 37, .tmp u]) (hp : tmps.getD p undef = .pointer (some ⟨n, 0, none⟩)) (hu : tmps.getD u undef = .int .i64 E) (hx : Hp w2 n 37 (taC t)) (hQ : Q (.returned (.tuple #[taV t, .int .i64 E])) w2) : bodyPost Tryz.prog fn Q .ret ⟨tmps, []⟩ w2 := by
 refine bodyPost_ret (v := .tuple #[taV t, .int .i64 E]) ?_ rfl hQ
 rw [results_cell_tmpS hr, hp, hu]
 simp only [asAddr, Sem.run_pure, Result.andThen]
 rw [run_boxTa hx]
theorem ta_cells {w : World} {n : Nat} {r m s c u : Int} (h : Hp w n 37 (taC ⟨r, m, s, c, u⟩)) : (w.cell? ⟨n, 0, none⟩ = some (.int .u64 r) /\ w.cell? ⟨n, 1, none⟩ = some (.int .u64 m) /\ w.cell? ⟨n, 2, none⟩ = some (.int .u64 s) /\ w.cell? ⟨n, 3, none⟩ = some (.int .u64 c) /\ w.cell? ⟨n, 4, none⟩ = some (.int .u64 u)) /\ (w.frozen? ⟨n, 0, none⟩ = false /\ w.frozen? ⟨n, 1, none⟩ = false /\ w.frozen? ⟨n, 2, none⟩ = false /\ w.frozen? ⟨n, 3, none⟩ = false /\ w.frozen? ⟨n, 4, none⟩ = false) :=
 ⟨⟨h.cell (j := 0) rfl, h.cell (j := 1) rfl, h.cell (j := 2) rfl, h.cell (j := 3) rfl, h.cell (j := 4) rfl⟩, h.frozen 0, h.frozen 1, h.frozen 2, h.frozen 3, h.frozen 4⟩
theorem wrap_u64 (a b : Int) : IntKind.u64.wrap (a + b) = ad a b := by rw [IntKind.wrap_u64]; rfl
section
variable {w w' : World} {B : Nat} {v : Value} {l : List To}
end
section
variable {w w' : World} {B : Nat} {v : Value} {A : List Ta}
theorem taAt {a : Option Addr} {n cap : Nat} (h : SeesG taC 5 Ta.nil w (.slice a n cap) A) {j : Nat} (hj : j < A.length) : ∃ p off, a = some ⟨p, off, none⟩ /\ ∀ i, i < A.length -> ∀ t, A.getD i Ta.nil = t -> w.cell? ⟨p, off + i * 5, none⟩ = some (.int .u64 t.r) /\ w.cell? ⟨p, off + i * 5 + 1, none⟩ = some (.int .u64 t.m) /\ w.cell? ⟨p, off + i * 5 + 2, none⟩ = some (.int .u64 t.s) /\ w.cell? ⟨p, off + i * 5 + 3, none⟩ = some (.int .u64 t.c) /\ w.cell? ⟨p, off + i * 5 + 4, none⟩ = some (.int .u64 t.u) := by
 obtain ⟨a', cap', ev, _, _, _, hat⟩ := h
 simp only [Value.slice.injEq] at ev
 obtain ⟨rfl, _, rfl⟩ := ev
 obtain ⟨p, off, rfl, _, hc⟩ := hat (fun e => by rw [e] at hj; simp at hj)
 refine ⟨p, off, rfl, fun i hi t ht => ?_⟩
 have g0 := hc i hi 0 (by omega)
 have g1 := hc i hi 1 (by omega)
 have g2 := hc i hi 2 (by omega)
 have g3 := hc i hi 3 (by omega)
 have g4 := hc i hi 4 (by omega)
 rw [ht] at g0 g1 g2 g3 g4
 exact ⟨g0, g1, g2, g3, g4⟩
end
end Go.Proofs.YtkondcjmhlppiaaGreat
