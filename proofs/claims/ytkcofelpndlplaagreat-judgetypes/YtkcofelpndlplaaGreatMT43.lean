
/-
 Rows of states in memory: a row of the call's own, each of its places a row of types of its own, or none.
-/
import Derived.Test.YtkcofelpndlplaaGreatMT42
import Derived.Test.YtkcofelpndlplaaGreatMT27
import Derived.Laws.MakeOwn
namespace Go.Proofs.YtkcofelpndlplaaGreat
open Go.RowKit
set_option linter.unusedVariables false
set_option linter.unusedSimpArgs false
set_option maxRecDepth 100000

abbrev stN : Value := .slice none 0 0
theorem own_two {w : World} {B B' : Nat} {e e' : TypeId} {z z' : Nat} {v v' : Value} {n n' : Nat} {xs xs' : List Value} (h : w.ownsRow B e z v n xs) (h' : w.ownsRow B' e' z' v' n' xs') (hne : e ≠ e') : v.ownBlock = none ∨ v.ownBlock ≠ v'.ownBlock := by
 rcases h with ⟨_, ⟨rfl, _⟩ | ⟨g, cap, cur, rfl, _, hh, _⟩⟩
 ·exact .inl rfl
 rcases h' with ⟨_, ⟨rfl, _⟩ | ⟨g', cap', cur', rfl, _, hh', _⟩⟩
 ·exact .inr (by simp [Value.ownBlock])
 ·refine .inr fun e3 => ?_
  have e4 : g = g' := by simpa [Value.ownBlock] using e3
  subst e4
  rw [hh] at hh'
  injection hh' with h1
  injection h1 with h2 h3
  exact hne h3
structure SsW (B : Nat) (w : World) (v : Value) (S : List St) (vs : List Value) : Prop where
 len : vs.length = S.length
 row : w.ownsRow B 57 1 v S.length vs
 each : ∀ i, i < S.length -> w.ownsRow B 46 4 (vs.getD i stN) (S.getD i []).length (flatT (S.getD i []))
def Ss (B : Nat) (w : World) (v : Value) (S : List St) : Prop := ∃ vs, SsW B w v S vs
theorem SsW.below {B B' : Nat} {w w' : World} {v : Value} {S : List St} {vs : List Value} (h : SsW B w v S vs) (hb : Below B' w w') (hB : w.heap.size <= B') : SsW B w' v S vs :=
 ⟨h.len, qAz h.row hb hB, fun i hi => qAz (h.each i hi) hb hB⟩
theorem Ss.below {B B' : Nat} {w w' : World} {v : Value} {S : List St} (h : Ss B w v S) (hb : Below B' w w') (hB : w.heap.size <= B') : Ss B w' v S := by
 obtain ⟨vs, h⟩ := h
 exact ⟨vs, h.below hb hB⟩
theorem Ss.base {B b : Nat} {w : World} {v : Value} {S : List St} (h : Ss B w v S) (hb : b <= B) : Ss b w v S := by
 obtain ⟨vs, h⟩ := h
 exact ⟨vs, h.len, qAu h.row hb, fun i hi => qAu (h.each i hi) hb⟩
theorem Ss.nil (B : Nat) (w : World) : Ss B w stN [] := ⟨[], rfl, World.ownsRow_nil _ _ _ _, fun i hi => by simp at hi⟩
theorem SsW.shape {B : Nat} {w : World} {v : Value} {S : List St} {vs : List Value} (h : SsW B w v S vs) : ∃ a c, v = .slice a S.length c := qCj h.row
theorem Ss.shape {B : Nat} {w : World} {v : Value} {S : List St} (h : Ss B w v S) : ∃ a c, v = .slice a S.length c := by
 obtain ⟨vs, h⟩ := h
 exact h.shape
theorem Ss.get {B : Nat} {w : World} {v : Value} {S : List St} (h : Ss B w v S) {i : Nat} (hi : i < S.length) : ∃ g c a ca, v = .slice (some ⟨g, 0, none⟩) S.length c /\ g < w.heap.size /\ S.length <= c /\ w.cell? ⟨g, i, none⟩ = some (.slice a (S.getD i []).length ca) /\ SeesT w (.slice a (S.getD i []).length ca) (S.getD i []) /\ w.ownsRow B 46 4 (.slice a (S.getD i []).length ca) (S.getD i []).length (flatT (S.getD i [])) := by
 obtain ⟨vs, h⟩ := h
 have hr := h.row
 have he := h.each i hi
 obtain ⟨a, ca, hv⟩ := qCj he
 rcases id hr with ⟨hl, ⟨_, h0⟩ | ⟨g, c, cur, rfl, hg, hh, hc, _⟩⟩
 ·omega
 ·have hcell := hr.cellAt i (by omega)
  have hiv : i < vs.length := by rw [h.len]; exact hi
  have hd : vs.getD i stN = vs[i] := by simp [List.getD, List.getElem?_eq_getElem hiv]
  rw [List.getElem?_eq_getElem hiv, <- hd, hv] at hcell
  rw [hv] at he
  exact ⟨g, c, a, ca, rfl, (Array.getElem?_eq_some_iff.1 hh).1, hc, hcell, qBx he, he⟩
theorem SsW.push {B : Nat} {w w1 : World} {v v' u : Value} {S : List St} {vs : List Value} {s : St} {o : Obj} (h : SsW B w v S vs) (hs : w.ownsRow B 46 4 u s.length (flatT s)) (hown : w1.ownsRow B 57 1 v' (S.length + 1) (vs ++ [u])) (hg : (w.alloc o).grownBy w1 v.ownBlock) : SsW B w1 v' (S ++ [s]) (vs ++ [u]) := by
 have hk : ∀ {x : Value} {n : Nat} {l : List Value}, w.ownsRow B 46 4 x n l -> w1.ownsRow B 46 4 x n l := fun {x n l} hx => (hx.alloc o).kept hg (own_two hx h.row (by decide))
 refine ⟨by simp [h.len], by simpa using hown, fun i hi => ?_⟩
 by_cases hl : i < S.length
 ·have e1 : (vs ++ [u]).getD i stN = vs.getD i stN := by simp [List.getD, List.getElem?_append_left (show i < vs.length by rw [h.len]; exact hl)]
  have e2 : (S ++ [s]).getD i [] = S.getD i [] := by simp [List.getD, List.getElem?_append_left hl]
  rw [e1, e2]
  exact hk (h.each i hl)
 ·have hi' : i = S.length := by simp at hi; omega
  subst hi'
  have e1 : (vs ++ [u]).getD S.length stN = u := by rw [<- h.len]; simp [List.getD]
  have e2 : (S ++ [s]).getD S.length [] = s := by simp [List.getD]
  rw [e1, e2]
  exact hk hs
theorem Tryz.infoSt : (Tryz.prog.info? 57).map (fun i => (i.zero, i.size, i.bytes)) = some (some (.slice none 0 0), 1, 24) := by kernel_rfl
theorem one_sl (u : Value) (a : Option Addr) (n c : Nat) (h : u = .slice a n c) : ∀ x ∈ [u], x.oneCell' = true := by intro x hx; simp at hx; subst hx; subst h; rfl
theorem one_lit (w : World) (g : Nat) (hg : g = w.heap.size) (u : Value) (t : TypeId) : ∀ j x, [u][j]? = some x -> (w.alloc (.cells #[u] t)).cell? ((⟨g, 0, none⟩ : Addr).add j) = some x := by
 intro j x hx
 subst hg
 cases j with
 | zero => simp at hx; subst hx; simp [Addr.add]
 | succ j => simp at hx
theorem run_make8 (w : World) : (Instr.makeSlice 57 (.int .i64 8) (.int .i64 8)).run Tryz.prog w = .ok (.slice (some ⟨w.heap.size, 0, none⟩) 8 8) (w.alloc (.cells (flatT (List.replicate 8 Ty.nil)).toArray 46)) := by
 obtain ⟨i, hi, hz, hs, hb⟩ := qBi
 have := run_make (P := Tryz.prog) w 57 46 i _ Tryz.underlying57 hi hz .i64 .i64 8 8 (by omega) (Int.le_refl _) (by rw [hb]; decide) (by decide)
 rw [hs, show madeCells (tyV Ty.nil).cells (Int.toNat 8 * 4) = (flatT (List.replicate 8 Ty.nil)).toArray by kernel_rfl] at this
 exact this
theorem own8 (w : World) (base : Nat) (hb : base <= w.heap.size) (cs : List Value) (hl : cs.length = 32) : (w.alloc (.cells cs.toArray 46)).ownsRow base 46 4 (.slice (some ⟨w.heap.size, 0, none⟩) 8 8) 8 cs := by
 have := World.ownsRow_lit (base := base) (e := 46) (size := 4) w cs.toArray 8 hb (by decide) (by simp [hl])
 simpa using this
end Go.Proofs.YtkcofelpndlplaaGreat
