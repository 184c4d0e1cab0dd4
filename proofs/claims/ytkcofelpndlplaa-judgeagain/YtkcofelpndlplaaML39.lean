
/-
  An inquiry of the landed judge in memory: its struct, the code, the loops, what is known. The region that takes an instruction and a state out of it, whatever its order. No condition.
-/
import Derived.Test.YtkcofelpndlplaaML31
import Derived.Test.YtkcofelpndlplaaML36
import Derived.Test.YtkcofelpndlplaaML13
import Derived.Test.YtkcofelpndlplaaML37
import Derived.Deep.CutRange
namespace Go.Proofs.Ytkcofelpndlplaa
open Go.RowKit
set_option linter.unusedVariables false
set_option linter.unusedSimpArgs false
set_option maxRecDepth 100000

structure Inq (w0 w : World) (qb kb nm : Nat) (vl : Value) (cb co ccap : Nat) (xs : List In) (ls : List Lp) (K : Kn) : Prop where
  b0 : Below w0.heap.size w0 w
  q : Hp w qb 63 (qC nm (.slice (some ⟨cb, co, none⟩) xs.length ccap) vl kb xs.length)
  k : Hp w kb 54 (flatK K)
  len : K.length = xs.length
  ne : qb ≠ kb
  hq : w0.heap.size ≤ qb
  hk : w0.heap.size ≤ kb
  e8 : Eight K
  code : SeesI w0 (.slice (some ⟨cb, co, none⟩) xs.length ccap) xs
  lo : SeesL w0 vl ls
theorem Inq.grown {w0 w w' : World} {qb kb nm cb co ccap : Nat} {vl : Value} {xs : List In} {ls : List Lp} {K K' : Kn} (h : Inq w0 w qb kb nm vl cb co ccap xs ls K) (hg : w.grownBy w' (some kb)) (hk : Hp w' kb 54 (flatK K')) (hl : K'.length = K.length) (h8 : Eight K') : Inq w0 w' qb kb nm vl cb co ccap xs ls K' :=
  ⟨h.b0.trans (grown_to_below hg h.hk h.b0.size), h.q.grown hg (fun e => h.ne (by injection e)), hk, hl.trans h.len, h.ne, h.hq, h.hk, h8, h.code, h.lo⟩
theorem Inq.below {w0 w w' : World} {qb kb nm cb co ccap : Nat} {vl : Value} {xs : List In} {ls : List Lp} {K : Kn} (h : Inq w0 w qb kb nm vl cb co ccap xs ls K) (hb : Below w.heap.size w w') : Inq w0 w' qb kb nm vl cb co ccap xs ls K :=
  h.grown (grown_of_below hb _) (h.k.below hb h.k.lt) rfl h.e8
theorem Inq.at {w0 w : World} {qb kb nm cb co ccap : Nat} {vl : Value} {xs : List In} {ls : List Lp} {K : Kn} (h : Inq w0 w qb kb nm vl cb co ccap xs ls K) {p : Nat} (hp : p < xs.length) : At w cb (co + p * 5) (nth xs p) ∧ cb < w0.heap.size ∧ xs.length ≤ ccap ∧ ccap ≤ 9223372036854775807 := by
  obtain ⟨a, cap, hv, h1, h2, h3, h4⟩ := h.code
  injection hv with e1 e2 e3
  subst e1 e3
  obtain ⟨b, off, he, hlt, hat⟩ := h4 (fun e => by rw [e] at hp; simp at hp)
  injection he with he
  injection he with e4 e5
  subst e4 e5
  refine ⟨(hat p hp).below h.b0 hlt, hlt, h1, by unfold maxLen at h2; omega⟩
theorem arrK_len (K : Kn) (p : Nat) (r : Bool) (s : St) : (arrK K p r s).length = K.length := by
  unfold arrK
  split
  · rfl
  · split <;> simp
theorem arrK_eight {K : Kn} (h : Eight K) (p : Nat) (r : Bool) {s : St} (hs : s.length = 8) : Eight (arrK K p r s) := by
  unfold arrK
  split
  · exact h
  · split
    · exact h.set p hs
    · exact h.set p (joinU_len _ _ _)
/-- An instruction's box, as a block. -/
def inC (i : In) : List Value := [.int .i64 i.op, .int .i64 i.d, .int .i64 i.a, .int .i64 i.b, .int .i64 i.imm]
theorem Hp.inst {w : World} {b : Nat} {t : TypeId} {op d a b' imm : Int} (h : Hp w b t (inC ⟨op, d, a, b', imm⟩)) : Box w b op d a b' imm := ⟨h.cell rfl, h.cell rfl, h.cell rfl, h.cell rfl, h.cell rfl⟩
/-- What is behind the region: an instruction and a state in boxes of their own. -/
def Taken2 (w wc : World) (i : In) (r : Bool) (s : St) (v4 v5 : Value) : Prop := ∃ ib sb, v4 = .pointer (some ⟨ib, 0, none⟩) ∧ v5 = .pointer (some ⟨sb, 0, none⟩) ∧ Hp wc ib 42 (inC i) ∧ Hp wc sb 54 (stC r s) ∧ Below w.heap.size w wc ∧ w.heap.size ≤ ib ∧ w.heap.size ≤ sb ∧ ib ≠ sb
def MadeK (nm : Nat) (K : Kn) : Prop := ∀ p ∈ K, Made8 nm p.2
theorem MadeK.at {nm : Nat} {K : Kn} (h : MadeK nm K) (k : Nat) : Made8 nm (K.getD k kn0).2 := by
  by_cases hk : k < K.length
  · rw [show K.getD k kn0 = K[k] by simp [List.getD, List.getElem?_eq_getElem hk]]; exact h _ (List.getElem_mem hk)
  · rw [show K.getD k kn0 = kn0 by simp [List.getD, List.getElem?_eq_none (show K.length ≤ k by omega)]]; exact made_zero nm
theorem MadeK.set {nm : Nat} {K : Kn} (h : MadeK nm K) (k : Nat) {p : Bool × St} (hp : Made8 nm p.2) : MadeK nm (K.set k p) := fun q hq => by
  rcases List.mem_or_eq_of_mem_set hq with h1 | h1
  · exact h q h1
  · rw [h1]; exact hp
theorem MadeK.eight {nm : Nat} {K : Kn} (h : MadeK nm K) : Eight K := fun p hp => (h p hp).1
theorem made_joinU {nm : Nat} {h s : St} (hh : Made8 nm h) (hs : Made8 nm s) (n : Nat) : Made8 nm (joinU h s n) := by
  refine ⟨joinU_len _ _ _, fun t ht => ?_⟩
  unfold joinU at ht
  obtain ⟨k, hk, rfl⟩ := List.mem_map.1 ht
  have hk8 := List.mem_range.1 hk
  split
  · exact made_join2 (hh.get hk8) (hs.get hk8)
  · exact hh.get hk8
theorem made_arr {nm : Nat} {K : Kn} (h : MadeK nm K) (p : Nat) (r : Bool) {s : St} (hs : Made8 nm s) : MadeK nm (arrK K p r s) := by
  unfold arrK
  split
  · exact h
  · split
    · exact h.set p hs
    · exact h.set p (made_joinU (h.at p) hs 8)
theorem larrive_inq {w0 w : World} {qb kb nm cb co ccap : Nat} {vl : Value} {xs : List In} {ls : List Lp} {K : Kn} (h : Inq w0 w qb kb nm vl cb co ccap xs ls K) {pI : Int} {p : Nat} (he : Hid (pI = p)) (hp : p < xs.length) (r : Bool) {s : St} (hs : Made8 nm s) (hM : MadeK nm K) :
    Calls Try.prog 18 #[.pointer (some ⟨qb, 0, none⟩), .int .i64 pI, stV r s] w fun e w' => e = .returned (.tuple #[]) ∧ w.grownBy w' (some kb) ∧ Inq w0 w' qb kb nm vl cb co ccap xs ls (arrK K p r s) ∧ MadeK nm (arrK K p r s) := by
  rw [he.out]
  refine (larrive_any qb kb p nm _ vl K r s w (by rw [h.len]; exact h.q) h.k h.ne h.e8 (by rw [h.len]; exact hp) hs (hM.at p)).mono ?_
  rintro e w' ⟨rfl, hg, hk⟩
  exact ⟨rfl, hg, h.grown hg hk (arrK_len _ _ _ _) (arrK_eight h.e8 p r hs.1), made_arr hM p r hs⟩
end Go.Proofs.Ytkcofelpndlplaa
