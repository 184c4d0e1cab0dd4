
/-
  Layer 26's lines, plain: fields apart; an entry is its fields. No Go text in sight.
-/
import Derived.Test.YtbfbfbbpajaclaaDoorX26Back
namespace Go.Proofs.YtbfbfbbpajaclaaDoor
open Go.RowKit
set_option linter.unusedVariables false
set_option linter.unusedSimpArgs false
set_option maxRecDepth 100000
/-- Two entries have the same field. -/
def Eq26 (r e : En) (c : UInt8) : Prop := unE r c.toNat = unE e c.toNat ∧ ((unE e c.toNat).2 = false → sgE r c.toNat = sgE e c.toNat)
theorem Eq26.rfl' (e : En) (c : UInt8) : Eq26 e e c := ⟨rfl, fun _ => rfl⟩
theorem Eq26.trans {a b e : En} {c : UInt8} (h1 : Eq26 a b c) (h2 : Eq26 b e c) : Eq26 a e c := ⟨h1.1.trans h2.1, fun h => (h1.2 (by rw [h2.1]; exact h)).trans (h2.2 h)⟩
theorem put_other (e : En) (k n : Int) {c d : UInt8} (hc : c ∈ allL) (hd : d ∈ allL) (h : c ≠ d) : Eq26 (putE e d.toNat k n) e c := by
  simp only [allL, List.mem_cons, List.not_mem_nil, or_false] at hc hd
  rcases hc with rfl | rfl | rfl | rfl | rfl | rfl | rfl | rfl | rfl | rfl | rfl | rfl | rfl | rfl | rfl | rfl | rfl | rfl | rfl | rfl <;>
    rcases hd with rfl | rfl | rfl | rfl | rfl | rfl | rfl | rfl | rfl | rfl | rfl | rfl | rfl | rfl | rfl | rfl | rfl | rfl | rfl | rfl <;>
    first | exact absurd rfl h | exact ⟨rfl, fun _ => rfl⟩ | exact ⟨rfl, fun h => by cases h⟩
theorem put_wh (e : En) (c : Nat) (k n : Int) : (putE e c k n).wh = e.wh := by
  have hb : (brE e c n).wh = e.wh := by
    unfold brE
    by_cases q : c = 110
    · rw [if_pos q]
    rw [if_neg q]; clear q
    by_cases q : c = 107
    · rw [if_pos q]
    rw [if_neg q]; clear q
    by_cases q : c = 119
    · rw [if_pos q]
    rw [if_neg q]; clear q
    by_cases q : c = 114
    · rw [if_pos q]
    rw [if_neg q]; clear q
    by_cases q : c = 79
    · rw [if_pos q]
    rw [if_neg q]; clear q
    by_cases q : c = 86
    · rw [if_pos q]
    rw [if_neg q]
  unfold putE
  by_cases q : c = 116
  · rw [if_pos q]
  rw [if_neg q]; clear q
  by_cases q : c = 102
  · rw [if_pos q]
  rw [if_neg q]; clear q
  by_cases q : c = 99
  · rw [if_pos q]
  rw [if_neg q]; clear q
  by_cases q : c = 103
  · rw [if_pos q]
  rw [if_neg q]; clear q
  by_cases q : c = 101
  · rw [if_pos q]
  rw [if_neg q]; clear q
  by_cases q : c = 104
  · rw [if_pos q]
  rw [if_neg q]; clear q
  by_cases q : c = 112
  · rw [if_pos q]
  rw [if_neg q]; clear q
  by_cases q : c = 118
  · rw [if_pos q]
  rw [if_neg q]; clear q
  by_cases q : c = 97
  · rw [if_pos q]
  rw [if_neg q]; clear q
  by_cases q : c = 120
  · rw [if_pos q]
  rw [if_neg q]; clear q
  by_cases q : c = 109
  · rw [if_pos q]
  rw [if_neg q]; clear q
  by_cases q : c = 111
  · rw [if_pos q]
  rw [if_neg q]; clear q
  by_cases q : c = 121
  · rw [if_pos q]
  rw [if_neg q]; clear q
  by_cases q : c = 98
  · rw [if_pos q]
  rw [if_neg q]; clear q
  exact hb
theorem put_ou (e : En) (c : Nat) (k n : Int) : (putE e c k n).ou = e.ou := by
  have hb : (brE e c n).ou = e.ou := by
    unfold brE
    by_cases q : c = 110
    · rw [if_pos q]
    rw [if_neg q]; clear q
    by_cases q : c = 107
    · rw [if_pos q]
    rw [if_neg q]; clear q
    by_cases q : c = 119
    · rw [if_pos q]
    rw [if_neg q]; clear q
    by_cases q : c = 114
    · rw [if_pos q]
    rw [if_neg q]; clear q
    by_cases q : c = 79
    · rw [if_pos q]
    rw [if_neg q]; clear q
    by_cases q : c = 86
    · rw [if_pos q]
    rw [if_neg q]
  unfold putE
  by_cases q : c = 116
  · rw [if_pos q]
  rw [if_neg q]; clear q
  by_cases q : c = 102
  · rw [if_pos q]
  rw [if_neg q]; clear q
  by_cases q : c = 99
  · rw [if_pos q]
  rw [if_neg q]; clear q
  by_cases q : c = 103
  · rw [if_pos q]
  rw [if_neg q]; clear q
  by_cases q : c = 101
  · rw [if_pos q]
  rw [if_neg q]; clear q
  by_cases q : c = 104
  · rw [if_pos q]
  rw [if_neg q]; clear q
  by_cases q : c = 112
  · rw [if_pos q]
  rw [if_neg q]; clear q
  by_cases q : c = 118
  · rw [if_pos q]
  rw [if_neg q]; clear q
  by_cases q : c = 97
  · rw [if_pos q]
  rw [if_neg q]; clear q
  by_cases q : c = 120
  · rw [if_pos q]
  rw [if_neg q]; clear q
  by_cases q : c = 109
  · rw [if_pos q]
  rw [if_neg q]; clear q
  by_cases q : c = 111
  · rw [if_pos q]
  rw [if_neg q]; clear q
  by_cases q : c = 121
  · rw [if_pos q]
  rw [if_neg q]; clear q
  by_cases q : c = 98
  · rw [if_pos q]
  rw [if_neg q]; clear q
  exact hb
theorem put_un (e0 : En) (k n : Int) {c : UInt8} (hc : c ∈ allL) (h : (unE e0 c.toNat).2 = true) : unE (putE e0 c.toNat k n) c.toNat = (n, true) := by
  simp only [allL, List.mem_cons, List.not_mem_nil, or_false] at hc
  rcases hc with rfl | rfl | rfl | rfl | rfl | rfl | rfl | rfl | rfl | rfl | rfl | rfl | rfl | rfl | rfl | rfl | rfl | rfl | rfl | rfl <;>
    first | rfl | cases h
theorem put_sg (e0 : En) (k n : Int) {c : UInt8} (hc : c ∈ allL) (h : (unE e0 c.toNat).2 = false) (hk : c = 98 → k = 0 ∨ k = 1) : unE (putE e0 c.toNat k n) c.toNat = (0, false) ∧ sgE (putE e0 c.toNat k n) c.toNat = k := by
  simp only [allL, List.mem_cons, List.not_mem_nil, or_false] at hc
  rcases hc with rfl | rfl | rfl | rfl | rfl | rfl | rfl | rfl | rfl | rfl | rfl | rfl | rfl | rfl | rfl | rfl | rfl | rfl | rfl | rfl <;>
    first
    | exact ⟨rfl, rfl⟩
    | (exfalso; cases h; done)
    | (refine ⟨rfl, ?_⟩
       rcases hk rfl with g | g <;> subst g <;> rfl)
theorem un_snd (a b : En) (c : Nat) : (unE a c).2 = (unE b c).2 := by
  unfold unE
  repeat' split
  all_goals rfl
theorem un_no {a : En} {c : Nat} (h : (unE a c).2 = false) : unE a c = (0, false) := by
  unfold unE at h ⊢
  repeat' split at h
  all_goals first | (exfalso; cases h; done) | simp [*]
theorem en_ext {r e : En} (h1 : r.wh = e.wh) (h2 : r.ou = e.ou) (h : ∀ c ∈ allL, Eq26 r e c) : r = e := by
  have g : ∀ c ∈ allL, _ := h
  have s := fun (c : UInt8) (hc : c ∈ allL) => (h c hc).2
  have u := fun (c : UInt8) (hc : c ∈ allL) => (h c hc).1
  have e1 : r.ta = e.ta := s 116 (by decide) rfl
  have e2 : r.fr = e.fr := s 102 (by decide) rfl
  have e3 : r.cm = e.cm := s 99 (by decide) rfl
  have e4 : r.tg = e.tg := s 103 (by decide) rfl
  have e5 : r.ev = e.ev := s 101 (by decide) rfl
  have e6 : r.hk = e.hk := s 104 (by decide) rfl
  have e7 : r.pg = e.pg := s 112 (by decide) rfl
  have e8 : r.ve = e.ve := s 118 (by decide) rfl
  have e9 : r.pc = e.pc := s 97 (by decide) rfl
  have e10 : r.xe = e.xe := s 120 (by decide) rfl
  have e11 : r.mp = e.mp := s 109 (by decide) rfl
  have e12 : r.op = e.op := s 111 (by decide) rfl
  have e13 : r.er = e.er := s 121 (by decide) rfl
  have e14 : (if r.fo = true then (1 : Int) else 0) = if e.fo = true then 1 else 0 := s 98 (by decide) rfl
  have e15 : (r.va, true) = (e.va, true) := u 110 (by decide)
  have e16 : (r.ky, true) = (e.ky, true) := u 107 (by decide)
  have e17 : (r.vl, true) = (e.vl, true) := u 119 (by decide)
  have e18 : (r.rv, true) = (e.rv, true) := u 114 (by decide)
  have e19 : (r.ok, true) = (e.ok, true) := u 79 (by decide)
  have e20 : (r.ov, true) = (e.ov, true) := u 86 (by decide)
  have e21 : r.fo = e.fo := by cases hr : r.fo <;> cases he : e.fo <;> rw [hr, he] at e14 <;> first | rfl | (simp at e14)
  obtain ⟨a1, a2, a3, a4, a5, a6, a7, a8, a9, a10, a11, a12, a13, a14, a15, a16, a17, a18, a19, a20, a21, a22⟩ := r
  obtain ⟨b1, b2, b3, b4, b5, b6, b7, b8, b9, b10, b11, b12, b13, b14, b15, b16, b17, b18, b19, b20, b21, b22⟩ := e
  simp only [Prod.mk.injEq, and_true] at e1 e2 e3 e4 e5 e6 e7 e8 e9 e10 e11 e12 e13 e15 e16 e17 e18 e19 e20 e21 h1 h2
  simp only [En.mk.injEq]
  exact ⟨h1, e1, e2, e3, e4, e5, e6, e7, e8, e9, e11, e12, e16, e17, e13, e21, e18, h2, e19, e20, e15, e10⟩
theorem fld_in : ∀ (k : Fin 18) (o : Bool), (fldL (k.val : Int) o).all (fun c => allL.contains c && c != 32) = true := by decide +kernel
theorem fld_out : ∀ (k : Fin 18), inL26 (fldL (k.val : Int) true) 121 = inL26 (fldL (k.val : Int) false) 121 ∧ (inL26 (fldL (k.val : Int) true) 121 = true → (fldL (k.val : Int) true).length = (fldL (k.val : Int) false).length + 2) := by decide +kernel
theorem nm_apart : ∀ (k j : Fin 17), nmE ((k.val : Int) + 1) = nmE ((j.val : Int) + 1) → k = j := by decide +kernel
theorem nm_sp : ∀ (k : Fin 18), (nmE (k.val : Int)).all (fun c => c != 32) = true := by decide +kernel
end Go.Proofs.YtbfbfbbpajaclaaDoor
