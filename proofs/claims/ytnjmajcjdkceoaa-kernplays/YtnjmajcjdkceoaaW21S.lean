
/-
  Layer 21: a kern and a row of numbers apart from it; what Pick answers. No condition.
-/
import Derived.Test.YtnjmajcjdkceoaaW21Aw
namespace Go.Proofs.Ytnjmajcjdkceoaa
open Go.RowKit
set_option linter.unusedVariables false
set_option linter.unusedSimpArgs false
set_option maxRecDepth 100000
theorem infoB21 : (Try.prog.info? 4).map (fun i => (i.zero, i.size, i.bytes)) = some (some (.bool false), 1, 1) := by kernel_rfl
theorem own_emptyK (w : World) (t : TypeId) (z : Nat) : (w.alloc (.cells #[] t)).ownsRow w.heap.size t z (.slice (some ⟨w.heap.size, 0, none⟩) 0 0) 0 [] :=
  own_of (cs := []) (Nat.le_refl _) (heap_alloc_new w _) (Nat.le_refl _) (by simp [maxLen]) (by simp) (by simp)
theorem b_flat (rs : List Bool) : ∀ u ∈ flatG bK rs, u.oneCell' = true := by
  intro u hu
  obtain ⟨x, _, h2⟩ := List.mem_flatMap.1 hu
  simp only [bK, List.mem_singleton] at h2
  rw [h2]; rfl
/-- A kern, and a row of numbers that lies elsewhere. -/
structure Lr (w0 w : World) (b : Nat) (F : Ft) (K : Kn) (B : Nat) (u : Value) (A : List Int) : Prop where
  lz : Lz w0 w b F K
  row : RoN w B u A
  ap : Apt F (ftV u)
  ge : w0.heap.size ≤ B
section
variable {w0 w w' : World} {b B : Nat} {F F' : Ft} {K K' : Kn} {u : Value} {A : List Int}
theorem Lr.below (h : Lr w0 w b F K B u A) (hb : Below w.heap.size w w') : Lr w0 w' b F K B u A := ⟨h.lz.below hb, h.row.below hb, h.ap, h.ge⟩
theorem Lr.step (h : Lr w0 w b F K B u A) (hl : Lz w0 w' b F' K') (hn : Nx w w' F F') : Lr w0 w' b F' K' B u A :=
  ⟨hl, own_keeps h.row hn.chg h.ap, h.ap.next (own_lies h.row) hn, h.ge⟩
theorem Lr.made {K : Kn} (h : Lz w0 w b F K) (hr : RoN w' w.heap.size u A) (hb : Below w.heap.size w w') : Lr w0 w' b F K w.heap.size u A :=
  ⟨h.below hb, hr, Apt.made h.lies (own_since hr (Nat.le_refl _)), h.be.size⟩
/-- A number of the row written over. -/
theorem Lr.store (h : Lr w0 w b F K B u A) (hn : 0 < A.length) : ∃ p cap, u = .slice (some ⟨p, 0, none⟩) A.length cap ∧ A.length ≤ cap ∧ cap ≤ 9223372036854775807 ∧ (∀ j, j < A.length → w.cell? ⟨p, j, none⟩ = some (.int .i64 (A.getD j 0)) ∧ w.frozen? ⟨p, j, none⟩ = false) ∧ ∀ (j : Nat) (y : Int), Lr w0 (w.setCell ⟨p, j, none⟩ (.int .i64 y)) b F K B u (A.set j y) := by
  obtain ⟨p, cap, e, h1, h2, h3, h4, h5, h6⟩ := h.row.cells hn
  refine ⟨p, cap, e, h3, h4, h5, fun j y => ⟨h.lz.keeps (Chg.set w p j _) (fun k e1 e2 => ?_) (fun k e1 => ?_), ?_, h.ap, h.ge⟩⟩
  · subst e1; exact h.ap k e2 (by rw [e]; rfl)
  · subst e1; exact Nat.le_trans h.ge h1
  · rw [e]; exact h6 j y
end
theorem pick_at {K : Kn} {A : List Int} (hA : K.inM 1 = A) (hne : A ≠ []) (c : Int) : K.pick c = (A.getD (c % A.length).toNat 0, true, ⟨K.m, K.p ++ [A.getD (c % A.length).toNat 0]⟩) := by
  unfold Kn.pick
  rw [hA, if_neg hne]
theorem pick_here {K : Kn} {A : List Int} (hA : K.inM 1 = A) {q : Nat} (hq : q < A.length) : K.pick q = (A.getD q 0, true, ⟨K.m, K.p ++ [A.getD q 0]⟩) := by
  have hne : A ≠ [] := fun e => by rw [e] at hq; simp at hq
  have := pick_at hA hne q
  rw [Int.emod_eq_of_lt (by omega) (by omega)] at this
  exact this
theorem pick_back {K : Kn} {A : List Int} (hA : K.inM 1 = A) {q : Nat} (hq : q < A.length) : K.pick ((q : Int) - A.length) = (A.getD q 0, true, ⟨K.m, K.p ++ [A.getD q 0]⟩) := by
  have hne : A ≠ [] := fun e => by rw [e] at hq; simp at hq
  have := pick_at hA hne ((q : Int) - A.length)
  have e : ((q : Int) - A.length) % A.length = q := by
    rw [← Int.add_emod_right, show (q : Int) - A.length + A.length = q by omega, Int.emod_eq_of_lt (by omega) (by omega)]
  rw [e] at this
  exact this
theorem pick_none {K : Kn} (hA : K.inM 1 = []) (c : Int) : K.pick c = (0, false, K) := by
  unfold Kn.pick
  rw [if_pos hA]
/-- Set of a new kern. -/
theorem new_set {n : Nat} {rs : List Bool} (h : rs.length = n) : (Kn.new n).set rs = (0, ⟨setM (List.replicate n 0) rs, []⟩) := by
  unfold Kn.set
  rw [if_pos (by simp [Kn.new, h])]
  rfl
theorem new_set_no {n : Nat} {rs : List Bool} (h : rs.length ≠ n) : (Kn.new n).set rs = (2, Kn.new n) := by
  unfold Kn.set
  rw [if_neg (by simp [Kn.new, h])]
theorem new_ready (n : Nat) : (Kn.new n).inM 1 = [] := by
  refine List.eq_nil_iff_forall_not_mem.2 fun x hx => ?_
  have := (mem_inL.1 hx).2
  simp [Kn.new, List.getD, List.getElem?_replicate] at this
  split at this <;> simp at this
theorem setN_at {n : Nat} {rs : List Bool} (h : rs.length = n) {j : Nat} (hj : j < rs.length) : (setM (List.replicate n 0) rs).getD j 0 = if rs.getD j false = true then 1 else 0 := by
  rw [setM_at (by simp [h]) (by simp; omega)]
  have e : (List.replicate n (0 : Int)).getD j 0 = 0 := by simp [List.getD, List.getElem?_replicate]; split <;> rfl
  rw [e]
  unfold setO
  rw [if_neg (by decide)]
/-- The numbers so far are where the whole row begins. -/
theorem inL_here {m : List Int} {v : Int} {j : Nat} (hj : j < m.length) (hv : m.getD j 0 = v) : (inL m v j).length < (inL m v m.length).length ∧ (inL m v m.length).getD (inL m v j).length 0 = j := by
  have h1 := inL_pre m v (j + 1) (m.length - (j + 1))
  rw [show j + 1 + (m.length - (j + 1)) = m.length by omega, inL_more, if_pos hv] at h1
  obtain ⟨t, ht⟩ := h1
  rw [← ht]
  refine ⟨by simp, ?_⟩
  simp [List.getD]
end Go.Proofs.Ytnjmajcjdkceoaa
