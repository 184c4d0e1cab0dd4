
/-
  Layer 19: a table, two rows of numbers with what was recorded of each hook, a call's box. No condition.
-/
import Derived.Test.YtknijloificpmaaW19Aw
namespace Go.Proofs.Ytknijloificpmaa
open Go.RowKit
set_option linter.unusedVariables false
set_option linter.unusedSimpArgs false
set_option maxRecDepth 100000
abbrev vC (S : List Sl) : List Value := S.map (fun s => Value.int .i64 s.v)
abbrev pC (S : List Sl) : List Value := S.map (fun s => Value.int .i64 s.p)
theorem run_makeV19 (n : Nat) (hn : n ≤ 4) (w : World) : (Instr.makeSlice 33 (.int .i64 n) (.int .i64 n)).run Try.prog w = .ok (.slice (some ⟨w.heap.size, 0, none⟩) n n) (w.alloc (.cells (vC (Tb.new n).at').toArray 3)) := by
  obtain ⟨i, h1, h2, h3, h4⟩ := info_parts infoIntN
  have := run_make (P := Try.prog) w 33 3 i _ Try.underlying33 h1 h2 .i64 .i64 n n (by omega) (Int.le_refl _) (by rw [h4]; omega) (by omega)
  rw [h3] at this
  have e0 : madeCells (Value.int .i64 0).cells (Int.toNat 0 * 1) = (vC (Tb.new 0).at').toArray := by kernel_rfl
  have e1 : madeCells (Value.int .i64 0).cells (Int.toNat 1 * 1) = (vC (Tb.new 1).at').toArray := by kernel_rfl
  have e2 : madeCells (Value.int .i64 0).cells (Int.toNat 2 * 1) = (vC (Tb.new 2).at').toArray := by kernel_rfl
  have e3 : madeCells (Value.int .i64 0).cells (Int.toNat 3 * 1) = (vC (Tb.new 3).at').toArray := by kernel_rfl
  have e4 : madeCells (Value.int .i64 0).cells (Int.toNat 4 * 1) = (vC (Tb.new 4).at').toArray := by kernel_rfl
  have h5 : n = 0 ∨ n = 1 ∨ n = 2 ∨ n = 3 ∨ n = 4 := by omega
  have e : madeCells (Value.int .i64 0).cells (Int.toNat n * 1) = (vC (Tb.new n).at').toArray := by
    rcases h5 with rfl | rfl | rfl | rfl | rfl
    · exact e0
    · exact e1
    · exact e2
    · exact e3
    · exact e4
  rw [e] at this
  exact this
theorem vp_new (n : Nat) : vC (Tb.new n).at' = pC (Tb.new n).at' := by simp [vC, pC, Tb.new, Sl.nil]
theorem put_cases {t t' : Tb} {sw : Bool} {x p v E : Int} (h : t.put sw x p = (v, E, t')) : (v = 0 ∧ (E != 0) = true ∧ t = t') ∨ ∃ k : Nat, x = k ∧ k < t.at'.length ∧ v = t.last + 1 ∧ E = 0 ∧ t.pub k p = t' := by
  unfold Tb.put at h
  cases hh : t.has x with
  | false =>
    rw [if_pos hh] at h
    injection h with e1 h
    injection h with e2 e3
    exact .inl ⟨e1.symm, by rw [← e2]; rfl, e3⟩
  | true =>
    rw [if_neg (by rw [hh]; decide)] at h
    by_cases ht : t.taken x = sw
    · rw [if_pos ht] at h
      injection h with e1 h
      injection h with e2 e3
      obtain ⟨k, rfl, hk⟩ := Tb.has_nat hh
      exact .inr ⟨k, rfl, hk, e1.symm, e2.symm, e3⟩
    · rw [if_neg ht] at h
      injection h with e1 h
      injection h with e2 e3
      exact .inl ⟨e1.symm, by rw [← e2]; cases sw <;> rfl, e3⟩
theorem det_cases {t t' : Tb} {x E : Int} (h : t.det [x] = (E, t')) : ((E != 0) = true ∧ t = t') ∨ ∃ k : Nat, x = k ∧ k < t.at'.length ∧ E = 0 ∧ (⟨t.last, t.at'.set k Sl.nil⟩ : Tb) = t' := by
  unfold Tb.det at h
  cases ho : t.once [x] with
  | false =>
    rw [if_pos ho] at h
    injection h with e1 e2
    exact .inl ⟨by rw [← e1]; rfl, e2⟩
  | true =>
    rw [if_neg (by rw [ho]; decide)] at h
    obtain ⟨k, rfl, hk⟩ := Tb.has_nat ((Tb.once_parts ho).2 x (by simp))
    by_cases ha : [(k : Int)].all t.taken = false
    · rw [if_pos ha] at h
      injection h with e1 e2
      exact .inl ⟨by rw [← e1]; rfl, e2⟩
    · rw [if_neg ha] at h
      injection h with e1 e2
      exact .inr ⟨k, rfl, hk, e1.symm, e2⟩
/-- A table and two rows apart from it: what was recorded of each hook. -/
structure Lv (w0 w : World) (b : Nat) (F : Ft) (t : Tb) (gv gp : Nat) (S : List Sl) : Prop where
  lz : Lz w0 w b F t
  hv : Hp w gv 3 (vC S)
  hq : Hp w gp 3 (pC S)
  av : ¬ F gv
  ap : ¬ F gp
  ne : gv ≠ gp
  sv : w0.heap.size ≤ gv
  sp : w0.heap.size ≤ gp
/-- And a call in its box. -/
structure Lvb (w0 w : World) (b : Nat) (F : Ft) (t : Tb) (gv gp : Nat) (S : List Sl) (bx : Nat) (o : Ow) : Prop where
  lv : Lv w0 w b F t gv gp S
  hb : Hp w bx 35 (owC o)
  ab : ¬ F bx
section
variable {w0 w w' : World} {b gv gp bx : Nat} {F F' G : Ft} {t t' : Tb} {S : List Sl} {o : Ow}
theorem Lv.below (h : Lv w0 w b F t gv gp S) (hb : Below w.heap.size w w') : Lv w0 w' b F t gv gp S := ⟨h.lz.below hb, h.hv.below hb h.hv.lt, h.hq.below hb h.hq.lt, h.av, h.ap, h.ne, h.sv, h.sp⟩
theorem Lv.step (h : Lv w0 w b F t gv gp S) (hl : Lz w0 w' b F' t') (hn : Nx w w' F F') : Lv w0 w' b F' t' gv gp S :=
  ⟨hl, h.hv.chg hn.chg h.av, h.hq.chg hn.chg h.ap, fun e => (hn.new gv e).elim h.av (fun q => by have := h.hv.lt; omega), fun e => (hn.new gp e).elim h.ap (fun q => by have := h.hq.lt; omega), h.ne, h.sv, h.sp⟩
theorem Lv.setV (h : Lv w0 w b F t gv gp S) (k : Nat) (v : Int) : Lv w0 (w.setCell ⟨gv, k, none⟩ (.int .i64 v)) b F t gv gp (S.set k ⟨v, (S.getD k Sl.nil).p⟩) := by
  refine ⟨h.lz.keeps (Chg.set w gv k _) (fun j e1 e2 => h.av (by rw [← e1]; exact e2)) (fun j e => by rw [e]; exact h.sv), ?_, ?_, h.av, h.ap, h.ne, h.sv, h.sp⟩
  · have := h.hv.set k (.int .i64 v)
    unfold vC
    rw [List.map_set]
    exact this
  · have := h.hq.far (b' := gv) (i := k) (v := .int .i64 v) (fun e => h.ne e.symm)
    have e : pC (S.set k ⟨v, (S.getD k Sl.nil).p⟩) = pC S := by
      unfold pC
      rw [List.map_set]
      by_cases hk : k < S.length
      · have : (Value.int .i64 (S.getD k Sl.nil).p) = (S.map (fun s => Value.int .i64 s.p))[k]'(by simpa using hk) := by simp [List.getD, hk]
        rw [this, List.set_getElem_self]
      · exact List.set_eq_of_length_le (by simpa using hk)
    rw [e]
    exact this
theorem Lv.setP (h : Lv w0 w b F t gv gp S) (k : Nat) (p : Int) : Lv w0 (w.setCell ⟨gp, k, none⟩ (.int .i64 p)) b F t gv gp (S.set k ⟨(S.getD k Sl.nil).v, p⟩) := by
  refine ⟨h.lz.keeps (Chg.set w gp k _) (fun j e1 e2 => h.ap (by rw [← e1]; exact e2)) (fun j e => by rw [e]; exact h.sp), ?_, ?_, h.av, h.ap, h.ne, h.sv, h.sp⟩
  · have := h.hv.far (b' := gp) (i := k) (v := .int .i64 p) h.ne
    have e : vC (S.set k ⟨(S.getD k Sl.nil).v, p⟩) = vC S := by
      unfold vC
      rw [List.map_set]
      by_cases hk : k < S.length
      · have : (Value.int .i64 (S.getD k Sl.nil).v) = (S.map (fun s => Value.int .i64 s.v))[k]'(by simpa using hk) := by simp [List.getD, hk]
        rw [this, List.set_getElem_self]
      · exact List.set_eq_of_length_le (by simpa using hk)
    rw [e]
    exact this
  · have := h.hq.set k (.int .i64 p)
    unfold pC
    rw [List.map_set]
    exact this
theorem set_both {k : Nat} (hk : k < S.length) (v p : Int) : (S.set k ⟨v, (S.getD k Sl.nil).p⟩).set k ⟨((S.set k ⟨v, (S.getD k Sl.nil).p⟩).getD k Sl.nil).v, p⟩ = S.set k ⟨v, p⟩ := by
  rw [List.set_set]
  simp [List.getD, hk]
theorem Lv.atV (h : Lv w0 w b F t gv gp S) {k : Nat} (hk : k < S.length) : w.cell? ⟨gv, k, none⟩ = some (.int .i64 (S.getD k Sl.nil).v) ∧ w.frozen? ⟨gv, k, none⟩ = false := by
  refine ⟨h.hv.cell ?_, h.hv.frozen k⟩
  simp [vC, List.getD, hk]
theorem Lv.atP (h : Lv w0 w b F t gv gp S) {k : Nat} (hk : k < S.length) : w.cell? ⟨gp, k, none⟩ = some (.int .i64 (S.getD k Sl.nil).p) ∧ w.frozen? ⟨gp, k, none⟩ = false := by
  refine ⟨h.hq.cell ?_, h.hq.frozen k⟩
  simp [pC, List.getD, hk]
theorem Lv.box (h : Lv w0 w b F t gv gp S) (hb : Below w.heap.size w w') (hp : Hp w' w.heap.size 35 (owC o)) : Lvb w0 w' b F t gv gp S w.heap.size o := ⟨h.below hb, hp, fun e => by have := h.lz.lies _ e; omega⟩
theorem Lvb.below (h : Lvb w0 w b F t gv gp S bx o) (hb : Below w.heap.size w w') : Lvb w0 w' b F t gv gp S bx o := ⟨h.lv.below hb, h.hb.below hb h.hb.lt, h.ab⟩
theorem Lvb.step (h : Lvb w0 w b F t gv gp S bx o) (hl : Lz w0 w' b F' t') (hn : Nx w w' F F') : Lvb w0 w' b F' t' gv gp S bx o :=
  ⟨h.lv.step hl hn, h.hb.chg hn.chg h.ab, fun e => (hn.new bx e).elim h.ab (fun q => by have := h.hb.lt; omega)⟩
theorem Lvb.setV (h : Lvb w0 w b F t gv gp S bx o) (k : Nat) (v : Int) : Lvb w0 (w.setCell ⟨gv, k, none⟩ (.int .i64 v)) b F t gv gp (S.set k ⟨v, (S.getD k Sl.nil).p⟩) bx o := ⟨h.lv.setV k v, h.hb.far (hp_type h.hb h.lv.hv (by decide)), h.ab⟩
theorem Lvb.setP (h : Lvb w0 w b F t gv gp S bx o) (k : Nat) (p : Int) : Lvb w0 (w.setCell ⟨gp, k, none⟩ (.int .i64 p)) b F t gv gp (S.set k ⟨(S.getD k Sl.nil).v, p⟩) bx o := ⟨h.lv.setP k p, h.hb.far (hp_type h.hb h.lv.hq (by decide)), h.ab⟩
theorem Lvb.cells (h : Lvb w0 w b F t gv gp S bx o) : w.cell? ⟨bx, 0, none⟩ = some (.int .i64 o.k) ∧ w.cell? ⟨bx, 1, none⟩ = some (.int .i64 o.x) ∧ w.cell? ⟨bx, 2, none⟩ = some (.int .i64 o.p) := ⟨h.hb.cell (j := 0) rfl, h.hb.cell (j := 1) rfl, h.hb.cell (j := 2) rfl⟩
end
end Go.Proofs.Ytknijloificpmaa
