
/-
  Layer 19: what may be emptied together; a table and a row of bools. No condition.
-/
import Derived.Test.YtknijloificpmaaW19Aw
namespace Go.Proofs.Ytknijloificpmaa
open Go.RowKit
set_option linter.unusedVariables false
set_option linter.unusedSimpArgs false
set_option maxRecDepth 100000
def mayT (t : Tb) (ps : List Int) : Bool := ps.all t.taken && decide ps.Nodup
theorem mayT_take {t : Tb} {ps : List Int} {k : Nat} (hk : k < ps.length) : mayT t (ps.take (k + 1)) = ((mayT t (ps.take k) && t.taken (ps.getD k 0)) && !decide (ps.getD k 0 ∈ ps.take k)) := by
  unfold mayT
  rw [take_at ps k hk, Bool.eq_iff_iff]
  simp only [List.all_append, List.all_cons, List.all_nil, Bool.and_true, Bool.and_eq_true, decide_eq_true_eq, Bool.not_eq_true', decide_eq_false_iff_not, List.nodup_append]
  constructor
  · rintro ⟨⟨h1, h2⟩, h3, h4, h5⟩
    exact ⟨⟨⟨h1, h3⟩, h2⟩, fun hm => h5 _ hm _ (by simp) rfl⟩
  · rintro ⟨⟨⟨h1, h3⟩, h2⟩, h6⟩
    refine ⟨⟨h1, h2⟩, h3, by simp, fun a ha b hb e => ?_⟩
    have hb2 : b = ps.getD k 0 := List.mem_singleton.1 hb
    subst hb2
    subst e
    exact h6 ha
theorem det_may {t t' : Tb} {ps : List Int} {E : Int} (h : t.det ps = (E, t')) : (E == 0) = mayT t ps ∧ ∀ x, t'.taken x = (t.taken x && !(mayT t ps && decide (x ∈ ps))) := by
  unfold Tb.det at h
  cases ho : t.once ps with
  | false =>
    rw [if_pos ho] at h
    injection h with e1 e2
    subst e1 e2
    have hm : mayT t ps = false := by
      cases hm : mayT t ps with
      | false => rfl
      | true =>
        unfold mayT at hm
        simp only [Bool.and_eq_true, decide_eq_true_eq, List.all_eq_true] at hm
        have : t.once ps = true := by
          simp only [Tb.once, Bool.and_eq_true, decide_eq_true_eq, List.all_eq_true]
          exact ⟨hm.2, fun x hx => Tb.taken_has (hm.1 x hx)⟩
        rw [ho] at this; cases this
    rw [hm]
    exact ⟨rfl, fun x => by simp⟩
  | true =>
    rw [if_neg (by rw [ho]; decide)] at h
    obtain ⟨h1, h2⟩ := Tb.once_parts ho
    have hm : mayT t ps = ps.all t.taken := by unfold mayT; simp [h1]
    rw [hm]
    cases ha : ps.all t.taken with
    | false =>
      rw [if_pos ha] at h
      injection h with e1 e2
      subst e1 e2
      exact ⟨rfl, fun x => by simp⟩
    | true =>
      rw [if_neg (by rw [ha]; decide)] at h
      injection h with e1 e2
      subst e1 e2
      refine ⟨rfl, fun x => ?_⟩
      unfold Tb.taken
      rw [slot_clr t ps h2]
      by_cases hx : x ∈ ps
      · rw [if_pos hx]; simp [hx, Sl.nil]
      · rw [if_neg hx]; simp [hx]
theorem infoBool19 : (Try.prog.info? 4).map (fun i => (i.zero, i.size, i.bytes)) = some (some (.bool false), 1, 1) := by kernel_rfl
theorem run_makeB19 (w : World) : (Instr.makeSlice 50 (.int .i64 4) (.int .i64 4)).run Try.prog w = .ok (.slice (some ⟨w.heap.size, 0, none⟩) 4 4) (w.alloc (.cells #[.bool false, .bool false, .bool false, .bool false] 4)) := by
  obtain ⟨i, h1, h2, h3, h4⟩ := info_parts infoBool19
  have := run_make (P := Try.prog) w 50 4 i _ Try.underlying50 h1 h2 .i64 .i64 4 4 (by omega) (Int.le_refl _) (by rw [h4]; omega) (by omega)
  have e : madeCells (Value.bool false).cells (Int.toNat 4 * 1) = #[.bool false, .bool false, .bool false, .bool false] := by kernel_rfl
  rw [h3, e] at this
  exact this
/-- A table and a row of four bools apart from it. -/
structure Lg (w0 w : World) (b : Nat) (F : Ft) (t : Tb) (g : Nat) (bs : List Bool) : Prop where
  lz : Lz w0 w b F t
  hp : Hp w g 4 (bs.map Value.bool)
  ap : ¬ F g
  gs : w0.heap.size ≤ g
  len : bs.length = 4
section
variable {w0 w w' : World} {b g : Nat} {F F' G : Ft} {t t' : Tb} {bs : List Bool}
theorem Lg.below (h : Lg w0 w b F t g bs) (hb : Below w.heap.size w w') : Lg w0 w' b F t g bs := ⟨h.lz.below hb, h.hp.below hb h.hp.lt, h.ap, h.gs, h.len⟩
theorem Lg.set (h : Lg w0 w b F t g bs) (k : Nat) (v : Bool) : Lg w0 (w.setCell ⟨g, k, none⟩ (.bool v)) b F t g (bs.set k v) := by
  refine ⟨h.lz.keeps (Chg.set w g k _) (fun j e1 e2 => h.ap (by rw [← e1]; exact e2)) (fun j e => by rw [e]; exact h.gs), ?_, h.ap, h.gs, by simpa using h.len⟩
  have := h.hp.set k (.bool v)
  rw [List.map_set]
  exact this
theorem Lg.step (h : Lg w0 w b F t g bs) (hl : Lz w0 w' b F' t') (hn : Nx w w' F F') : Lg w0 w' b F' t' g bs :=
  ⟨hl, h.hp.chg hn.chg h.ap, fun e => (hn.new g e).elim h.ap (fun q => by have := h.hp.lt; omega), h.gs, h.len⟩
theorem Lg.at (h : Lg w0 w b F t g bs) {k : Nat} (hk : k < 4) {v : Bool} (hv : bs.getD k false = v) : w.cell? ⟨g, k, none⟩ = some (.bool v) ∧ w.frozen? ⟨g, k, none⟩ = false := by
  have hl := h.len
  have hk' : k < bs.length := by omega
  refine ⟨h.hp.cell ?_, h.hp.frozen k⟩
  rw [List.getElem?_map, List.getElem?_eq_getElem hk', ← hv]
  simp [List.getD, hk']
end
end Go.Proofs.Ytknijloificpmaa
