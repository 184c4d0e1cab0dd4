
/-
  Layer 19: where programs are, plain; a table and two rows of numbers that were answered. No condition.
-/
import Derived.Test.YtknijloificpmaaW19Aw
namespace Go.Proofs.Ytknijloificpmaa
open Go.RowKit
set_option linter.unusedVariables false
set_option linter.unusedSimpArgs false
set_option maxRecDepth 100000
theorem mem_wh {t : Tb} {ps : List Int} {x : Int} (h : x ∈ t.wh ps) : t.taken x = true ∧ (t.slot x).p ∈ ps ∧ 0 ≤ x := by
  unfold Tb.wh Tb.whN at h
  obtain ⟨h1, h2⟩ := List.mem_filter.1 h
  unfold Tb.hit at h2
  simp only [Bool.and_eq_true, decide_eq_true_eq] at h2
  exact ⟨h2.1, h2.2, (mem_upTo.1 h1).1⟩
theorem whN_pre (t : Tb) (ps : List Int) {h n : Nat} (hn : h ≤ n) : ∃ B, t.whN ps n = t.whN ps h ++ B := by
  induction n with
  | zero => exact ⟨[], by rw [show h = 0 by omega]; simp⟩
  | succ n ih =>
    by_cases e : h = n + 1
    · subst e; exact ⟨[], by simp⟩
    · obtain ⟨B, hB⟩ := ih (by omega)
      rw [Tb.whN_more]
      split
      · exact ⟨B ++ [(n : Int)], by rw [hB, List.append_assoc]⟩
      · exact ⟨B, hB⟩
theorem wh_at {t : Tb} {ps : List Int} {h : Nat} (hn : h < t.at'.length) (hh : t.hit ps h = true) : (t.whN ps h).length < (t.wh ps).length ∧ (t.wh ps).getD (t.whN ps h).length 0 = h := by
  obtain ⟨B, hB⟩ := whN_pre t ps (h := h + 1) (n := t.at'.length) (by omega)
  have e : t.wh ps = t.whN ps h ++ (h : Int) :: B := by
    unfold Tb.wh
    rw [hB, Tb.whN_more, if_pos hh, List.append_assoc]
    rfl
  rw [e]
  refine ⟨by simp, ?_⟩
  simp [List.getD]
theorem wh_nil (t : Tb) : t.wh [] = [] := by
  unfold Tb.wh Tb.whN
  rw [List.filter_eq_nil_iff]
  intro x _
  simp [Tb.hit]
/-- A table and two rows of numbers, all apart. -/
structure Lw (w0 w : World) (b : Nat) (F : Ft) (t : Tb) (va : Value) (Y : List Int) (vg : Value) (A : List Int) : Prop where
  lz : Lz w0 w b F t
  ra : RoN w w0.heap.size va Y
  rg : RoN w w0.heap.size vg A
  aa : Apt F (ftV va)
  ag : Apt (ftV va) (ftV vg)
section
variable {w0 w w' : World} {b : Nat} {F F' G : Ft} {t t' : Tb} {va vg : Value} {Y A : List Int}
theorem Lw.below (h : Lw w0 w b F t va Y vg A) (hb : Below w.heap.size w w') : Lw w0 w' b F t va Y vg A := ⟨h.lz.below hb, h.ra.below hb, h.rg.below hb, h.aa, h.ag⟩
theorem Lw.set {p cap k : Nat} {y : Int} (h : Lw w0 w b F t (.slice (some ⟨p, 0, none⟩) Y.length cap) Y vg A) (hs : RoN (w.setCell ⟨p, k, none⟩ (.int .i64 y)) w0.heap.size (.slice (some ⟨p, 0, none⟩) Y.length cap) (Y.set k y)) : Lw w0 (w.setCell ⟨p, k, none⟩ (.int .i64 y)) b F t (.slice (some ⟨p, 0, none⟩) Y.length cap) (Y.set k y) vg A := by
  have hl := h.ra.lt p rfl
  refine ⟨h.lz.keeps (Chg.set w p k _) (fun j e1 e2 => h.aa j e2 (by rw [e1]; rfl)) (fun j e => by rw [e]; exact hl.1), hs, own_keeps h.rg (Chg.set w p k _) (fun j e1 e2 => h.ag j (by rw [e1]; rfl) e2), h.aa, h.ag⟩
theorem Lw.more {w1 : World} {o : Obj} {v' : Value} {news : List Int} (h : Lw w0 w b F t va Y vg A) (ho : RoN w1 w0.heap.size v' (Y ++ news)) (hg : (w.alloc o).grownBy w1 va.ownBlock) : Lz w0 w1 b F t ∧ RoN w1 w0.heap.size vg A := by
  have hc := chg_append hg
  exact ⟨h.lz.keeps hc (fun k e1 e2 => h.aa k e2 e1) (fun k e => (h.ra.lt k e).1), own_keeps h.rg hc (fun k e1 e2 => h.ag k e1 e2)⟩
end
end Go.Proofs.Ytknijloificpmaa
