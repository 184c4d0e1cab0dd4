
/-
  Arguments that are entries, opened, with how many values they hold. No condition.
-/
import Derived.Test.YtbfbfbbpajaclaaDoorMB32
namespace Go.Proofs.YtbfbfbbpajaclaaDoor
open Go.ChangeShapes Go.WideShapes Go.ChangeAt Go.RowKit
set_option linter.unusedVariables false
set_option linter.unusedSimpArgs false
set_option maxRecDepth 100000
theorem bulk_pos26 {H : Type} (d : DataW H) : 1 ≤ Rows.uptoBulk d := by
  cases d <;> first | (rename_i l; cases l <;> simp [Rows.uptoBulk]; done) | (simp [Rows.uptoBulk]; done) | (simp only [Rows.uptoBulk]; omega)
theorem bulkAll_len26 {H : Type} : ∀ l : List (DataW H), l.length ≤ Rows.uptoBulkAll l
  | [] => by simp
  | d :: r => by
    have := bulk_pos26 d
    have := bulkAll_len26 r
    rw [Rows.uptoBulkAll, List.length_cons]
    omega
theorem opens_EnU {H : Type} {enc : TypeId × Value → H} {W : World} {base : Nat} {v : Value} {d : DataW H} {p : List MemPlace}
    (hok : Value.okWide Tryd.prog W .any base 22 v) (h : DataW.Trod enc Tryd.prog W 0 (fun _ => true) true 22 v d p) :
    ∃ xs, SeesG enC 22 En.nil W v xs ∧ (∀ x ∈ xs, x.wf) ∧ xs.length ≤ Rows.uptoBulk d := by
  obtain ⟨xs, h1, h2, _⟩ := opens_En hok h
  refine ⟨xs, h1, h2, ?_⟩
  obtain ⟨a, cap, rfl, _, _⟩ := h1.shape
  obtain ⟨fuel, hf⟩ := h
  rcases DataW.trod_slice Tryd.underlying22 hf with ⟨hcs, hx⟩ | ⟨x, l, c, elems, rest, n, rfl, hcs, hx, _, hl, hm, hlen, hel, hsp, _⟩
  · simp [Value.cells] at hcs hx
    obtain ⟨_, hn, _⟩ := hcs
    simp [hn]
  · simp [Value.cells] at hcs hx
    obtain ⟨_, hn, _⟩ := hcs
    obtain ⟨rfl, _⟩ := hx
    have := bulkAll_len26 (elems.map (·.1))
    rw [List.length_map] at this
    rw [Rows.uptoBulk]
    omega
end Go.Proofs.YtbfbfbbpajaclaaDoor
