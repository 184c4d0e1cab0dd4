
/-
  An argument that is an instruction, or a slice of them, opened. No condition.
-/
import Derived.Test.YtkcofelpndlplaaML8
import Derived.Deep.MidRow
import Derived.ProofKit
namespace Go.Proofs.Ytkcofelpndlplaa
open Go.ChangeShapes Go.WideShapes Go.ChangeAt Go.RowKit
set_option linter.unusedVariables false
set_option maxRecDepth 100000

abbrev In.cells (i : In) : List Value := [.int .i64 i.op, .int .i64 i.d, .int .i64 i.a, .int .i64 i.b, .int .i64 i.imm]
abbrev In.data {H : Type} (i : In) : DataW H := .agg [.lit (.int .i64 i.op), .lit (.int .i64 i.d), .lit (.int .i64 i.a), .lit (.int .i64 i.b), .lit (.int .i64 i.imm)]
/-- Five cells that read as an instruction. -/
theorem inst_cells {H : Type} {enc : TypeId × Value → H} {W : World} {base fuel : Nat} {sp : Nat → Bool} {held : Bool} {cs : List Value} {x : DataW H × List MemPlace}
    (h : DataW.trod enc Try.prog W base sp held fuel 42 cs = some x) : ∃ i : In, cs = i.cells ∧ i.wf ∧ x = (i.data, []) := by
  obtain ⟨xs, n, rfl, hx, hl, hlen, hf⟩ := DataW.trod_struct Try.underlying42 h
  have l5 : cs.length = 5 := by rw [hl]; kernel_rfl
  have u1 : Try.prog.cellsOf 40 = 1 := by kernel_rfl
  have u2 : Try.prog.cellsOf 3 = 1 := by kernel_rfl
  have u3 : Try.prog.cellsOf 2 = 1 := by kernel_rfl
  match cs, l5, xs, hlen, hf with
  | [c0, c1, c2, c3, c4], _, [x0, x1, x2, x3, x4], _, hf =>
    have h0 : DataW.trod enc Try.prog W base sp held n 40 (([c0, c1, c2, c3, c4].drop 0).take (Try.prog.cellsOf 40)) = some x0 := hf 0 _ rfl
    rw [u1] at h0
    have h1 : DataW.trod enc Try.prog W base sp held n 3 (([c0, c1, c2, c3, c4].drop 1).take (Try.prog.cellsOf 3)) = some x1 := hf 1 _ rfl
    rw [u2] at h1
    have h2 : DataW.trod enc Try.prog W base sp held n 3 (([c0, c1, c2, c3, c4].drop 2).take (Try.prog.cellsOf 3)) = some x2 := hf 2 _ rfl
    rw [u2] at h2
    have h3 : DataW.trod enc Try.prog W base sp held n 3 (([c0, c1, c2, c3, c4].drop 3).take (Try.prog.cellsOf 3)) = some x3 := hf 3 _ rfl
    rw [u2] at h3
    have h4 : DataW.trod enc Try.prog W base sp held n 2 (([c0, c1, c2, c3, c4].drop 4).take (Try.prog.cellsOf 2)) = some x4 := hf 4 _ rfl
    rw [u3] at h4
    obtain ⟨op, e0, y0, g0⟩ := DataW.trod_int Try.underlying40 h0
    obtain ⟨d, e1, y1, g1⟩ := DataW.trod_int Try.underlying3 h1
    obtain ⟨a, e2, y2, g2⟩ := DataW.trod_int Try.underlying3 h2
    obtain ⟨b, e3, y3, g3⟩ := DataW.trod_int Try.underlying3 h3
    obtain ⟨imm, e4, y4, g4⟩ := DataW.trod_int Try.underlying2 h4
    simp at e0 e1 e2 e3 e4
    subst e0 e1 e2 e3 e4 y0 y1 y2 y3 y4
    exact ⟨⟨op, d, a, b, imm⟩, rfl, ⟨g0, g1, g2, g3, g4⟩, hx⟩
theorem open_Inst {H : Type} {enc : TypeId × Value → H} {W : World} {base : Nat} {v : Value} {d : DataW H} {p : List MemPlace}
    (hok : Value.okWide Try.prog W .any base 42 v) (h : DataW.Trod enc Try.prog W 0 (fun _ => true) true 42 v d p) : ∃ i : In, v = i.v ∧ i.wf := by
  obtain ⟨cs, rfl, _⟩ := okWide_struct Try.underlying42 hok
  obtain ⟨fuel, hf⟩ := h
  obtain ⟨i, hi, hw, _⟩ := inst_cells hf
  refine ⟨i, ?_, hw⟩
  have : cs = i.cells.toArray := by
    have h2 : cs.toList = i.cells := by simpa [Value.cells] using hi
    rw [← h2]
  rw [this]
theorem opens_Inst_reach {H : Type} {enc : TypeId × Value → H} {W : World} {base : Nat} {v : Value} {d : DataW H} {p : List MemPlace}
    (hok : Value.okWide Try.prog W .any base 23 v) (h : DataW.Trod enc Try.prog W 0 (fun _ => true) true 23 v d p) :
    ∃ xs, (SeesI W v xs ∧ ∀ i ∈ xs, i.wf) ∧ 6 * xs.length < Rows.uptoBulk d ∧ ((d.weights Try.prog 23).all (· ≤ reachBytes) = true → xs.length * 40 ≤ 140737488351232) := by
  obtain ⟨a, len, cap, rfl⟩ := okWide_slice Try.underlying23 hok
  have c5 : Try.prog.cellsOf 42 = 5 := by kernel_rfl
  obtain ⟨fuel, hf⟩ := h
  rcases DataW.trod_slice Try.underlying23 hf with ⟨hcs, hx⟩ | ⟨x, l, c, elems, rest, n, rfl, hcs, hx, _, hl, hm, hlen, hel, hsp, _⟩
  · simp [Value.cells] at hcs hx
    obtain ⟨rfl, rfl, rfl⟩ := hcs
    obtain ⟨rfl, rfl⟩ := hx
    exact ⟨[], ⟨⟨none, 0, rfl, by simp, by simp [maxLen], fun _ => rfl, fun h => absurd rfl h⟩, by simp⟩, by simp [Rows.uptoBulk], fun _ => by simp⟩
  · simp [Value.cells] at hcs hx
    obtain ⟨rfl, rfl, rfl⟩ := hcs
    obtain ⟨rfl, rfl⟩ := hx
    have hex : ∀ i : Nat, ∃ I : In, i < len → I.wf ∧ (∀ j, j < 5 → W.cell? ((x.add (i * 5)).add j) = I.cells[j]?) ∧ (elems.map (·.1))[i]? = some I.data := by
      intro i
      by_cases hi : i < len
      · have h1 := hel i hi
        have hie : i < elems.length := by omega
        rw [c5, List.getElem?_eq_getElem hie, Option.bind_eq_some_iff] at h1
        obtain ⟨cs, hc1, hc2⟩ := h1
        obtain ⟨I, rfl, hw, hx⟩ := inst_cells hc2
        refine ⟨I, fun _ => ⟨hw, (World.cells?_some hc1).2.2, ?_⟩⟩
        rw [List.getElem?_map, List.getElem?_eq_getElem hie, hx]
        rfl
      · exact ⟨In.nil, fun h => absurd h hi⟩
    obtain ⟨g, hg⟩ := Classical.axiomOfChoice hex
    have hxl : ((List.range len).map g).length = len := by simp
    have hgd : ∀ k, k < len → ((List.range len).map g).getD k In.nil = g k := fun k hk => by simp [List.getD, hk]
    refine ⟨(List.range len).map g, ⟨⟨some x, cap, by rw [hxl], by omega, hm, fun h => by simp at h, fun hne => ?_⟩, ?_⟩, ?_, ?_⟩
    · have hpos : 0 < len := by
        rcases Nat.eq_zero_or_pos len with h0 | h0
        · subst h0; exact absurd rfl hne
        · exact h0
      obtain ⟨b, off, spot⟩ := x
      have h00 := (hg 0 hpos).2.1 0 (by omega)
      have hspot : spot = none := by
        have := World.cell?_spot (show W.cell? _ = some _ from h00)
        simpa [Addr.add] using this
      subst hspot
      refine ⟨b, off, rfl, ?_, fun k hk => ?_⟩
      · have := World.block_lt_of_cell? W _ (show W.cell? _ = some _ from h00)
        simpa [Addr.add] using this
      · rw [hxl] at hk
        rw [hgd k hk]
        have h5 := (hg k hk).2.1
        simp only [Addr.add_mid] at h5
        exact ⟨h5 0 (by omega), h5 1 (by omega), h5 2 (by omega), h5 3 (by omega), h5 4 (by omega)⟩
    · intro i hi
      simp only [List.mem_map, List.mem_range] at hi
      obtain ⟨k, hk, rfl⟩ := hi
      exact (hg k hk).1
    · have hd : elems.map (·.1) = (List.range len).map fun k => (g k).data := by
        apply List.ext_getElem?
        intro k
        by_cases hk : k < len
        · rw [(hg k hk).2.2]; simp [hk]
        · rw [List.getElem?_eq_none (by simp; omega), List.getElem?_eq_none (by simp; omega)]
      rw [hd, hxl]
      have hb : ∀ l : List Nat, Rows.uptoBulkAll (H := H) (l.map fun k => (g k).data) = 6 * l.length := by
        intro l
        induction l with
        | nil => rfl
        | cons k l ih => simp only [List.map_cons, Rows.uptoBulkAll, ih, Rows.uptoBulk, List.length_cons]; omega
      simp only [Rows.uptoBulk, hb, List.length_range]
      omega
    · intro hall
      have b40 : Try.prog.bytesOf 42 = 40 := by kernel_rfl
      rw [DataW.weights, Try.underlying23] at hall
      simp only [List.all_cons, Bool.and_eq_true, decide_eq_true_eq, List.length_map, b40] at hall
      have h1 := hall.1
      unfold reachBytes at h1
      rw [hxl]
      omega
theorem opens_Inst {H : Type} {enc : TypeId × Value → H} {W : World} {base : Nat} {v : Value} {d : DataW H} {p : List MemPlace}
    (hok : Value.okWide Try.prog W .any base 23 v) (h : DataW.Trod enc Try.prog W 0 (fun _ => true) true 23 v d p) :
    ∃ xs, (SeesI W v xs ∧ ∀ i ∈ xs, i.wf) ∧ 6 * xs.length < Rows.uptoBulk d ∧ ((d.weights Try.prog 23).all (· ≤ reachBytes) = true → xs.length * 40 ≤ 140737488355328) := by
  obtain ⟨xs, h1, h2, h3⟩ := opens_Inst_reach hok h
  exact ⟨xs, h1, h2, fun hall => Nat.le_trans (h3 hall) (by decide)⟩
end Go.Proofs.Ytkcofelpndlplaa
