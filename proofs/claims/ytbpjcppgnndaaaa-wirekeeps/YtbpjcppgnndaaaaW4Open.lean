/-
  An argument that is a module, opened: its two slices read as numbers and as instructions; how many bytes they take. No condition.
-/
import Derived.Test.YtbpjcppgnndaaaaW4Form
import Derived.Test.YtbpjcppgnndaaaaO2Open
import Derived.ProofKit
namespace Go.Proofs.Ytbpjcppgnndaaaa
open Go.ChangeShapes Go.WideShapes Go.ChangeAt Go.RowKit
set_option linter.unusedVariables false
set_option maxRecDepth 100000

theorem lits_len {H : Type} (k : IntKind) (zs : List Int) : (lits (H := H) k zs).length = zs.length := by
  induction zs with
  | nil => rfl
  | cons z r ih =>
    show (DataW.lit (.int k z) :: lits k r).length = _
    rw [List.length_cons, ih, List.length_cons]
theorem slice_of_trod {H : Type} {enc : TypeId × Value → H} {W : World} {base fuel : Nat} {sp : Nat → Bool} {held : Bool} {t e : TypeId} {c : Value} {x : DataW H × List MemPlace} (ht : Try.prog.underlying t = some (.slice e)) (h : DataW.trod enc Try.prog W base sp held fuel t [c] = some x) : ∃ a len cap, c = .slice a len cap := by
  rcases DataW.trod_slice ht h with ⟨hcs, _⟩ | ⟨y, l, c', elems, rest, n, _, hcs, _⟩
  · simp at hcs; exact ⟨_, _, _, hcs⟩
  · simp at hcs; exact ⟨_, _, _, hcs⟩
/-- A slice of integers as an argument, with the bytes that it takes. -/
theorem sees_open_sh {H : Type} {enc : TypeId × Value → H} {W : World} {t e : TypeId} {k : IntKind} {v : Value} {d : DataW H} {p : List MemPlace} (ht : Try.prog.underlying t = some (.slice e)) (he : Try.prog.underlying e = some (.int k)) (hc : Try.prog.cellsOf e = 1)
    (hsh : ∃ a len cap, v = .slice a len cap) (h : DataW.Trod enc Try.prog W 0 (fun _ => true) true t v d p) : ∃ xs, Sees k W v xs ∧ ((d.weights Try.prog t).all (· ≤ reachBytes) = true → xs.length * Try.prog.bytesOf e ≤ reachBytes) := by
  obtain ⟨a, len, cap, rfl⟩ := hsh
  have lt : ∀ x ∈ p, x.block < W.heap.size := by obtain ⟨m, hm⟩ := h; exact DataW.trod_lt m _ _ _ hm
  obtain ⟨fuel, hf⟩ := h
  rcases open_ints ht he hc hf with ⟨hcs, hx⟩ | ⟨x, l, c, zs, hcs, _, hl, hm, hz, hx, hcell, hwz⟩
  · simp [Value.cells] at hcs hx
    obtain ⟨rfl, rfl, rfl⟩ := hcs
    obtain ⟨rfl, rfl⟩ := hx
    exact ⟨[], ⟨none, 0, rfl, by simp, by simp [maxLen], fun _ => rfl, by simp, fun h => absurd rfl h⟩, by simp⟩
  · simp [Value.cells] at hcs hx
    obtain ⟨rfl, rfl, rfl⟩ := hcs
    obtain ⟨rfl, rfl⟩ := hx
    have hz : zs.length = cap := by simpa using hz
    have hlen : (zs.take len).length = len := by simp; omega
    refine ⟨zs.take len, ⟨some x, cap, by rw [hlen], by omega, hm, fun h => by simp at h, fun y hy => hwz y (List.mem_of_mem_take hy), fun hne => ?_⟩, ?_⟩
    · have hlt : 0 < len := by
        rcases Nat.eq_zero_or_pos len with h0 | h0
        · subst h0; exact absurd rfl hne
        · exact h0
      have h0 := hcell 0 (by omega)
      obtain ⟨b, off, spot⟩ := x
      have hspot : spot = none := by simpa [Addr.add] using World.cell?_spot h0
      subst hspot
      refine ⟨b, off, rfl, lt (.cell b off) ?_, fun i hi => ?_⟩
      · simp [MemPlace.row]; omega
      · have := hcell i (by omega)
        rw [add_none] at this
        rw [this]
        have : i < zs.length := by omega
        rw [hlen] at hi
        simp [List.getD, hi]
    · intro hall
      rw [DataW.weights, ht] at hall
      simp only [List.all_cons, Bool.and_eq_true, decide_eq_true_eq] at hall
      have h1 := hall.1
      rw [lits_len, lits_len, hlen] at h1
      rw [hlen]
      exact Nat.le_trans (Nat.mul_le_mul_right _ (Nat.le_add_right _ _)) h1
theorem opens_Inst_sh {H : Type} {enc : TypeId × Value → H} {W : World} {v : Value} {d : DataW H} {p : List MemPlace}
    (hsh : ∃ a len cap, v = .slice a len cap) (h : DataW.Trod enc Try.prog W 0 (fun _ => true) true 23 v d p) :
    ∃ xs, (SeesI W v xs ∧ ∀ i ∈ xs, i.wf) ∧ 6 * xs.length < Rows.uptoBulk d ∧ ((d.weights Try.prog 23).all (· ≤ reachBytes) = true → xs.length * 40 ≤ 140737488355328) := by
  obtain ⟨a, len, cap, rfl⟩ := hsh
  have c5 : Try.prog.cellsOf 45 = 5 := by kernel_rfl
  obtain ⟨fuel, hf⟩ := h
  rcases DataW.trod_slice Try.underlying23 hf with ⟨hcs, hx⟩ | ⟨x, l, c, elems, rest, n, rfl, hcs, hx, _, hl, hm, hlen, hel, hsp, _⟩
  · simp [Value.cells] at hcs hx
    obtain ⟨rfl, rfl, rfl⟩ := hcs
    obtain ⟨rfl, rfl⟩ := hx
    exact ⟨[], ⟨⟨none, 0, rfl, by simp, by simp [maxLen], fun _ => rfl, fun h => absurd rfl h⟩, by simp⟩, by simp [Rows.uptoBulk], fun _ => by simp⟩
  · simp [Value.cells] at hcs hx
    obtain ⟨rfl, rfl, rfl⟩ := hcs
    obtain ⟨rfl, rfl⟩ := hx
    have hex : ∀ i : Nat, ∃ I : In, i < len → I.wf ∧ (∀ j, j < 5 → W.cell? ((x.add (i * 5)).add j) = I.cells[j]?) ∧ (elems.map (·.1))[i]? = some I.data := by
      intro i
      by_cases hi : i < len
      · have h1 := hel i hi
        have hie : i < elems.length := by omega
        rw [c5, List.getElem?_eq_getElem hie, Option.bind_eq_some_iff] at h1
        obtain ⟨cs, hc1, hc2⟩ := h1
        obtain ⟨I, rfl, hw, hx⟩ := inst_cells hc2
        refine ⟨I, fun _ => ⟨hw, (World.cells?_some hc1).2.2, ?_⟩⟩
        rw [List.getElem?_map, List.getElem?_eq_getElem hie, hx]
        rfl
      · exact ⟨In.nil, fun h => absurd h hi⟩
    obtain ⟨g, hg⟩ := Classical.axiomOfChoice hex
    have hxl : ((List.range len).map g).length = len := by simp
    have hgd : ∀ k, k < len → ((List.range len).map g).getD k In.nil = g k := fun k hk => by simp [List.getD, hk]
    refine ⟨(List.range len).map g, ⟨⟨some x, cap, by rw [hxl], by omega, hm, fun h => by simp at h, fun hne => ?_⟩, ?_⟩, ?_, ?_⟩
    · have hpos : 0 < len := by
        rcases Nat.eq_zero_or_pos len with h0 | h0
        · subst h0; exact absurd rfl hne
        · exact h0
      obtain ⟨b, off, spot⟩ := x
      have h00 := (hg 0 hpos).2.1 0 (by omega)
      have hspot : spot = none := by
        have := World.cell?_spot (show W.cell? _ = some _ from h00)
        simpa [Addr.add] using this
      subst hspot
      refine ⟨b, off, rfl, ?_, fun k hk => ?_⟩
      · have := World.block_lt_of_cell? W _ (show W.cell? _ = some _ from h00)
        simpa [Addr.add] using this
      · rw [hxl] at hk
        rw [hgd k hk]
        have h5 := (hg k hk).2.1
        simp only [Addr.add_mid] at h5
        exact ⟨h5 0 (by omega), h5 1 (by omega), h5 2 (by omega), h5 3 (by omega), h5 4 (by omega)⟩
    · intro i hi
      simp only [List.mem_map, List.mem_range] at hi
      obtain ⟨k, hk, rfl⟩ := hi
      exact (hg k hk).1
    · have hd : elems.map (·.1) = (List.range len).map fun k => (g k).data := by
        apply List.ext_getElem?
        intro k
        by_cases hk : k < len
        · rw [(hg k hk).2.2]; simp [hk]
        · rw [List.getElem?_eq_none (by simp; omega), List.getElem?_eq_none (by simp; omega)]
      rw [hd, hxl]
      have hb : ∀ l : List Nat, Rows.uptoBulkAll (H := H) (l.map fun k => (g k).data) = 6 * l.length := by
        intro l
        induction l with
        | nil => rfl
        | cons k l ih => simp only [List.map_cons, Rows.uptoBulkAll, ih, Rows.uptoBulk, List.length_cons]; omega
      simp only [Rows.uptoBulk, hb, List.length_range]
      omega
    · intro hall
      have b40 : Try.prog.bytesOf 45 = 40 := by kernel_rfl
      rw [DataW.weights, Try.underlying23] at hall
      simp only [List.all_cons, Bool.and_eq_true, decide_eq_true_eq, List.length_map, b40] at hall
      have h1 := hall.1
      unfold reachBytes at h1
      rw [hxl]
      omega
/-- A module as an argument. -/
theorem open_Module {H : Type} {enc : TypeId × Value → H} {W : World} {base : Nat} {v : Value} {d : DataW H} {p : List MemPlace}
    (hok : Value.okWide Try.prog W .any base 25 v) (h : DataW.Trod enc Try.prog W 0 (fun _ => true) true 25 v d p) :
    ∃ vm vc ms is, v = modV vm vc ∧ SeesM W vm vc ms is ∧ ((d.weights Try.prog 25).all (· ≤ reachBytes) = true → ms.length * 8 ≤ 140737488351232 ∧ is.length * 40 ≤ 140737488355328) := by
  obtain ⟨cs, rfl, _⟩ := okWide_struct Try.underlying25 hok
  obtain ⟨fuel, hf⟩ := h
  obtain ⟨xs, n, _, hx, hl, hlen, hf⟩ := DataW.trod_struct Try.underlying25 hf
  have e2 : Try.prog.cellsOf 25 = 2 := by kernel_rfl
  have l2 : cs.toList.length = 2 := hl.trans e2
  have u1 : Try.prog.cellsOf 22 = 1 := by kernel_rfl
  have u2 : Try.prog.cellsOf 23 = 1 := by kernel_rfl
  obtain ⟨cl⟩ := cs
  simp only [Value.cells] at hf l2
  match cl, l2, xs, hlen, hf with
  | [c0, c1], _, [x0, x1], _, hf =>
    have h0 : DataW.trod enc Try.prog W 0 (fun _ => true) true n 22 (([c0, c1].drop 0).take (Try.prog.cellsOf 22)) = some x0 := hf 0 _ rfl
    rw [u1] at h0
    have h1 : DataW.trod enc Try.prog W 0 (fun _ => true) true n 23 (([c0, c1].drop 1).take (Try.prog.cellsOf 23)) = some x1 := hf 1 _ rfl
    rw [u2] at h1
    have h0 : DataW.trod enc Try.prog W 0 (fun _ => true) true n 22 [c0] = some x0 := h0
    have h1 : DataW.trod enc Try.prog W 0 (fun _ => true) true n 23 [c1] = some x1 := h1
    obtain ⟨a0, l0, k0, rfl⟩ := slice_of_trod Try.underlying22 h0
    obtain ⟨a1, l1, k1, rfl⟩ := slice_of_trod Try.underlying23 h1
    obtain ⟨ms, s0, z0⟩ := sees_open_sh (k := .i64) (d := x0.1) (p := x0.2) Try.underlying22 Try.underlying3 (by kernel_rfl) ⟨_, _, _, rfl⟩ ⟨n, h0⟩
    obtain ⟨is, ⟨s1, w1⟩, _, z1⟩ := opens_Inst_sh (d := x1.1) (p := x1.2) ⟨_, _, _, rfl⟩ ⟨n, h1⟩
    refine ⟨_, _, ms, is, rfl, ⟨s0, s1, w1⟩, fun hall => ?_⟩
    have hd : d = .agg [x0.1, x1.1] := congrArg (·.1) hx
    rw [hd, DataW.weights, Try.underlying25] at hall
    simp only [DataW.weightsEach, List.map_cons, List.map_nil, List.all_append, Bool.and_eq_true] at hall
    have b8 : Try.prog.bytesOf 3 = 8 := by kernel_rfl
    have r0 := z0 hall.1
    rw [b8] at r0
    exact ⟨by unfold reachBytes at r0; omega, z1 hall.2.1⟩
end Go.Proofs.Ytbpjcppgnndaaaa
