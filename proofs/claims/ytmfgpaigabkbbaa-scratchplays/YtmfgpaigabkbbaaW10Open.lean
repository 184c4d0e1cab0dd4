
/-
  An argument that is a script of calls, opened. No condition.
-/
import Derived.Test.YtmfgpaigabkbbaaW10Plays
import Derived.ProofKit
namespace Go.Proofs.Ytmfgpaigabkbbaa
open Go.ChangeShapes Go.WideShapes Go.ChangeAt Go.RowKit
set_option linter.unusedVariables false
set_option maxRecDepth 100000

theorem slice_of_trod10 {H : Type} {enc : TypeId × Value → H} {W : World} {base fuel : Nat} {sp : Nat → Bool} {held : Bool} {t e : TypeId} {c : Value} {x : DataW H × List MemPlace} (ht : Try.prog.underlying t = some (.slice e)) (h : DataW.trod enc Try.prog W base sp held fuel t [c] = some x) : ∃ a len cap, c = .slice a len cap := by
  rcases DataW.trod_slice ht h with ⟨hcs, _⟩ | ⟨y, l, c', elems, rest, n, _, hcs, _⟩
  · simp at hcs; exact ⟨_, _, _, hcs⟩
  · simp at hcs; exact ⟨_, _, _, hcs⟩
abbrev Cl.cells (i : Cl) : List Value := [.int .i64 i.k, .int .i64 i.on, .int .i64 i.a, .int .u64 i.n, i.u]
/-- Five cells that read as a call. -/
theorem call_cells {H : Type} {enc : TypeId × Value → H} {W : World} {fuel : Nat} {cs : List Value} {x : DataW H × List MemPlace}
    (h : DataW.trod enc Try.prog W 0 (fun _ => true) true fuel 35 cs = some x) : ∃ i : Cl, cs = i.cells ∧ Sees .u64 W i.u i.xs ∧ ((x.1.weights Try.prog 35).all (· ≤ reachBytes) = true → i.xs.length * 8 ≤ 219902325555200) := by
  obtain ⟨xs, n, rfl, hx, hl, hlen, hf⟩ := DataW.trod_struct Try.underlying35 h
  have l5 : cs.length = 5 := by rw [hl]; kernel_rfl
  have u2 : Try.prog.cellsOf 3 = 1 := by kernel_rfl
  have u3 : Try.prog.cellsOf 32 = 1 := by kernel_rfl
  have u4 : Try.prog.cellsOf 33 = 1 := by kernel_rfl
  match cs, l5, xs, hlen, hf with
  | [c0, c1, c2, c3, c4], _, [x0, x1, x2, x3, x4], _, hf =>
    have h0 : DataW.trod enc Try.prog W 0 (fun _ => true) true n 3 (([c0, c1, c2, c3, c4].drop 0).take (Try.prog.cellsOf 3)) = some x0 := hf 0 _ rfl
    rw [u2] at h0
    have h1 : DataW.trod enc Try.prog W 0 (fun _ => true) true n 3 (([c0, c1, c2, c3, c4].drop 1).take (Try.prog.cellsOf 3)) = some x1 := hf 1 _ rfl
    rw [u2] at h1
    have h2 : DataW.trod enc Try.prog W 0 (fun _ => true) true n 3 (([c0, c1, c2, c3, c4].drop 2).take (Try.prog.cellsOf 3)) = some x2 := hf 2 _ rfl
    rw [u2] at h2
    have h3 : DataW.trod enc Try.prog W 0 (fun _ => true) true n 32 (([c0, c1, c2, c3, c4].drop 3).take (Try.prog.cellsOf 32)) = some x3 := hf 3 _ rfl
    rw [u3] at h3
    have h4 : DataW.trod enc Try.prog W 0 (fun _ => true) true n 33 (([c0, c1, c2, c3, c4].drop 4).take (Try.prog.cellsOf 33)) = some x4 := hf 4 _ rfl
    rw [u4] at h4
    have h4 : DataW.trod enc Try.prog W 0 (fun _ => true) true n 33 [c4] = some x4 := h4
    obtain ⟨k, e0, y0, g0⟩ := DataW.trod_int Try.underlying3 h0
    obtain ⟨on, e1, y1, g1⟩ := DataW.trod_int Try.underlying3 h1
    obtain ⟨a, e2, y2, g2⟩ := DataW.trod_int Try.underlying3 h2
    obtain ⟨m, e3, y3, g3⟩ := DataW.trod_int Try.underlying32 h3
    simp at e0 e1 e2 e3
    subst e0 e1 e2 e3 y0 y1 y2 y3
    obtain ⟨ua, ul, uc, rfl⟩ := slice_of_trod10 Try.underlying33 h4
    obtain ⟨zs, sz, bz⟩ := sees_open_sh (k := .u64) (d := x4.1) (p := x4.2) Try.underlying33 Try.underlying32 (by kernel_rfl) ⟨_, _, _, rfl⟩ ⟨n, h4⟩
    refine ⟨⟨k, on, a, m, _, zs⟩, rfl, sz, fun hall => ?_⟩
    rw [hx, DataW.weights, Try.underlying35] at hall
    simp only [DataW.weightsEach, List.map_cons, List.map_nil, List.all_append, Bool.and_eq_true] at hall
    have b8 : Try.prog.bytesOf 32 = 8 := by kernel_rfl
    have r0 := bz hall.2.2.2.2.1
    rw [b8] at r0
    unfold reachBytes at r0
    show zs.length * 8 ≤ _
    omega
theorem weights_each {H : Type} {P : Program} {e : TypeId} {f : Nat → Bool} : ∀ (l : List (DataW H)) {i : Nat} {y : DataW H}, l[i]? = some y → (DataW.weightsAll P e l).all f = true → (DataW.weights P e y).all f = true
  | [], i, y, h, _ => by simp at h
  | d :: r, 0, y, h, ha => by
    simp only [List.getElem?_cons_zero, Option.some.injEq] at h
    subst h
    rw [DataW.weightsAll, List.all_append, Bool.and_eq_true] at ha
    exact ha.1
  | d :: r, i + 1, y, h, ha => by
    rw [DataW.weightsAll, List.all_append, Bool.and_eq_true] at ha
    exact weights_each r (by simpa using h) ha.2
theorem opens_Op {H : Type} {enc : TypeId × Value → H} {W : World} {base : Nat} {v : Value} {d : DataW H} {p : List MemPlace}
    (hok : Value.okWide Try.prog W .any base 22 v) (h : DataW.Trod enc Try.prog W 0 (fun _ => true) true 22 v d p) :
    ∃ os, (d.weights Try.prog 22).all (· ≤ reachBytes) = true → SeesC W v os := by
  obtain ⟨a, len, cap, rfl⟩ := okWide_slice Try.underlying22 hok
  have c5 : Try.prog.cellsOf 35 = 5 := by kernel_rfl
  obtain ⟨fuel, hf⟩ := h
  rcases DataW.trod_slice Try.underlying22 hf with ⟨hcs, hx⟩ | ⟨x, l, c, elems, rest, n, rfl, hcs, hx, _, hl, hm, hlen, hel, hsp, _⟩
  · simp [Value.cells] at hcs hx
    obtain ⟨rfl, rfl, rfl⟩ := hcs
    obtain ⟨rfl, rfl⟩ := hx
    exact ⟨[], fun _ => ⟨none, 0, rfl, by simp, by simp [maxLen], fun h => absurd rfl h⟩⟩
  · simp [Value.cells] at hcs hx
    obtain ⟨rfl, rfl, rfl⟩ := hcs
    obtain ⟨rfl, rfl⟩ := hx
    have hex : ∀ i : Nat, ∃ I : Cl, i < len → (∀ j, j < 5 → W.cell? ((x.add (i * 5)).add j) = I.cells[j]?) ∧ Sees .u64 W I.u I.xs ∧ ∃ y, elems[i]? = some y ∧ ((y.1.weights Try.prog 35).all (· ≤ reachBytes) = true → I.xs.length * 8 ≤ 219902325555200) := by
      intro i
      by_cases hi : i < len
      · have h1 := hel i hi
        have hie : i < elems.length := by omega
        rw [c5, List.getElem?_eq_getElem hie, Option.bind_eq_some_iff] at h1
        obtain ⟨cs, hc1, hc2⟩ := h1
        obtain ⟨I, rfl, hw, hb⟩ := call_cells hc2
        exact ⟨I, fun _ => ⟨(World.cells?_some hc1).2.2, hw, _, List.getElem?_eq_getElem hie, hb⟩⟩
      · exact ⟨Cl.nil, fun h => absurd h hi⟩
    obtain ⟨g, hg⟩ := Classical.axiomOfChoice hex
    have hxl : ((List.range len).map g).length = len := by simp
    have hgd : ∀ k, k < len → ((List.range len).map g).getD k Cl.nil = g k := fun k hk => by simp [List.getD, hk]
    refine ⟨(List.range len).map g, fun hall => ⟨some x, cap, by rw [hxl], by omega, hm, fun hne => ?_⟩⟩
    have hpos : 0 < len := by
      rcases Nat.eq_zero_or_pos len with h0 | h0
      · subst h0; exact absurd rfl hne
      · exact h0
    obtain ⟨b, off, spot⟩ := x
    have h00 := (hg 0 hpos).1 0 (by omega)
    have hspot : spot = none := by
      have := World.cell?_spot (show W.cell? _ = some _ from h00)
      simpa [Addr.add] using this
    subst hspot
    refine ⟨b, off, rfl, ?_, fun k hk => ?_⟩
    · have := World.block_lt_of_cell? W _ (show W.cell? _ = some _ from h00)
      simpa [Addr.add] using this
    · rw [hxl] at hk
      rw [hgd k hk]
      obtain ⟨h5, hs, y, hy, hb⟩ := hg k hk
      simp only [Addr.add_mid] at h5
      refine ⟨h5 0 (by omega), h5 1 (by omega), h5 2 (by omega), h5 3 (by omega), h5 4 (by omega), hs, hb ?_⟩
      rw [DataW.weights, Try.underlying22] at hall
      simp only [List.all_cons, List.all_append, Bool.and_eq_true] at hall
      exact weights_each (elems.map (·.1)) (i := k) (by rw [List.getElem?_map, hy]; rfl) hall.2.1
end Go.Proofs.Ytmfgpaigabkbbaa
