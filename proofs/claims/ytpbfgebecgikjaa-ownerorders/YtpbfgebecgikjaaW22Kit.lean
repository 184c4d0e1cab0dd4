
/-
  What the laws of layer 22 share: shapes, requests and scripts, opened. No condition.
-/
import Derived.Test.YtpbfgebecgikjaaO22LE
import Derived.Test.YtpbfgebecgikjaaGOpenW
namespace Go.Proofs.Ytpbfgebecgikjaa
open Go.ChangeShapes Go.WideShapes Go.ChangeAt Go.RowKit
set_option linter.unusedVariables false
set_option linter.unusedSimpArgs false
set_option maxRecDepth 100000

theorem dfC_len (e : Int × Int) : (dfC e).length = 2 := rfl
theorem df_cells {H : Type} {enc : TypeId × Value → H} {W : World} {fuel : Nat} {cs : List Value} {x : DataW H × List MemPlace}
    (h : DataW.trod enc Try.prog W 0 (fun _ => true) true fuel 74 cs = some x) : ∃ e : Int × Int, cs = dfC e ∧ True ∧ ((x.1.weights Try.prog 74).all (· ≤ reachBytes) = true → True) := by
  obtain ⟨xs, n, rfl, hx, hl, hlen, hf⟩ := DataW.trod_struct Try.underlying74 h
  have l5 : cs.length = 2 := by rw [hl]; kernel_rfl
  have u2 : Try.prog.cellsOf 3 = 1 := by kernel_rfl
  have u3 : Try.prog.cellsOf 72 = 1 := by kernel_rfl
  match cs, l5, xs, hlen, hf with
  | [c0, c1], _, [x0, x1], _, hf =>
    have h0 : DataW.trod enc Try.prog W 0 (fun _ => true) true n 72 (([c0, c1].drop 0).take (Try.prog.cellsOf 72)) = some x0 := hf 0 _ rfl
    have h1 : DataW.trod enc Try.prog W 0 (fun _ => true) true n 3 (([c0, c1].drop 1).take (Try.prog.cellsOf 3)) = some x1 := hf 1 _ rfl
    rw [u3] at h0
    rw [u2] at h1
    obtain ⟨a, e0, y0, g0⟩ := DataW.trod_int Try.underlying72 h0
    obtain ⟨b, e1, y1, g1⟩ := DataW.trod_int Try.underlying3 h1
    simp at e0 e1
    subst e0 e1
    exact ⟨(a, b), rfl, trivial, fun _ => trivial⟩
theorem wf_u64k {k : Int} (h : (Lit.int .u64 k).wf = true) : 0 ≤ k ∧ k < 18446744073709551616 := by
  simp [Lit.wf, IntKind.min, IntKind.max, IntKind.signed, IntKind.bits] at h
  omega
theorem rt_cells {H : Type} {enc : TypeId × Value → H} {W : World} {fuel : Nat} {cs : List Value} {x : DataW H × List MemPlace}
    (h : DataW.trod enc Try.prog W 0 (fun _ => true) true fuel 45 cs = some x) : ∃ q : Rt, cs = rtC q ∧ q.wf ∧ ((x.1.weights Try.prog 45).all (· ≤ reachBytes) = true → True) := by
  obtain ⟨xs, n, rfl, hx, hl, hlen, hf⟩ := DataW.trod_struct Try.underlying45 h
  have l5 : cs.length = 7 := by rw [hl]; kernel_rfl
  have u2 : Try.prog.cellsOf 3 = 1 := by kernel_rfl
  have u3 : Try.prog.cellsOf 4 = 1 := by kernel_rfl
  have u4 : Try.prog.cellsOf 43 = 4 := by kernel_rfl
  have u5 : Try.prog.cellsOf 40 = 1 := by kernel_rfl
  have u6 : Try.prog.cellsOf 41 = 1 := by kernel_rfl
  match cs, l5, xs, hlen, hf with
  | [c0, c1, c2, c3, c4, c5, c6], _, [x0, x1, x2, x3], _, hf =>
    have h0 : DataW.trod enc Try.prog W 0 (fun _ => true) true n 3 (([c0, c1, c2, c3, c4, c5, c6].drop 0).take (Try.prog.cellsOf 3)) = some x0 := hf 0 _ rfl
    have h1 : DataW.trod enc Try.prog W 0 (fun _ => true) true n 3 (([c0, c1, c2, c3, c4, c5, c6].drop 1).take (Try.prog.cellsOf 3)) = some x1 := hf 1 _ rfl
    have h2 : DataW.trod enc Try.prog W 0 (fun _ => true) true n 4 (([c0, c1, c2, c3, c4, c5, c6].drop 2).take (Try.prog.cellsOf 4)) = some x2 := hf 2 _ rfl
    have h3 : DataW.trod enc Try.prog W 0 (fun _ => true) true n 43 (([c0, c1, c2, c3, c4, c5, c6].drop 3).take (Try.prog.cellsOf 43)) = some x3 := hf 3 _ rfl
    rw [u2] at h0 h1
    rw [u3] at h2
    rw [u4] at h3
    have h3 : DataW.trod enc Try.prog W 0 (fun _ => true) true n 43 [c3, c4, c5, c6] = some x3 := h3
    obtain ⟨y0, e0, z0, _⟩ := DataW.trod_int Try.underlying3 h0
    obtain ⟨y1, e1, z1, _⟩ := DataW.trod_int Try.underlying3 h1
    obtain ⟨y2, e2, _⟩ := DataW.trod_bool Try.underlying4 h2
    simp at e0 e1 e2
    subst e0 e1 e2
    obtain ⟨ys, m, hx', hy, hl2, hlen2, hf2⟩ := DataW.trod_struct Try.underlying43 h3
    match ys, hlen2, hf2 with
    | [i0, i1, i2, i3], _, hf2 =>
      have k0 : DataW.trod enc Try.prog W 0 (fun _ => true) true m 3 (([c3, c4, c5, c6].drop 0).take (Try.prog.cellsOf 3)) = some i0 := hf2 0 _ rfl
      have k1 : DataW.trod enc Try.prog W 0 (fun _ => true) true m 40 (([c3, c4, c5, c6].drop 1).take (Try.prog.cellsOf 40)) = some i1 := hf2 1 _ rfl
      have k2 : DataW.trod enc Try.prog W 0 (fun _ => true) true m 41 (([c3, c4, c5, c6].drop 2).take (Try.prog.cellsOf 41)) = some i2 := hf2 2 _ rfl
      have k3 : DataW.trod enc Try.prog W 0 (fun _ => true) true m 41 (([c3, c4, c5, c6].drop 3).take (Try.prog.cellsOf 41)) = some i3 := hf2 3 _ rfl
      rw [u2] at k0
      rw [u5] at k1
      rw [u6] at k2 k3
      obtain ⟨m0, d0, _, _⟩ := DataW.trod_int Try.underlying3 k0
      obtain ⟨m1, d1, _, _⟩ := DataW.trod_int Try.underlying40 k1
      obtain ⟨m2, d2, _, g2⟩ := DataW.trod_int Try.underlying41 k2
      obtain ⟨m3, d3, _, _⟩ := DataW.trod_int Try.underlying41 k3
      simp at d0 d1 d2 d3
      subst d0 d1 d2 d3
      exact ⟨⟨y0, y1, y2, m0, m1, m2, m3⟩, rfl, wf_u64k g2, fun _ => trivial⟩
/-- Requests that were handed in. -/
structure Rqs (w0 : World) (v : Value) (qs : List Rt) : Prop where
  sees : SeesG rtC 7 Rt.nil w0 v qs
  wf : ∀ q ∈ qs, q.wf
theorem opens_Rt {H : Type} {enc : TypeId × Value → H} {W : World} {base : Nat} {v : Value} {d : DataW H} {p : List MemPlace}
    (hok : Value.okWide Try.prog W .any base 34 v) (h : DataW.Trod enc Try.prog W 0 (fun _ => true) true 34 v d p) :
    ∃ xs, SeesG rtC 7 Rt.nil W v xs ∧ (∀ x ∈ xs, x.wf) ∧ ((d.weights Try.prog 34).all (· ≤ reachBytes) = true → xs.length * 56 ≤ 140737488351232 ∧ ∀ x ∈ xs, True) :=
  opensGW Rt.nil (R := Rt.wf) (Q := fun _ => True) Try.underlying34 (by kernel_rfl) (by decide) rtC_len (by kernel_rfl) rt_cells hok h
/-- A shape: a shard, how many, the maps. -/
abbrev shV (s n : Int) (mv : Value) : Value := .agg #[.int .i64 s, .int .i64 n, mv]
theorem open_Shape {H : Type} {enc : TypeId × Value → H} {W : World} {base : Nat} {v : Value} {d : DataW H} {p : List MemPlace}
    (hok : Value.okWide Try.prog W .any base 24 v) (h : DataW.Trod enc Try.prog W 0 (fun _ => true) true 24 v d p) :
    ∃ s n mv es, v = shV s n mv ∧ SeesG dfC 2 (0, 0) W mv es ∧ ((d.weights Try.prog 24).all (· ≤ reachBytes) = true → es.length * 16 ≤ 140737488351232) := by
  obtain ⟨cs, rfl, _⟩ := okWide_struct Try.underlying24 hok
  obtain ⟨fuel, hf⟩ := h
  obtain ⟨xs, n, hd, hx, hl, hlen, hf⟩ := DataW.trod_struct Try.underlying24 hf
  have l5 : cs.toList.length = 3 := hl.trans (by kernel_rfl)
  have u2 : Try.prog.cellsOf 3 = 1 := by kernel_rfl
  have u4 : Try.prog.cellsOf 22 = 1 := by kernel_rfl
  obtain ⟨cl⟩ := cs
  simp only [Value.cells] at hf l5
  match cl, l5, xs, hlen, hf with
  | [c0, c1, c2], _, [x0, x1, x2], _, hf =>
    have h0 : DataW.trod enc Try.prog W 0 (fun _ => true) true n 3 (([c0, c1, c2].drop 0).take (Try.prog.cellsOf 3)) = some x0 := hf 0 _ rfl
    have h1 : DataW.trod enc Try.prog W 0 (fun _ => true) true n 3 (([c0, c1, c2].drop 1).take (Try.prog.cellsOf 3)) = some x1 := hf 1 _ rfl
    have h2 : DataW.trod enc Try.prog W 0 (fun _ => true) true n 22 (([c0, c1, c2].drop 2).take (Try.prog.cellsOf 22)) = some x2 := hf 2 _ rfl
    rw [u2] at h0 h1
    rw [u4] at h2
    have h2 : DataW.trod enc Try.prog W 0 (fun _ => true) true n 22 [c2] = some x2 := h2
    obtain ⟨a, e0, y0, g0⟩ := DataW.trod_int Try.underlying3 h0
    obtain ⟨b, e1, y1, g1⟩ := DataW.trod_int Try.underlying3 h1
    simp at e0 e1
    subst e0 e1
    obtain ⟨ua, ul, uc, rfl⟩ := slice_of_trod Try.underlying22 h2
    obtain ⟨es, s1, _, s3⟩ := opensGS (f := dfC) (z := 2) (0, 0) (R := fun _ => True) (Q := fun _ => True) (bytes := 16) (d := x2.1) (p := x2.2) Try.underlying22 (by kernel_rfl) (by decide) dfC_len (by kernel_rfl) df_cells ⟨_, _, _, rfl⟩ ⟨n, h2⟩
    refine ⟨a, b, _, es, rfl, s1, fun hall => ?_⟩
    have hd2 : d = .agg (List.map (fun x => x.1) [x0, x1, x2]) := by simpa using congrArg Prod.fst hx
    rw [hd2, DataW.weights, Try.underlying24] at hall
    simp only [DataW.weightsEach, List.map_cons, List.map_nil, List.all_append, Bool.and_eq_true] at hall
    exact (s3 hall.2.2.1).1
end Go.Proofs.Ytpbfgebecgikjaa
