
/-
  Scripts of calls of layer 20, opened, with what the bulk of the reading says. No condition.
-/
import Derived.Test.YtjhjfojmojjomaaW20Kit
import Derived.Test.YtjhjfojmojjomaaGOpenU
namespace Go.Proofs.Ytjhjfojmojjomaa
open Go.ChangeShapes Go.WideShapes Go.ChangeAt Go.RowKit
set_option linter.unusedVariables false
set_option linter.unusedSimpArgs false
set_option maxRecDepth 100000
theorem op20_cellsU {H : Type} {enc : TypeId × Value → H} {W : World} {fuel : Nat} {cs : List Value} {x : DataW H × List MemPlace}
    (h : DataW.trod enc Try.prog W 0 (fun _ => true) true fuel 31 cs = some x) : ∃ o : Ow, cs = owC o ∧ Sees .i64 W o.u o.ws ∧ o.ws.length ≤ Rows.uptoBulk x.1 := by
  obtain ⟨xs, n, rfl, hx, hl, hlen, hf⟩ := DataW.trod_struct Try.underlying31 h
  have l5 : cs.length = 7 := by rw [hl]; kernel_rfl
  have u2 : Try.prog.cellsOf 3 = 1 := by kernel_rfl
  have u3 : Try.prog.cellsOf 28 = 1 := by kernel_rfl
  have u4 : Try.prog.cellsOf 29 = 1 := by kernel_rfl
  match cs, l5, xs, hlen, hf with
  | [c0, c1, c2, c3, c4, c5, c6], _, [x0, x1, x2, x3, x4, x5, x6], _, hf =>
    have h0 : DataW.trod enc Try.prog W 0 (fun _ => true) true n 3 (([c0, c1, c2, c3, c4, c5, c6].drop 0).take (Try.prog.cellsOf 3)) = some x0 := hf 0 _ rfl
    have h1 : DataW.trod enc Try.prog W 0 (fun _ => true) true n 3 (([c0, c1, c2, c3, c4, c5, c6].drop 1).take (Try.prog.cellsOf 3)) = some x1 := hf 1 _ rfl
    have h2 : DataW.trod enc Try.prog W 0 (fun _ => true) true n 3 (([c0, c1, c2, c3, c4, c5, c6].drop 2).take (Try.prog.cellsOf 3)) = some x2 := hf 2 _ rfl
    have h3 : DataW.trod enc Try.prog W 0 (fun _ => true) true n 28 (([c0, c1, c2, c3, c4, c5, c6].drop 3).take (Try.prog.cellsOf 28)) = some x3 := hf 3 _ rfl
    have h4 : DataW.trod enc Try.prog W 0 (fun _ => true) true n 28 (([c0, c1, c2, c3, c4, c5, c6].drop 4).take (Try.prog.cellsOf 28)) = some x4 := hf 4 _ rfl
    have h5 : DataW.trod enc Try.prog W 0 (fun _ => true) true n 28 (([c0, c1, c2, c3, c4, c5, c6].drop 5).take (Try.prog.cellsOf 28)) = some x5 := hf 5 _ rfl
    have h6 : DataW.trod enc Try.prog W 0 (fun _ => true) true n 29 (([c0, c1, c2, c3, c4, c5, c6].drop 6).take (Try.prog.cellsOf 29)) = some x6 := hf 6 _ rfl
    rw [u2] at h0 h1 h2
    rw [u3] at h3 h4 h5
    rw [u4] at h6
    have h6 : DataW.trod enc Try.prog W 0 (fun _ => true) true n 29 [c6] = some x6 := h6
    obtain ⟨y0, e0, z0, _⟩ := DataW.trod_int Try.underlying3 h0
    obtain ⟨y1, e1, z1, _⟩ := DataW.trod_int Try.underlying3 h1
    obtain ⟨y2, e2, z2, _⟩ := DataW.trod_int Try.underlying3 h2
    obtain ⟨y3, e3, z3, _⟩ := DataW.trod_int Try.underlying28 h3
    obtain ⟨y4, e4, z4, _⟩ := DataW.trod_int Try.underlying28 h4
    obtain ⟨y5, e5, z5, _⟩ := DataW.trod_int Try.underlying28 h5
    simp at e0 e1 e2 e3 e4 e5
    subst e0 e1 e2 e3 e4 e5 z0 z1 z2 z3 z4 z5
    obtain ⟨ua, ul, uc, rfl⟩ := slice_of_trod Try.underlying29 h6
    obtain ⟨zs, sz, bz⟩ := sees_openU (k := .i64) (d := x6.1) (p := x6.2) Try.underlying29 Try.underlying3 (by kernel_rfl) ⟨_, _, _, rfl⟩ ⟨n, h6⟩
    refine ⟨⟨y0, y1, y2, y3, y4, y5, _, zs⟩, rfl, sz, ?_⟩
    rw [hx]
    simp only [List.map_cons, List.map_nil, Rows.uptoBulk, Rows.uptoBulkAll]
    show zs.length ≤ _
    omega
theorem opens_Op20U {H : Type} {enc : TypeId × Value → H} {W : World} {base : Nat} {v : Value} {d : DataW H} {p : List MemPlace}
    (hok : Value.okWide Try.prog W .any base 22 v) (h : DataW.Trod enc Try.prog W 0 (fun _ => true) true 22 v d p) :
    ∃ xs, SeesG owC 7 Ow.nil W v xs ∧ (∀ x ∈ xs, Sees .i64 W x.u x.ws) ∧ xs.length ≤ Rows.uptoBulk d ∧ ∀ x ∈ xs, x.ws.length ≤ Rows.uptoBulk d :=
  opensGU Ow.nil (R := fun o => Sees .i64 W o.u o.ws) (U := fun o => o.ws.length) Try.underlying22 (by kernel_rfl) (by decide) owC_len op20_cellsU hok h
end Go.Proofs.Ytjhjfojmojjomaa
