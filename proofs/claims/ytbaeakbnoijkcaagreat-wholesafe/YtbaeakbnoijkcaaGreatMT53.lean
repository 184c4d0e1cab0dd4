
/-
 An argument that is a run of the theorems of the whole, opened. No condition.
-/
import Derived.Test.YtbaeakbnoijkcaaGreatMT49
namespace Go.Proofs.YtbaeakbnoijkcaaGreat
open Go.ChangeShapes Go.WideShapes Go.ChangeAt Go.RowKit
set_option linter.unusedVariables false
set_option maxRecDepth 100000

theorem open_RunT {H : Type} {enc : TypeId × Value -> H} {W : World} {base : Nat} {v : Value} {d : DataW H} {p : List MemPlace}
  (hok : Value.okWide Tryz.prog W .any base 31 v) (h : DataW.Trod enc Tryz.prog W 0 (fun _ => true) true 31 v d p) :
  ∃ vm vc ea eb vr ms is rs, v = .agg #[vm, vc, .int .u64 ea, .int .u64 eb, vr] /\ SeesM W vm vc ms is /\ SeesR W vr rs /\ ((0 <= ea /\ ea <= 18446744073709551615) /\ 0 <= eb /\ eb <= 18446744073709551615) /\ ((d.weights Tryz.prog 31).all (· <= reachBytes) = true -> ms.length * 8 <= 140737488351232 /\ is.length * 40 <= 140737488355328 /\ rs.length * 48 <= 140737488355328) := by
 obtain ⟨cs, rfl, _⟩ := okWide_struct Tryz.underlying31 hok
 obtain ⟨fuel, hf⟩ := h
 obtain ⟨xs, n, _, hx, hl, hlen, hf⟩ := DataW.trod_struct Tryz.underlying31 hf
 have e6 : Tryz.prog.cellsOf 31 = 5 := by kernel_rfl
 have l6 : cs.toList.length = 5 := hl.trans e6
 have u0 : Tryz.prog.cellsOf 25 = 2 := by kernel_rfl
 have u1 : Tryz.prog.cellsOf 28 = 2 := by kernel_rfl
 have u2 : Tryz.prog.cellsOf 29 = 1 := by kernel_rfl
 have u3 : Tryz.prog.cellsOf 3 = 1 := by kernel_rfl
 have u4 : Tryz.prog.cellsOf 22 = 1 := by kernel_rfl
 have u5 : Tryz.prog.cellsOf 23 = 1 := by kernel_rfl
 have u6 : Tryz.prog.cellsOf 26 = 1 := by kernel_rfl
 obtain ⟨cl⟩ := cs
 simp only [Value.cells] at hf l6
 match cl, l6, xs, hlen, hf with
 | [c0, c1, c2, c3, c4], _, [x0, x1, x2], _, hf =>
  have h0 : DataW.trod enc Tryz.prog W 0 (fun _ => true) true n 25 (([c0, c1, c2, c3, c4].drop 0).take (Tryz.prog.cellsOf 25)) = some x0 := hf 0 _ rfl
  rw [u0] at h0
  have h1 : DataW.trod enc Tryz.prog W 0 (fun _ => true) true n 28 (([c0, c1, c2, c3, c4].drop 2).take (Tryz.prog.cellsOf 28)) = some x1 := hf 1 _ rfl
  rw [u1] at h1
  have h2 : DataW.trod enc Tryz.prog W 0 (fun _ => true) true n 29 (([c0, c1, c2, c3, c4].drop 4).take (Tryz.prog.cellsOf 29)) = some x2 := hf 2 _ rfl
  rw [u2] at h2
  have h0 : DataW.trod enc Tryz.prog W 0 (fun _ => true) true n 25 [c0, c1] = some x0 := h0
  have h1 : DataW.trod enc Tryz.prog W 0 (fun _ => true) true n 28 [c2, c3] = some x1 := h1
  have h2 : DataW.trod enc Tryz.prog W 0 (fun _ => true) true n 29 [c4] = some x2 := h2
  obtain ⟨ys, m, _, hy, _, hylen, hg⟩ := DataW.trod_struct Tryz.underlying25 h0
  obtain ⟨zs, m', _, _, _, hzlen, hg'⟩ := DataW.trod_struct Tryz.underlying28 h1
  match ys, hylen, hg, zs, hzlen, hg' with
  | [y0, y1], _, hg, [z0, z1], _, hg' =>
   have k0 : DataW.trod enc Tryz.prog W 0 (fun _ => true) true m 22 (([c0, c1].drop 0).take (Tryz.prog.cellsOf 22)) = some y0 := hg 0 _ rfl
   rw [u4] at k0
   have k1 : DataW.trod enc Tryz.prog W 0 (fun _ => true) true m 23 (([c0, c1].drop 1).take (Tryz.prog.cellsOf 23)) = some y1 := hg 1 _ rfl
   rw [u5] at k1
   have g0 : DataW.trod enc Tryz.prog W 0 (fun _ => true) true m' 26 (([c2, c3].drop 0).take (Tryz.prog.cellsOf 26)) = some z0 := hg' 0 _ rfl
   rw [u6] at g0
   have g1 : DataW.trod enc Tryz.prog W 0 (fun _ => true) true m' 26 (([c2, c3].drop 1).take (Tryz.prog.cellsOf 26)) = some z1 := hg' 1 _ rfl
   rw [u6] at g1
   have k0 : DataW.trod enc Tryz.prog W 0 (fun _ => true) true m 22 [c0] = some y0 := k0
   have k1 : DataW.trod enc Tryz.prog W 0 (fun _ => true) true m 23 [c1] = some y1 := k1
   obtain ⟨ea, e2, _, w2⟩ := DataW.trod_int Tryz.underlying26 g0
   obtain ⟨eb, e3, _, w3⟩ := DataW.trod_int Tryz.underlying26 g1
   simp at e2 e3
   subst e2 e3
   obtain ⟨a0, l0, q0, rfl⟩ := slice_of_trod Tryz.underlying22 k0
   obtain ⟨a1, l1, q1, rfl⟩ := slice_of_trod Tryz.underlying23 k1
   obtain ⟨a2, l2, q2, rfl⟩ := slice_of_trod Tryz.underlying29 h2
   obtain ⟨ms, s0, b0⟩ := sees_open_sh (k := .i64) (d := y0.1) (p := y0.2) Tryz.underlying22 Tryz.underlying3 (by kernel_rfl) ⟨_, _, _, rfl⟩ ⟨m, k0⟩
   obtain ⟨is, ⟨s1, w1⟩, _, b1⟩ := opens_Inst_sh (d := y1.1) (p := y1.2) ⟨_, _, _, rfl⟩ ⟨m, k1⟩
   obtain ⟨rs, s2, b2⟩ := opens_Res_sh (d := x2.1) (p := x2.2) ⟨_, _, _, rfl⟩ ⟨n, h2⟩
   refine ⟨_, _, ea, eb, _, ms, is, rs, rfl, ⟨s0, s1, w1⟩, s2, ⟨bounds_u64 w2, bounds_u64 w3⟩, fun hall => ?_⟩
   have hd : d = .agg [x0.1, x1.1, x2.1] := congrArg (·.1) hx
   have hd0 : x0.1 = .agg [y0.1, y1.1] := congrArg (·.1) hy
   rw [hd, DataW.weights, Tryz.underlying31] at hall
   simp only [DataW.weightsEach, List.map_cons, List.map_nil, List.all_append, Bool.and_eq_true] at hall
   have hall0 := hall.1
   rw [hd0, DataW.weights, Tryz.underlying25] at hall0
   simp only [DataW.weightsEach, List.map_cons, List.map_nil, List.all_append, Bool.and_eq_true] at hall0
   have b8 : Tryz.prog.bytesOf 3 = 8 := by kernel_rfl
   have r0 := b0 hall0.1
   rw [b8] at r0
   exact ⟨by unfold reachBytes at r0; omega, b1 hall0.2.1, b2 (by first | exact hall.2.2 | exact hall.2.2.1)⟩
end Go.Proofs.YtbaeakbnoijkcaaGreat
