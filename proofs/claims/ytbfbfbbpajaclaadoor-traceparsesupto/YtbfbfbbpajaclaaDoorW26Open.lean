
/-
  Arguments that are entries, opened. No condition.
-/
import Derived.Test.YtbfbfbbpajaclaaDoorW26Logs
import Derived.Test.YtbfbfbbpajaclaaDoorKGOpenW
import Derived.Test.YtbfbfbbpajaclaaDoorX26Wf
namespace Go.Proofs.YtbfbfbbpajaclaaDoor
open Go.ChangeShapes Go.WideShapes Go.ChangeAt Go.RowKit
set_option linter.unusedVariables false
set_option linter.unusedSimpArgs false
set_option maxRecDepth 100000
set_option maxHeartbeats 3200000 in
theorem en_cells {H : Type} {enc : TypeId × Value → H} {W : World} {fuel : Nat} {cs : List Value} {x : DataW H × List MemPlace}
    (h : DataW.trod enc Tryd.prog W 0 (fun _ => true) true fuel 36 cs = some x) : ∃ e : En, cs = enC e ∧ e.wf := by
  obtain ⟨xs, n, rfl, hx, hl, hlen, hf⟩ := DataW.trod_struct Tryd.underlying36 h
  have l22 : cs.length = 22 := by rw [hl]; kernel_rfl
  have u0 : Tryd.prog.cellsOf 25 = 1 := by kernel_rfl
  have u1 : Tryd.prog.cellsOf 3 = 1 := by kernel_rfl
  have u2 : Tryd.prog.cellsOf 31 = 4 := by kernel_rfl
  have u3 : Tryd.prog.cellsOf 34 = 6 := by kernel_rfl
  have u4 : Tryd.prog.cellsOf 29 = 1 := by kernel_rfl
  have u5 : Tryd.prog.cellsOf 32 = 1 := by kernel_rfl
  have u6 : Tryd.prog.cellsOf 28 = 1 := by kernel_rfl
  have u7 : Tryd.prog.cellsOf 4 = 1 := by kernel_rfl
  match cs, l22, xs, hlen, hf with
  | [c0, c1, c2, c3, c4, c5, c6, c7, c8, c9, c10, c11, c12, c13, c14, c15, c16, c17, c18, c19, c20, c21], _, [x0, x1, x2, x3, x4, x5, x6, x7, x8, x9, x10, x11, x12, x13], _, hf =>
    have h0 : DataW.trod enc Tryd.prog W 0 (fun _ => true) true n 25 (([c0, c1, c2, c3, c4, c5, c6, c7, c8, c9, c10, c11, c12, c13, c14, c15, c16, c17, c18, c19, c20, c21].drop 0).take (Tryd.prog.cellsOf 25)) = some x0 := hf 0 _ rfl
    rw [u0] at h0
    have h0 : DataW.trod enc Tryd.prog W 0 (fun _ => true) true n 25 [c0] = some x0 := h0
    have h1 : DataW.trod enc Tryd.prog W 0 (fun _ => true) true n 3 (([c0, c1, c2, c3, c4, c5, c6, c7, c8, c9, c10, c11, c12, c13, c14, c15, c16, c17, c18, c19, c20, c21].drop 1).take (Tryd.prog.cellsOf 3)) = some x1 := hf 1 _ rfl
    rw [u1] at h1
    have h1 : DataW.trod enc Tryd.prog W 0 (fun _ => true) true n 3 [c1] = some x1 := h1
    have h2 : DataW.trod enc Tryd.prog W 0 (fun _ => true) true n 3 (([c0, c1, c2, c3, c4, c5, c6, c7, c8, c9, c10, c11, c12, c13, c14, c15, c16, c17, c18, c19, c20, c21].drop 2).take (Tryd.prog.cellsOf 3)) = some x2 := hf 2 _ rfl
    rw [u1] at h2
    have h2 : DataW.trod enc Tryd.prog W 0 (fun _ => true) true n 3 [c2] = some x2 := h2
    have h3 : DataW.trod enc Tryd.prog W 0 (fun _ => true) true n 3 (([c0, c1, c2, c3, c4, c5, c6, c7, c8, c9, c10, c11, c12, c13, c14, c15, c16, c17, c18, c19, c20, c21].drop 3).take (Tryd.prog.cellsOf 3)) = some x3 := hf 3 _ rfl
    rw [u1] at h3
    have h3 : DataW.trod enc Tryd.prog W 0 (fun _ => true) true n 3 [c3] = some x3 := h3
    have h4 : DataW.trod enc Tryd.prog W 0 (fun _ => true) true n 3 (([c0, c1, c2, c3, c4, c5, c6, c7, c8, c9, c10, c11, c12, c13, c14, c15, c16, c17, c18, c19, c20, c21].drop 4).take (Tryd.prog.cellsOf 3)) = some x4 := hf 4 _ rfl
    rw [u1] at h4
    have h4 : DataW.trod enc Tryd.prog W 0 (fun _ => true) true n 3 [c4] = some x4 := h4
    have h5 : DataW.trod enc Tryd.prog W 0 (fun _ => true) true n 3 (([c0, c1, c2, c3, c4, c5, c6, c7, c8, c9, c10, c11, c12, c13, c14, c15, c16, c17, c18, c19, c20, c21].drop 5).take (Tryd.prog.cellsOf 3)) = some x5 := hf 5 _ rfl
    rw [u1] at h5
    have h5 : DataW.trod enc Tryd.prog W 0 (fun _ => true) true n 3 [c5] = some x5 := h5
    have h6 : DataW.trod enc Tryd.prog W 0 (fun _ => true) true n 3 (([c0, c1, c2, c3, c4, c5, c6, c7, c8, c9, c10, c11, c12, c13, c14, c15, c16, c17, c18, c19, c20, c21].drop 6).take (Tryd.prog.cellsOf 3)) = some x6 := hf 6 _ rfl
    rw [u1] at h6
    have h6 : DataW.trod enc Tryd.prog W 0 (fun _ => true) true n 3 [c6] = some x6 := h6
    have h7 : DataW.trod enc Tryd.prog W 0 (fun _ => true) true n 3 (([c0, c1, c2, c3, c4, c5, c6, c7, c8, c9, c10, c11, c12, c13, c14, c15, c16, c17, c18, c19, c20, c21].drop 7).take (Tryd.prog.cellsOf 3)) = some x7 := hf 7 _ rfl
    rw [u1] at h7
    have h7 : DataW.trod enc Tryd.prog W 0 (fun _ => true) true n 3 [c7] = some x7 := h7
    have h8 : DataW.trod enc Tryd.prog W 0 (fun _ => true) true n 3 (([c0, c1, c2, c3, c4, c5, c6, c7, c8, c9, c10, c11, c12, c13, c14, c15, c16, c17, c18, c19, c20, c21].drop 8).take (Tryd.prog.cellsOf 3)) = some x8 := hf 8 _ rfl
    rw [u1] at h8
    have h8 : DataW.trod enc Tryd.prog W 0 (fun _ => true) true n 3 [c8] = some x8 := h8
    have h9 : DataW.trod enc Tryd.prog W 0 (fun _ => true) true n 3 (([c0, c1, c2, c3, c4, c5, c6, c7, c8, c9, c10, c11, c12, c13, c14, c15, c16, c17, c18, c19, c20, c21].drop 9).take (Tryd.prog.cellsOf 3)) = some x9 := hf 9 _ rfl
    rw [u1] at h9
    have h9 : DataW.trod enc Tryd.prog W 0 (fun _ => true) true n 3 [c9] = some x9 := h9
    have h10 : DataW.trod enc Tryd.prog W 0 (fun _ => true) true n 31 (([c0, c1, c2, c3, c4, c5, c6, c7, c8, c9, c10, c11, c12, c13, c14, c15, c16, c17, c18, c19, c20, c21].drop 10).take (Tryd.prog.cellsOf 31)) = some x10 := hf 10 _ rfl
    rw [u2] at h10
    have h10 : DataW.trod enc Tryd.prog W 0 (fun _ => true) true n 31 [c10, c11, c12, c13] = some x10 := h10
    have h11 : DataW.trod enc Tryd.prog W 0 (fun _ => true) true n 34 (([c0, c1, c2, c3, c4, c5, c6, c7, c8, c9, c10, c11, c12, c13, c14, c15, c16, c17, c18, c19, c20, c21].drop 14).take (Tryd.prog.cellsOf 34)) = some x11 := hf 11 _ rfl
    rw [u3] at h11
    have h11 : DataW.trod enc Tryd.prog W 0 (fun _ => true) true n 34 [c14, c15, c16, c17, c18, c19] = some x11 := h11
    have h12 : DataW.trod enc Tryd.prog W 0 (fun _ => true) true n 29 (([c0, c1, c2, c3, c4, c5, c6, c7, c8, c9, c10, c11, c12, c13, c14, c15, c16, c17, c18, c19, c20, c21].drop 20).take (Tryd.prog.cellsOf 29)) = some x12 := hf 12 _ rfl
    rw [u4] at h12
    have h12 : DataW.trod enc Tryd.prog W 0 (fun _ => true) true n 29 [c20] = some x12 := h12
    have h13 : DataW.trod enc Tryd.prog W 0 (fun _ => true) true n 32 (([c0, c1, c2, c3, c4, c5, c6, c7, c8, c9, c10, c11, c12, c13, c14, c15, c16, c17, c18, c19, c20, c21].drop 21).take (Tryd.prog.cellsOf 32)) = some x13 := hf 13 _ rfl
    rw [u5] at h13
    have h13 : DataW.trod enc Tryd.prog W 0 (fun _ => true) true n 32 [c21] = some x13 := h13
    obtain ⟨ys, m, _, _, _, hylen, hg⟩ := DataW.trod_struct Tryd.underlying31 h10
    obtain ⟨zs, m', _, _, _, hzlen, hg'⟩ := DataW.trod_struct Tryd.underlying34 h11
    match ys, hylen, hg, zs, hzlen, hg' with
    | [y0, y1, y2, y3], _, hg, [z0, z1, z2, z3, z4, z5], _, hg' =>
      have p0 : DataW.trod enc Tryd.prog W 0 (fun _ => true) true m 3 (([c10, c11, c12, c13].drop 0).take (Tryd.prog.cellsOf 3)) = some y0 := hg 0 _ rfl
      rw [u1] at p0
      have p1 : DataW.trod enc Tryd.prog W 0 (fun _ => true) true m 28 (([c10, c11, c12, c13].drop 1).take (Tryd.prog.cellsOf 28)) = some y1 := hg 1 _ rfl
      rw [u6] at p1
      have p2 : DataW.trod enc Tryd.prog W 0 (fun _ => true) true m 29 (([c10, c11, c12, c13].drop 2).take (Tryd.prog.cellsOf 29)) = some y2 := hg 2 _ rfl
      rw [u4] at p2
      have p3 : DataW.trod enc Tryd.prog W 0 (fun _ => true) true m 29 (([c10, c11, c12, c13].drop 3).take (Tryd.prog.cellsOf 29)) = some y3 := hg 3 _ rfl
      rw [u4] at p3
      have q0 : DataW.trod enc Tryd.prog W 0 (fun _ => true) true m' 32 (([c14, c15, c16, c17, c18, c19].drop 0).take (Tryd.prog.cellsOf 32)) = some z0 := hg' 0 _ rfl
      rw [u5] at q0
      have q1 : DataW.trod enc Tryd.prog W 0 (fun _ => true) true m' 4 (([c14, c15, c16, c17, c18, c19].drop 1).take (Tryd.prog.cellsOf 4)) = some z1 := hg' 1 _ rfl
      rw [u7] at q1
      have q2 : DataW.trod enc Tryd.prog W 0 (fun _ => true) true m' 29 (([c14, c15, c16, c17, c18, c19].drop 2).take (Tryd.prog.cellsOf 29)) = some z2 := hg' 2 _ rfl
      rw [u4] at q2
      have q3 : DataW.trod enc Tryd.prog W 0 (fun _ => true) true m' 4 (([c14, c15, c16, c17, c18, c19].drop 3).take (Tryd.prog.cellsOf 4)) = some z3 := hg' 3 _ rfl
      rw [u7] at q3
      have q4 : DataW.trod enc Tryd.prog W 0 (fun _ => true) true m' 29 (([c14, c15, c16, c17, c18, c19].drop 4).take (Tryd.prog.cellsOf 29)) = some z4 := hg' 4 _ rfl
      rw [u4] at q4
      have q5 : DataW.trod enc Tryd.prog W 0 (fun _ => true) true m' 29 (([c14, c15, c16, c17, c18, c19].drop 5).take (Tryd.prog.cellsOf 29)) = some z5 := hg' 5 _ rfl
      rw [u4] at q5
      obtain ⟨wh, e_wh, _, g_wh⟩ := DataW.trod_int Tryd.underlying25 h0
      simp at e_wh
      subst e_wh
      obtain ⟨ta, e_ta, _, g_ta⟩ := DataW.trod_int Tryd.underlying3 h1
      simp at e_ta
      subst e_ta
      obtain ⟨fr, e_fr, _, g_fr⟩ := DataW.trod_int Tryd.underlying3 h2
      simp at e_fr
      subst e_fr
      obtain ⟨cm, e_cm, _, g_cm⟩ := DataW.trod_int Tryd.underlying3 h3
      simp at e_cm
      subst e_cm
      obtain ⟨tg, e_tg, _, g_tg⟩ := DataW.trod_int Tryd.underlying3 h4
      simp at e_tg
      subst e_tg
      obtain ⟨ev, e_ev, _, g_ev⟩ := DataW.trod_int Tryd.underlying3 h5
      simp at e_ev
      subst e_ev
      obtain ⟨hk, e_hk, _, g_hk⟩ := DataW.trod_int Tryd.underlying3 h6
      simp at e_hk
      subst e_hk
      obtain ⟨pg, e_pg, _, g_pg⟩ := DataW.trod_int Tryd.underlying3 h7
      simp at e_pg
      subst e_pg
      obtain ⟨ve, e_ve, _, g_ve⟩ := DataW.trod_int Tryd.underlying3 h8
      simp at e_ve
      subst e_ve
      obtain ⟨pc, e_pc, _, g_pc⟩ := DataW.trod_int Tryd.underlying3 h9
      simp at e_pc
      subst e_pc
      obtain ⟨mp, e_mp, _, g_mp⟩ := DataW.trod_int Tryd.underlying3 p0
      simp at e_mp
      subst e_mp
      obtain ⟨op, e_op, _, g_op⟩ := DataW.trod_int Tryd.underlying28 p1
      simp at e_op
      subst e_op
      obtain ⟨ky, e_ky, _, g_ky⟩ := DataW.trod_int Tryd.underlying29 p2
      simp at e_ky
      subst e_ky
      obtain ⟨vl, e_vl, _, g_vl⟩ := DataW.trod_int Tryd.underlying29 p3
      simp at e_vl
      subst e_vl
      obtain ⟨er, e_er, _, g_er⟩ := DataW.trod_int Tryd.underlying32 q0
      simp at e_er
      subst e_er
      obtain ⟨fo, e_fo, _⟩ := DataW.trod_bool Tryd.underlying4 q1
      simp at e_fo
      subst e_fo
      obtain ⟨rv, e_rv, _, g_rv⟩ := DataW.trod_int Tryd.underlying29 q2
      simp at e_rv
      subst e_rv
      obtain ⟨ou, e_ou, _⟩ := DataW.trod_bool Tryd.underlying4 q3
      simp at e_ou
      subst e_ou
      obtain ⟨ok, e_ok, _, g_ok⟩ := DataW.trod_int Tryd.underlying29 q4
      simp at e_ok
      subst e_ok
      obtain ⟨ov, e_ov, _, g_ov⟩ := DataW.trod_int Tryd.underlying29 q5
      simp at e_ov
      subst e_ov
      obtain ⟨va, e_va, _, g_va⟩ := DataW.trod_int Tryd.underlying29 h12
      simp at e_va
      subst e_va
      obtain ⟨xe, e_xe, _, g_xe⟩ := DataW.trod_int Tryd.underlying32 h13
      simp at e_xe
      subst e_xe
      refine ⟨⟨wh, ta, fr, cm, tg, ev, hk, pg, ve, pc, mp, op, ky, vl, er, fo, rv, ou, ok, ov, va, xe⟩, rfl, ?_⟩
      refine wf_en (bounds_i64 g_wh) (bounds_i64 g_ta) (bounds_i64 g_fr) (bounds_i64 g_cm) (bounds_i64 g_tg) (bounds_i64 g_ev) (bounds_i64 g_hk) (bounds_i64 g_pg) (bounds_i64 g_ve) (bounds_i64 g_pc) (bounds_i64 g_mp) (bounds_i64 g_op) (bounds_i64 g_er) (bounds_i64 g_xe) (bounds_u64 g_ky) (bounds_u64 g_vl) (bounds_u64 g_rv) (bounds_u64 g_ok) (bounds_u64 g_ov) (bounds_u64 g_va)
theorem opens_En {H : Type} {enc : TypeId × Value → H} {W : World} {base : Nat} {v : Value} {d : DataW H} {p : List MemPlace}
    (hok : Value.okWide Tryd.prog W .any base 22 v) (h : DataW.Trod enc Tryd.prog W 0 (fun _ => true) true 22 v d p) :
    ∃ xs, SeesG enC 22 En.nil W v xs ∧ (∀ x ∈ xs, x.wf) ∧ ((d.weights Tryd.prog 22).all (· ≤ reachBytes) = true → xs.length * 176 ≤ 140737488351232 ∧ ∀ x ∈ xs, True) :=
  opensGW En.nil (R := fun e => e.wf) (Q := fun _ => True) Tryd.underlying22 (by kernel_rfl) (by decide) enC_len (by kernel_rfl) (fun h => by obtain ⟨e, h1, h2⟩ := en_cells h; exact ⟨e, h1, h2, fun _ => trivial⟩) hok h
end Go.Proofs.YtbfbfbbpajaclaaDoor
