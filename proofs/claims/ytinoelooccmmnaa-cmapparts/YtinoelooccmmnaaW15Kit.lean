
/-
  What the laws of layer 15 share: pairs, results; their arguments opened. No condition.
-/
import Derived.Test.YtinoelooccmmnaaC15LB
import Derived.Test.YtinoelooccmmnaaW14Open
namespace Go.Proofs.Ytinoelooccmmnaa
open Go.ChangeShapes Go.WideShapes Go.ChangeAt Go.RowKit
set_option linter.unusedVariables false
set_option linter.unusedSimpArgs false
set_option maxRecDepth 100000

set_option maxHeartbeats 4000000 in
/-- Pairs that are alike. -/
theorem wpairs15 {w : World} {va vb : Value} {A : List Pp} (ha : SeesG ppC 2 Pp.nil w va A) (hb : SeesG ppC 2 Pp.nil w vb A) :
    Calls Try.prog 14 #[va, vb] w fun e w' => e = .returned (.bool true) ∧ ∃ n, w' = w.drewN n := by
  obtain ⟨a1, c1, rfl, hc1, hm1, _, hat1⟩ := ha
  obtain ⟨a2, c2, rfl, hc2, hm2, _, hat2⟩ := hb
  unfold maxLen at hm1 hm2
  have HA := keepG hat1
  have HB := keepG hat2
  clear hat1 hat2
  go_enter Try.func14, Try.ntmps14
  go_wp2
  go_loopw [5] (fun i wr => ∃ j : Nat, j ≤ A.length ∧ i = .int .i64 j ∧ ∃ n, wr = w.drewN n) (fun i _ => A.length - (intOf i).toNat)
  case atStart => exact ⟨0, by omega, rfl, 0, rfl⟩
  case round =>
    obtain ⟨j, hj, rfl, n, rfl⟩ := hrel
    by_cases hlt : j < A.length
    · have hltI : (j : Int) < A.length := by omega
      obtain ⟨g1, o1, rfl, _, h1⟩ := HA.out (fun e => by rw [e] at hlt; simp at hlt)
      obtain ⟨g2, o2, rfl, _, h2⟩ := HB.out (fun e => by rw [e] at hlt; simp at hlt)
      obtain ⟨p, HP⟩ : ∃ p, Hid (A.getD j Pp.nil = p) := ⟨_, rfl⟩
      have d0 := h1 j hlt 0 (by omega)
      have d1 := h1 j hlt 1 (by omega)
      have e0 := h2 j hlt 0 (by omega)
      have e1 := h2 j hlt 1 (by omega)
      rw [HP.out] at d0 d1 e0 e1
      simp only [List.getElem?_cons_zero, List.getElem?_cons_succ, Nat.add_zero] at d0 d1 e0 e1
      clear h1 h2
      go_wp2
      refine wp_region_held_drew (S := fun w' => w'.cell? ⟨g1, o1 + j * 2, none⟩ = some (.int .u64 p.k) ∧ w'.cell? ⟨g1, o1 + j * 2 + 1, none⟩ = some (.int .u64 p.v) ∧ w'.cell? ⟨g2, o2 + j * 2, none⟩ = some (.int .u64 p.k) ∧ w'.cell? ⟨g2, o2 + j * 2 + 1, none⟩ = some (.int .u64 p.v)) (by kernel_rfl) ⟨d0, d1, e0, e1⟩ (fun hHeld => ?_)
      refine wpAnyH_take (i := 0) (v := ?v1) rfl (by kernel_rfl) (by kernel_rfl) (by kernel_rfl) (fun _ _ _ h => h) (Or.inl ⟨by rfl, ?hy1⟩) (by assumption) ?rest1
      case hy1 => (intro wy hSw; (try dsimp only at hSw); go_simp; (first | done | with_reducible rfl))
      try simp only [Act.put, List.getElem_toArray, List.getElem_cons_zero, List.getElem_cons_succ, List.setIfInBounds_toArray, List.set_cons_zero, List.set_cons_succ]
      refine wpAnyH_take (i := 1) (v := ?v2) rfl (by kernel_rfl) (by kernel_rfl) (by kernel_rfl) (fun _ _ _ h => h) (Or.inl ⟨by rfl, ?hy2⟩) (by assumption) ?rest2
      case hy2 => (intro wy hSw; (try dsimp only at hSw); go_simp; (first | done | with_reducible rfl))
      try simp only [Act.put, List.getElem_toArray, List.getElem_cons_zero, List.getElem_cons_succ, List.setIfInBounds_toArray, List.set_cons_zero, List.set_cons_succ]
      refine wpAnyH_take (i := 2) (v := ?v3) rfl (by kernel_rfl) (by kernel_rfl) (by kernel_rfl) (fun _ _ _ h => h) (Or.inl ⟨by rfl, ?hy3⟩) (by assumption) ?rest3
      case hy3 => (intro wy hSw; (try dsimp only at hSw); go_simp; (first | done | with_reducible rfl))
      try simp only [Act.put, List.getElem_toArray, List.getElem_cons_zero, List.getElem_cons_succ, List.setIfInBounds_toArray, List.set_cons_zero, List.set_cons_succ]
      refine wpAnyH_take (i := 3) (v := ?v4) rfl (by kernel_rfl) (by kernel_rfl) (by kernel_rfl) (fun _ _ _ h => h) (Or.inl ⟨by rfl, ?hy4⟩) (by assumption) ?rest4
      case hy4 => (intro wy hSw; (try dsimp only at hSw); go_simp; (first | done | with_reducible rfl))
      try simp only [Act.put, List.getElem_toArray, List.getElem_cons_zero, List.getElem_cons_succ, List.setIfInBounds_toArray, List.set_cons_zero, List.set_cons_succ]
      refine wpAnyH_take (i := 4) (v := ?v5) rfl (by kernel_rfl) (by kernel_rfl) (by kernel_rfl) (fun _ _ _ h => h) (Or.inl ⟨by rfl, ?hy5⟩) (by assumption) ?rest5
      case hy5 => (intro wy hSw; (try dsimp only at hSw); go_simp; (first | done | with_reducible rfl))
      try simp only [Act.put, List.getElem_toArray, List.getElem_cons_zero, List.getElem_cons_succ, List.setIfInBounds_toArray, List.set_cons_zero, List.set_cons_succ]
      refine wpAnyH_take (i := 5) (v := ?v6) rfl (by kernel_rfl) (by kernel_rfl) (by kernel_rfl) (fun _ _ _ h => h) (Or.inl ⟨by rfl, ?hy6⟩) (by assumption) ?rest6
      case hy6 => (intro wy hSw; (try dsimp only at hSw); go_simp; (first | done | with_reducible rfl))
      try simp only [Act.put, List.getElem_toArray, List.getElem_cons_zero, List.getElem_cons_succ, List.setIfInBounds_toArray, List.set_cons_zero, List.set_cons_succ]
      refine wpAnyH_take (i := 6) (v := ?v7) rfl (by kernel_rfl) (by kernel_rfl) (by kernel_rfl) (fun _ _ _ h => h) (Or.inl ⟨by rfl, ?hy7⟩) (by assumption) ?rest7
      case hy7 => (intro wy hSw; (try dsimp only at hSw); go_simp; (first | done | with_reducible rfl))
      try simp only [Act.put, List.getElem_toArray, List.getElem_cons_zero, List.getElem_cons_succ, List.setIfInBounds_toArray, List.set_cons_zero, List.set_cons_succ]
      refine wpAnyH_take (i := 7) (v := ?v8) rfl (by kernel_rfl) (by kernel_rfl) (by kernel_rfl) (fun _ _ _ h => h) (Or.inl ⟨by rfl, ?hy8⟩) (by assumption) ?rest8
      case hy8 => (intro wy hSw; (try dsimp only at hSw); go_simp; (first | done | with_reducible rfl))
      try simp only [Act.put, List.getElem_toArray, List.getElem_cons_zero, List.getElem_cons_succ, List.setIfInBounds_toArray, List.set_cons_zero, List.set_cons_succ]
      refine wpAnyH_take (i := 8) (v := ?v9) rfl (by kernel_rfl) (by kernel_rfl) (by kernel_rfl) (fun _ _ _ h => h) (Or.inl ⟨by rfl, ?hy9⟩) (by assumption) ?rest9
      case hy9 => (intro wy hSw; (try dsimp only at hSw); go_simp; (first | done | with_reducible rfl))
      try simp only [Act.put, List.getElem_toArray, List.getElem_cons_zero, List.getElem_cons_succ, List.setIfInBounds_toArray, List.set_cons_zero, List.set_cons_succ]
      refine wpAnyH_done (by kernel_rfl) ?_ _
      go_wp2
      go_roundw
      case rel => exact ⟨j + 1, by omega, by go_num, n + 1, rfl⟩
      case measure => simp [intOf]; omega
    · have hltI : ¬ (j : Int) < A.length := by omega
      go_wp2
      go_ret
      exact ⟨rfl, n, rfl⟩
set_option maxHeartbeats 4000000 in
/-- Answers that are alike. -/
theorem wres15 {w : World} {va vb : Value} {A : List Rq} (ha : SeesG rqC 6 Rq.nil w va A) (hb : SeesG rqC 6 Rq.nil w vb A) :
    Calls Try.prog 23 #[va, vb] w fun e w' => e = .returned (.bool true) ∧ ∃ n, w' = w.drewN n := by
  obtain ⟨a1, c1, rfl, hc1, hm1, _, hat1⟩ := ha
  obtain ⟨a2, c2, rfl, hc2, hm2, _, hat2⟩ := hb
  unfold maxLen at hm1 hm2
  have HA := keepG hat1
  have HB := keepG hat2
  clear hat1 hat2
  go_enter Try.func23, Try.ntmps23
  go_wp2
  go_loopw [5] (fun i wr => ∃ j : Nat, j ≤ A.length ∧ i = .int .i64 j ∧ ∃ n, wr = w.drewN n) (fun i _ => A.length - (intOf i).toNat)
  case atStart => exact ⟨0, by omega, rfl, 0, rfl⟩
  case round =>
    obtain ⟨j, hj, rfl, n, rfl⟩ := hrel
    by_cases hlt : j < A.length
    · have hltI : (j : Int) < A.length := by omega
      obtain ⟨g1, o1, rfl, _, h1⟩ := HA.out (fun e => by rw [e] at hlt; simp at hlt)
      obtain ⟨g2, o2, rfl, _, h2⟩ := HB.out (fun e => by rw [e] at hlt; simp at hlt)
      obtain ⟨p, HP⟩ : ∃ p, Hid (A.getD j Rq.nil = p) := ⟨_, rfl⟩
      have d0 := h1 j hlt 0 (by omega)
      have d1 := h1 j hlt 1 (by omega)
      have d2 := h1 j hlt 2 (by omega)
      have d3 := h1 j hlt 3 (by omega)
      have d4 := h1 j hlt 4 (by omega)
      have d5 := h1 j hlt 5 (by omega)
      have e0 := h2 j hlt 0 (by omega)
      have e1 := h2 j hlt 1 (by omega)
      have e2 := h2 j hlt 2 (by omega)
      have e3 := h2 j hlt 3 (by omega)
      have e4 := h2 j hlt 4 (by omega)
      have e5 := h2 j hlt 5 (by omega)
      rw [HP.out] at d0 e0 d1 e1 d2 e2 d3 e3 d4 e4 d5 e5
      simp only [List.getElem?_cons_zero, List.getElem?_cons_succ, Nat.add_zero] at d0 e0 d1 e1 d2 e2 d3 e3 d4 e4 d5 e5
      clear h1 h2
      go_wp2
      refine wp_region_held_drew (S := fun w' => w'.cell? ⟨g1, o1 + j * 6, none⟩ = some (.int .i64 p.E) ∧ w'.cell? ⟨g1, o1 + j * 6 + 1, none⟩ = some (.bool p.f) ∧ w'.cell? ⟨g1, o1 + j * 6 + 2, none⟩ = some (.int .u64 p.v) ∧ w'.cell? ⟨g1, o1 + j * 6 + 3, none⟩ = some (.bool p.o) ∧ w'.cell? ⟨g1, o1 + j * 6 + 4, none⟩ = some (.int .u64 p.k) ∧ w'.cell? ⟨g1, o1 + j * 6 + 5, none⟩ = some (.int .u64 p.u) ∧ w'.cell? ⟨g2, o2 + j * 6, none⟩ = some (.int .i64 p.E) ∧ w'.cell? ⟨g2, o2 + j * 6 + 1, none⟩ = some (.bool p.f) ∧ w'.cell? ⟨g2, o2 + j * 6 + 2, none⟩ = some (.int .u64 p.v) ∧ w'.cell? ⟨g2, o2 + j * 6 + 3, none⟩ = some (.bool p.o) ∧ w'.cell? ⟨g2, o2 + j * 6 + 4, none⟩ = some (.int .u64 p.k) ∧ w'.cell? ⟨g2, o2 + j * 6 + 5, none⟩ = some (.int .u64 p.u)) (by kernel_rfl) ⟨d0, d1, d2, d3, d4, d5, e0, e1, e2, e3, e4, e5⟩ (fun hHeld => ?_)
      refine wpAnyH_take (i := 0) (v := ?v10) rfl (by kernel_rfl) (by kernel_rfl) (by kernel_rfl) (fun _ _ _ h => h) (Or.inl ⟨by rfl, ?hy10⟩) (by assumption) ?rest10
      case hy10 => (intro wy hSw; (try dsimp only at hSw); go_simp; (first | done | with_reducible rfl))
      try simp only [Act.put, List.getElem_toArray, List.getElem_cons_zero, List.getElem_cons_succ, List.setIfInBounds_toArray, List.set_cons_zero, List.set_cons_succ]
      refine wpAnyH_take (i := 1) (v := ?v11) rfl (by kernel_rfl) (by kernel_rfl) (by kernel_rfl) (fun _ _ _ h => h) (Or.inl ⟨by rfl, ?hy11⟩) (by assumption) ?rest11
      case hy11 => (intro wy hSw; (try dsimp only at hSw); go_simp; (first | done | with_reducible rfl))
      try simp only [Act.put, List.getElem_toArray, List.getElem_cons_zero, List.getElem_cons_succ, List.setIfInBounds_toArray, List.set_cons_zero, List.set_cons_succ]
      refine wpAnyH_take (i := 2) (v := ?v12) rfl (by kernel_rfl) (by kernel_rfl) (by kernel_rfl) (fun _ _ _ h => h) (Or.inl ⟨by rfl, ?hy12⟩) (by assumption) ?rest12
      case hy12 => (intro wy hSw; (try dsimp only at hSw); go_simp; (first | done | with_reducible rfl))
      try simp only [Act.put, List.getElem_toArray, List.getElem_cons_zero, List.getElem_cons_succ, List.setIfInBounds_toArray, List.set_cons_zero, List.set_cons_succ]
      refine wpAnyH_take (i := 3) (v := ?v13) rfl (by kernel_rfl) (by kernel_rfl) (by kernel_rfl) (fun _ _ _ h => h) (Or.inl ⟨by rfl, ?hy13⟩) (by assumption) ?rest13
      case hy13 => (intro wy hSw; (try dsimp only at hSw); go_simp; (first | done | with_reducible rfl))
      try simp only [Act.put, List.getElem_toArray, List.getElem_cons_zero, List.getElem_cons_succ, List.setIfInBounds_toArray, List.set_cons_zero, List.set_cons_succ]
      refine wpAnyH_take (i := 4) (v := ?v14) rfl (by kernel_rfl) (by kernel_rfl) (by kernel_rfl) (fun _ _ _ h => h) (Or.inl ⟨by rfl, ?hy14⟩) (by assumption) ?rest14
      case hy14 => (intro wy hSw; (try dsimp only at hSw); go_simp; (first | done | with_reducible rfl))
      try simp only [Act.put, List.getElem_toArray, List.getElem_cons_zero, List.getElem_cons_succ, List.setIfInBounds_toArray, List.set_cons_zero, List.set_cons_succ]
      refine wpAnyH_take (i := 5) (v := ?v15) rfl (by kernel_rfl) (by kernel_rfl) (by kernel_rfl) (fun _ _ _ h => h) (Or.inl ⟨by rfl, ?hy15⟩) (by assumption) ?rest15
      case hy15 => (intro wy hSw; (try dsimp only at hSw); go_simp; (first | done | with_reducible rfl))
      try simp only [Act.put, List.getElem_toArray, List.getElem_cons_zero, List.getElem_cons_succ, List.setIfInBounds_toArray, List.set_cons_zero, List.set_cons_succ]
      refine wpAnyH_take (i := 6) (v := ?v16) rfl (by kernel_rfl) (by kernel_rfl) (by kernel_rfl) (fun _ _ _ h => h) (Or.inl ⟨by rfl, ?hy16⟩) (by assumption) ?rest16
      case hy16 => (intro wy hSw; (try dsimp only at hSw); go_simp; (first | done | with_reducible rfl))
      try simp only [Act.put, List.getElem_toArray, List.getElem_cons_zero, List.getElem_cons_succ, List.setIfInBounds_toArray, List.set_cons_zero, List.set_cons_succ]
      refine wpAnyH_take (i := 7) (v := ?v17) rfl (by kernel_rfl) (by kernel_rfl) (by kernel_rfl) (fun _ _ _ h => h) (Or.inl ⟨by rfl, ?hy17⟩) (by assumption) ?rest17
      case hy17 => (intro wy hSw; (try dsimp only at hSw); go_simp; (first | done | with_reducible rfl))
      try simp only [Act.put, List.getElem_toArray, List.getElem_cons_zero, List.getElem_cons_succ, List.setIfInBounds_toArray, List.set_cons_zero, List.set_cons_succ]
      refine wpAnyH_take (i := 8) (v := ?v18) rfl (by kernel_rfl) (by kernel_rfl) (by kernel_rfl) (fun _ _ _ h => h) (Or.inl ⟨by rfl, ?hy18⟩) (by assumption) ?rest18
      case hy18 => (intro wy hSw; (try dsimp only at hSw); go_simp; (first | done | with_reducible rfl))
      try simp only [Act.put, List.getElem_toArray, List.getElem_cons_zero, List.getElem_cons_succ, List.setIfInBounds_toArray, List.set_cons_zero, List.set_cons_succ]
      refine wpAnyH_done (by kernel_rfl) ?_ _
      go_wp2
      go_roundw
      case rel => exact ⟨j + 1, by omega, by go_num, n + 1, rfl⟩
      case measure => simp [intOf]; omega
    · have hltI : ¬ (j : Int) < A.length := by omega
      go_wp2
      go_ret
      exact ⟨rfl, n, rfl⟩
theorem item_cells {H : Type} {enc : TypeId × Value → H} {W : World} {base fuel : Nat} {sp : Nat → Bool} {held : Bool} {cs : List Value} {x : DataW H × List MemPlace}
    (h : DataW.trod enc Try.prog W base sp held fuel 41 cs = some x) : ∃ i : It, cs = itC i ∧ i.wf := by
  obtain ⟨xs, n, rfl, hx, hl, hlen, hf⟩ := DataW.trod_struct Try.underlying41 h
  have l5 : cs.length = 4 := by rw [hl]; kernel_rfl
  have u1 : Try.prog.cellsOf 35 = 1 := by kernel_rfl
  have u2 : Try.prog.cellsOf 3 = 1 := by kernel_rfl
  have u3 : Try.prog.cellsOf 39 = 1 := by kernel_rfl
  match cs, l5, xs, hlen, hf with
  | [c0, c1, c2, c3], _, [x0, x1, x2, x3], _, hf =>
    have h0 : DataW.trod enc Try.prog W base sp held n 3 (([c0, c1, c2, c3].drop 0).take (Try.prog.cellsOf 3)) = some x0 := hf 0 _ rfl
    have h1 : DataW.trod enc Try.prog W base sp held n 39 (([c0, c1, c2, c3].drop 1).take (Try.prog.cellsOf 39)) = some x1 := hf 1 _ rfl
    have h2 : DataW.trod enc Try.prog W base sp held n 35 (([c0, c1, c2, c3].drop 2).take (Try.prog.cellsOf 35)) = some x2 := hf 2 _ rfl
    have h3 : DataW.trod enc Try.prog W base sp held n 35 (([c0, c1, c2, c3].drop 3).take (Try.prog.cellsOf 35)) = some x3 := hf 3 _ rfl
    rw [u2] at h0
    rw [u3] at h1
    rw [u1] at h2 h3
    obtain ⟨a, e0, y0, g0⟩ := DataW.trod_int Try.underlying3 h0
    obtain ⟨b, e1, y1, g1⟩ := DataW.trod_int Try.underlying39 h1
    obtain ⟨c, e2, y2, g2⟩ := DataW.trod_int Try.underlying35 h2
    obtain ⟨d, e3, y3, g3⟩ := DataW.trod_int Try.underlying35 h3
    simp at e0 e1 e2 e3
    subst e0 e1 e2 e3
    refine ⟨⟨a, b, c, d⟩, rfl, ?_⟩
    have := bounds_u64 g2
    show 0 ≤ c ∧ c < 18446744073709551616
    omega
theorem opens_Item {H : Type} {enc : TypeId × Value → H} {W : World} {base : Nat} {v : Value} {d : DataW H} {p : List MemPlace}
    (hok : Value.okWide Try.prog W .any base 25 v) (h : DataW.Trod enc Try.prog W 0 (fun _ => true) true 25 v d p) :
    ∃ xs, SeesG itC 4 It.nil W v xs ∧ (∀ x ∈ xs, It.wf x) ∧ ((d.weights Try.prog 25).all (· ≤ reachBytes) = true → xs.length * 32 ≤ 140737488351232) :=
  opensG It.nil (R := It.wf) Try.underlying25 (by kernel_rfl) (by decide) itC_len (by kernel_rfl) item_cells hok h
theorem open_Def {H : Type} {enc : TypeId × Value → H} {W : World} {base : Nat} {v : Value} {d : DataW H} {p : List MemPlace}
    (hok : Value.okWide Try.prog W .any base 24 v) (h : DataW.Trod enc Try.prog W 0 (fun _ => true) true 24 v d p) : ∃ k c, v = defW k c := by
  obtain ⟨cs, rfl, _⟩ := okWide_struct Try.underlying24 hok
  obtain ⟨fuel, hf⟩ := h
  obtain ⟨xs, n, _, hx, hl, hlen, hf⟩ := DataW.trod_struct Try.underlying24 hf
  have l5 : cs.toList.length = 2 := hl.trans (by kernel_rfl)
  have u2 : Try.prog.cellsOf 3 = 1 := by kernel_rfl
  have u3 : Try.prog.cellsOf 22 = 1 := by kernel_rfl
  obtain ⟨cl⟩ := cs
  simp only [Value.cells] at hf l5
  match cl, l5, xs, hlen, hf with
  | [c0, c1], _, [x0, x1], _, hf =>
    have h0 : DataW.trod enc Try.prog W 0 (fun _ => true) true n 22 (([c0, c1].drop 0).take (Try.prog.cellsOf 22)) = some x0 := hf 0 _ rfl
    have h1 : DataW.trod enc Try.prog W 0 (fun _ => true) true n 3 (([c0, c1].drop 1).take (Try.prog.cellsOf 3)) = some x1 := hf 1 _ rfl
    rw [u3] at h0
    rw [u2] at h1
    obtain ⟨a, e0, y0, g0⟩ := DataW.trod_int Try.underlying22 h0
    obtain ⟨b, e1, y1, g1⟩ := DataW.trod_int Try.underlying3 h1
    simp at e0 e1
    subst e0 e1
    exact ⟨a, b, rfl⟩
end Go.Proofs.Ytinoelooccmmnaa
