
/-
  What the laws of layer 13 share: pairs, awake. No condition.
-/
import Derived.Test.YtlinfpnkeiahlaaB13LTail
namespace Go.Proofs.Ytlinfpnkeiahlaa
open Go.RowKit
set_option linter.unusedVariables false
set_option linter.unusedSimpArgs false
set_option maxRecDepth 100000

set_option maxHeartbeats 4000000 in
/-- Pairs that are alike. -/
theorem wpairs_same {w : World} {va vb : Value} {A : List Pp} (ha : SeesG ppC 2 Pp.nil w va A) (hb : SeesG ppC 2 Pp.nil w vb A) :
    Calls Try.prog 14 #[va, vb] w fun e w' => e = .returned (.bool true) ∧ ∃ n, w' = w.drewN n := by
  obtain ⟨a1, c1, rfl, hc1, hm1, _, hat1⟩ := ha
  obtain ⟨a2, c2, rfl, hc2, hm2, _, hat2⟩ := hb
  unfold maxLen at hm1 hm2
  have HA := keepG hat1
  have HB := keepG hat2
  clear hat1 hat2
  go_enter Try.func14, Try.ntmps14
  go_wp2
  go_loopw [5] (fun i wr => ∃ j : Nat, j ≤ A.length ∧ i = .int .i64 j ∧ ∃ n, wr = w.drewN n) (fun i _ => A.length - (intOf i).toNat)
  case atStart => exact ⟨0, by omega, rfl, 0, rfl⟩
  case round =>
    obtain ⟨j, hj, rfl, n, rfl⟩ := hrel
    by_cases hlt : j < A.length
    · have hltI : (j : Int) < A.length := by omega
      obtain ⟨g1, o1, rfl, _, h1⟩ := HA.out (fun e => by rw [e] at hlt; simp at hlt)
      obtain ⟨g2, o2, rfl, _, h2⟩ := HB.out (fun e => by rw [e] at hlt; simp at hlt)
      obtain ⟨p, HP⟩ : ∃ p, Hid (A.getD j Pp.nil = p) := ⟨_, rfl⟩
      have d0 := h1 j hlt 0 (by omega)
      have d1 := h1 j hlt 1 (by omega)
      have e0 := h2 j hlt 0 (by omega)
      have e1 := h2 j hlt 1 (by omega)
      rw [HP.out] at d0 d1 e0 e1
      simp only [List.getElem?_cons_zero, List.getElem?_cons_succ, Nat.add_zero] at d0 d1 e0 e1
      clear h1 h2
      go_wp2
      refine wp_region_held_drew (S := fun w' => w'.cell? ⟨g1, o1 + j * 2, none⟩ = some (.int .u64 p.k) ∧ w'.cell? ⟨g1, o1 + j * 2 + 1, none⟩ = some (.int .u64 p.v) ∧ w'.cell? ⟨g2, o2 + j * 2, none⟩ = some (.int .u64 p.k) ∧ w'.cell? ⟨g2, o2 + j * 2 + 1, none⟩ = some (.int .u64 p.v)) (by kernel_rfl) ⟨d0, d1, e0, e1⟩ (fun hHeld => ?_)
      refine wpAnyH_take (i := 0) (v := ?v1) rfl (by kernel_rfl) (by kernel_rfl) (by kernel_rfl) (fun _ _ _ h => h) (Or.inl ⟨by rfl, ?hy1⟩) (by assumption) ?rest1
      case hy1 => (intro wy hSw; (try dsimp only at hSw); go_simp; (first | done | with_reducible rfl))
      try simp only [Act.put, List.getElem_toArray, List.getElem_cons_zero, List.getElem_cons_succ, List.setIfInBounds_toArray, List.set_cons_zero, List.set_cons_succ]
      refine wpAnyH_take (i := 1) (v := ?v2) rfl (by kernel_rfl) (by kernel_rfl) (by kernel_rfl) (fun _ _ _ h => h) (Or.inl ⟨by rfl, ?hy2⟩) (by assumption) ?rest2
      case hy2 => (intro wy hSw; (try dsimp only at hSw); go_simp; (first | done | with_reducible rfl))
      try simp only [Act.put, List.getElem_toArray, List.getElem_cons_zero, List.getElem_cons_succ, List.setIfInBounds_toArray, List.set_cons_zero, List.set_cons_succ]
      refine wpAnyH_take (i := 2) (v := ?v3) rfl (by kernel_rfl) (by kernel_rfl) (by kernel_rfl) (fun _ _ _ h => h) (Or.inl ⟨by rfl, ?hy3⟩) (by assumption) ?rest3
      case hy3 => (intro wy hSw; (try dsimp only at hSw); go_simp; (first | done | with_reducible rfl))
      try simp only [Act.put, List.getElem_toArray, List.getElem_cons_zero, List.getElem_cons_succ, List.setIfInBounds_toArray, List.set_cons_zero, List.set_cons_succ]
      refine wpAnyH_take (i := 3) (v := ?v4) rfl (by kernel_rfl) (by kernel_rfl) (by kernel_rfl) (fun _ _ _ h => h) (Or.inl ⟨by rfl, ?hy4⟩) (by assumption) ?rest4
      case hy4 => (intro wy hSw; (try dsimp only at hSw); go_simp; (first | done | with_reducible rfl))
      try simp only [Act.put, List.getElem_toArray, List.getElem_cons_zero, List.getElem_cons_succ, List.setIfInBounds_toArray, List.set_cons_zero, List.set_cons_succ]
      refine wpAnyH_take (i := 4) (v := ?v5) rfl (by kernel_rfl) (by kernel_rfl) (by kernel_rfl) (fun _ _ _ h => h) (Or.inl ⟨by rfl, ?hy5⟩) (by assumption) ?rest5
      case hy5 => (intro wy hSw; (try dsimp only at hSw); go_simp; (first | done | with_reducible rfl))
      try simp only [Act.put, List.getElem_toArray, List.getElem_cons_zero, List.getElem_cons_succ, List.setIfInBounds_toArray, List.set_cons_zero, List.set_cons_succ]
      refine wpAnyH_take (i := 5) (v := ?v6) rfl (by kernel_rfl) (by kernel_rfl) (by kernel_rfl) (fun _ _ _ h => h) (Or.inl ⟨by rfl, ?hy6⟩) (by assumption) ?rest6
      case hy6 => (intro wy hSw; (try dsimp only at hSw); go_simp; (first | done | with_reducible rfl))
      try simp only [Act.put, List.getElem_toArray, List.getElem_cons_zero, List.getElem_cons_succ, List.setIfInBounds_toArray, List.set_cons_zero, List.set_cons_succ]
      refine wpAnyH_take (i := 6) (v := ?v7) rfl (by kernel_rfl) (by kernel_rfl) (by kernel_rfl) (fun _ _ _ h => h) (Or.inl ⟨by rfl, ?hy7⟩) (by assumption) ?rest7
      case hy7 => (intro wy hSw; (try dsimp only at hSw); go_simp; (first | done | with_reducible rfl))
      try simp only [Act.put, List.getElem_toArray, List.getElem_cons_zero, List.getElem_cons_succ, List.setIfInBounds_toArray, List.set_cons_zero, List.set_cons_succ]
      refine wpAnyH_take (i := 7) (v := ?v8) rfl (by kernel_rfl) (by kernel_rfl) (by kernel_rfl) (fun _ _ _ h => h) (Or.inl ⟨by rfl, ?hy8⟩) (by assumption) ?rest8
      case hy8 => (intro wy hSw; (try dsimp only at hSw); go_simp; (first | done | with_reducible rfl))
      try simp only [Act.put, List.getElem_toArray, List.getElem_cons_zero, List.getElem_cons_succ, List.setIfInBounds_toArray, List.set_cons_zero, List.set_cons_succ]
      refine wpAnyH_take (i := 8) (v := ?v9) rfl (by kernel_rfl) (by kernel_rfl) (by kernel_rfl) (fun _ _ _ h => h) (Or.inl ⟨by rfl, ?hy9⟩) (by assumption) ?rest9
      case hy9 => (intro wy hSw; (try dsimp only at hSw); go_simp; (first | done | with_reducible rfl))
      try simp only [Act.put, List.getElem_toArray, List.getElem_cons_zero, List.getElem_cons_succ, List.setIfInBounds_toArray, List.set_cons_zero, List.set_cons_succ]
      refine wpAnyH_done (by kernel_rfl) ?_ _
      go_wp2
      go_roundw
      case rel => exact ⟨j + 1, by omega, by go_num, n + 1, rfl⟩
      case measure => simp [intOf]; omega
    · have hltI : ¬ (j : Int) < A.length := by omega
      go_wp2
      go_ret
      exact ⟨rfl, n, rfl⟩
theorem wake1 : doS 2 [] 2 5 50 = (⟨0, false, 0⟩, [⟨5, 50⟩]) := by rfl
theorem wake2 : doS 2 [⟨5, 50⟩] 2 5 51 = (⟨0, true, 50⟩, [⟨5, 51⟩]) := by rfl
/-- Behind an operation of a book that was made anew. -/
theorem LbNext.below {w0 w w' : World} {b cap : Nat} {v : Value} {L' : List Pp} (h : LbNext w w0.heap.size b cap v L' w') (hb : Below w0.heap.size w0 w) (hlo : w0.heap.size ≤ b) (hv : ∀ k, v.ownBlock = some k → w0.heap.size ≤ k) : Below w0.heap.size w0 w' := by
  obtain ⟨v', h1, h2, h3⟩ := h
  exact hb.trans (h2.below (fun k e => by rcases e with e | e; omega; exact hv k e) hb.size)
theorem Lb.low {w : World} {B b cap : Nat} {v : Value} {L : List Pp} (h : Lb w B b cap v L) : ∀ k, v.ownBlock = some k → B ≤ k := fun k hk => (h.row.lt k hk).1
set_option maxHeartbeats 4000000 in
theorem wawake (w : World) : Calls Try.prog 7 #[] w fun e w' => e = .returned (.bool true) ∧ Below w.heap.size w w' := by
  go_enter Try.func7, Try.ntmps7
  go_wp2_with (first
    | (go_at_call 8; go_must (refine (lnew_ok 2 (by omega) (by omega) w).mono ?_); rintro e w1 ⟨rfl, hp1, hb1, hz1⟩; go_must (have HB1 := keepG (Lb.new (B := w.heap.size) hp1); clear hp1))
    | (go_at_call 11; have hq := HB2; clear hq; go_must (refine (ldo_any 2 5 51 HB2.out (by decide) (by decide) hz2).mono ?_); rintro e w3 ⟨rfl, hn3⟩; rw [wake2] at hn3 ⊢; go_must (have hb3 := hn3.below hb2 (Nat.le_refl _) hlo2; obtain ⟨v3, hL3, hc3, hr3⟩ := hn3; have HB3 := keepG hL3; clear hL3 hc3 hr3; dsimp only [resG]))
    | (go_at_call 11; go_must (refine (ldo_any 2 5 50 HB1.out (by decide) (by decide) (by omega)).mono ?_); rintro e w2 ⟨rfl, hn2⟩; rw [wake1] at hn2 ⊢; go_must (have hb2 := hn2.below hb1 (Nat.le_refl _) HB1.out.low; obtain ⟨v2, hL2, hc2, hr2⟩ := hn2; have HB2 := keepG hL2; have hz2 := hb2.size; have hlo2 := hL2.low; clear hL2 hc2 hr2; dsimp only [resG]))
    | (go_at_call 13; go_must (refine (llen_any HB3.out).mono ?_); rintro e w4 ⟨rfl, rfl⟩))
  go_ret
  exact ⟨rfl, hb3⟩
end Go.Proofs.Ytlinfpnkeiahlaa
