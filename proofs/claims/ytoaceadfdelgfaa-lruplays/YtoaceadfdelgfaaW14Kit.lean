
/-
  What the laws of layer 14 share: numbers, pairs, at; their arguments opened. No condition.
-/
import Derived.Test.YtoaceadfdelgfaaGOpen
import Derived.Test.YtoaceadfdelgfaaB13Ref
import Derived.Test.YtoaceadfdelgfaaGSees
namespace Go.Proofs.Ytoaceadfdelgfaa
open Go.ChangeShapes Go.WideShapes Go.ChangeAt Go.RowKit
set_option linter.unusedVariables false
set_option linter.unusedSimpArgs false
set_option maxRecDepth 100000

/-- A number of a row of numbers. -/
abbrev uC (x : Int) : List Value := [.int .u64 x]
theorem uC_len (x : Int) : (uC x).length = 1 := rfl
theorem uC_one (x : Int) : ∀ u ∈ uC x, u.oneCell' = true := by intro u hu; simp at hu; subst hu; rfl
set_option maxHeartbeats 4000000 in
/-- Numbers that are alike. -/
theorem wnums_same {w : World} {va vb : Value} {A : List Int} (ha : SeesG uC 1 0 w va A) (hb : SeesG uC 1 0 w vb A) :
    Calls Try.prog 14 #[va, vb] w fun e w' => e = .returned (.bool true) ∧ ∃ n, w' = w.drewN n := by
  obtain ⟨a1, c1, rfl, hc1, hm1, _, hat1⟩ := ha
  obtain ⟨a2, c2, rfl, hc2, hm2, _, hat2⟩ := hb
  unfold maxLen at hm1 hm2
  have HA := keepG hat1
  have HB := keepG hat2
  clear hat1 hat2
  go_enter Try.func14, Try.ntmps14
  go_wp2
  go_loopw [5] (fun i wr => ∃ j : Nat, j ≤ A.length ∧ i = .int .i64 j ∧ ∃ n, wr = w.drewN n) (fun i _ => A.length - (intOf i).toNat)
  case atStart => exact ⟨0, by omega, rfl, 0, rfl⟩
  case round =>
    obtain ⟨j, hj, rfl, n, rfl⟩ := hrel
    by_cases hlt : j < A.length
    · have hltI : (j : Int) < A.length := by omega
      obtain ⟨g1, o1, rfl, _, h1⟩ := HA.out (fun e => by rw [e] at hlt; simp at hlt)
      obtain ⟨g2, o2, rfl, _, h2⟩ := HB.out (fun e => by rw [e] at hlt; simp at hlt)
      obtain ⟨p, HP⟩ : ∃ p, Hid (A.getD j 0 = p) := ⟨_, rfl⟩
      have d0 := h1 j hlt 0 (by omega)
      have e0 := h2 j hlt 0 (by omega)
      rw [HP.out] at d0 e0
      simp only [List.getElem?_cons_zero, Nat.add_zero, Nat.mul_one] at d0 e0
      clear h1 h2
      go_wp2
      refine wp_region_held_drew (S := fun w' => w'.cell? ⟨g1, o1 + j, none⟩ = some (.int .u64 p) ∧ w'.cell? ⟨g2, o2 + j, none⟩ = some (.int .u64 p)) (by kernel_rfl) ⟨d0, e0⟩ (fun hHeld => ?_)
      refine wpAnyH_take (i := 0) (v := ?v1) rfl (by kernel_rfl) (by kernel_rfl) (by kernel_rfl) (fun _ _ _ h => h) (Or.inl ⟨by rfl, ?hy1⟩) (by assumption) ?rest1
      case hy1 => (intro wy hSw; (try dsimp only at hSw); go_simp; (first | done | with_reducible rfl))
      try simp only [Act.put, List.getElem_toArray, List.getElem_cons_zero, List.getElem_cons_succ, List.setIfInBounds_toArray, List.set_cons_zero, List.set_cons_succ]
      refine wpAnyH_take (i := 1) (v := ?v2) rfl (by kernel_rfl) (by kernel_rfl) (by kernel_rfl) (fun _ _ _ h => h) (Or.inl ⟨by rfl, ?hy2⟩) (by assumption) ?rest2
      case hy2 => (intro wy hSw; (try dsimp only at hSw); go_simp; (first | done | with_reducible rfl))
      try simp only [Act.put, List.getElem_toArray, List.getElem_cons_zero, List.getElem_cons_succ, List.setIfInBounds_toArray, List.set_cons_zero, List.set_cons_succ]
      refine wpAnyH_take (i := 2) (v := ?v3) rfl (by kernel_rfl) (by kernel_rfl) (by kernel_rfl) (fun _ _ _ h => h) (Or.inl ⟨by rfl, ?hy3⟩) (by assumption) ?rest3
      case hy3 => (intro wy hSw; (try dsimp only at hSw); go_simp; (first | done | with_reducible rfl))
      try simp only [Act.put, List.getElem_toArray, List.getElem_cons_zero, List.getElem_cons_succ, List.setIfInBounds_toArray, List.set_cons_zero, List.set_cons_succ]
      refine wpAnyH_take (i := 3) (v := ?v4) rfl (by kernel_rfl) (by kernel_rfl) (by kernel_rfl) (fun _ _ _ h => h) (Or.inl ⟨by rfl, ?hy4⟩) (by assumption) ?rest4
      case hy4 => (intro wy hSw; (try dsimp only at hSw); go_simp; (first | done | with_reducible rfl))
      try simp only [Act.put, List.getElem_toArray, List.getElem_cons_zero, List.getElem_cons_succ, List.setIfInBounds_toArray, List.set_cons_zero, List.set_cons_succ]
      refine wpAnyH_take (i := 4) (v := ?v5) rfl (by kernel_rfl) (by kernel_rfl) (by kernel_rfl) (fun _ _ _ h => h) (Or.inl ⟨by rfl, ?hy5⟩) (by assumption) ?rest5
      case hy5 => (intro wy hSw; (try dsimp only at hSw); go_simp; (first | done | with_reducible rfl))
      try simp only [Act.put, List.getElem_toArray, List.getElem_cons_zero, List.getElem_cons_succ, List.setIfInBounds_toArray, List.set_cons_zero, List.set_cons_succ]
      refine wpAnyH_take (i := 5) (v := ?v6) rfl (by kernel_rfl) (by kernel_rfl) (by kernel_rfl) (fun _ _ _ h => h) (Or.inl ⟨by rfl, ?hy6⟩) (by assumption) ?rest6
      case hy6 => (intro wy hSw; (try dsimp only at hSw); go_simp; (first | done | with_reducible rfl))
      try simp only [Act.put, List.getElem_toArray, List.getElem_cons_zero, List.getElem_cons_succ, List.setIfInBounds_toArray, List.set_cons_zero, List.set_cons_succ]
      refine wpAnyH_take (i := 6) (v := ?v7) rfl (by kernel_rfl) (by kernel_rfl) (by kernel_rfl) (fun _ _ _ h => h) (Or.inl ⟨by rfl, ?hy7⟩) (by assumption) ?rest7
      case hy7 => (intro wy hSw; (try dsimp only at hSw); go_simp; (first | done | with_reducible rfl))
      try simp only [Act.put, List.getElem_toArray, List.getElem_cons_zero, List.getElem_cons_succ, List.setIfInBounds_toArray, List.set_cons_zero, List.set_cons_succ]
      refine wpAnyH_take (i := 7) (v := ?v8) rfl (by kernel_rfl) (by kernel_rfl) (by kernel_rfl) (fun _ _ _ h => h) (Or.inl ⟨by rfl, ?hy8⟩) (by assumption) ?rest8
      case hy8 => (intro wy hSw; (try dsimp only at hSw); go_simp; (first | done | with_reducible rfl))
      try simp only [Act.put, List.getElem_toArray, List.getElem_cons_zero, List.getElem_cons_succ, List.setIfInBounds_toArray, List.set_cons_zero, List.set_cons_succ]
      refine wpAnyH_take (i := 8) (v := ?v9) rfl (by kernel_rfl) (by kernel_rfl) (by kernel_rfl) (fun _ _ _ h => h) (Or.inl ⟨by rfl, ?hy9⟩) (by assumption) ?rest9
      case hy9 => (intro wy hSw; (try dsimp only at hSw); go_simp; (first | done | with_reducible rfl))
      try simp only [Act.put, List.getElem_toArray, List.getElem_cons_zero, List.getElem_cons_succ, List.setIfInBounds_toArray, List.set_cons_zero, List.set_cons_succ]
      refine wpAnyH_done (by kernel_rfl) ?_ _
      go_wp2
      go_roundw
      case rel => exact ⟨j + 1, by omega, by go_num, n + 1, rfl⟩
      case measure => simp [intOf]; omega
    · have hltI : ¬ (j : Int) < A.length := by omega
      go_wp2
      go_ret
      exact ⟨rfl, n, rfl⟩
set_option maxHeartbeats 4000000 in
/-- Pairs that are alike. -/
theorem wpairs14 {w : World} {va vb : Value} {A : List Pp} (ha : SeesG ppC 2 Pp.nil w va A) (hb : SeesG ppC 2 Pp.nil w vb A) :
    Calls Try.prog 17 #[va, vb] w fun e w' => e = .returned (.bool true) ∧ ∃ n, w' = w.drewN n := by
  obtain ⟨a1, c1, rfl, hc1, hm1, _, hat1⟩ := ha
  obtain ⟨a2, c2, rfl, hc2, hm2, _, hat2⟩ := hb
  unfold maxLen at hm1 hm2
  have HA := keepG hat1
  have HB := keepG hat2
  clear hat1 hat2
  go_enter Try.func17, Try.ntmps17
  go_wp2
  go_loopw [5] (fun i wr => ∃ j : Nat, j ≤ A.length ∧ i = .int .i64 j ∧ ∃ n, wr = w.drewN n) (fun i _ => A.length - (intOf i).toNat)
  case atStart => exact ⟨0, by omega, rfl, 0, rfl⟩
  case round =>
    obtain ⟨j, hj, rfl, n, rfl⟩ := hrel
    by_cases hlt : j < A.length
    · have hltI : (j : Int) < A.length := by omega
      obtain ⟨g1, o1, rfl, _, h1⟩ := HA.out (fun e => by rw [e] at hlt; simp at hlt)
      obtain ⟨g2, o2, rfl, _, h2⟩ := HB.out (fun e => by rw [e] at hlt; simp at hlt)
      obtain ⟨p, HP⟩ : ∃ p, Hid (A.getD j Pp.nil = p) := ⟨_, rfl⟩
      have d0 := h1 j hlt 0 (by omega)
      have d1 := h1 j hlt 1 (by omega)
      have e0 := h2 j hlt 0 (by omega)
      have e1 := h2 j hlt 1 (by omega)
      rw [HP.out] at d0 d1 e0 e1
      simp only [List.getElem?_cons_zero, List.getElem?_cons_succ, Nat.add_zero] at d0 d1 e0 e1
      clear h1 h2
      go_wp2
      refine wp_region_held_drew (S := fun w' => w'.cell? ⟨g1, o1 + j * 2, none⟩ = some (.int .u64 p.k) ∧ w'.cell? ⟨g1, o1 + j * 2 + 1, none⟩ = some (.int .u64 p.v) ∧ w'.cell? ⟨g2, o2 + j * 2, none⟩ = some (.int .u64 p.k) ∧ w'.cell? ⟨g2, o2 + j * 2 + 1, none⟩ = some (.int .u64 p.v)) (by kernel_rfl) ⟨d0, d1, e0, e1⟩ (fun hHeld => ?_)
      refine wpAnyH_take (i := 0) (v := ?v10) rfl (by kernel_rfl) (by kernel_rfl) (by kernel_rfl) (fun _ _ _ h => h) (Or.inl ⟨by rfl, ?hy10⟩) (by assumption) ?rest10
      case hy10 => (intro wy hSw; (try dsimp only at hSw); go_simp; (first | done | with_reducible rfl))
      try simp only [Act.put, List.getElem_toArray, List.getElem_cons_zero, List.getElem_cons_succ, List.setIfInBounds_toArray, List.set_cons_zero, List.set_cons_succ]
      refine wpAnyH_take (i := 1) (v := ?v11) rfl (by kernel_rfl) (by kernel_rfl) (by kernel_rfl) (fun _ _ _ h => h) (Or.inl ⟨by rfl, ?hy11⟩) (by assumption) ?rest11
      case hy11 => (intro wy hSw; (try dsimp only at hSw); go_simp; (first | done | with_reducible rfl))
      try simp only [Act.put, List.getElem_toArray, List.getElem_cons_zero, List.getElem_cons_succ, List.setIfInBounds_toArray, List.set_cons_zero, List.set_cons_succ]
      refine wpAnyH_take (i := 2) (v := ?v12) rfl (by kernel_rfl) (by kernel_rfl) (by kernel_rfl) (fun _ _ _ h => h) (Or.inl ⟨by rfl, ?hy12⟩) (by assumption) ?rest12
      case hy12 => (intro wy hSw; (try dsimp only at hSw); go_simp; (first | done | with_reducible rfl))
      try simp only [Act.put, List.getElem_toArray, List.getElem_cons_zero, List.getElem_cons_succ, List.setIfInBounds_toArray, List.set_cons_zero, List.set_cons_succ]
      refine wpAnyH_take (i := 3) (v := ?v13) rfl (by kernel_rfl) (by kernel_rfl) (by kernel_rfl) (fun _ _ _ h => h) (Or.inl ⟨by rfl, ?hy13⟩) (by assumption) ?rest13
      case hy13 => (intro wy hSw; (try dsimp only at hSw); go_simp; (first | done | with_reducible rfl))
      try simp only [Act.put, List.getElem_toArray, List.getElem_cons_zero, List.getElem_cons_succ, List.setIfInBounds_toArray, List.set_cons_zero, List.set_cons_succ]
      refine wpAnyH_take (i := 4) (v := ?v14) rfl (by kernel_rfl) (by kernel_rfl) (by kernel_rfl) (fun _ _ _ h => h) (Or.inl ⟨by rfl, ?hy14⟩) (by assumption) ?rest14
      case hy14 => (intro wy hSw; (try dsimp only at hSw); go_simp; (first | done | with_reducible rfl))
      try simp only [Act.put, List.getElem_toArray, List.getElem_cons_zero, List.getElem_cons_succ, List.setIfInBounds_toArray, List.set_cons_zero, List.set_cons_succ]
      refine wpAnyH_take (i := 5) (v := ?v15) rfl (by kernel_rfl) (by kernel_rfl) (by kernel_rfl) (fun _ _ _ h => h) (Or.inl ⟨by rfl, ?hy15⟩) (by assumption) ?rest15
      case hy15 => (intro wy hSw; (try dsimp only at hSw); go_simp; (first | done | with_reducible rfl))
      try simp only [Act.put, List.getElem_toArray, List.getElem_cons_zero, List.getElem_cons_succ, List.setIfInBounds_toArray, List.set_cons_zero, List.set_cons_succ]
      refine wpAnyH_take (i := 6) (v := ?v16) rfl (by kernel_rfl) (by kernel_rfl) (by kernel_rfl) (fun _ _ _ h => h) (Or.inl ⟨by rfl, ?hy16⟩) (by assumption) ?rest16
      case hy16 => (intro wy hSw; (try dsimp only at hSw); go_simp; (first | done | with_reducible rfl))
      try simp only [Act.put, List.getElem_toArray, List.getElem_cons_zero, List.getElem_cons_succ, List.setIfInBounds_toArray, List.set_cons_zero, List.set_cons_succ]
      refine wpAnyH_take (i := 7) (v := ?v17) rfl (by kernel_rfl) (by kernel_rfl) (by kernel_rfl) (fun _ _ _ h => h) (Or.inl ⟨by rfl, ?hy17⟩) (by assumption) ?rest17
      case hy17 => (intro wy hSw; (try dsimp only at hSw); go_simp; (first | done | with_reducible rfl))
      try simp only [Act.put, List.getElem_toArray, List.getElem_cons_zero, List.getElem_cons_succ, List.setIfInBounds_toArray, List.set_cons_zero, List.set_cons_succ]
      refine wpAnyH_take (i := 8) (v := ?v18) rfl (by kernel_rfl) (by kernel_rfl) (by kernel_rfl) (fun _ _ _ h => h) (Or.inl ⟨by rfl, ?hy18⟩) (by assumption) ?rest18
      case hy18 => (intro wy hSw; (try dsimp only at hSw); go_simp; (first | done | with_reducible rfl))
      try simp only [Act.put, List.getElem_toArray, List.getElem_cons_zero, List.getElem_cons_succ, List.setIfInBounds_toArray, List.set_cons_zero, List.set_cons_succ]
      refine wpAnyH_done (by kernel_rfl) ?_ _
      go_wp2
      go_roundw
      case rel => exact ⟨j + 1, by omega, by go_num, n + 1, rfl⟩
      case measure => simp [intOf]; omega
    · have hltI : ¬ (j : Int) < A.length := by omega
      go_wp2
      go_ret
      exact ⟨rfl, n, rfl⟩
/-- The place of a number, or -1. -/
def atI (key : Int) : List Int → Int
  | [] => -1
  | x :: l => if x = key then 0 else if atI key l < 0 then -1 else atI key l + 1
theorem atI_ge (key : Int) (A : List Int) : -1 ≤ atI key A := by
  induction A with
  | nil => simp [atI]
  | cons x l ih => unfold atI; split; omega; split <;> omega
theorem atI_has (key : Int) (A : List Int) : (0 ≤ atI key A ↔ key ∈ A) := by
  induction A with
  | nil => simp [atI]
  | cons x l ih =>
    unfold atI
    by_cases e : x = key
    · rw [if_pos e, e]; simp
    · rw [if_neg e, List.mem_cons]
      have hn : ¬ key = x := fun h => e h.symm
      by_cases hl : atI key l < 0
      · rw [if_pos hl]
        constructor
        · intro h; omega
        · rintro (h | h)
          · exact absurd h hn
          · have := ih.2 h; omega
      · rw [if_neg hl]
        constructor
        · intro _; exact .inr (ih.1 (by omega))
        · intro _; omega
theorem atI_is {key : Int} : ∀ {A : List Int} {j : Nat}, j < A.length → A.getD j 0 = key → (∀ i, i < j → A.getD i 0 ≠ key) → atI key A = j := by
  intro A
  induction A with
  | nil => intro j h; simp at h
  | cons x l ih =>
    intro j hj h hn
    unfold atI
    cases j with
    | zero =>
      rw [if_pos (by simpa using h)]
      rfl
    | succ j =>
      have h0 := hn 0 (by omega)
      rw [if_neg (by simpa using h0)]
      have := ih (j := j) (by simpa using hj) (by simpa using h) (fun i hi => by have := hn (i + 1) (by omega); simpa using this)
      rw [this, if_neg (by omega)]
      omega
theorem atI_none {key : Int} {A : List Int} (hn : ∀ i, i < A.length → A.getD i 0 ≠ key) : atI key A = -1 := by
  have h1 := atI_ge key A
  rcases Int.lt_or_le (atI key A) 0 with g | g
  · omega
  · obtain ⟨i, hi, e⟩ := List.mem_iff_getElem.1 ((atI_has key A).1 g)
    exact absurd (by rw [List.getD_eq_getElem?_getD, List.getElem?_eq_getElem hi]; exact e) (hn i hi)
theorem wat_any {w : World} {va : Value} {A : List Int} (key : Int) (ha : SeesG uC 1 0 w va A) {n : Int} (HN : Hid (atI key A = n)) :
    Calls Try.prog 20 #[va, .int .u64 key] w fun e w' => e = .returned (.int .i64 n) ∧ w = w' := by
  obtain ⟨a1, c1, rfl, hc1, hm1, _, hat1⟩ := ha
  unfold maxLen at hm1
  have HA := keepG hat1
  clear hat1
  go_enter Try.func20, Try.ntmps20
  go_wp2
  go_loopw [5] (fun i wr => ∃ j : Nat, j ≤ A.length ∧ i = .int .i64 j ∧ Hid (∀ i, i < j → A.getD i 0 ≠ key) ∧ w = wr) (fun i _ => A.length - (intOf i).toNat)
  case atStart => exact ⟨0, by omega, rfl, fun i hi => by omega, rfl⟩
  case round =>
    obtain ⟨j, hj, rfl, HJ, rfl⟩ := hrel
    by_cases hlt : j < A.length
    · have hltI : (j : Int) < A.length := by omega
      obtain ⟨g1, o1, rfl, _, h1⟩ := HA.out (fun e => by rw [e] at hlt; simp at hlt)
      obtain ⟨x, HX⟩ : ∃ x, Hid (A.getD j 0 = x) := ⟨_, rfl⟩
      have d0 := h1 j hlt 0 (by omega)
      rw [HX.out] at d0
      simp only [List.getElem?_cons_zero, Nat.add_zero, Nat.mul_one] at d0
      clear h1
      by_cases hx : x = key
      · have hxb : (x == key) = true := by simpa using hx
        have HR : Hid (n = (j : Int)) := show _ = _ from HN.out.symm.trans (atI_is hlt (HX.out.trans hx) HJ.out)
        clear hx
        go_wp2
        go_ret
        exact ⟨by rw [HR.out]; rfl, rfl⟩
      · have hxb : (x == key) = false := by simpa using hx
        have HJ2 : Hid (∀ i, i < j + 1 → A.getD i 0 ≠ key) := fun i hi => by
          rcases Nat.lt_succ_iff_lt_or_eq.1 hi with g | g
          · exact HJ.out i g
          · rw [g, HX.out]; exact hx
        clear hx
        go_wp2
        go_roundw
        case rel => exact ⟨j + 1, by omega, by go_num, HJ2.out, trivial⟩
        case measure => simp [intOf]; omega
    · have hltI : ¬ (j : Int) < A.length := by omega
      have HR : Hid (n = -1) := show _ = _ from HN.out.symm.trans (atI_none (fun i hi => HJ.out i (by omega)))
      go_wp2
      go_ret
      exact ⟨by rw [HR.out]; rfl, rfl⟩
end Go.Proofs.Ytoaceadfdelgfaa
