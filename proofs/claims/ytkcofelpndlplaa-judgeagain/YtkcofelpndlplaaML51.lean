/-
  W9Again
  W9AgainL
-/
import Derived.Test.YtkcofelpndlplaaML47
import Derived.Test.YtkcofelpndlplaaML32
import Derived.Test.YtkcofelpndlplaaML48
import Derived.Test.YtkcofelpndlplaaML50
/-
  JudgeAgain, walked (under way).
-/
namespace Go.Proofs.Ytkcofelpndlplaa
open Go.RowKit
set_option linter.unusedVariables false
set_option linter.unusedSimpArgs false
set_option maxRecDepth 100000

theorem run_error {xs : List In} {nm : Nat} : ∀ {n : Nat} {p : Nat} {E : Int}, runK xs nm n = .error (p, E) → p < n ∧ E ≠ 0 := by
  intro n
  induction n with
  | zero => intro p E h; rw [runK] at h; cases h
  | succ n ih =>
    intro p E h
    rw [runK] at h
    cases h0 : runK xs nm n with
    | error e =>
      rw [h0] at h
      simp only at h
      injection h with h
      subst h
      have := ih h0
      exact ⟨by omega, this.2⟩
    | ok K =>
      rw [h0] at h
      simp only at h
      cases h1 : stepK xs nm n K with
      | ok K' => rw [h1] at h; cases h
      | error e =>
        rw [h1] at h
        simp only at h
        injection h with h
        injection h with h2 h3
        subst h2 h3
        refine ⟨by omega, ?_⟩
        unfold stepK at h1
        split at h1
        · cases h1
        split at h1
        · injection h1 with h1; subst h1; assumption
        · cases h1
theorem inq_error {ms : List Int} {xs : List In} {P E : Int} (h : inqR ms xs = .error (P, E)) : E ≠ 0 ∧ 0 ≤ P ∧ (P = 0 ∨ P < xs.length) := by
  unfold inqR at h
  split at h
  · injection h with h; injection h with h1 h2; subst h1 h2; exact ⟨by decide, by decide, .inl rfl⟩
  split at h
  · rename_i hE
    injection h with h; injection h with h1 h2; subst h1 h2
    exact ⟨hE, check_place xs⟩
  · cases hr : runK xs ms.length xs.length with
    | ok K => rw [hr] at h; cases h
    | error e =>
      rw [hr] at h
      simp only at h
      injection h with h; injection h with h1 h2; subst h1 h2
      have := run_error hr
      exact ⟨this.2, by omega, .inr (by omega)⟩
theorem inq_ok {ms : List Int} {xs : List In} {K : Kn} (h : inqR ms xs = .ok K) : mapsJ ms = true ∧ Taken xs ∧ runK xs ms.length xs.length = .ok K := by
  unfold inqR at h
  split at h
  · cases h
  rename_i hm
  split at h
  · cases h
  rename_i hE
  cases hr : runK xs ms.length xs.length with
  | error e => rw [hr] at h; cases h
  | ok K' =>
    rw [hr] at h
    simp only at h
    injection h with h
    subst h
    exact ⟨by simpa using hm, check_ok.1 (by simpa [errL] using hE), rfl⟩
theorem inq_four {ms : List Int} {xs : List In} {K : Kn} (h : inqR ms xs = .ok K) : inqR (fourN ms 4) xs = .ok K := by
  obtain ⟨hm, hT, hr⟩ := inq_ok h
  obtain ⟨h4, hl⟩ := four_ok hm
  unfold inqR
  rw [if_neg (by rw [h4]; simp), if_neg (by simp [show errL xs = 0 from check_ok.2 hT]), run_more (fourN_len ms 4) hr]
theorem inq_tail {ms : List Int} {xs : List In} {K : Kn} {a : Int} (h : inqR ms xs = .ok K) (ha : 0 ≤ a ∧ a ≤ 7) (hn : xs.length + 2 ≤ 64) : inqR ms (xs ++ tailI a) = .ok (K ++ two0) ∨ ∃ P, inqR ms (xs ++ tailI a) = .error (P, 32) := by
  obtain ⟨hm, hT, hr⟩ := inq_ok h
  rcases tail_check hT ha hn with hE | hE
  · left
    unfold inqR
    rw [if_neg (by rw [hm]; simp), if_neg (by simp [hE]), run_dead hT hr]
  · right
    unfold inqR
    rw [if_neg (by rw [hm]; simp), if_pos (by rw [hE]; decide), hE]
    exact ⟨_, rfl⟩
set_option maxHeartbeats 6400000 in
theorem again_bad (vm vc : Value) (ms : List Int) (xs : List In) (t : Int) (w : World) (h : SeesM w vm vc ms xs) (z : ms.length * 8 ≤ 140737488351232 ∧ xs.length * 40 ≤ 140737488355328) {P E : Int} (HI : Hid (inqR ms xs = .error (P, E))) :
    Calls Try.prog 4 #[modV vm vc, .int .i64 t] w fun e w' => e = .returned (.bool true) ∧ Below w.heap.size w w' := by
  have HM := keepJ h
  have HZ := keepJ z
  have HJ : Hid (judgeR ms xs = (P, E)) := by show _ = _; unfold judgeR; rw [HI.out]
  obtain ⟨hE0, hP0, hP1⟩ := inq_error HI.out
  obtain ⟨am, km, rfl⟩ := h.maps.shape
  obtain ⟨ac, kc, rfl⟩ := h.code.shape
  obtain ⟨W, HW, HBW, hWz, m0, m1⟩ : ∃ W, Hid (W = w.alloc (Obj.cells #[.slice am ms.length km, .slice ac xs.length kc] 25)) ∧ Hid (Below w.heap.size w W) ∧ w.heap.size < W.heap.size ∧ W.cell? ⟨w.heap.size, 0, none⟩ = some (.slice am ms.length km) ∧ W.cell? ⟨w.heap.size, 1, none⟩ = some (.slice ac xs.length kc) :=
    ⟨_, rfl, keepJ (by go_grown), by simp, by go_cell, by go_cell⟩
  have HMW := keepJ (HM.out.below HBW.out)
  have hE1 : ¬ E = 0 := hE0
  clear h z hE0
  by_cases hP : P = 0
  · subst hP
    go_enter Try.func4, Try.ntmps4
    go_wp2_with (first
      | (go_at_call 5; rw [← HW.out]; go_must (refine (awake9_any _).mono ?_); rintro e w1 ⟨rfl, hb1⟩; go_must (have hS1 := keepM2 ⟨m0, m1⟩ hb1 hWz; have hz1 := hb1.size; have HM1 := keepJ (HMW.out.below hb1); clear m0 m1; obtain ⟨m0, m1⟩ := hS1))
      | (go_at_call 7; go_must (refine (copied9_any _ _ ms xs _ HM1.out HZ.out).mono ?_); rintro e w2 ⟨um, uc, rfl, hM2, hb2⟩; go_must (have HM2 := keepJ hM2; have hz2 := hb2.size; clear hM2))
      | (go_at_call 10; go_must (refine (ljudge_as HM2.out.maps HM2.out.code HJ).mono ?_); rintro e w3 ⟨rfl, hb3⟩; go_must (have hz3 := hb3.size; have HB13 := keepJ (hb2.trans (hb3.mono hz2)); have HB3 := keepJ (HBW.out.trans ((hb1.trans (HB13.out.mono hz1)).mono HBW.out.size)); have hS3 := keepM2 ⟨m0, m1⟩ HB13.out (by omega); clear m0 m1; obtain ⟨m0, m1⟩ := hS3)))
    go_ret
    exact ⟨rfl, HB3.out⟩
  · have hP2 : P < xs.length := by omega
    go_enter Try.func4, Try.ntmps4
    go_wp2_with (first
      | (go_at_call 5; rw [← HW.out]; go_must (refine (awake9_any _).mono ?_); rintro e w1 ⟨rfl, hb1⟩; go_must (have hS1 := keepM2 ⟨m0, m1⟩ hb1 hWz; have hz1 := hb1.size; have HM1 := keepJ (HMW.out.below hb1); clear m0 m1; obtain ⟨m0, m1⟩ := hS1))
      | (go_at_call 7; go_must (refine (copied9_any _ _ ms xs _ HM1.out HZ.out).mono ?_); rintro e w2 ⟨um, uc, rfl, hM2, hb2⟩; go_must (have HM2 := keepJ hM2; have hz2 := hb2.size; clear hM2))
      | (go_at_call 10; go_must (refine (ljudge_as HM2.out.maps HM2.out.code HJ).mono ?_); rintro e w3 ⟨rfl, hb3⟩; go_must (have hz3 := hb3.size; have HB13 := keepJ (hb2.trans (hb3.mono hz2)); have HB3 := keepJ (HBW.out.trans ((hb1.trans (HB13.out.mono hz1)).mono HBW.out.size)); have hS3 := keepM2 ⟨m0, m1⟩ HB13.out (by omega); clear m0 m1; obtain ⟨m0, m1⟩ := hS3)))
    go_ret
    exact ⟨rfl, HB3.out⟩
end Go.Proofs.Ytkcofelpndlplaa
/-
  JudgeAgain, walked where the module is good (under way).
-/
namespace Go.Proofs.Ytkcofelpndlplaa
open Go.RowKit
set_option linter.unusedVariables false
set_option linter.unusedSimpArgs false
set_option maxRecDepth 100000

theorem OwnOr.sees {w : World} {B : Nat} {e : TypeId} {v : Value} {xs : List Int} (h : OwnOr w B e 1 v xs.length (xs.map (Value.int .i64))) (hw : ∀ x ∈ xs, (Lit.int .i64 x).wf = true) : Sees .i64 w v xs := by
  rcases h with ⟨h0, ad, rfl⟩ | h
  · obtain rfl : xs = [] := List.eq_nil_of_length_eq_zero h0
    exact ⟨some ad, 0, rfl, by simp, by simp [maxLen], fun h => (by cases h), by simp, fun h => absurd rfl h⟩
  · exact Sees.own h hw
theorem OwnOr.seesI {w : World} {B : Nat} {e : TypeId} {v : Value} {xs : List In} (h : OwnOr w B e 5 v xs.length (flat xs)) : SeesI w v xs := by
  rcases h with ⟨h0, ad, rfl⟩ | h
  · obtain rfl : xs = [] := List.eq_nil_of_length_eq_zero h0
    exact ⟨some ad, 0, rfl, by simp, by simp [maxLen], fun h => (by cases h), fun h => absurd rfl h⟩
  · exact own_seesI h
theorem OwnOr.apart {w : World} {B B' : Nat} {e e' : TypeId} {z z' : Nat} {v v' : Value} {n n' : Nat} {xs xs' : List Value} (h : OwnOr w B e z v n xs) (h' : OwnOr w B' e' z' v' n' xs') (hne : e ≠ e') {w2 : World} (hg : w.grownBy w2 v.ownBlock) (hn : n ≠ 0) : OwnOr w2 B' e' z' v' n' xs' := by
  rcases h' with h' | h'
  · exact .inl h'
  rcases h with h | h
  · exact absurd h.1 hn
  refine .inr (h'.kept hg ?_)
  rcases h with ⟨_, ⟨rfl, rfl⟩ | ⟨g, cap, cur, rfl, _, hh, _⟩⟩
  · exact absurd rfl hn
  rcases h' with ⟨_, ⟨rfl, rfl⟩ | ⟨g', cap', cur', rfl, _, hh', _⟩⟩
  · exact .inl rfl
  refine .inr fun e3 => ?_
  simp [Value.ownBlock] at e3
  subst e3
  rw [hh] at hh'
  injection hh' with h1
  injection h1 with _ h2
  exact hne h2
theorem own_type {w : World} {B : Nat} {e e' : TypeId} {z : Nat} {v : Value} {n : Nat} {xs : List Value} (h : w.ownsRow B e z v n xs) {b : Nat} {cs : Array Value} {fr : Nat × Nat} (hb : w.heap[b]? = some (.cells cs e' fr)) (hne : e ≠ e') : v.ownBlock ≠ some b := by
  rcases h with ⟨_, ⟨rfl, rfl⟩ | ⟨g, cap, cur, rfl, _, hh, _⟩⟩
  · simp [Value.ownBlock]
  · intro e3
    simp [Value.ownBlock] at e3
    subst e3
    rw [hh] at hb
    injection hb with h1
    injection h1 with _ h2
    exact hne h2
theorem OwnOr.by_type {w w' : World} {B : Nat} {e e' : TypeId} {z : Nat} {v : Value} {n : Nat} {xs : List Value} (h : OwnOr w B e z v n xs) {b : Nat} {cs : Array Value} {fr : Nat × Nat} (hb : w.heap[b]? = some (.cells cs e' fr)) (hne : e ≠ e') (hg : w.grownBy w' (some b)) : OwnOr w' B e z v n xs :=
  h.imp id fun h => h.kept hg (.inr (own_type h hb hne))
theorem OwnOr.alloc {w : World} {B : Nat} {e : TypeId} {z : Nat} {v : Value} {n : Nat} {xs : List Value} (h : OwnOr w B e z v n xs) (o : Obj) : OwnOr (w.alloc o) B e z v n xs := h.imp id fun h => h.alloc o
theorem OwnOr.none {w w' : World} {B : Nat} {e : TypeId} {z : Nat} {v : Value} {n : Nat} {xs : List Value} (h : OwnOr w B e z v n xs) (hg : w.grownBy w' none) : OwnOr w' B e z v n xs := h.imp id fun h => h.kept hg (by cases v.ownBlock with | none => exact .inl rfl | some k => exact .inr (by simp))
theorem MdC.set0 {w : World} {n : Nat} {vm vc : Value} (h : MdC w n vm vc) (um : Value) : MdC (w.setCell ⟨n, 0, none⟩ um) n um vc := heap_setCell_same w n 0 _ _ _ h
theorem MdC.set1 {w : World} {n : Nat} {vm vc : Value} (h : MdC w n vm vc) (uc : Value) : MdC (w.setCell ⟨n, 1, none⟩ uc) n vm uc := heap_setCell_same w n 1 _ _ _ h
theorem fourN_up (ms : List Int) : ∀ k, (fourN ms k).length ≤ ms.length + k
  | 0 => Nat.le_refl _
  | k + 1 => by
    have := fourN_up ms k
    show (addM (fourN ms k) k).length ≤ _
    unfold addM
    split
    · omega
    · simp; omega
theorem own_row {w : World} {B : Nat} {e : TypeId} {z : Nat} {v : Value} {n : Nat} {xs : List Value} (h : w.ownsRow B e z v n xs) : v.ownBlock = none ∨ ∃ g cs fr, v.ownBlock = some g ∧ B ≤ g ∧ w.heap[g]? = some (.cells cs e fr) := by
  rcases h with ⟨_, ⟨rfl, rfl⟩ | ⟨g, cap, cur, rfl, hB, hh, _⟩⟩
  · exact .inl rfl
  · exact .inr ⟨g, cur, _, rfl, hB, hh⟩
/-- What an append of a number to the maps leaves. -/
theorem maps_put {w0 w w7 : World} {B mb : Nat} {a c6 : Option Addr} {ys : List Int} {n cap l6 : Nat} {xs : List Value} {k : Int} {row : Option Nat} {v7 : Value} (hMd : MdC w mb (.slice a ys.length cap) (.slice c6 n l6)) (hIn : OwnOr w B 42 5 (.slice c6 n l6) n xs) (hBw : Below B w0 w) (hmb : B ≤ mb) (hBz : B ≤ w.heap.size) (hg : w.grownBy w7 row) (hrow : row = none ∨ (∃ g cs fr, row = some g ∧ B ≤ g ∧ w.heap[g]? = some (.cells cs 3 fr)))
    (hown : w7.ownsRow B 3 1 v7 (ys ++ [k]).length ((ys ++ [k]).map (Value.int .i64))) :
    MdC w7 mb (.slice a ys.length cap) (.slice c6 n l6) ∧ ∃ a7 cap7, v7 = .slice a7 (ys ++ [k]).length cap7 ∧ MdC (w7.setCell ⟨mb, 0, none⟩ v7) mb (.slice a7 (ys ++ [k]).length cap7) (.slice c6 n l6) ∧ OwnOr (w7.setCell ⟨mb, 0, none⟩ v7) B 3 1 (.slice a7 (ys ++ [k]).length cap7) (ys ++ [k]).length ((ys ++ [k]).map (Value.int .i64)) ∧ OwnOr (w7.setCell ⟨mb, 0, none⟩ v7) B 42 5 (.slice c6 n l6) n xs ∧ Below B w0 (w7.setCell ⟨mb, 0, none⟩ v7) := by
  have hrmb : row ≠ some mb := by
    rcases hrow with rfl | ⟨g, cs, fr, rfl, _, hh⟩
    · simp
    · intro e
      injection e with e
      subst e
      unfold MdC at hMd
      rw [hMd] at hh
      injection hh with h1
      injection h1 with _ h2
      exact absurd h2 (by decide)
  have hM7 := hMd.kept hg hrmb
  have hI7 : OwnOr w7 B 42 5 (.slice c6 n l6) n xs := by
    rcases hrow with rfl | ⟨g, cs, fr, rfl, _, hh⟩
    · exact hIn.none hg
    · exact hIn.by_type hh (by decide) hg
  have hB7 : Below B w0 w7 := hBw.grown hg hBz (fun j hj => by
    rcases hrow with rfl | ⟨g, cs, fr, rfl, hgB, _⟩
    · cases hj
    · injection hj with hj; omega)
  obtain ⟨a7, cap7, rfl⟩ := own_shapeT hown
  have hgs := grown_set w7 mb 0 (.slice a7 (ys ++ [k]).length cap7)
  exact ⟨hM7, a7, cap7, rfl, hM7.set0 _, OwnOr.by_type (.inr hown) hM7 (by decide) hgs, hI7.by_type hM7 (by decide) hgs, below_set hB7 hmb⟩
theorem has_succ {ys : List Int} {j : Nat} (hj : j < ys.length) (n : Int) : hasI (ys.take (j + 1)) n = (hasI (ys.take j) n || decide (ys.getD j 0 = n)) := by
  rw [has_take (by omega), has_take (by omega), range_all]
  simp only [Bool.not_and]
  congr 1
  simp
theorem four_wf {k : Nat} (h : k < 4) : (Lit.int .i64 (k : Int)).wf = true := by
  have h4 : k = 0 ∨ k = 1 ∨ k = 2 ∨ k = 3 := by omega
  rcases h4 with rfl | rfl | rfl | rfl <;> rfl
theorem fourN_wf {ms : List Int} (h : ∀ x ∈ ms, (Lit.int .i64 x).wf = true) : ∀ k, k ≤ 4 → ∀ x ∈ fourN ms k, (Lit.int .i64 x).wf = true
  | 0, _ => h
  | k + 1, hk => fun x hx => by
    unfold fourN addM at hx
    split at hx
    · exact fourN_wf h k (by omega) x hx
    · rcases List.mem_append.1 hx with hx | hx
      · exact fourN_wf h k (by omega) x hx
      · rw [List.mem_singleton.1 hx]
        have h4 : k = 0 ∨ k = 1 ∨ k = 2 ∨ k = 3 := by omega
        rcases h4 with rfl | rfl | rfl | rfl <;> rfl
/-- What an append of instructions to the code leaves. -/
theorem code_put {w0 w wA : World} {B mb : Nat} {a c : Option Addr} {ms : List Int} {xs ys : List In} {k l : Nat} {vA : Value} (hMd : MdC w mb (.slice a ms.length k) (.slice c xs.length l)) (hO : OwnOr w B 3 1 (.slice a ms.length k) ms.length (ms.map (Value.int .i64))) (hown : w.ownsRow B 42 5 (.slice c xs.length l) xs.length (flat xs)) (hBw : Below B w0 w) (hmb : B ≤ mb) (hBz : B ≤ w.heap.size) (hg : w.grownBy wA (Value.slice c xs.length l).ownBlock)
    (hownA : wA.ownsRow B 42 5 vA (xs ++ ys).length (flat (xs ++ ys))) :
    wA.cell? ⟨mb, 0, none⟩ = some (.slice a ms.length k) ∧ wA.cell? ⟨mb, 1, none⟩ = some (.slice c xs.length l) ∧ wA.frozen? ⟨mb, 1, none⟩ = false ∧ ∃ aA capA, vA = .slice aA (xs ++ ys).length capA ∧ MdC (wA.setCell ⟨mb, 1, none⟩ vA) mb (.slice a ms.length k) (.slice aA (xs ++ ys).length capA) ∧ OwnOr (wA.setCell ⟨mb, 1, none⟩ vA) B 3 1 (.slice a ms.length k) ms.length (ms.map (Value.int .i64)) ∧ OwnOr (wA.setCell ⟨mb, 1, none⟩ vA) B 42 5 (.slice aA (xs ++ ys).length capA) (xs ++ ys).length (flat (xs ++ ys)) ∧ Below B w0 (wA.setCell ⟨mb, 1, none⟩ vA) := by
  have hne : (Value.slice c xs.length l).ownBlock ≠ some mb := own_type hown hMd (by decide)
  have hMA := hMd.kept hg hne
  have hOA : OwnOr wA B 3 1 (.slice a ms.length k) ms.length (ms.map (Value.int .i64)) := by
    rcases own_row hown with h | ⟨g, cs, fr, h1, h2, h3⟩
    · rw [h] at hg; exact hO.none hg
    · rw [h1] at hg; exact hO.by_type h3 (by decide) hg
  have hBA : Below B w0 wA := hBw.grown hg hBz (fun j hj => (hown.lt j hj).1)
  obtain ⟨aA, capA, rfl⟩ := own_shapeT hownA
  have hgs := grown_set wA mb 1 (.slice aA (xs ++ ys).length capA)
  exact ⟨hMA.cells.1, hMA.cells.2, hMA.frozen 1, aA, capA, rfl, hMA.set1 _, hOA.by_type hMA (by decide) hgs, OwnOr.by_type (.inr hownA) hMA (by decide) hgs, below_set hBA hmb⟩
theorem tail_arg (t : Int) : ∃ q, (wrap64 (t.tmod 8 + 8)).tmod 8 = q ∧ 0 ≤ q ∧ q ≤ 7 := by
  have h1 : t.tmod 8 < 8 := Int.tmod_lt_of_pos t (by decide)
  have h2 : -8 < t.tmod 8 := Int.lt_tmod_of_pos t (by decide)
  obtain ⟨x, hx⟩ : ∃ x, t.tmod 8 = x := ⟨_, rfl⟩
  rw [hx] at h1 h2 ⊢
  have hw : wrap64 (x + 8) = x + 8 := by
    unfold wrap64
    omega
  rw [hw]
  refine ⟨_, rfl, ?_⟩
  rw [Int.tmod_eq_emod_of_nonneg (by omega)]
  omega
theorem ltypes_err {vm vc : Value} {ms : List Int} {xs : List In} {w : World} (hm : Sees .i64 w vm ms) (hx : SeesI w vc xs) {P E : Int} (h : Hid (inqR ms xs = .error (P, E))) : Calls Try.prog 6 #[.agg #[vm, vc]] w fun e w' => e = .returned (.tuple #[.slice none 0 0, .int .i64 E]) ∧ Below w.heap.size w w' := by
  refine (ltypes_any vm ms vc xs w hm hx).mono ?_
  rintro e w' (⟨P', E', h1, h2, rfl, hb⟩ | ⟨K', tb, vs, h1, _⟩)
  · rw [h.out] at h1
    injection h1 with h1
    injection h1 with h3 h4
    subst h4
    exact ⟨rfl, hb⟩
  · rw [h.out] at h1; cases h1
end Go.Proofs.Ytkcofelpndlplaa
