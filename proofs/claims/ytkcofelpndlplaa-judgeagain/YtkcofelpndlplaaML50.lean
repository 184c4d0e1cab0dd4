/-
  JAwake
  W9Fits
  W9Loops
-/
import Derived.Test.YtkcofelpndlplaaML49
import Derived.Test.YtkcofelpndlplaaML45
import Derived.Test.YtkcofelpndlplaaML48
/-
  The law's small and awake: the document's examples, by the landed judge's contracts. No condition.
-/
namespace Go.Proofs.Ytkcofelpndlplaa
open Go.RowKit
set_option linter.unusedVariables false
set_option linter.unusedSimpArgs false
set_option maxRecDepth 100000

def smallX : List In := [⟨13, 1, 0, 0, 0⟩, ⟨18, 2, 1, 8, 16⟩, ⟨0, 0, 0, 8, 0⟩, ⟨22, 0, 0, 0, 0⟩, ⟨11, 0, 0, 1, 0⟩, ⟨22, 0, 0, 0, 0⟩]
def badX : List In := [⟨13, 1, 0, 0, 0⟩, ⟨11, 0, 0, 1, 0⟩, ⟨22, 0, 0, 0, 0⟩]
def okAt (e : Except (Int × Int) Kn) : Bool := match e with | .ok K => (K.getD 4 kn0).1 && eqT ((K.getD 4 kn0).2.getD 1 Ty.nil) ⟨1, 0, 15, 0⟩ | .error _ => false
theorem small_at : okAt (inqR [] smallX) = true := by decide +kernel
theorem bad_at : judgeR [] badX = (1, 35) := by decide +kernel
theorem small_run : ∃ K, inqR [] smallX = .ok K ∧ (K.getD 4 kn0).1 = true ∧ (K.getD 4 kn0).2.getD 1 Ty.nil = ⟨1, 0, 15, 0⟩ := by
  have h := small_at
  unfold okAt at h
  split at h
  · rename_i K hK
    rw [Bool.and_eq_true, eqT_iff] at h
    exact ⟨K, hK, h.1, h.2⟩
  · cases h
theorem seesI_lit (w : World) (t : TypeId) (xs : List In) (cs : Array Value) (n g : Nat) (hg : g = w.heap.size) (hcs : cs = (flat xs).toArray) (hn : n = xs.length) (hm : xs.length ≤ 1048576) : SeesI (w.alloc (.cells cs t)) (.slice (some ⟨g, 0, none⟩) n n) xs := by
  subst hn hcs hg
  refine own_seesI (base := w.heap.size) (e := t) ⟨flat_len xs, .inr ⟨w.heap.size, xs.length, (flat xs).toArray, rfl, Nat.le_refl _, heap_alloc_new w _, Nat.le_refl _, by unfold maxLen; omega, by rw [List.size_toArray, flat_len], ?_⟩⟩
  rw [← flat_len]; simp
theorem sees_nil9 (w : World) : Sees .i64 w (.slice none 0 0) [] := ⟨none, 0, rfl, by simp, by simp [maxLen], fun _ => rfl, by simp, fun h => absurd rfl h⟩
set_option maxHeartbeats 800000 in
theorem small9_any (w : World) : Calls Try.prog 11 #[] w fun e w' => ∃ g, e = .returned (modV (.slice none 0 0) (.slice (some ⟨g, 0, none⟩) 6 6)) ∧ SeesI w' (.slice (some ⟨g, 0, none⟩) 6 6) smallX ∧ Below w.heap.size w w' := by
  go_enter Try.func11, Try.ntmps11
  go_wp2_with fail
  have hm := (MdC.new w (.slice none 0 0) (.slice (some ⟨w.heap.size + 1, 0, none⟩) 6 6)).kept (grownA_alloc _ (.cells #[.int .i64 13, .int .i64 1, .int .i64 0, .int .i64 0, .int .i64 0, .int .i64 18, .int .i64 2, .int .i64 1, .int .i64 8, .int .i64 16, .int .i64 0, .int .i64 0, .int .i64 0, .int .i64 8, .int .i64 0, .int .i64 22, .int .i64 0, .int .i64 0, .int .i64 0, .int .i64 0, .int .i64 11, .int .i64 0, .int .i64 0, .int .i64 1, .int .i64 0, .int .i64 22, .int .i64 0, .int .i64 0, .int .i64 0, .int .i64 0] 42) none) (by simp)
  refine bodyPost_ret (results_cell_row rfl _ _ w.heap.size _ _ (0, 0) _ rfl hm Try.underlying25 rfl (by kernel_rfl)) rfl ?_
  exact ⟨w.heap.size + 1, rfl, seesI_lit _ _ smallX _ _ _ (by simp) rfl rfl (by decide), ((Below.refl _ _).alloc (Nat.le_refl _) _).alloc (by simp) _⟩
theorem ljudge_as {vm vc : Value} {ms : List Int} {xs : List In} {w : World} (hm : Sees .i64 w vm ms) (hx : SeesI w vc xs) {P E : Int} (h : Hid (judgeR ms xs = (P, E))) : Calls Try.prog 10 #[.agg #[vm, vc]] w fun e w' => e = .returned (.tuple #[.int .i64 P, .int .i64 E]) ∧ Below w.heap.size w w' := by
  refine (ljudge_any vm ms vc xs w hm hx).mono ?_
  rintro e w' ⟨P', E', h1, _, _, rfl, hb⟩
  rw [h.out] at h1
  injection h1 with h2 h3
  subst h2 h3
  exact ⟨rfl, hb⟩
theorem ltypes_as {vm vc : Value} {ms : List Int} {xs : List In} {w : World} (hm : Sees .i64 w vm ms) (hx : SeesI w vc xs) {K : Kn} (h : Hid (inqR ms xs = .ok K)) : Calls Try.prog 6 #[.agg #[vm, vc]] w fun e w' => ∃ tb vs, e = .returned (.tuple #[.slice (some ⟨tb, 0, none⟩) xs.length xs.length, .int .i64 0]) ∧ Rows9 w' tb K xs.length vs ∧ K.length = xs.length ∧ MadeK ms.length K ∧ Below w.heap.size w w' := by
  refine (ltypes_any vm ms vc xs w hm hx).mono ?_
  rintro e w' (⟨P, E, h1, _⟩ | ⟨K', tb, vs, h1, hT, hmf, hr, hl, hM, rfl, hR, _, hb⟩)
  · rw [h.out] at h1; cases h1
  · rw [h.out] at h1; injection h1 with h1; subst h1
    exact ⟨tb, vs, rfl, hR, hl, hM, hb⟩
theorem Rows9.open {w : World} {tb : Nat} {K : Kn} {n : Nat} {vs : List Value} (h : Rows9 w tb K n vs) {j : Nat} (hj : j < n) (hn : n ≤ K.length) (hr : (K.getD j kn0).1 = true) : ∃ g cap, w.cell? ⟨tb, j, none⟩ = some (.slice (some ⟨g, 0, none⟩) 8 cap) ∧ 8 ≤ cap ∧ cap ≤ 9223372036854775807 ∧ g < w.heap.size ∧ tb < g ∧ (K.getD j kn0).2.length = 8 ∧ ∀ r, r < 8 → AtT w g (r * 4) ((K.getD j kn0).2.getD r Ty.nil) := by
  obtain ⟨⟨base, ho⟩, h8, h1, h2⟩ := (h.row j hj).2 hr
  obtain ⟨g, cap, hv, hb, hgz, hc⟩ := own_block ho (by omega)
  have hcell := h.cells.cell (getD_some (show j < vs.length by rw [h.len]; omega))
  have hs := own_seesT ho
  rw [hv] at hcell h1 hs
  rw [h8] at hcell hs hc
  obtain ⟨a', c', hv', h3, h4, h5, h6⟩ := hs
  injection hv' with e1 e2 e3
  subst e1 e3
  obtain ⟨b', off', he, hlt, hat⟩ := h6 (fun e => by rw [e] at h8; simp at h8)
  injection he with he
  injection he with e4 e5
  subst e4 e5
  refine ⟨g, cap, hcell, hc, by unfold maxLen at h4; omega, hgz, h1, h8, fun r hr => ?_⟩
  have := hat r (by omega)
  rw [Nat.zero_add] at this
  exact this
theorem Rows9.shut {w : World} {tb : Nat} {K : Kn} {n : Nat} {vs : List Value} (h : Rows9 w tb K n vs) {j : Nat} (hj : j < n) (hn : n ≤ K.length) (hr : (K.getD j kn0).1 = false) : w.cell? ⟨tb, j, none⟩ = some (.slice none 0 0) := by
  have hcell := h.cells.cell (getD_some (show j < vs.length by rw [h.len]; omega))
  rw [(h.row j hj).1 hr] at hcell
  exact hcell
set_option maxHeartbeats 1600000 in
theorem awake9_any (w : World) : Calls Try.prog 5 #[] w fun e w' => e = .returned (.bool true) ∧ Below w.heap.size w w' := by
  obtain ⟨K, hK, hr, ht⟩ := small_run
  have HK : Hid (inqR [] smallX = .ok K) := hK
  have HJ : Hid (judgeR [] smallX = (0, 0)) := by show _ = _; unfold judgeR; rw [hK]
  have HB : Hid (judgeR [] badX = (1, 35)) := bad_at
  have HR := keepJ hr
  have HT := keepJ ht
  have K1 : Hid True := trivial
  have K2 : Hid True := trivial
  have K3 : Hid True := trivial
  clear hK hr ht
  go_enter Try.func5, Try.ntmps5
  go_wp2_with (first
    | (go_at_call 11; (have hq := K1; clear hq); go_must (refine (small9_any _).mono ?_); rintro e w1 ⟨g1, rfl, hs1, hb1⟩; go_must (have HS1 := keepJ hs1; clear hs1 K1))
    | (go_at_call 10; (have hq := K2; clear hq); go_must (refine (ljudge_as (sees_nil9 _) HS1.out HJ).mono ?_); rintro e w2 ⟨rfl, hb2⟩; go_must (have hB2 := hb1.trans (hb2.mono hb1.size); clear hb2 K2))
    | (go_at_call 11; go_must (refine (small9_any _).mono ?_); rintro e w3 ⟨g3, rfl, hs3, hb3⟩; go_must (have HS3 := keepJ hs3; have hB3 := hB2.trans (hb3.mono hB2.size); clear hs3 hb3))
    | (go_at_call 6; go_must (refine (ltypes_as (sees_nil9 _) HS3.out HK).mono ?_); rintro e w4 ⟨tb, vs, rfl, hR, hl, hM, hb4⟩; go_must (have hB4 := hB3.trans (hb4.mono hB3.size); have HR4 := keepJ hR; have HL4 := keepJ hl; clear hb4 hR hl hM))
    | (go_at_call 10; go_must (refine (ljudge_as (xs := badX) (sees_nil9 _) (seesI_lit _ _ badX _ _ _ rfl rfl rfl (by decide)) HB).mono ?_); rintro e w5 ⟨rfl, hb5'⟩; go_must (have hb5 := box_below hb5'; have hB5 := hB4.trans (hb5.mono hB4.size); obtain ⟨g, cap, c4, hcap, hcm, hg, _, h8, hat⟩ := (HR4.out.grown hb5).open (j := 4) (by decide) (by rw [HL4.out]; exact Nat.le_refl _) HR.out; have hA := hat 1 (by decide); rw [HT.out] at hA; obtain ⟨a0, a1, a2, a3⟩ := hA; simp only at a0 a1 a2 a3; clear hat hb5 hb5' HS1 HS3)))
  go_ret
  exact ⟨rfl, hB5⟩
end Go.Proofs.Ytkcofelpndlplaa
/-
  The law's fits. No condition.
-/
namespace Go.Proofs.Ytkcofelpndlplaa
open Go.RowKit
set_option linter.unusedVariables false
set_option linter.unusedSimpArgs false
set_option maxRecDepth 100000

theorem lwithin_b {a A b B : Int} {q : Bool} (h : Hid (withinB a A b B = q)) (w : World) : Calls Try.prog 14 #[.agg #[.int .u64 a, .int .u64 A], .agg #[.int .u64 b, .int .u64 B]] w fun e w' => e = .returned (.bool q) ∧ Below w.heap.size w w' := by
  rw [← h.out]; exact lwithin_any a A b B w
set_option maxHeartbeats 1600000 in
theorem fits9_any (a b : Ty) (w : World) : Calls Try.prog 9 #[tyV a, tyV b] w fun e w' => e = .returned (.bool (fitsJ a b)) ∧ Below w.heap.size w w' := by
  obtain ⟨ak, al, ah, am⟩ := a
  obtain ⟨bk, bl, bh, bm⟩ := b
  obtain ⟨R, HR⟩ : ∃ R, Hid (R = fitsJ ⟨ak, al, ah, am⟩ ⟨bk, bl, bh, bm⟩) := ⟨_, rfl⟩
  rw [← HR.out]
  by_cases h0 : bk = 0
  · subst h0
    have HV : Hid (R = true) := by show _ = _; rw [HR.out]; rfl
    go_enter Try.func9, Try.ntmps9
    go_wp2
    go_ret
    exact ⟨by rw [HV.out]; rfl, by go_grown⟩
  by_cases h1 : bk = 1
  · subst h1
    by_cases ha : ak = 1
    · subst ha
      have HV : Hid (withinB al ah bl bh = R) := by show _ = _; rw [HR.out]; unfold fitsJ; simp
      go_enter Try.func9, Try.ntmps9
      go_wp2_with (go_at_call 14; go_must (refine (lwithin_b HV _).mono ?_); rintro e w1 ⟨rfl, hb1⟩; go_must (have hB := two_alloc rfl hb1))
      go_ret
      exact ⟨rfl, hB⟩
    · have HV : Hid (R = false) := by show _ = _; rw [HR.out]; unfold fitsJ; simp [ha]
      go_enter Try.func9, Try.ntmps9
      go_wp2
      go_ret
      exact ⟨by rw [HV.out]; rfl, by go_grown⟩
  by_cases ha : ak = bk
  · subst ha
    by_cases hm : am = bm
    · subst hm
      have HV : Hid (R = true) := by show _ = _; rw [HR.out]; unfold fitsJ; simp [h0, h1]
      go_enter Try.func9, Try.ntmps9
      go_wp2
      go_ret
      exact ⟨by rw [HV.out]; rfl, by go_grown⟩
    · have HV : Hid (R = false) := by show _ = _; rw [HR.out]; unfold fitsJ; simp [h0, h1, hm]
      go_enter Try.func9, Try.ntmps9
      go_wp2
      go_ret
      exact ⟨by rw [HV.out]; show Ending.returned (.bool (am == bm)) = _; rw [show (am == bm) = false by simpa using hm], by go_grown⟩
  · have HV : Hid (R = false) := by show _ = _; rw [HR.out]; unfold fitsJ; simp [h0, ha]
    go_enter Try.func9, Try.ntmps9
    go_wp2
    go_ret
    exact ⟨by rw [HV.out]; rfl, by go_grown⟩
theorem fits9_as {ak al ah am bk bl bh bm : Int} {q : Bool} (h : Hid (fitsJ ⟨ak, al, ah, am⟩ ⟨bk, bl, bh, bm⟩ = q)) (w : World) : Calls Try.prog 9 #[.agg #[.int .i64 ak, .int .u64 al, .int .u64 ah, .int .i64 am], .agg #[.int .i64 bk, .int .u64 bl, .int .u64 bh, .int .i64 bm]] w fun e w' => e = .returned (.bool q) ∧ Below w.heap.size w w' := by
  rw [← h.out]; exact fits9_any ⟨ak, al, ah, am⟩ ⟨bk, bl, bh, bm⟩ w
end Go.Proofs.Ytkcofelpndlplaa
/-
  JudgeLoops, walked: the answer is true. Conditions: the module's slices read as numbers and as instructions, and take up no more bytes than an argument may.
-/
namespace Go.Proofs.Ytkcofelpndlplaa
open Go.RowKit
set_option linter.unusedVariables false
set_option linter.unusedSimpArgs false
set_option maxRecDepth 100000

theorem lright_b {a A : Int} (h : a ≤ A) (w : World) : Calls Try.prog 8 #[.agg #[.int .u64 a, .int .u64 A]] w fun e w' => e = .returned (.bool true) ∧ Below w.heap.size w w' := by
  refine (lright_any a A w).mono ?_
  rintro e w' ⟨rfl, rfl⟩
  exact ⟨by rw [decide_eq_true h], (Below.refl _ _).alloc (Nat.le_refl _) _⟩
theorem keep8 {w w' : World} {x y p q : Nat} {a b : Ty} (h : AtT w x p a ∧ AtT w y q b) (hb : Below w.heap.size w w') (hx : x < w.heap.size) (hy : y < w.heap.size) : AtT w' x p a ∧ AtT w' y q b := ⟨h.1.below hb hx, h.2.below hb hy⟩
theorem kept1T {w w1 : World} {k lo hi m : Int} {T : TypeId} (h : Below (w.alloc (.cells #[.int .i64 k, .int .u64 lo, .int .u64 hi, .int .i64 m] T)).heap.size (w.alloc (.cells #[.int .i64 k, .int .u64 lo, .int .u64 hi, .int .i64 m] T)) w1) : True ∧ True ∧ w.heap.size < w1.heap.size ∧ w1.cell? ⟨w.heap.size, 0, none⟩ = some (.int .i64 k) ∧ w1.cell? ⟨w.heap.size, 1, none⟩ = some (.int .u64 lo) ∧ w1.cell? ⟨w.heap.size, 2, none⟩ = some (.int .u64 hi) ∧ w1.cell? ⟨w.heap.size, 3, none⟩ = some (.int .i64 m) ∧ True := by
  have hz : w.heap.size < (w.alloc (.cells #[.int .i64 k, .int .u64 lo, .int .u64 hi, .int .i64 m] T)).heap.size := by simp
  refine ⟨trivial, trivial, Nat.lt_of_lt_of_le hz h.size, ?_, ?_, ?_, ?_, trivial⟩
  · rw [h.cell (p := ⟨w.heap.size, 0, none⟩) hz]; go_cell
  · rw [h.cell (p := ⟨w.heap.size, 1, none⟩) hz]; go_cell
  · rw [h.cell (p := ⟨w.heap.size, 2, none⟩) hz]; go_cell
  · rw [h.cell (p := ⟨w.heap.size, 3, none⟩) hz]; go_cell
/-- A place's row, read. -/
def RowAt (w : World) (tb k g cap : Nat) (s : St) : Prop := w.cell? ⟨tb, k, none⟩ = some (.slice (some ⟨g, 0, none⟩) 8 cap) ∧ tb < w.heap.size ∧ g < w.heap.size ∧ ∀ r, r < 8 → AtT w g (r * 4) (s.getD r Ty.nil)
theorem RowAt.below {w w' : World} {tb k g cap : Nat} {s : St} (h : RowAt w tb k g cap s) (hb : Below w.heap.size w w') : RowAt w' tb k g cap s :=
  ⟨(hb.cell (p := ⟨tb, k, none⟩) h.2.1).trans h.1, Nat.lt_of_lt_of_le h.2.1 hb.size, Nat.lt_of_lt_of_le h.2.2.1 hb.size, fun r hr => (h.2.2.2 r hr).below hb h.2.2.1⟩
theorem Rows9.rowAt {w : World} {tb : Nat} {K : Kn} {n : Nat} {vs : List Value} (h : Rows9 w tb K n vs) {j : Nat} (hj : j < n) (hn : n ≤ K.length) (hr : (K.getD j kn0).1 = true) : ∃ g cap, RowAt w tb j g cap (K.getD j kn0).2 ∧ 8 ≤ cap ∧ cap ≤ 9223372036854775807 := by
  obtain ⟨g, cap, c1, hc1, hc1m, hg, hgt, h8, hat⟩ := h.open hj hn hr
  exact ⟨g, cap, ⟨c1, h.cells.lt, hg, hat⟩, hc1, hc1m⟩
set_option maxHeartbeats 6400000 in
theorem loops9_any (vm vc : Value) (ms : List Int) (xs : List In) (w : World) (h : SeesM w vm vc ms xs) (z : ms.length * 8 ≤ 140737488351232 ∧ xs.length * 40 ≤ 140737488355328) :
    Calls Try.prog 3 #[modV vm vc] w fun e w' => e = .returned (.bool true) ∧ Below w.heap.size w w' := by
  have HM := keepJ h
  have HZ := keepJ z
  obtain ⟨am, km, rfl⟩ := h.maps.shape
  obtain ⟨ac, kc, rfl⟩ := h.code.shape
  obtain ⟨nm, HNM⟩ : ∃ nm, Hid (ms.length = nm) := ⟨_, rfl⟩
  obtain ⟨n, HN⟩ : ∃ n, Hid (xs.length = n) := ⟨_, rfl⟩
  obtain ⟨W, HW, HBW, hWz, m0, m1⟩ : ∃ W, Hid (W = w.alloc (Obj.cells #[.slice am ms.length km, .slice ac xs.length kc] 25)) ∧ Hid (Below w.heap.size w W) ∧ w.heap.size < W.heap.size ∧ W.cell? ⟨w.heap.size, 0, none⟩ = some (.slice am ms.length km) ∧ W.cell? ⟨w.heap.size, 1, none⟩ = some (.slice ac xs.length kc) :=
    ⟨_, rfl, keepJ (by go_grown), by simp, by go_cell, by go_cell⟩
  have HMW := keepJ (HM.out.below HBW.out)
  clear h z
  go_enter Try.func3, Try.ntmps3
  go_wp2_with (first
    | (go_at_call 5; rw [← HW.out]; go_must (refine (awake9_any _).mono ?_); rintro e w1 ⟨rfl, hb1⟩; go_must (have hS1 := keepM2 ⟨m0, m1⟩ hb1 hWz; have hz1 := hb1.size; have HM1 := keepJ (HMW.out.below hb1); clear m0 m1; obtain ⟨m0, m1⟩ := hS1))
    | (go_at_call 7; go_must (refine (copied9_any _ _ ms xs _ HM1.out HZ.out).mono ?_); rintro e w2 ⟨um, uc, rfl, hM2, hb2⟩; go_must (have HM2 := keepJ hM2; have hz2 := hb2.size; clear hM2))
    | (go_at_call 6; go_must (refine (ltypes_any _ ms _ xs _ HM2.out.maps HM2.out.code).mono ?_); rintro e w3 (⟨P, E, hi, hE0, rfl, hb3⟩ | ⟨K, tb, vs, hi, hT, hmf, hr, hl, hMK, rfl, hR, htb, hb3⟩) <;> (have hz3 := hb3.size; have HB13 := keepJ (hb2.trans (hb3.mono hz2)); have HB3 := keepJ (HBW.out.trans ((hb1.trans (HB13.out.mono hz1)).mono HBW.out.size)); have hS3 := keepM2 ⟨m0, m1⟩ HB13.out (by omega); clear m0 m1; obtain ⟨m0, m1⟩ := hS3) <;> (try (have HR := keepJ hR; have HTK := keepJ hT; have HRN := keepJ hr; have HL := keepJ hl; have HMK := keepJ hMK; have h64 := hT.top; have hpos := hT.pos; have HF := keepJ (run_final hT hr); obtain ⟨g0, cap0, c0, hc0, hc0m, hg0, _, _, _⟩ := hR.open (j := 0) hT.pos (by rw [hl]; exact Nat.le_refl _) HF.out.1; have hposI : (0 : Int) < xs.length := (by omega); clear hR hT hr hl hMK hmf hi htb))))
  · go_ret
    exact ⟨rfl, HB3.out⟩
  · clear c0
    have hx64 : (xs.length : Int) ≤ 64 := by omega
    obtain ⟨cb, co, rfl, hcc, hck⟩ : ∃ cb co, ac = some ⟨cb, co, none⟩ ∧ xs.length ≤ kc ∧ kc ≤ 9223372036854775807 := by
      obtain ⟨a', c', hv, h1, h2, h3, h4⟩ := HM.out.code
      injection hv with e1 e2 e3
      subst e1 e3
      obtain ⟨b, off, rfl, _⟩ := h4 (fun e => by rw [e] at hpos; simp at hpos)
      exact ⟨b, off, rfl, h1, by unfold maxLen at h2; omega⟩
    have HAT : Hid (∀ wx, Below w3.heap.size w3 wx → ∀ p, p < xs.length → cb < wx.heap.size ∧ At wx cb (co + p * 5) (nth xs p)) := fun wx hb p hp => by
      obtain ⟨a', c', hv, h1, h2, h3, h4⟩ := HM.out.code.below (HB3.out.trans (hb.mono HB3.out.size))
      injection hv with e1 e2 e3
      subst e1 e3
      obtain ⟨b, off, he, hlt, hat⟩ := h4 (fun e => by rw [e] at hpos; simp at hpos)
      injection he with he
      injection he with e4 e5
      subst e4 e5
      exact ⟨hlt, hat p hp⟩
    go_loopw [5] (fun i wr => ∃ k : Nat, k ≤ xs.length ∧ i = .int .i64 k ∧ Hid (Below w3.heap.size w3 wr)) (fun i _ => xs.length - (intOf i).toNat)
    case atStart => exact ⟨0, by omega, rfl, Below.refl _ _⟩
    case round =>
      obtain ⟨k, hk, rfl, HBr⟩ := hrel
      by_cases hlt : k < xs.length
      · have hkI : (k : Int) < xs.length := by omega
        have HRr := keepJ (HR.out.grown HBr.out)
        cases hrk : (K.getD k kn0).1 with
        | false =>
          have c1 := HRr.out.shut hlt (by rw [HL.out]; exact Nat.le_refl _) hrk
          go_wp2
          go_roundw
          case rel => exact ⟨k + 1, by omega, by go_num, HBr.out⟩
          case measure => simp [intOf]; omega
        | true =>
          obtain ⟨g, cap, hrow, hc1, hc1m⟩ := HRr.out.rowAt hlt (by rw [HL.out]; exact Nat.le_refl _) hrk
          have HRW := keepJ hrow
          have c1 := hrow.1
          have HM8 := keepJ (HMK.out.at k)
          have HFK : Hid ((nth xs k).op = 20 → ∃ q : Nat, (q : Int) = k - (nth xs k).d ∧ q < k ∧ (K.getD q kn0).1 = true ∧ fitsAll (K.getD k kn0).2 (K.getD q kn0).2 = true) := HF.out.2 k hlt hrk
          obtain ⟨s, HS⟩ : ∃ s, Hid ((K.getD k kn0).2 = s) := ⟨_, rfl⟩
          rw [HS.out] at HRW HM8 HFK
          clear hrow hrk
          go_wp2
          clear c1
          go_loopw [6] (fun i wq => ∃ j : Nat, j ≤ 8 ∧ i = .int .i64 j ∧ Hid (Below w3.heap.size w3 wq) ∧ Hid (RowAt wq tb k g cap s)) (fun i _ => 8 - (intOf i).toNat)
          case atStart => exact ⟨0, by omega, rfl, HBr.out, HRW.out⟩
          case round =>
            obtain ⟨j, hj, rfl, HBq, HRq⟩ := hrel
            have c1 := HRq.out.1
            have hmB := keepM2 ⟨m0, m1⟩ HBq.out (by omega)
            by_cases hjt : j < 8
            · obtain ⟨tk, tl, th, tm, HT⟩ : ∃ k' lo hi m, Hid (s.getD j Ty.nil = ⟨k', lo, hi, m⟩) := ⟨_, _, _, _, rfl⟩
              have hmd := HM8.out.get hjt
              have hA := HRq.out.2.2.2 j hjt
              have hgz := HRq.out.2.2.1
              rw [HT.out] at hmd hA
              obtain ⟨e0, e1, e2, e3⟩ := hA
              simp only at e0 e1 e2 e3
              obtain ⟨n0, n1⟩ := hmB
              have hwz : w.heap.size < w3.heap.size := by omega
              have hwq := HBq.out.size
              have hn1 : ¬ w.heap.size = wr.heap.size := by omega
              have hn2 : ¬ wr.heap.size = w.heap.size := by omega
              have hn3 : w.heap.size < wr.heap.size := by omega
              have hjI : (j : Int) < 8 := by omega
              rcases hmd with ⟨hk0, hl0, hh0, hm0⟩ | ⟨hk0, hl0, hh0, hh1, hm0⟩ | ⟨hk0, hl0, hh0, hm0, hm1⟩
              · simp only at hk0 hl0 hh0 hm0
                subst hk0 hl0 hh0 hm0
                go_wp2
                go_roundw
                case rel => exact ⟨j + 1, by omega, by go_num, HBq.out.trans ((below_alloc _ _).mono HBq.out.size), HRq.out.below (below_alloc _ _)⟩
                case measure => simp [intOf]; omega
              · simp only at hk0 hl0 hh0 hh1 hm0
                subst hk0 hm0
                go_wp2_with (go_at_call 8; go_must (refine (lright_b hh0 _).mono ?_); rintro e w6 ⟨rfl, hb6'⟩; go_must (have hb6 := box_below hb6'; obtain ⟨_, _, _, d0, d1, d2, d3, _⟩ := kept1T hb6'; clear hb6'))
                go_roundw
                case rel => exact ⟨j + 1, by omega, by go_num, HBq.out.trans (hb6.mono HBq.out.size), HRq.out.below hb6⟩
                case measure => simp [intOf]; omega
              · simp only at hk0 hl0 hh0 hm0 hm1
                subst hk0 hl0 hh0
                have hq1 : ¬ tm < 0 := by omega
                have hq2 : ¬ (ms.length : Int) ≤ tm := by omega
                go_wp2
                go_roundw
                case rel => exact ⟨j + 1, by omega, by go_num, HBq.out.trans ((below_alloc _ _).mono HBq.out.size), HRq.out.below (below_alloc _ _)⟩
                case measure => simp [intOf]; omega
            · have hjn : ¬ (j : Int) < 8 := by omega
              clear hjt
              obtain ⟨n0, n1⟩ := hmB
              have hwz : w.heap.size < w3.heap.size := by omega
              have hwq := HBq.out.size
              have hn3 : w.heap.size < wr.heap.size := by omega
              obtain ⟨op, d, a, b, imm, HI⟩ : ∃ op d a b imm, Hid (nth xs k = ⟨op, d, a, b, imm⟩) := ⟨_, _, _, _, _, rfl⟩
              obtain ⟨hcbz, hati⟩ := HAT.out wr HBq.out k hlt
              rw [HI.out] at hati
              obtain ⟨i0, i1, i2, i3, i4⟩ := hati
              simp only at i0 i1 i2 i3 i4
              by_cases ho : op = 20
              · subst ho
                obtain ⟨q, hq, hqk, hrq, hfq⟩ := HFK.out (by rw [HI.out])
                rw [HI.out] at hq
                simp only at hq
                obtain ⟨s2, HS2⟩ : ∃ s2, Hid ((K.getD q kn0).2 = s2) := ⟨_, rfl⟩
                obtain ⟨g2, cap2, hrow2, hc2, hc2m⟩ := (HR.out.grown HBq.out).rowAt (j := q) (by omega) (by rw [HL.out]; exact Nat.le_refl _) hrq
                rw [HS2.out] at hrow2 hfq
                have HRW2 := keepJ hrow2
                have HFQ := keepJ hfq
                have hwr : IntKind.i64.wrap ((k : Int) - d) = (q : Int) := by rw [IntKind.wrap_i64]; omega
                have c2 := hrow2.1
                have htz := HRq.out.2.1
                have hqI : (q : Int) < xs.length := by omega
                clear hrow2 hfq hq hrq
                go_wp2
                clear c1 c2 i0 i1 i2 i3 i4 n0 n1
                go_loopw [10] (fun i wq => ∃ j : Nat, j ≤ 8 ∧ i = .int .i64 j ∧ Hid (Below w3.heap.size w3 wq) ∧ Hid (RowAt wq tb k g cap s) ∧ Hid (RowAt wq tb q g2 cap2 s2)) (fun i _ => 8 - (intOf i).toNat)
                case atStart => exact ⟨0, by omega, rfl, HBq.out.trans ((below_alloc _ _).mono HBq.out.size), HRq.out.below (below_alloc _ _), HRW2.out.below (below_alloc _ _)⟩
                case round =>
                  obtain ⟨j, hj, rfl, HBy, HRy, HRz⟩ := hrel
                  by_cases hjt : j < 8
                  · obtain ⟨tk, tl, th, tm, HT⟩ : ∃ k' lo hi m, Hid (s.getD j Ty.nil = ⟨k', lo, hi, m⟩) := ⟨_, _, _, _, rfl⟩
                    obtain ⟨uk, ul, uh, um2, HU⟩ : ∃ k' lo hi m, Hid (s2.getD j Ty.nil = ⟨k', lo, hi, m⟩) := ⟨_, _, _, _, rfl⟩
                    have HQ : Hid (fitsJ ⟨tk, tl, th, tm⟩ ⟨uk, ul, uh, um2⟩ = true) := by
                      have := HFQ.out
                      unfold fitsAll at this
                      rw [List.all_eq_true] at this
                      have := this j (List.mem_range.2 hjt)
                      rw [HT.out, HU.out] at this
                      exact this
                    have HKeep : Hid (∀ w', Below wr.heap.size wr w' → w'.cell? ⟨tb, k, none⟩ = some (.slice (some ⟨g, 0, none⟩) 8 cap) ∧ (w'.cell? ⟨g, j * 4, none⟩ = some (.int .i64 tk) ∧ w'.cell? ⟨g, j * 4 + 1, none⟩ = some (.int .u64 tl) ∧ w'.cell? ⟨g, j * 4 + 2, none⟩ = some (.int .u64 th) ∧ w'.cell? ⟨g, j * 4 + 3, none⟩ = some (.int .i64 tm)) ∧ w'.cell? ⟨g2, j * 4, none⟩ = some (.int .i64 uk) ∧ w'.cell? ⟨g2, j * 4 + 1, none⟩ = some (.int .u64 ul) ∧ w'.cell? ⟨g2, j * 4 + 2, none⟩ = some (.int .u64 uh) ∧ w'.cell? ⟨g2, j * 4 + 3, none⟩ = some (.int .i64 um2)) := fun w' hb' => by
                      have h1 := HRy.out.below hb'
                      have h2 := HRz.out.below hb'
                      have e1 := h1.2.2.2 j hjt
                      have e2 := h2.2.2.2 j hjt
                      rw [HT.out] at e1
                      rw [HU.out] at e2
                      exact ⟨h1.1, e1, e2⟩
                    have hS0 := HKeep.out wr (Below.refl _ _)
                    have hjI : (j : Int) < 8 := by omega
                    go_wp2
                    go_region_held3 (fun w' => w'.cell? ⟨tb, k, none⟩ = some (.slice (some ⟨g, 0, none⟩) 8 cap) ∧ (w'.cell? ⟨g, j * 4, none⟩ = some (.int .i64 tk) ∧ w'.cell? ⟨g, j * 4 + 1, none⟩ = some (.int .u64 tl) ∧ w'.cell? ⟨g, j * 4 + 2, none⟩ = some (.int .u64 th) ∧ w'.cell? ⟨g, j * 4 + 3, none⟩ = some (.int .i64 tm)) ∧ w'.cell? ⟨g2, j * 4, none⟩ = some (.int .i64 uk) ∧ w'.cell? ⟨g2, j * 4 + 1, none⟩ = some (.int .u64 ul) ∧ w'.cell? ⟨g2, j * 4 + 2, none⟩ = some (.int .u64 uh) ∧ w'.cell? ⟨g2, j * 4 + 3, none⟩ = some (.int .i64 um2))
                      (first | exact hS5 | exact hS0)
                      (first | (go_at_call 9; go_must (refine (fits9_as HQ _).mono ?_); rintro e w7 ⟨rfl, hb7'⟩; go_must (have hb7 : Below wr.heap.size wr w7 := below_undrew hb7'; have hS5 := HKeep.out w7 hb7; clear hb7')))
                    go_wp2
                    go_roundw
                    case rel => exact ⟨j + 1, by omega, by go_num, HBy.out.trans (hb7.mono HBy.out.size), HRy.out.below hb7, HRz.out.below hb7⟩
                    case measure => simp [intOf]; omega
                  · obtain rfl : j = 8 := by omega
                    go_wp2
                    go_roundw
                    case rel => exact ⟨k + 1, by omega, by go_num, HBy.out⟩
                    case measure => simp [intOf]; omega
              · go_wp2
                go_roundw
                case rel => exact ⟨k + 1, by omega, by go_num, HBq.out.trans ((below_alloc _ _).mono HBq.out.size)⟩
                case measure => simp [intOf]; omega
      · obtain rfl : k = xs.length := by omega
        go_wp2
        go_ret
        exact ⟨rfl, HB3.out.trans (HBr.out.mono HB3.out.size)⟩
end Go.Proofs.Ytkcofelpndlplaa
