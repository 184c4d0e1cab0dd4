/-
  What the project's number, there, keyed, Args, Result, Asks, Value and the document's num, Args, Result, Asks, Value answer. No condition.
-/
import Derived.Test.YtpgkjoahngfgnaaDoorT8Within
namespace Go.Proofs.YtpgkjoahngfgnaaDoor
open Go.RowKit
set_option linter.unusedVariables false
set_option maxRecDepth 100000

abbrev topN : Int := 18446744073709551615
abbrev numT (hi : Int) : Ty := ⟨1, 0, hi, 0⟩
abbrev handleT : Ty := ⟨2, 0, 0, 0⟩
/-- What a helper wants. -/
def argsL (h : Int) : List Ty :=
  if h = 0 ∨ h = 1 ∨ h = 3 then [handleT, numT topN] else if h = 2 ∨ h = 4 then [handleT, numT topN, numT topN] else if h = 5 then [numT 15] else if h = 6 then [numT topN] else []
/-- What a helper answers. -/
def resL (h : Int) : Ty × Bool :=
  if h = 0 ∨ h = 4 ∨ h = 5 then (numT topN, true) else if h = 1 ∨ h = 2 ∨ h = 3 then (numT 1, true) else if h = 6 then (numT 0, true) else (Ty.nil, false)
/-- A helper's operation on a map. -/
def asksL (h : Int) : Int × Bool := if 0 ≤ h ∧ h ≤ 4 then (h, true) else (0, false)
/-- A helper's number, or none. -/
theorem helper_cases (h : Int) : h = 0 ∨ h = 1 ∨ h = 2 ∨ h = 3 ∨ h = 4 ∨ h = 5 ∨ h = 6 ∨ (¬ h = 0 ∧ ¬ h = 1 ∧ ¬ h = 2 ∧ ¬ h = 3 ∧ ¬ h = 4 ∧ ¬ h = 5 ∧ ¬ h = 6) := by omega
theorem args_none {h : Int} (c : ¬ h = 0 ∧ ¬ h = 1 ∧ ¬ h = 2 ∧ ¬ h = 3 ∧ ¬ h = 4 ∧ ¬ h = 5 ∧ ¬ h = 6) : argsL h = [] := by
  unfold argsL; rw [if_neg (by omega), if_neg (by omega), if_neg (by omega), if_neg (by omega)]
theorem res_none {h : Int} (c : ¬ h = 0 ∧ ¬ h = 1 ∧ ¬ h = 2 ∧ ¬ h = 3 ∧ ¬ h = 4 ∧ ¬ h = 5 ∧ ¬ h = 6) : resL h = (Ty.nil, false) := by
  unfold resL; rw [if_neg (by omega), if_neg (by omega), if_neg (by omega)]
theorem asks_none {h : Int} (c : ¬ h = 0 ∧ ¬ h = 1 ∧ ¬ h = 2 ∧ ¬ h = 3 ∧ ¬ h = 4) : asksL h = (0, false) := by
  unfold asksL; rw [if_neg (by omega)]

theorem number_any (a A : Int) (w : World) : Calls Tryd.prog 24 #[.agg #[.int .u64 a, .int .u64 A]] w fun e w' => e = .returned (tyV ⟨1, a, A, 0⟩) ∧ Below w.heap.size w w' := by
  go_enter Tryd.func24, Tryd.ntmps24
  go_wp2
  refine bodyPost_ret (v := tyV ⟨1, a, A, 0⟩) ?_ rfl ⟨rfl, by go_grown⟩
  rw [results_cell rfl]
  simp [asAddr, Result.andThen]
  rw [run_boxT (k := 1) (lo := a) (hi := A) (m := 0)]
  refine ⟨?_, ?_, ?_, ?_⟩ <;> go_cell
theorem num_any (hi : Int) (w : World) : Calls Tryd.prog 27 #[.int .u64 hi] w fun e w' => e = .returned (tyV (numT hi)) ∧ Below w.heap.size w w' := by
  go_enter Tryd.func27, Tryd.ntmps27
  go_wp2
  refine bodyPost_ret (v := tyV (numT hi)) ?_ rfl ⟨rfl, by go_grown⟩
  rw [results_cell rfl]
  simp [asAddr, Result.andThen]
  rw [run_boxT (k := 1) (lo := 0) (hi := hi) (m := 0)]
  refine ⟨?_, ?_, ?_, ?_⟩ <;> go_cell
theorem own_nilT (w : World) (base : Nat) (e : TypeId) : w.ownsRow base e 4 (.slice none 0 0) ([] : List Ty).length (flatT []) := ⟨rfl, .inl ⟨rfl, rfl⟩⟩
theorem Tryd.infoType8 : (Tryd.prog.info? 30).map (fun i => (i.zero, i.size, i.bytes)) = some (some (tyV Ty.nil), 4, 32) := by kernel_rfl
theorem infoT_parts : ∃ i, Tryd.prog.info? 30 = some i ∧ i.zero = some (tyV Ty.nil) ∧ i.size = 4 ∧ i.bytes = 32 := by
  have h := Tryd.infoType8
  simp only [Option.map_eq_some_iff, Prod.mk.injEq] at h
  obtain ⟨i, h1, h2, h3, h4⟩ := h
  exact ⟨i, h1, h2, h3, h4⟩
/-- What keyed puts ahead. -/
theorem keyed_any (v : Value) (xs : List Ty) (w : World) (hs : SeesT w v xs) (hl : xs.length ≤ 1048576) : Calls Tryd.prog 29 #[v] w fun e w' => ∃ u, e = .returned u ∧ w'.ownsRow w.heap.size 30 4 u (handleT :: numT topN :: xs).length (flatT (handleT :: numT topN :: xs)) ∧ Below w.heap.size w w' := by
  obtain ⟨i0, hi, hz0, hz1, hz2⟩ := infoT_parts
  have HS : Hid (SeesT w v xs) := hs
  obtain ⟨a, cap, rfl⟩ := hs.shape
  obtain ⟨n, HN⟩ : ∃ n, Hid (xs.length = n) := ⟨_, rfl⟩
  clear hs
  go_enter Tryd.func29, Tryd.ntmps29
  go_wp2_with (first
    | (go_at_call 25; go_must (refine (lfull_any _).mono ?_); rintro e w1 ⟨rfl, hb1⟩)
    | (go_at_call 24; go_must (refine (number_any _ _ _).mono ?_); rintro e w2 ⟨rfl, hb2⟩; go_must (have hB2 := hb1.trans (hb2.mono hb1.size); have hz := hB2.size; clear hb1 hb2))
    | (at_builtin; go_must (refine wpList_append_seesT rfl (.tmp 6) (.tmp 7) 39 rfl w.heap.size 30 i0 (tyV Ty.nil) Tryd.underlying39 hi hz0 hz1 hz2 rfl _ [handleT, numT topN] rfl (ownT_lit _ _ _ _ _ _ _ rfl hz rfl rfl (by simp)) _ xs rfl ((HS.out.below hB2).below ((Below.refl _ _).alloc (Nat.le_refl _) _)) (by unfold maxLen; simp; omega) (by simp; omega) (by simp; omega) ?_); intro v3 w3 hown3 hg3; go_must (have hB3 : Below w.heap.size w w3 := (hB2.alloc hz _).grown hg3 (by simp; omega) (fun j hj => by (have hj' : w2.heap.size = j := Option.some.inj hj); omega); clear hg3)))
  go_ret
  exact ⟨_, rfl, hown3, hB3⟩
theorem own_base {w : World} {b base : Nat} {e : TypeId} {size : Nat} {v : Value} {n : Nat} {xs : List Value} (h : w.ownsRow base e size v n xs) (hb : b ≤ base) : w.ownsRow b e size v n xs := by
  obtain ⟨h1, h2 | ⟨g, cap, cur, rfl, hg, hr⟩⟩ := h
  · exact ⟨h1, .inl h2⟩
  · exact ⟨h1, .inr ⟨g, cap, cur, rfl, Nat.le_trans hb hg, hr⟩⟩
theorem args_any (h : Int) (w : World) : Calls Tryd.prog 17 #[.int .i64 h] w fun e w' => ∃ u, e = .returned u ∧ w'.ownsRow w.heap.size 30 4 u (argsL h).length (flatT (argsL h)) ∧ Below w.heap.size w w' := by
  rcases helper_cases h with rfl | rfl | rfl | rfl | rfl | rfl | rfl | c
  · go_enter Tryd.func17, Tryd.ntmps17
    go_wp2_with (first
    | (go_at_call 29; go_must (refine (keyed_any _ [] _ (SeesT.nil _) (by simp)).mono ?_); rintro e w1 ⟨u1, rfl, hown1, hb1⟩))
    go_ret
    exact ⟨_, rfl, hown1, hb1⟩
  · go_enter Tryd.func17, Tryd.ntmps17
    go_wp2_with (first
    | (go_at_call 29; go_must (refine (keyed_any _ [] _ (SeesT.nil _) (by simp)).mono ?_); rintro e w1 ⟨u1, rfl, hown1, hb1⟩))
    go_ret
    exact ⟨_, rfl, hown1, hb1⟩
  · go_enter Tryd.func17, Tryd.ntmps17
    go_wp2_with (first
    | (go_at_call 25; go_must (refine (lfull_any _).mono ?_); rintro e w1 ⟨rfl, hb1⟩)
    | (go_at_call 24; go_must (refine (number_any _ _ _).mono ?_); rintro e w2 ⟨rfl, hb2⟩; go_must (have hB2 := hb1.trans (hb2.mono hb1.size); have hz := hB2.size; clear hb1 hb2))
    | (go_at_call 29; go_must (refine (keyed_any _ [numT topN] _ (SeesT.lit _ _ _ _ _ rfl rfl (by simp)) (by simp)).mono ?_); rintro e w3 ⟨u3, rfl, hown3, hb3⟩))
    go_ret
    exact ⟨_, rfl, own_base hown3 (by simp; omega), (hB2.alloc hz _).trans (hb3.mono (by simp; omega))⟩
  · go_enter Tryd.func17, Tryd.ntmps17
    go_wp2_with (first
    | (go_at_call 29; go_must (refine (keyed_any _ [] _ (SeesT.nil _) (by simp)).mono ?_); rintro e w1 ⟨u1, rfl, hown1, hb1⟩))
    go_ret
    exact ⟨_, rfl, hown1, hb1⟩
  · go_enter Tryd.func17, Tryd.ntmps17
    go_wp2_with (first
    | (go_at_call 25; go_must (refine (lfull_any _).mono ?_); rintro e w1 ⟨rfl, hb1⟩)
    | (go_at_call 24; go_must (refine (number_any _ _ _).mono ?_); rintro e w2 ⟨rfl, hb2⟩; go_must (have hB2 := hb1.trans (hb2.mono hb1.size); have hz := hB2.size; clear hb1 hb2))
    | (go_at_call 29; go_must (refine (keyed_any _ [numT topN] _ (SeesT.lit _ _ _ _ _ rfl rfl (by simp)) (by simp)).mono ?_); rintro e w3 ⟨u3, rfl, hown3, hb3⟩))
    go_ret
    exact ⟨_, rfl, own_base hown3 (by simp; omega), (hB2.alloc hz _).trans (hb3.mono (by simp; omega))⟩
  · go_enter Tryd.func17, Tryd.ntmps17
    go_wp2_with (first
    | (go_at_call 24; go_must (refine (number_any _ _ _).mono ?_); rintro e w2 ⟨rfl, hb2⟩; go_must (have hz := hb2.size)))
    go_ret
    exact ⟨_, rfl, ownT_lit _ _ _ [numT 15] _ _ _ rfl hz rfl rfl (by simp), hb2.alloc hz _⟩
  · go_enter Tryd.func17, Tryd.ntmps17
    go_wp2_with (first
    | (go_at_call 25; go_must (refine (lfull_any _).mono ?_); rintro e w1 ⟨rfl, hb1⟩)
    | (go_at_call 24; go_must (refine (number_any _ _ _).mono ?_); rintro e w2 ⟨rfl, hb2⟩; go_must (have hB2 := hb1.trans (hb2.mono hb1.size); have hz := hB2.size; clear hb1 hb2)))
    go_ret
    exact ⟨_, rfl, ownT_lit _ _ _ [numT topN] _ _ _ rfl hz rfl rfl (by simp), hB2.alloc hz _⟩
  · have HE : Hid (argsL h = []) := args_none c
    obtain ⟨c0, c1, c2, c3, c4, c5, c6⟩ := c
    go_enter Tryd.func17, Tryd.ntmps17
    go_wp2
    go_ret
    rw [HE.out]
    exact ⟨_, rfl, own_nilT _ _ _, Below.refl _ _⟩
theorem rargs_any (h : Int) (w : World) : Calls Tryd.prog 18 #[.int .i64 h] w fun e w' => ∃ u, e = .returned u ∧ w'.ownsRow w.heap.size 30 4 u (argsL h).length (flatT (argsL h)) ∧ Below w.heap.size w w' := by
  rcases helper_cases h with rfl | rfl | rfl | rfl | rfl | rfl | rfl | c
  · have hB0 := Below.refl w.heap.size w
    have K1 : Hid True := trivial
    go_enter Tryd.func18, Tryd.ntmps18
    go_wp2_with (first
    | (go_at_call 27; (have hq := K1; clear hq); go_must (refine (num_any _ _).mono ?_); rintro e w1 ⟨rfl, hb1⟩; go_must (have hB1 : Below w.heap.size w w1 := hB0.trans (hb1.mono hB0.size); have hz1 := hB1.size; clear hb1 K1)))
    go_ret
    exact ⟨_, rfl, ownT_lit _ _ _ [handleT, numT topN] _ _ _ rfl hz1 rfl rfl (by simp), hB1.alloc hz1 _⟩
  · have hB0 := Below.refl w.heap.size w
    have K1 : Hid True := trivial
    go_enter Tryd.func18, Tryd.ntmps18
    go_wp2_with (first
    | (go_at_call 27; (have hq := K1; clear hq); go_must (refine (num_any _ _).mono ?_); rintro e w1 ⟨rfl, hb1⟩; go_must (have hB1 : Below w.heap.size w w1 := hB0.trans (hb1.mono hB0.size); have hz1 := hB1.size; clear hb1 K1)))
    go_ret
    exact ⟨_, rfl, ownT_lit _ _ _ [handleT, numT topN] _ _ _ rfl hz1 rfl rfl (by simp), hB1.alloc hz1 _⟩
  · have hB0 := Below.refl w.heap.size w
    have K1 : Hid True := trivial
    have K2 : Hid True := trivial
    go_enter Tryd.func18, Tryd.ntmps18
    go_wp2_with (first
    | (go_at_call 27; (have hq := K1; clear hq); go_must (refine (num_any _ _).mono ?_); rintro e w1 ⟨rfl, hb1⟩; go_must (have hB1 : Below w.heap.size w w1 := hB0.trans (hb1.mono hB0.size); have hz1 := hB1.size; clear hb1 K1))
    | (go_at_call 27; (have hq := K2; clear hq); go_must (refine (num_any _ _).mono ?_); rintro e w2 ⟨rfl, hb2⟩; go_must (have hB2 : Below w.heap.size w w2 := hB1.trans (hb2.mono hB1.size); have hz2 := hB2.size; clear hb2 K2)))
    go_ret
    exact ⟨_, rfl, ownT_lit _ _ _ [handleT, numT topN, numT topN] _ _ _ rfl hz2 rfl rfl (by simp), hB2.alloc hz2 _⟩
  · have hB0 := Below.refl w.heap.size w
    have K1 : Hid True := trivial
    go_enter Tryd.func18, Tryd.ntmps18
    go_wp2_with (first
    | (go_at_call 27; (have hq := K1; clear hq); go_must (refine (num_any _ _).mono ?_); rintro e w1 ⟨rfl, hb1⟩; go_must (have hB1 : Below w.heap.size w w1 := hB0.trans (hb1.mono hB0.size); have hz1 := hB1.size; clear hb1 K1)))
    go_ret
    exact ⟨_, rfl, ownT_lit _ _ _ [handleT, numT topN] _ _ _ rfl hz1 rfl rfl (by simp), hB1.alloc hz1 _⟩
  · have hB0 := Below.refl w.heap.size w
    have K1 : Hid True := trivial
    have K2 : Hid True := trivial
    go_enter Tryd.func18, Tryd.ntmps18
    go_wp2_with (first
    | (go_at_call 27; (have hq := K1; clear hq); go_must (refine (num_any _ _).mono ?_); rintro e w1 ⟨rfl, hb1⟩; go_must (have hB1 : Below w.heap.size w w1 := hB0.trans (hb1.mono hB0.size); have hz1 := hB1.size; clear hb1 K1))
    | (go_at_call 27; (have hq := K2; clear hq); go_must (refine (num_any _ _).mono ?_); rintro e w2 ⟨rfl, hb2⟩; go_must (have hB2 : Below w.heap.size w w2 := hB1.trans (hb2.mono hB1.size); have hz2 := hB2.size; clear hb2 K2)))
    go_ret
    exact ⟨_, rfl, ownT_lit _ _ _ [handleT, numT topN, numT topN] _ _ _ rfl hz2 rfl rfl (by simp), hB2.alloc hz2 _⟩
  · have hB0 := Below.refl w.heap.size w
    have K1 : Hid True := trivial
    go_enter Tryd.func18, Tryd.ntmps18
    go_wp2_with (first
    | (go_at_call 27; (have hq := K1; clear hq); go_must (refine (num_any _ _).mono ?_); rintro e w1 ⟨rfl, hb1⟩; go_must (have hB1 : Below w.heap.size w w1 := hB0.trans (hb1.mono hB0.size); have hz1 := hB1.size; clear hb1 K1)))
    go_ret
    exact ⟨_, rfl, ownT_lit _ _ _ [numT 15] _ _ _ rfl hz1 rfl rfl (by simp), hB1.alloc hz1 _⟩
  · have hB0 := Below.refl w.heap.size w
    have K1 : Hid True := trivial
    go_enter Tryd.func18, Tryd.ntmps18
    go_wp2_with (first
    | (go_at_call 27; (have hq := K1; clear hq); go_must (refine (num_any _ _).mono ?_); rintro e w1 ⟨rfl, hb1⟩; go_must (have hB1 : Below w.heap.size w w1 := hB0.trans (hb1.mono hB0.size); have hz1 := hB1.size; clear hb1 K1)))
    go_ret
    exact ⟨_, rfl, ownT_lit _ _ _ [numT topN] _ _ _ rfl hz1 rfl rfl (by simp), hB1.alloc hz1 _⟩
  · have HE : Hid (argsL h = []) := args_none c
    obtain ⟨c0, c1, c2, c3, c4, c5, c6⟩ := c
    go_enter Tryd.func18, Tryd.ntmps18
    go_wp2
    go_ret
    rw [HE.out]
    exact ⟨_, rfl, own_nilT _ _ _, Below.refl _ _⟩
end Go.Proofs.YtpgkjoahngfgnaaDoor
