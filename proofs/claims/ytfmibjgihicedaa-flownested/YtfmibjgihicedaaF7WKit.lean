/-
  What the law's loop, copied, ints and awake answer. Condition: a slice of instructions that takes up no more bytes than an argument may (copied).
-/
import Derived.Test.YtfmibjgihicedaaF7RLoops
namespace Go.Proofs.Ytfmibjgihicedaa
open Go.RowKit Go.Deep
set_option linter.unusedVariables false
set_option maxRecDepth 20000

theorem Try.infoInst7 : (Try.prog.info? 32).map (fun i => (i.zero, i.size, i.bytes)) = some (some (instV 0 0 0 0 0), 5, 40) := by kernel_rfl
theorem copied_any (v : Value) (xs : List In) (w : World) (hs : SeesI w v xs) (hz : xs.length * 40 ≤ 140737488355328) :
    Calls Try.prog 9 #[v] w fun e w' => ∃ u, e = .returned u ∧ w'.ownsRow w.heap.size 32 5 u xs.length (flat xs) ∧ Below w.heap.size w w' := by
  obtain ⟨i0, hi, hz0, hz1, hz2⟩ := info_parts Try.infoInst7
  have HS : Hid (SeesI (w.alloc (.cells #[] 32)) v xs) := hs.below ((Below.refl _ _).alloc (Nat.le_refl _) _)
  obtain ⟨a, cap, rfl⟩ := hs.shape
  clear hs
  go_enter Try.func9, Try.ntmps9
  go_wp2_with (at_builtin; go_must (refine wpList_append_seesI rfl (.tmp 3) (.tmp 4) 22 rfl w.heap.size 32 i0 (instV 0 0 0 0 0) Try.underlying22 hi hz0 hz1 hz2 rfl _ [] rfl (own_empty w 32) _ xs rfl HS.out (by unfold maxLen; simp; omega) (by simp; omega) (by simp) ?_); intro v3 w3 hown3 hg3; go_must (have hB3 : Below w.heap.size w w3 := ((Below.refl _ _).alloc (Nat.le_refl _) _).grown hg3 (by simp) (fun j hj => by (have hj' : w.heap.size = j := Option.some.inj hj); omega); rw [List.nil_append] at hown3; clear hg3))
  go_ret
  exact ⟨_, rfl, hown3, hB3⟩
/-- The document's code with a loop. -/
def loopC : List In := [⟨0, 1, 0, 8, 9⟩, ⟨2, 1, 1, 8, 1⟩, ⟨20, 1, 1, 0, 5⟩, ⟨22, 0, 1, 0, 0⟩]
theorem loop_any (w : World) : Calls Try.prog 21 #[] w fun e w' => ∃ u, e = .returned u ∧ SeesI w' u loopC ∧ Below w.heap.size w w' := by
  go_enter Try.func21, Try.ntmps21
  go_wp2
  go_ret
  refine ⟨_, rfl, ?_, by go_grown⟩
  refine own_seesI (base := w.heap.size) (e := 32) (xs := loopC) ⟨rfl, .inr ⟨w.heap.size, 4, (flat loopC).toArray, rfl, Nat.le_refl _, ?_, by decide, by decide, rfl, rfl⟩⟩
  show (w.heap.push _)[w.heap.size]? = _
  simp
  rfl
theorem loopC_check : (checkL loopC).1 = 0 ∧ errL loopC = 0 ∧ costA loopC = 14 := by decide +kernel
theorem loopC_loops : loopsA loopC = [⟨1, 2, 5⟩] := by
  have h : errL loopC = 0 := loopC_check.2.1
  unfold loopsA
  rw [if_pos h]
  rfl
set_option maxHeartbeats 1600000 in
theorem awake_any (w : World) : Calls Try.prog 8 #[] w fun e w' => e = .returned (.bool true) ∧ Below w.heap.size w w' := by
  have HP : Hid (0 = (checkL loopC).1) := loopC_check.1.symm
  have HE : Hid (0 = errL loopC) := loopC_check.2.1.symm
  have HC : Hid (14 = costA loopC) := loopC_check.2.2.symm
  have K1 : Hid True := trivial
  have K2 : Hid True := trivial
  have K3 : Hid True := trivial
  go_enter Try.func8, Try.ntmps8
  go_wp2_with (first
    | (go_at_call 21; (have hq := K1; clear hq); go_must (refine (loop_any _).mono ?_); rintro e w1 ⟨u1, rfl, hs1, hb1⟩; go_must (have HS1 : Hid _ := hs1; obtain ⟨a1, c1, rfl⟩ := hs1.shape; clear hs1 K1))
    | (go_at_call 10; go_must (refine (check_as HS1.out HP HE).mono ?_); rintro e w2 ⟨rfl, hb2⟩; go_must (have hB2 := hb1.trans (hb2.mono hb1.size); clear hb2 HS1))
    | (go_at_call 21; (have hq := K2; clear hq); go_must (refine (loop_any _).mono ?_); rintro e w3 ⟨u3, rfl, hs3, hb3⟩; go_must (have HS3 : Hid _ := hs3; have hB3 := hB2.trans (hb3.mono hB2.size); obtain ⟨a3, c3, rfl⟩ := hs3.shape; clear hs3 K2 hb3))
    | (go_at_call 19; go_must (refine (lcost_any _ loopC _ HS3.out HC HE).mono ?_); rintro e w4 ⟨rfl, hb4⟩; go_must (have hB4 := hB3.trans (hb4.mono hB3.size); clear hb4 HS3))
    | (go_at_call 21; (have hq := K3; clear hq); go_must (refine (loop_any _).mono ?_); rintro e w5 ⟨u5, rfl, hs5, hb5⟩; go_must (have HS5 : Hid _ := hs5; have hB5 := hB4.trans (hb5.mono hB4.size); obtain ⟨a5, c5, rfl⟩ := hs5.shape; clear hs5 K3 hb5))
    | (go_at_call 17; go_must (refine (lloops_any _ loopC _ HS5.out HE).mono ?_); rintro e w6 ⟨u6, rfl, hown6, hb6⟩; go_must (have hB6 := hB5.trans (hb6.mono hB5.size); rw [loopC_loops] at hown6; obtain ⟨a6, c6, ev, hc6, hm6, hn6, hcell6⟩ := own_seesL hown6; obtain ⟨b6, off6, ea, hb6', hat6⟩ := hcell6 (by simp); subst ev ea; obtain ⟨d0, d1, d2⟩ := hat6 0 (by simp); simp only [Nat.zero_mul, Nat.add_zero, List.getD_cons_zero, List.length_cons, List.length_nil] at d0 d1 d2 hc6; clear hb6 HS5 hown6 hat6 hcell6)))
  go_ret
  exact ⟨rfl, hB6⟩
/-- ints, with the answer as a letter. -/
theorem ints_as {v u : Value} {xs ys : List Int} {w : World} (hx : Sees .i64 w v xs) (hy : Sees .i64 w u ys) (hxl : xs.length ≤ 64) (hyl : ys.length ≤ 64) {r : Bool} (hr : Hid (r = eqB xs ys)) : Calls Try.prog 16 #[v, u] w fun e w' => e = .returned (.bool r) ∧ ∃ n, w' = w.drewN n := by
  obtain ⟨a, cap, rfl, hc, hm, hn0, hw, hcell⟩ := hx
  have HC : Hid (xs ≠ [] → ∃ b off, a = some ⟨b, off, none⟩ ∧ b < w.heap.size ∧ ∀ i, i < xs.length → w.cell? ⟨b, off + i, none⟩ = some (.int .i64 (xs.getD i 0))) := hcell
  obtain ⟨a2, cap2, rfl, hc2, hm2, hn2, hw2, hcell2⟩ := hy
  have HC2 : Hid (ys ≠ [] → ∃ b off, a2 = some ⟨b, off, none⟩ ∧ b < w.heap.size ∧ ∀ i, i < ys.length → w.cell? ⟨b, off + i, none⟩ = some (.int .i64 (ys.getD i 0))) := hcell2
  clear hcell hcell2 hn0 hn2 hw hw2
  by_cases hl : xs.length = ys.length
  · rw [← hl] at hc2 hyl ⊢
    have HL : Hid (xs.length = ys.length) := hl
    clear hl
    go_enter Try.func16, Try.ntmps16
    go_wp2
    go_loopw [5] (fun i wr => ∃ j m : Nat, j ≤ xs.length ∧ i = .int .i64 j ∧ Hid (xs.take j = ys.take j) ∧ wr = w.drewN m) (fun i _ => xs.length - (intOf i).toNat)
    case atStart => exact ⟨0, 0, by omega, rfl, rfl, rfl⟩
    case round =>
      obtain ⟨j, m, hj, rfl, HJ, rfl⟩ := hrel
      by_cases hjn : j < xs.length
      · obtain ⟨b, off, rfl, hb, hat⟩ := HC.out (fun h => by rw [h] at hjn; simp at hjn)
        have hjn2 : j < ys.length := by have := HL.out; omega
        obtain ⟨b2, off2, rfl, hb2, hat2⟩ := HC2.out (fun h => by rw [h] at hjn2; simp at hjn2)
        obtain ⟨x, HX⟩ : ∃ x, Hid (xs.getD j 0 = x) := ⟨_, rfl⟩
        obtain ⟨y, HY⟩ : ∃ y, Hid (ys.getD j 0 = y) := ⟨_, rfl⟩
        have h0 := hat j hjn
        have g0 := hat2 j hjn2
        rw [HX.out] at h0
        rw [HY.out] at g0
        clear hat hat2 hjn2
        by_cases hxy : x = y
        · subst hxy
          go_wp2
          go_region_held3 (fun w' => w'.cell? ⟨b, off + j, none⟩ = some (.int .i64 x) ∧ w'.cell? ⟨b2, off2 + j, none⟩ = some (.int .i64 x)) (exact ⟨h0, g0⟩) (fail)
          go_wp2
          go_roundw
          case rel => exact ⟨j + 1, _, by omega, by go_num, by show _ = _; rw [take_at xs j hjn, take_at ys j (by have := HL.out; omega), HJ.out, HX.out, HY.out], rfl⟩
          case measure => simp [intOf]; omega
        · have hxyb : (x != y) = true := by simpa using hxy
          have HR : Hid (r = false) := by
            show _ = _
            rw [hr.out]
            refine eqB_false fun e => hxy ?_
            rw [← HX.out, ← HY.out, e]
          go_wp2
          go_region_held3 (fun w' => w'.cell? ⟨b, off + j, none⟩ = some (.int .i64 x) ∧ w'.cell? ⟨b2, off2 + j, none⟩ = some (.int .i64 y)) (exact ⟨h0, g0⟩) (fail)
          go_wp2
          go_ret
          exact ⟨rb HR.out.symm, m + 1, rfl⟩
      · obtain rfl : j = xs.length := by omega
        have HR : Hid (r = true) := by
          show _ = _
          rw [hr.out]
          have h := HJ.out
          rw [List.take_length] at h
          refine eqB_true ?_
          have hl := HL.out
          rw [h, hl, List.take_length]
        go_wp2
        go_ret
        exact ⟨rb HR.out.symm, _, rfl⟩
  · have hlb : ((xs.length : Int) != (ys.length : Int)) = true := by simp; omega
    have HR : Hid (r = false) := by
      show _ = _
      rw [hr.out]
      exact eqB_false fun e => hl (by rw [e])
    go_enter Try.func16, Try.ntmps16
    go_wp2
    go_ret
    exact ⟨rb HR.out.symm, 0, rfl⟩
end Go.Proofs.Ytfmibjgihicedaa
