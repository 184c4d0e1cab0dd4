
/-
  The landed refs of layer 18: slices.Sort of a row of the call's own, repeats. Condition: what is handed in lies where it says, and is no longer than memory.
-/
import Derived.Test.YtonbaklbbmmljaaTk
import Derived.Test.YtonbaklbbmmljaaR18LA
import Derived.Test.YtonbaklbbmmljaaShelf
import Derived.Sort.OwnSortedInts
namespace Go.Proofs.Ytonbaklbbmmljaa
open Go.RowKit
set_option linter.unusedVariables false
set_option linter.unusedSimpArgs false
set_option maxRecDepth 100000
/-- Sorted. -/
def srtI (l : List Int) : List Int := l.mergeSort fun x y => decide (x ≤ y)
theorem srtI_perm (l : List Int) : (srtI l).Perm l := List.mergeSort_perm _ _
theorem srtI_len (l : List Int) : (srtI l).length = l.length := (srtI_perm l).length_eq
theorem srtI_up (l : List Int) : (srtI l).Pairwise (fun x y => x ≤ y) := by
  have h := List.pairwise_mergeSort (le := fun x y : Int => decide (x ≤ y)) (fun a b c h1 h2 => by simp at *; omega) (fun a b => by simp; omega) l
  exact h.imp (fun h => by simpa using h)
/-- Rising numbers that have nothing twice. -/
theorem srtI_eq {l A : List Int} (hp : l.Perm A) (hA : A.Pairwise (· < ·)) : srtI l = A := by
  refine up_perm _ A ?_ hA ((srtI_perm l).trans hp)
  have hnd : (srtI l).Nodup := ((srtI_perm l).trans hp).nodup_iff.2 (hA.imp (fun h => by omega))
  exact (srtI_up l).imp₂ (fun h1 h2 => by omega) hnd
/-- Neighbours tell. -/
theorem nodup_near {l : List Int} (hu : l.Pairwise (fun x y => x ≤ y)) (h : ∀ j, 1 ≤ j → j < l.length → l.getD j 0 ≠ l.getD (j - 1) 0) : l.Nodup := by
  rw [List.Nodup, List.pairwise_iff_getElem]
  rw [List.pairwise_iff_getElem] at hu
  have key : ∀ j, (hj : j < l.length) → ∀ i, (hij : i < j) → l[i] < l[j] := by
    intro j
    induction j with
    | zero => intro _ i hij; omega
    | succ j ih =>
      intro hj i hij
      have h1 := h (j + 1) (by omega) hj
      have hj' : j < l.length := by omega
      have e1 : l.getD (j + 1) 0 = l[j + 1] := by simp [List.getD, hj]
      have e2 : l.getD (j + 1 - 1) 0 = l[j] := by simp [List.getD, hj']
      rw [e1, e2] at h1
      have h2 := hu j (j + 1) hj' hj (by omega)
      by_cases e : i = j
      · subst e; omega
      · have := ih hj' i (by omega); omega
  intro i j hi hj hij e
  have := key j hj i hij
  omega
theorem near_twice {l : List Int} {j : Nat} (h1 : 1 ≤ j) (hj : j < l.length) (he : l.getD j 0 = l.getD (j - 1) 0) : ¬ l.Nodup := by
  intro hn
  rw [List.Nodup, List.pairwise_iff_getElem] at hn
  have hj' : j - 1 < l.length := by omega
  have := hn (j - 1) j hj' hj (by omega)
  have e1 : l.getD j 0 = l[j] := by simp [List.getD, hj]
  have e2 : l.getD (j - 1) 0 = l[j - 1] := by simp [List.getD, hj']
  rw [e1, e2] at he
  exact this he.symm
section
variable {w w' : World} {B : Nat} {v : Value} {ws : List Int}
/-- slices.Sort of a row of the call's own. -/
theorem lsort (ho : RoI w B v ws) (hl : ws.length < 4611686018427387904) : Calls Try.prog 23 #[v] w fun e w' => e = .returned (.tuple #[]) ∧ RoI w' B v (srtI ws) ∧ w.grownBy w' v.ownBlock := by
  have ho' := ho
  unfold RoI at ho'
  rcases ho'.2 with ⟨rfl, h0⟩ | ⟨g, cap, cur, rfl, hB, hb, h1, h2, h3, h4⟩
  · obtain rfl : ws = [] := List.length_eq_zero_iff.1 h0
    refine (Try.slices_Sort_int_none none 0 w).mono ?_
    rintro e w1 ⟨rfl, rfl⟩
    exact ⟨rfl, by simpa [srtI] using ho, ⟨rfl, rfl, rfl, Nat.le_refl _, fun _ _ _ => rfl⟩⟩
  · refine (Try.slices_Sort_int g 0 cap ws w (holds_of_blockI hb (by simpa using h4)) (Array.getElem?_eq_some_iff.1 hb).1 hl).mono ?_
    rintro e w1 ⟨rfl, nn, os, rfl⟩
    refine ⟨rfl, ?_, grownBy_sortedI _⟩
    have := ownsRow_sortedI (n := nn) (os := os) (ss := ws) (ts := srtI ws) (srtI_len ws) hB hb h1 h2 h3
    unfold RoI
    rw [srtI_len]
    exact this
set_option maxHeartbeats 6400000 in
theorem lrepeats {u : Value} (hs : Sees .i64 w u ws) (hz : ws.length * 8 ≤ 140737488355328) {r : Bool} (HR : Hid (decide ws.Nodup = r)) : Calls Try.prog 19 #[u] w fun e w' => e = .returned (.bool (!r)) ∧ Below w.heap.size w w' := by
  obtain ⟨i0, hi0, hz0, hzs, hzb⟩ := info_parts infoIntR
  have HS := keepG hs
  obtain ⟨a, cap, rfl, hlc, hmx, _⟩ := hs
  unfold maxLen at hmx
  go_enter Try.func19, Try.ntmps19
  go_wp2_with (first
    | (at_builtin; go_must (refine wpList_append_sees rfl _ _ 32 rfl w.heap.size 3 i0 _ 8 Try.underlying32 hi0 hz0 hzs hzb rfl .i64 (.slice none 0 0) [] rfl (World.ownsRow_nil _ _ _ _) _ ws rfl HS.out (by unfold maxLen; simp; omega) (by simp; omega) (Nat.le_refl _) ?_); intro v1 w1 ho1 hg1; go_must (rw [List.nil_append] at ho1; have HO1 : Hid (RoI w1 w.heap.size v1 ws) := ho1; have HB1 : Hid (Below w.heap.size w w1) := below_grown (World.ownsRow_nil w w.heap.size 3 1) hg1 (Nat.le_refl _); clear ho1 hg1))
    | (go_at_call 23; go_must (refine (lsort HO1.out (by omega)).mono ?_); rintro e w2 ⟨rfl, ho2, hg2⟩; go_must (have HB2 : Hid (Below w.heap.size w w2) := HB1.out.grown hg2 HB1.out.size (fun j hj => (HO1.out.lt j hj).1); have HO2 := keepG ho2; clear ho2 hg2)))
  obtain ⟨Z, HZ⟩ : ∃ Z, Hid (srtI ws = Z) := ⟨_, rfl⟩
  have HU := keepG (srtI_up ws)
  have HP := keepG (srtI_perm ws)
  rw [HZ.out] at HO2 HU HP
  have hZl : Z.length = ws.length := HP.out.length_eq
  have HZL := keepG hZl
  have hzb2 : Z.length ≤ 17592186044416 := by omega
  clear hZl
  obtain ⟨va, vc, ev⟩ := own_shape HO2.out
  subst ev
  go_loopw [4] (fun i wr => ∃ j : Nat, 1 ≤ j ∧ (j ≤ Z.length ∨ j = 1) ∧ i = .int .i64 j ∧ Hid (∀ k, 1 ≤ k → k < j → Z.getD k 0 ≠ Z.getD (k - 1) 0) ∧ Hid (Below w2.heap.size w2 wr)) (fun i _ => Z.length - (intOf i).toNat)
  case atStart => exact ⟨1, by omega, by omega, rfl, fun k h1 h2 => by omega, Below.refl _ _⟩
  case round =>
    obtain ⟨j, hj1, hj, rfl, HA, HB⟩ := hrel
    rename World => wr
    have HBw : Hid (Below w.heap.size w wr) := HB2.out.trans (HB.out.mono HB2.out.size)
    by_cases hlt : j < Z.length
    · have hltI : (j : Int) < Z.length := by omega
      obtain ⟨p, vc2, ev, _, _, _, _, hat, _⟩ := (HO2.out.below HB.out).cells (by omega)
      simp only [Value.slice.injEq] at ev
      obtain ⟨rfl, _, rfl⟩ := ev
      have d0 := (hat j hlt).1
      have d1 := (hat (j - 1) (by omega)).1
      clear hat
      obtain ⟨x, HX⟩ : ∃ x, Hid (Z.getD j 0 = x) := ⟨_, rfl⟩
      obtain ⟨y, HY⟩ : ∃ y, Hid (Z.getD (j - 1) 0 = y) := ⟨_, rfl⟩
      rw [HX.out] at d0
      rw [HY.out] at d1
      obtain ⟨i, HI⟩ : ∃ i : Nat, Hid (j - 1 = i) := ⟨_, rfl⟩
      rw [HI.out] at d1
      have hi1 : i + 1 = j := by have := HI.out; omega
      have HBd := keepG (below_drG HBw.out)
      have HBe := keepG (below_drG HB.out)
      have hw1 : IntKind.i64.wrap ((j : Int) - 1) = (i : Int) := by rw [IntKind.wrap_i64]; omega
      have hiI : (i : Int) < Z.length := by omega
      have hil : i < Z.length := by omega
      clear hi1
      by_cases hxy : x = y
      · subst hxy
        have HR2 : Hid (r = false) := by
          show _ = _
          rw [← HR.out]
          refine decide_eq_false (fun e => ?_)
          exact near_twice (by omega) hlt (HX.out.trans HY.out.symm) (HP.out.nodup_iff.2 e)
        clear HR
        go_wp2
        refine wp_region_held_drew (S := fun w' => w'.cell? ⟨p, j, none⟩ = some (.int .i64 x) ∧ w'.cell? ⟨p, i, none⟩ = some (.int .i64 x)) (by kernel_rfl) ⟨d0, d1⟩ (fun hHeld => ?_)
        refine tkGo [0, 1, 2, 3, 4, 5, 6, 7, 8, 9] ?_
        repeat (refine tkOne (v := ?_) rfl (by kernel_rfl) (by kernel_rfl) (by kernel_rfl) (fun _ _ _ h => h) (by assumption) (by rfl) ?_ ?_; rotate_left; (intro wy hSw; (try dsimp only at hSw); go_simp; (first | done | with_reducible rfl)); try simp only [Act.put, List.getElem_toArray, List.getElem_cons_zero, List.getElem_cons_succ, List.setIfInBounds_toArray, List.set_cons_zero, List.set_cons_succ])
        refine tkEnd ?_
        refine wpAnyH_done (by kernel_rfl) ?_ _
        clear hHeld
        go_wp2
        go_ret
        exact ⟨by rw [HR2.out]; rfl, HBd.out⟩
      · have hxb : (x == y) = false := by simpa using hxy
        have HA2 : Hid (∀ k, 1 ≤ k → k < j + 1 → Z.getD k 0 ≠ Z.getD (k - 1) 0) := by
          intro k h1 h2
          rcases Nat.lt_succ_iff_lt_or_eq.1 h2 with g | g
          · exact HA.out k h1 g
          · rw [g, HX.out, HY.out]; exact hxy
        go_wp2
        refine wp_region_held_drew (S := fun w' => w'.cell? ⟨p, j, none⟩ = some (.int .i64 x) ∧ w'.cell? ⟨p, i, none⟩ = some (.int .i64 y)) (by kernel_rfl) ⟨d0, d1⟩ (fun hHeld => ?_)
        refine tkGo [0, 1, 2, 3, 4, 5, 6, 7, 8, 9] ?_
        repeat (refine tkOne (v := ?_) rfl (by kernel_rfl) (by kernel_rfl) (by kernel_rfl) (fun _ _ _ h => h) (by assumption) (by rfl) ?_ ?_; rotate_left; (intro wy hSw; (try dsimp only at hSw); go_simp; (first | done | with_reducible rfl)); try simp only [Act.put, List.getElem_toArray, List.getElem_cons_zero, List.getElem_cons_succ, List.setIfInBounds_toArray, List.set_cons_zero, List.set_cons_succ])
        refine tkEnd ?_
        refine wpAnyH_done (by kernel_rfl) ?_ _
        clear hHeld
        go_wp2
        go_roundw
        case rel => exact ⟨j + 1, by omega, by omega, by go_num, HA2.out, HBe.out⟩
        case measure => simp [intOf]; omega
    · have hltI : ¬ (j : Int) < Z.length := by omega
      have HR2 : Hid (r = true) := by
        show _ = _
        rw [← HR.out]
        refine decide_eq_true (HP.out.nodup_iff.1 (nodup_near HU.out (fun k h1 h2 => ?_)))
        exact HA.out k h1 (by omega)
      clear HR
      go_wp2
      go_ret
      exact ⟨by rw [HR2.out]; rfl, HBw.out⟩
end
end Go.Proofs.Ytonbaklbbmmljaa
