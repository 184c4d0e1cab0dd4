/-
  JFits
  JMaps
-/
import Derived.Test.YtoahbnkfkjiohaaML36
import Derived.Test.YtoahbnkfkjiohaaML24
import Derived.Test.YtoahbnkfkjiohaaML2
import Derived.Deep.RegionHeld3
/-
  What the landed judge's fits answers. Condition: states of eight types.
-/
namespace Go.Proofs.Ytoahbnkfkjiohaa
open Go.RowKit
set_option linter.unusedVariables false
set_option linter.unusedSimpArgs false
set_option maxRecDepth 100000

theorem keepJ {p : Prop} (h : p) : Hid p := h
/-- The types of a state, as an array's value, and one of them. -/
theorem flatT_part {h : St} {k : Nat} {tk tl th tm : Int} (hk : k < h.length) (ht : h.getD k Ty.nil = ⟨tk, tl, th, tm⟩) : (flatT h).toArray.extract (k * 4) (k * 4 + 4) = #[.int .i64 tk, .int .u64 tl, .int .u64 th, .int .i64 tm] := by
  apply Array.ext_getElem?
  intro j
  rw [Array.getElem?_extract]
  by_cases hj : j < 4
  · have := flatT_at h k j hk hj
    rw [ht] at this
    have hl : (flatT h).length = h.length * 4 := flatT_len h
    rw [if_pos (by simp [hl]; omega)]
    simp only [List.getElem?_toArray]
    rw [this]
  · rw [if_neg (by simp; omega)]
    rw [Array.getElem?_eq_none (by simp; omega)]
theorem run_index9 {h : St} {k : Nat} {tk tl th tm : Int} (h8 : h.length = 8) (hk : k < 8) (ht : h.getD k Ty.nil = ⟨tk, tl, th, tm⟩) (w : World) :
    (Instr.index 52 (.agg (flatT h).toArray) (.int .i64 k)).run Try.prog w = .ok (.agg #[.int .i64 tk, .int .u64 tl, .int .u64 th, .int .i64 tm]) w := by
  have e := flatT_part (h := h) (k := k) (by omega) ht
  have h1 : (k : Int) < 8 := by omega
  have e' : (List.take 4 (List.drop (k * 4) (flatT h))).toArray = #[.int .i64 tk, .int .u64 tl, .int .u64 th, .int .i64 tm] := by
    rw [← e]; simp
  have hs : (Go.sizeOf 38).run Try.prog w = .ok 4 w := by simp [Go.sizeOf]; rfl
  have ha : (isAgg 38).run Try.prog w = .ok true w := by kernel_rfl
  simp [Instr.index, asIntOf, run_underlying Try.underlying52, part, hs, ha, h1, hk, e']
/-- The types of a state lie behind its first cell. -/
theorem StAt.types {w : World} {b o : Nat} {r : Bool} {s : St} (h : StAt w b o r s) : w.rangeAt b (o + 1) (flatT s) := fun j v hv => by
  have := h (j + 1) v (by unfold stC; rw [List.getElem?_cons_succ]; exact hv)
  rw [show o + 1 + j = o + (j + 1) by omega]
  exact this
theorem sizeA8 {s : St} (h : s.length = 8) : (Try.prog.info? 52).map (·.size) = some (flatT s).length := by rw [flatT_len, h]; kernel_rfl
def fitsAllS (s h : St) : Bool := (List.range 8).all fun k => fitsS (s.getD k Ty.nil) (h.getD k Ty.nil)
theorem ltypeFits_as {a b : Ty} {r : Bool} (h : Hid (r = fitsS a b)) (w : World) : Calls Try.prog 51 #[tyV a, tyV b] w fun e w' => e = .returned (.bool r) ∧ Below w.heap.size w w' := by
  rw [h.out]; exact ltypeFits_any a b w
theorem range_all {p : Nat → Bool} (k : Nat) : (List.range (k + 1)).all p = ((List.range k).all p && p k) := by rw [List.range_succ, List.all_append]; simp
theorem range_no {p : Nat → Bool} {k n : Nat} (hk : k < n) (h : p k = false) : (List.range n).all p = false := by
  rw [List.all_eq_false]
  exact ⟨k, List.mem_range.2 hk, by simp [h]⟩
set_option maxHeartbeats 1600000 in
theorem lfits_any (r r' : Bool) (s h : St) (w : World) (h8 : s.length = 8) (hh : h.length = 8) : Calls Try.prog 37 #[stV r s, stV r' h] w fun e w' => e = .returned (.bool (fitsAllS s h)) ∧ Below w.heap.size w w' := by
  obtain ⟨R, HR⟩ : ∃ R, Hid (R = fitsAllS s h) := ⟨_, rfl⟩
  rw [← HR.out]
  have HL : Hid (((w.alloc (stO r s)).alloc (stO r' h)).rangeAt (w.heap.size + 1) 1 (flatT h)) := by
    have := (stAt_new (w.alloc (stO r s)) r' h).types
    show World.rangeAt _ _ _ _
    simpa using this
  have hsz := sizeA8 hh
  have HZ : Hid ((Try.prog.info? 52).map (·.size) = some (flatT h).length) := hsz
  clear hsz
  have HA : Hid (∀ wr, Below ((w.alloc (stO r s)).alloc (stO r' h)).heap.size ((w.alloc (stO r s)).alloc (stO r' h)) wr → ∀ k, k < 8 → AtT wr w.heap.size (0 + 1 + k * 4) (s.getD k Ty.nil)) := fun wr hb k hk =>
    ((stAt_new w r s).below ((Below.refl _ _).alloc (Nat.le_refl _) _) (by simp) |>.typ h8 hk).below hb (by simp; omega)
  go_enter Try.func37, Try.ntmps37
  go_wp2_with ((with_reducible refine wpList_load_mid ?qa 52 (.tmp 7) ?qb (w.heap.size + 1) 1 ?qc (flatT h) _ HL.out Try.underlying52 ?qd HZ.out ?qe); (case qa => rfl); (case qb => rfl); (case qc => rfl); (case qd => rfl))
  obtain ⟨W2, HW2, HB2, hW2⟩ : ∃ W2, Hid (W2 = (w.alloc (stO r s)).alloc (stO r' h)) ∧ Hid (Below w.heap.size w W2) ∧ W2.heap.size ≤ w.heap.size + 2 ∧ w.heap.size + 2 ≤ W2.heap.size := ⟨_, rfl, keepJ (by go_grown), by simp, by simp⟩
  rw [← HW2.out] at HA ⊢
  clear HL HZ HW2
  go_loopw [9] (fun i wr => ∃ k : Nat, k ≤ 8 ∧ i = .int .i64 k ∧ Hid ((List.range k).all (fun k => fitsS (s.getD k Ty.nil) (h.getD k Ty.nil)) = true) ∧ Below W2.heap.size W2 wr) (fun i _ => 8 - (intOf i).toNat)
  case atStart => exact ⟨0, by omega, rfl, rfl, Below.refl _ _⟩
  case round =>
    obtain ⟨k, hk, rfl, HI, hbe⟩ := hrel
    have hwz := hbe.size
    by_cases hlt : k < 8
    · obtain ⟨tk, tl, th, tm, HT⟩ : ∃ k' lo hi m, Hid (h.getD k Ty.nil = ⟨k', lo, hi, m⟩) := ⟨_, _, _, _, rfl⟩
      obtain ⟨sk, sl, sh, sm, HS⟩ : ∃ k' lo hi m, Hid (s.getD k Ty.nil = ⟨k', lo, hi, m⟩) := ⟨_, _, _, _, rfl⟩
      have hidx := run_index9 hh hlt HT.out
      obtain ⟨q, HQ⟩ : ∃ q, Hid (q = fitsS ⟨sk, sl, sh, sm⟩ ⟨tk, tl, th, tm⟩) := ⟨_, rfl⟩
      have HQ' : Hid (fitsS (s.getD k Ty.nil) (h.getD k Ty.nil) = q) := by show _ = _; rw [HS.out, HT.out]; exact HQ.out.symm
      have hA := HA.out wr hbe k hlt
      rw [HS.out] at hA
      obtain ⟨a0, a1, a2, a3⟩ := hA
      simp only [Nat.zero_add] at a0 a1 a2 a3
      have hkI : (k : Int) < 8 := by omega
      have hn1 : ¬ w.heap.size = wr.heap.size := by omega
      have hn2 : ¬ wr.heap.size = w.heap.size := by omega
      have hn3 : w.heap.size < wr.heap.size := by omega
      go_wp2
      obtain ⟨Y, HY, HBY, hYz, b0, b1, b2, b3, g0, g1, g2, g3⟩ : ∃ Y, Hid (Y = wr.alloc (Obj.cells #[.int .i64 tk, .int .u64 tl, .int .u64 th, .int .i64 tm] 38)) ∧ Hid (Below wr.heap.size wr Y) ∧ wr.heap.size < Y.heap.size ∧
        Y.cell? ⟨wr.heap.size, 0, none⟩ = some (.int .i64 tk) ∧ Y.cell? ⟨wr.heap.size, 1, none⟩ = some (.int .u64 tl) ∧ Y.cell? ⟨wr.heap.size, 2, none⟩ = some (.int .u64 th) ∧ Y.cell? ⟨wr.heap.size, 3, none⟩ = some (.int .i64 tm) ∧
        Y.cell? ⟨w.heap.size, 1 + k * 4, none⟩ = some (.int .i64 sk) ∧ Y.cell? ⟨w.heap.size, 1 + k * 4 + 1, none⟩ = some (.int .u64 sl) ∧ Y.cell? ⟨w.heap.size, 1 + k * 4 + 2, none⟩ = some (.int .u64 sh) ∧ Y.cell? ⟨w.heap.size, 1 + k * 4 + 3, none⟩ = some (.int .i64 sm) :=
        ⟨_, rfl, keepJ (by go_grown), by simp, by go_cell, by go_cell, by go_cell, by go_cell, by go_cell, by go_cell, by go_cell, by go_cell⟩
      rw [← HY.out]
      clear a0 a1 a2 a3
      cases q with
      | true =>
        go_region_held3 (fun w' => (w'.cell? ⟨w.heap.size, 1 + k * 4, none⟩ = some (.int .i64 sk) ∧ w'.cell? ⟨w.heap.size, 1 + k * 4 + 1, none⟩ = some (.int .u64 sl) ∧ w'.cell? ⟨w.heap.size, 1 + k * 4 + 2, none⟩ = some (.int .u64 sh) ∧ w'.cell? ⟨w.heap.size, 1 + k * 4 + 3, none⟩ = some (.int .i64 sm)) ∧ w'.cell? ⟨wr.heap.size, 0, none⟩ = some (.int .i64 tk) ∧ w'.cell? ⟨wr.heap.size, 1, none⟩ = some (.int .u64 tl) ∧ w'.cell? ⟨wr.heap.size, 2, none⟩ = some (.int .u64 th) ∧ w'.cell? ⟨wr.heap.size, 3, none⟩ = some (.int .i64 tm))
          (first | exact hAt3 | exact ⟨⟨g0, g1, g2, g3⟩, b0, b1, b2, b3⟩)
          (first | (go_at_call 51; go_must (refine (ltypeFits_as HQ _).mono ?_); rintro e w3 ⟨rfl, hb3'⟩; go_must (have hb3 : Below Y.heap.size Y w3 := below_undrew hb3'; have hAt3 := At2.below (⟨⟨g0, g1, g2, g3⟩, b0, b1, b2, b3⟩ : At2 Y w.heap.size (1 + k * 4) ⟨sk, sl, sh, sm⟩ wr.heap.size 0 ⟨tk, tl, th, tm⟩) hb3 (by omega) (by omega); have hB3 : Below W2.heap.size W2 w3 := (hbe.trans (HBY.out.mono hwz)).trans (hb3.mono (by omega)); clear hb3')))
        go_wp2
        go_roundw
        case rel => exact ⟨k + 1, by omega, by go_num, by show _ = _; rw [range_all, HI.out, HQ'.out]; rfl, hB3⟩
        case measure => simp [intOf]; omega
      | false =>
        have HRf : Hid (R = false) := by show _ = _; rw [HR.out]; exact range_no hlt HQ'.out
        go_region_held3 (fun w' => (w'.cell? ⟨w.heap.size, 1 + k * 4, none⟩ = some (.int .i64 sk) ∧ w'.cell? ⟨w.heap.size, 1 + k * 4 + 1, none⟩ = some (.int .u64 sl) ∧ w'.cell? ⟨w.heap.size, 1 + k * 4 + 2, none⟩ = some (.int .u64 sh) ∧ w'.cell? ⟨w.heap.size, 1 + k * 4 + 3, none⟩ = some (.int .i64 sm)) ∧ w'.cell? ⟨wr.heap.size, 0, none⟩ = some (.int .i64 tk) ∧ w'.cell? ⟨wr.heap.size, 1, none⟩ = some (.int .u64 tl) ∧ w'.cell? ⟨wr.heap.size, 2, none⟩ = some (.int .u64 th) ∧ w'.cell? ⟨wr.heap.size, 3, none⟩ = some (.int .i64 tm))
          (first | exact hAt3 | exact ⟨⟨g0, g1, g2, g3⟩, b0, b1, b2, b3⟩)
          (first | (go_at_call 51; go_must (refine (ltypeFits_as HQ _).mono ?_); rintro e w3 ⟨rfl, hb3'⟩; go_must (have hb3 : Below Y.heap.size Y w3 := below_undrew hb3'; have hAt3 := At2.below (⟨⟨g0, g1, g2, g3⟩, b0, b1, b2, b3⟩ : At2 Y w.heap.size (1 + k * 4) ⟨sk, sl, sh, sm⟩ wr.heap.size 0 ⟨tk, tl, th, tm⟩) hb3 (by omega) (by omega); have hB3 : Below W2.heap.size W2 w3 := (hbe.trans (HBY.out.mono hwz)).trans (hb3.mono (by omega)); clear hb3')))
        go_wp2
        go_ret
        exact ⟨by rw [HRf.out]; rfl, HB2.out.trans (hB3.mono (by omega))⟩
    · obtain rfl : k = 8 := by omega
      have HRt : Hid (R = true) := by show _ = _; rw [HR.out]; exact HI.out
      go_wp2
      go_ret
      exact ⟨by rw [HRt.out]; rfl, HB2.out.trans (hbe.mono (by omega))⟩
theorem sizeJ {r : Bool} {s : St} (h : s.length = 8) : (Try.prog.info? 54).map (·.size) = some (stC r s).length := by rw [stC_len r h]; kernel_rfl
theorem sizeJA {r : Bool} {s : St} (h : s.length = 8) : (Try.prog.info? 54).map (·.size) = some (stC r s).toArray.size := by rw [stC_size r h]; kernel_rfl
theorem Made8.ends {nm : Nat} {s : St} (h : Made8 nm s) {k : Nat} (hk : k < 8) : wfS ((s.getD k Ty.nil).lo, (s.getD k Ty.nil).hi) := (h.get hk).ends
end Go.Proofs.Ytoahbnkfkjiohaa
/-
  What the landed judge's mapsFit answers, with slices.Contains and slices.Index. No condition.
-/
namespace Go.Proofs.Ytoahbnkfkjiohaa
open Go.RowKit
set_option linter.unusedVariables false
set_option linter.unusedSimpArgs false
set_option maxRecDepth 100000

def hasI (xs : List Int) (x : Int) : Bool := (List.range xs.length).any fun k => decide (xs.getD k 0 = x)
theorem hasI_no {xs : List Int} {x : Int} : hasI xs x = false ↔ ∀ k, k < xs.length → xs.getD k 0 ≠ x := by
  unfold hasI
  rw [List.any_eq_false]
  constructor
  · intro h k hk; simpa using h k (List.mem_range.2 hk)
  · intro h k hk; simpa using h k (List.mem_range.1 hk)
theorem hasI_yes {xs : List Int} {x : Int} {k : Nat} (hk : k < xs.length) (h : xs.getD k 0 = x) : hasI xs x = true := by
  unfold hasI
  rw [List.any_eq_true]
  exact ⟨k, List.mem_range.2 hk, by simpa using h⟩
set_option maxHeartbeats 800000 in
theorem lindex_any (v : Value) (xs : List Int) (x : Int) (w : World) (hs : Sees .i64 w v xs) : Calls Try.prog 42 #[v, .int .i64 x] w fun e w' => ∃ q : Int, e = .returned (.int .i64 q) ∧ Hid (decide (0 ≤ q) = hasI xs x) ∧ w = w' := by
  have HS := keepJ hs
  obtain ⟨a, cap, rfl, h1, h2, h3, h4, h5⟩ := hs
  have hm : xs.length ≤ 9223372036854775807 := by unfold maxLen at h2; omega
  obtain ⟨N, HN⟩ : ∃ N, Hid (xs.length = N) := ⟨_, rfl⟩
  rw [HN.out] at hm h1
  rw [HN.out]
  go_enter Try.func42, Try.ntmps42
  go_wp2
  go_loopw [8] (fun i wr => ∃ k : Nat, k ≤ N ∧ i = .int .i64 k ∧ Hid (∀ j, j < k → xs.getD j 0 ≠ x) ∧ w = wr) (fun i _ => N - (intOf i).toNat)
  case atStart => exact ⟨0, by omega, rfl, fun j hj => by omega, rfl⟩
  case round =>
    obtain ⟨k, hk, rfl, HI, rfl⟩ := hrel
    by_cases hlt : k < N
    · obtain ⟨b, off, rfl, hb, hat⟩ := h5 (fun e => by have := HN.out; rw [e] at this; simp at this; omega)
      obtain ⟨y, HY⟩ : ∃ y, Hid (xs.getD k 0 = y) := ⟨_, rfl⟩
      have c0 := hat k (by have := HN.out; omega)
      rw [HY.out] at c0
      have hkI : (k : Int) < N := by omega
      clear h5 hat
      by_cases hxy : x = y
      · subst hxy
        have HQ : Hid (decide (0 ≤ (k : Int)) = hasI xs x) := by
          show _ = _
          rw [hasI_yes (k := k) (by have := HN.out; omega) HY.out]
          simp
        go_wp2
        go_ret
        exact ⟨_, rfl, HQ.out, rfl⟩
      · go_wp2
        go_roundw
        case rel => exact ⟨k + 1, by omega, by go_num, fun j hj => by
          by_cases h : j = k
          · subst h; rw [HY.out]; exact fun e => hxy e.symm
          · exact HI.out j (by omega), by first | rfl | trivial⟩
        case measure => simp [intOf]; omega
    · obtain rfl : k = N := by omega
      have HQ : Hid (decide (0 ≤ (-1 : Int)) = hasI xs x) := by
        show _ = _
        rw [hasI_no.2 (by rw [HN.out]; exact HI.out)]
        rfl
      go_wp2
      go_ret
      exact ⟨_, rfl, HQ.out, rfl⟩
theorem lcontains_any (v : Value) (xs : List Int) (x : Int) (w : World) (hs : Sees .i64 w v xs) {r : Bool} (hr : Hid (hasI xs x = r)) : Calls Try.prog 23 #[v, .int .i64 x] w fun e w' => e = .returned (.bool r) ∧ w = w' := by
  have HS := keepJ hs
  obtain ⟨a, cap, rfl, _⟩ := hs
  go_enter Try.func23, Try.ntmps23
  go_wp2_with (go_at_call 42; go_must (refine (lindex_any _ xs x _ HS.out).mono ?_); rintro e w' ⟨q, rfl, HQ, rfl⟩)
  go_ret
  refine ⟨?_, rfl⟩
  rw [← hr.out, ← HQ.out]
  rfl
def okM (ms : List Int) (i : Nat) : Bool := decide (0 ≤ ms.getD i 0) && decide (ms.getD i 0 ≤ 3) && ((List.range i).all fun k => decide (ms.getD k 0 ≠ ms.getD i 0))
theorem has_take {ms : List Int} {i : Nat} (hi : i ≤ ms.length) (x : Int) : hasI (ms.take i) x = !((List.range i).all fun k => decide (ms.getD k 0 ≠ x)) := by
  unfold hasI
  rw [List.length_take, Nat.min_eq_left hi, Bool.eq_iff_iff]
  simp only [List.any_eq_true, Bool.not_eq_true', List.all_eq_false, List.mem_range, decide_eq_true_eq]
  constructor
  · rintro ⟨k, hk, h⟩
    exact ⟨k, hk, by simpa [List.getD, List.getElem?_take, hk] using h⟩
  · rintro ⟨k, hk, h⟩
    exact ⟨k, hk, by simpa [List.getD, List.getElem?_take, hk] using h⟩
set_option maxHeartbeats 1600000 in
theorem lmapsFit_any (v : Value) (ms : List Int) (w : World) (hs : Sees .i64 w v ms) {r : Bool} (hr : Hid (mapsJ ms = r)) : Calls Try.prog 15 #[v] w fun e w' => e = .returned (.bool r) ∧ w = w' := by
  have HS := keepJ hs
  obtain ⟨a, cap, rfl, h1, h2, h3, h4, h5⟩ := hs
  obtain ⟨N, HN⟩ : ∃ N, Hid (ms.length = N) := ⟨_, rfl⟩
  have hcap : cap ≤ 9223372036854775807 := by unfold maxLen at h2; omega
  rw [HN.out] at h1 HS ⊢
  by_cases hN : N ≤ 4
  · have HE : Hid (r = (List.range N).all (okM ms)) := by
      show _ = _
      rw [← hr.out]
      unfold mapsJ okM
      rw [HN.out, decide_eq_true hN, Bool.true_and]
    have hNI : (N : Int) ≤ 4 := by omega
    clear hr
    go_enter Try.func15, Try.ntmps15
    go_wp2
    go_loopw [10] (fun i wr => ∃ k : Nat, k ≤ N ∧ i = .int .i64 k ∧ Hid ((List.range k).all (okM ms) = true) ∧ w = wr) (fun i _ => N - (intOf i).toNat)
    case atStart => exact ⟨0, by omega, rfl, rfl, rfl⟩
    case round =>
      obtain ⟨k, hk, rfl, HI, rfl⟩ := hrel
      by_cases hlt : k < N
      · obtain ⟨b, off, rfl, hb, hat⟩ := h5 (fun e => by have := HN.out; rw [e] at this; simp at this; omega)
        obtain ⟨y, HY⟩ : ∃ y, Hid (ms.getD k 0 = y) := ⟨_, rfl⟩
        have c0 := hat k (by have := HN.out; omega)
        rw [HY.out] at c0
        have hkI : (k : Int) < N := by omega
        clear h5 hat
        by_cases hy0 : y < 0
        · have HF : Hid (r = false) := by show _ = _; rw [HE.out]; exact range_no hlt (by unfold okM; rw [HY.out, decide_eq_false (by omega)]; rfl)
          go_wp2
          go_ret
          exact ⟨by rw [HF.out]; rfl, rfl⟩
        by_cases hy4 : 4 ≤ y
        · have HF : Hid (r = false) := by show _ = _; rw [HE.out]; exact range_no hlt (by unfold okM; rw [HY.out, decide_eq_false (show ¬ y ≤ 3 by omega), Bool.and_false]; rfl)
          go_wp2
          go_ret
          exact ⟨by rw [HF.out]; rfl, rfl⟩
        obtain ⟨q, HQ⟩ : ∃ q, Hid (hasI (ms.take k) y = q) := ⟨_, rfl⟩
        have HOK : Hid (okM ms k = !q) := by
          show _ = _
          unfold okM
          rw [HY.out, decide_eq_true (show 0 ≤ y by omega), decide_eq_true (show y ≤ 3 by omega), ← HQ.out, has_take (by have := HN.out; omega)]
          simp
        have HC : Hid (Sees .i64 w (cutV (some ⟨b, off, none⟩) 0 k cap) (ms.take k)) := by
          have := Sees.cut (xs := ms) (a := some ⟨b, off, none⟩) (cap := cap) (by rw [HN.out]; exact HS.out) 0 k cap (by omega) (by have := HN.out; omega) (by omega) (Nat.le_refl _)
          rw [List.drop_zero] at this
          exact this
        have hsl := run_upto (e := 3) Try.underlying22 (fun w => by simp [Go.sizeOf]; rfl) (some ⟨b, off, none⟩) N cap k (by omega)
        cases q with
        | true =>
          have HF : Hid (r = false) := by show _ = _; rw [HE.out]; exact range_no hlt (by rw [HOK.out]; rfl)
          go_wp2_with (go_at_call 23; go_must (refine (lcontains_any _ (ms.take k) y _ HC.out HQ).mono ?_); rintro e w' ⟨rfl, rfl⟩)
          go_ret
          exact ⟨by rw [HF.out]; rfl, rfl⟩
        | false =>
          go_wp2_with (go_at_call 23; go_must (refine (lcontains_any _ (ms.take k) y _ HC.out HQ).mono ?_); rintro e w' ⟨rfl, rfl⟩)
          go_roundw
          case rel => exact ⟨k + 1, by omega, by go_num, by show _ = _; rw [range_all, HI.out, HOK.out]; rfl, by first | rfl | trivial⟩
          case measure => simp [intOf]; omega
      · obtain rfl : k = N := by omega
        have HF : Hid (r = true) := by show _ = _; rw [HE.out]; exact HI.out
        go_wp2
        go_ret
        exact ⟨by rw [HF.out]; rfl, rfl⟩
  · have HF : Hid (r = false) := by
      show _ = _
      rw [← hr.out]
      unfold mapsJ
      rw [HN.out, decide_eq_false hN, Bool.false_and]
    have hNI : 4 < (N : Int) := by omega
    go_enter Try.func15, Try.ntmps15
    go_wp2
    go_ret
    exact ⟨by rw [HF.out]; rfl, rfl⟩
end Go.Proofs.Ytoahbnkfkjiohaa
