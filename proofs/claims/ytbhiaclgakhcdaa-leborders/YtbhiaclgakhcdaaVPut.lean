/-
  What leb.Width and leb.Put do with any numbers: the plain encodings' length, and the plain encodings in new memory. Condition: at most 17592186044416 numbers.
-/
import Derived.Test.YtbhiaclgakhcdaaVGet
import Derived.Maps.AppendAt
namespace Go.Proofs.Ytbhiaclgakhcdaa
open Go.RowKit
set_option linter.unusedVariables false

theorem Try.info5 : (Try.prog.info? 5).map (fun i => (i.zero, i.size, i.bytes)) = some (some (.int .u8 0), 1, 1) := by kernel_rfl
theorem Try.info31 : (Try.prog.info? 31).map (fun i => (i.zero, i.size, i.bytes)) = some (some (.int .u64 0), 1, 8) := by kernel_rfl

set_option maxHeartbeats 400000 in
theorem width_some (b off cap : Nat) (xs : List Int) (w : World) (hmax : xs.length ≤ 17592186044416)
    (hc : ∀ i, i < xs.length → w.cell? ⟨b, off + i, none⟩ = some (.int .u64 (xs.getD i 0)))
    (hr : ∀ x ∈ xs, 0 ≤ x ∧ x < 18446744073709551616) :
    Calls Try.prog 11 #[.slice (some ⟨b, off, none⟩) xs.length cap] w fun e w' => e = .returned (.int .i64 (encs xs).length) ∧ w = w' := by
  go_enter Try.func11, Try.ntmps11
  go_wp2
  go_loop [3, 8] (fun t i => ∃ k : Nat, k ≤ xs.length ∧ i = .int .i64 k ∧ t = .int .i64 (encs (xs.take k)).length) (fun _ i => xs.length - (intOf i).toNat)
  case atStart => exact ⟨0, by omega, rfl, rfl⟩
  case round =>
    obtain ⟨k, hk, rfl, rfl⟩ := hrel
    have hl := (encs_len (xs.take k)).1
    rw [List.length_take] at hl
    by_cases hlt : k < xs.length
    · obtain ⟨c, hcell, hc0, hc1, HD⟩ : ∃ c, w.cell? ⟨b, off + k, none⟩ = some (.int .u64 c) ∧ 0 ≤ c ∧ c < 18446744073709551616 ∧ Hid (encs (xs.take (k + 1)) = encs (xs.take k) ++ enc c) :=
        ⟨_, hc k hlt, (hr _ (getD_mem xs k hlt)).1, (hr _ (getD_mem xs k hlt)).2, encs_take xs k hlt⟩
      have hl2 := enc_len c
      obtain ⟨L, HL⟩ : ∃ L : Nat, Hid (L = (encs (xs.take k)).length) := ⟨_, rfl⟩
      have hL : L ≤ 175921860444160 := by rw [HL.out]; omega
      rw [← HL.out]
      clear hl hc hr
      go_wp2
      go_loop [3, 5] (fun t n => ∃ (m : Int) (W : Nat), 0 ≤ m ∧ m < 18446744073709551616 ∧ n = .int .u64 m ∧ t = .int .i64 W ∧ 1 ≤ W ∧ W + (enc m).length = L + (enc c).length + 1) (fun _ n => (intOf n).toNat)
      case atStart => exact ⟨c, L + 1, hc0, hc1, rfl, rfl, by omega, by omega⟩
      case round =>
        obtain ⟨m, W, hm0, hm1, rfl, rfl, hW1, hW⟩ := hrel
        have hl3 := enc_len m
        have hWb : W ≤ 175921860444180 := by omega
        by_cases hge : 128 ≤ m
        · have hs : (enc m).length = 1 + (enc (m / 128)).length := by rw [enc_ge hge hm1]; simp; omega
          have HW : Hid (W + 1 + (enc (m / 128)).length = L + (enc c).length + 1) := by show _ = _; omega
          clear hs hW hl3
          go_wp2
          go_round
          case rel => exact ⟨m / 128, W + 1, by omega, by omega, rfl, by go_num, by omega, HW.out⟩
          case measure => simp [intOf]; omega
        · have hs : (enc m).length = 1 := by rw [enc_lt (by omega)]; rfl
          have HW : Hid (W = L + (enc c).length) := by show _ = _; omega
          clear hs hW hl3
          go_wp2
          go_round
          case rel => exact ⟨k + 1, by omega, by go_num, by rw [HD.out, List.length_append, HW.out, HL.out]⟩
          case measure => simp [intOf]; omega
    · obtain rfl : k = xs.length := by omega
      clear hl hc hr
      go_wp2
      go_ret
      exact ⟨rfl, rfl⟩

/-- leb.Width. -/
theorem width_any (v : Value) (xs : List Int) (w : World) (h : Sees .u64 w v xs) (hmax : xs.length ≤ 17592186044416) :
    Calls Try.prog 11 #[v] w fun e w' => e = .returned (.int .i64 (encs xs).length) ∧ w = w' := by
  obtain ⟨a, cap, rfl, hl, hm, hn0, hw, hs⟩ := h
  by_cases hne : xs = []
  · subst hne
    go_enter Try.func11, Try.ntmps11
    go_wp2
    refine wp_loop_rounds 1 ?_
    rw [rounds_succ]
    go_wp2
    go_ret
    exact ⟨rfl, rfl⟩
  · obtain ⟨b, off, rfl, _, hc⟩ := hs hne
    exact width_some b off cap xs w hmax hc (fun x hx => by have := bounds_u64 (hw x hx); omega)

theorem Sees.below {k : IntKind} {w w' : World} {v : Value} {xs : List Int} {B : Nat} (h : Sees k w v xs) (hb : Below B w w') (hB : w.heap.size ≤ B) : Sees k w' v xs := by
  obtain ⟨a, cap, rfl, hl, hm, hn0, hw, hs⟩ := h
  refine ⟨a, cap, rfl, hl, hm, hn0, hw, fun hne => ?_⟩
  obtain ⟨b, off, rfl, hlt, hc⟩ := hs hne
  exact ⟨b, off, rfl, Nat.lt_of_lt_of_le hlt hb.size, fun i hi => (hb.cell (p := ⟨b, off + i, none⟩) (Nat.lt_of_lt_of_le hlt hB)).trans (hc i hi)⟩

theorem Sees.own {k : IntKind} {w : World} {base : Nat} {e : TypeId} {v : Value} {xs : List Int} (h : w.ownsRow base e 1 v xs.length (xs.map (Value.int k))) (hw : ∀ x ∈ xs, (Lit.int k x).wf = true) : Sees k w v xs := by
  rcases h with ⟨h1, ⟨rfl, h2⟩ | ⟨g, cap, cur, rfl, hb, hh, h3, h4, h5, h6⟩⟩
  · have : xs = [] := List.eq_nil_of_length_eq_zero h2
    subst this
    exact ⟨none, 0, rfl, by simp, by simp [maxLen], fun _ => rfl, by simp, fun h => absurd rfl h⟩
  · refine ⟨_, cap, rfl, h3, h4, fun h => by simp at h, hw, fun hne => ⟨g, 0, rfl, ?_, fun i hi => ?_⟩⟩
    · exact (Array.getElem?_eq_some_iff.1 hh).1
    · have h := World.ownsRow.cellAt (w := w) (base := base) (e := e) (size := 1) (g := g) (n := xs.length) (cap := cap) (xs := xs.map (Value.int k)) ⟨h1, .inr ⟨g, cap, cur, rfl, hb, hh, h3, h4, h5, h6⟩⟩ i (by omega)
      rw [Nat.zero_add, h]
      simp [List.getD, hi]

/-- What one element more does to what is owned. -/
theorem step_append {w wr w1 : World} {B : Nat} {e : TypeId} {k : IntKind} {v v' : Value} {o : Obj} {ys : List Int} {x : Int} (hown : wr.ownsRow B e 1 v ys.length (ys.map (Value.int k))) (hbe : Below B w wr) (hB : B ≤ w.heap.size)
    (hown' : w1.ownsRow B e 1 v' (ys.length + 1) (ys.map (Value.int k) ++ [Value.int k x])) (hgrow : (wr.alloc o).grownBy w1 v.ownBlock) :
    w1.ownsRow B e 1 v' (ys ++ [x]).length ((ys ++ [x]).map (Value.int k)) ∧ Below B w w1 := by
  have hs := hbe.size
  refine ⟨by simpa using hown', (hbe.alloc (by omega) o).grown hgrow (by simp; omega) (fun k hk => (hown.lt k hk).1)⟩
theorem one_cell (k : IntKind) (x : Int) : ∀ u ∈ [Value.int k x], u.oneCell' = true := by intro u hu; simp at hu; subst hu; rfl

set_option maxHeartbeats 800000 in
theorem put_some (b off cap : Nat) (xs : List Int) (w : World) (hb : b < w.heap.size) (hl : xs.length ≤ cap) (hm : cap ≤ maxLen) (hmax : xs.length ≤ 17592186044416)
    (hc : ∀ i, i < xs.length → w.cell? ⟨b, off + i, none⟩ = some (.int .u64 (xs.getD i 0)))
    (hr : ∀ x ∈ xs, 0 ≤ x ∧ x < 18446744073709551616) :
    Calls Try.prog 7 #[.slice (some ⟨b, off, none⟩) xs.length cap] w fun e w' =>
      ∃ v, e = .returned v ∧ w'.ownsRow w.heap.size 5 1 v (encs xs).length ((encs xs).map (Value.int .u8)) ∧ Below w.heap.size w w' := by
  obtain ⟨i0, hi, hz0, hz1, hz2⟩ := info_parts Try.info5
  have hel := (encs_len xs).1
  go_enter Try.func7, Try.ntmps7
  go_wp2_with (first
    | (go_at_call 11; refine (width_some b off cap xs _ hmax hc hr).mono ?_; rintro e w' ⟨rfl, rfl⟩)
    | (at_make; refine wpList_make_own _ rfl _ _ 25 rfl w.heap.size 5 i0 (.int .u8 0) 1 Try.underlying25 hi hz0 hz1 .i64 .i64 _ (encs xs).length rfl rfl rfl (by rw [hz2]; omega) (by unfold maxLen; omega) (Nat.le_refl _) ?_; intro w1 hown hgrow))
  have hbe : Below w.heap.size w w1 := (Below.refl _ _).grown hgrow (Nat.le_refl _) (by simp)
  clear hgrow
  go_loopw [3, 11] (fun v i wr => ∃ k : Nat, k ≤ xs.length ∧ i = .int .i64 k ∧ wr.ownsRow w.heap.size 5 1 v (encs (xs.take k)).length ((encs (xs.take k)).map (Value.int .u8)) ∧ Below w.heap.size w wr) (fun _ i _ => xs.length - (intOf i).toNat)
  case atStart => exact ⟨0, by omega, rfl, hown, hbe⟩
  case round =>
    obtain ⟨k, hk, rfl, hown, hbe⟩ := hrel
    have hl' := (encs_len (xs.take k)).1
    rw [List.length_take] at hl'
    by_cases hlt : k < xs.length
    · obtain ⟨c, hcell, hc0, hc1, HD⟩ : ∃ c, wr.cell? ⟨b, off + k, none⟩ = some (.int .u64 c) ∧ 0 ≤ c ∧ c < 18446744073709551616 ∧ Hid (encs (xs.take (k + 1)) = encs (xs.take k) ++ enc c) :=
        ⟨_, (hbe.cell (p := ⟨b, off + k, none⟩) hb).trans (hc k hlt), (hr _ (getD_mem xs k hlt)).1, (hr _ (getD_mem xs k hlt)).2, encs_take xs k hlt⟩
      obtain ⟨ys, HY, hL, hown⟩ : ∃ ys, Hid (ys = encs (xs.take k)) ∧ ys.length ≤ 175921860444160 ∧ wr.ownsRow w.heap.size 5 1 u3 ys.length (ys.map (Value.int .u8)) := ⟨_, rfl, by omega, hown⟩
      have HD : Hid (encs (xs.take (k + 1)) = ys ++ enc c) := by rw [HD.out, HY.out]; rfl
      have hcl := (enc_len c).2
      clear hc hr
      go_wp2
      go_loopw [3, 5] (fun v n wq => ∃ (m : Int) (zs : List Int), 0 ≤ m ∧ m < 18446744073709551616 ∧ n = .int .u64 m ∧ zs ++ enc m = ys ++ enc c ∧ wq.ownsRow w.heap.size 5 1 v zs.length (zs.map (Value.int .u8)) ∧ Below w.heap.size w wq) (fun _ n _ => (intOf n).toNat)
      case atStart => exact ⟨c, ys, hc0, hc1, rfl, rfl, hown, hbe⟩
      case round =>
        clear hown hbe hcell
        obtain ⟨m, zs, hm0, hm1, rfl, hz, hown, hbe⟩ := hrel
        have hzl : zs.length ≤ 175921860444170 := by have := congrArg List.length hz; simp at this; omega
        have HZ : Hid (zs ++ enc m = ys ++ enc c) := hz
        clear hz
        have hsz := hbe.size
        by_cases hge : 128 ≤ m
        · go_wp2_with (at_builtin; go_must (refine wpList_append_wide _ rfl _ _ 25 rfl w.heap.size 5 i0 (.int .u8 0) 1 1 Try.underlying25 hi hz0 hz1 hz2 rfl (by decide) _ _ _ rfl (hown.alloc _) ⟨_, 0, none⟩ 1 1 [.int .u8 (m % 128 + 128)] rfl rfl (cell_one_new _ _ _) (one_cell _ _) (by unfold maxLen; omega) (by omega) (by simp; omega) ?_); intro v' w1 hown' hgrow _; have R := step_append hown hbe (Nat.le_refl _) hown' hgrow; clear hown' hgrow)
          go_roundw
          case rel => exact ⟨m / 128, zs ++ [m % 128 + 128], by omega, by omega, rfl, by rw [← HZ.out, enc_ge hge hm1]; simp, R.1, R.2⟩
          case measure => simp [intOf]; omega
        · go_wp2_with (at_builtin; go_must (refine wpList_append_wide _ rfl _ _ 25 rfl w.heap.size 5 i0 (.int .u8 0) 1 1 Try.underlying25 hi hz0 hz1 hz2 rfl (by decide) _ _ _ rfl (hown.alloc _) ⟨_, 0, none⟩ 1 1 [.int .u8 (m)] rfl rfl (cell_one_new _ _ _) (one_cell _ _) (by unfold maxLen; omega) (by omega) (by simp; omega) ?_); intro v' w1 hown' hgrow _; have R := step_append hown hbe (Nat.le_refl _) hown' hgrow; clear hown' hgrow)
          have HF : Hid (zs ++ [m] = encs (xs.take (k + 1))) := by rw [HD.out, ← HZ.out, enc_lt (by omega)]; rfl
          rw [HF.out] at R
          go_roundw
          case rel => exact ⟨k + 1, by omega, by go_num, R.1, R.2⟩
          case measure => simp [intOf]; omega
    · obtain rfl : k = xs.length := by omega
      rw [List.take_length] at hown
      clear hc hr
      go_wp2
      go_ret
      exact ⟨_, rfl, hown, hbe⟩

/-- leb.Put. -/
theorem put_any (v : Value) (xs : List Int) (w : World) (h : Sees .u64 w v xs) (hmax : xs.length ≤ 17592186044416) :
    Calls Try.prog 7 #[v] w fun e w' => ∃ v, e = .returned v ∧ w'.ownsRow w.heap.size 5 1 v (encs xs).length ((encs xs).map (Value.int .u8)) ∧ Below w.heap.size w w' := by
  have h0 := h
  obtain ⟨a, cap, rfl, hl, hm, hn0, hw, hs⟩ := h
  by_cases hne : xs = []
  · subst hne
    obtain ⟨i0, hi, hz0, hz1, hz2⟩ := info_parts Try.info5
    go_enter Try.func7, Try.ntmps7
    go_wp2_with (first
      | (go_at_call 11; refine (width_any _ [] _ h0 (by simp)).mono ?_; rintro e w' ⟨rfl, rfl⟩)
      | (at_make; refine wpList_make_own _ rfl _ _ 25 rfl w.heap.size 5 i0 (.int .u8 0) 1 Try.underlying25 hi hz0 hz1 .i64 .i64 _ 0 rfl rfl rfl (by rw [hz2]; omega) (by unfold maxLen; omega) (Nat.le_refl _) ?_; intro w1 hown hgrow))
    have hbe : Below w.heap.size w w1 := (Below.refl _ _).grown hgrow (Nat.le_refl _) (by simp)
    clear hgrow
    refine wp_loop_rounds 1 ?_
    rw [rounds_succ]
    go_wp2
    go_ret
    exact ⟨_, rfl, hown, hbe⟩
  · obtain ⟨b, off, rfl, hlt, hc⟩ := hs hne
    exact put_some b off cap xs w hlt hl hm hmax hc (fun x hx => by have := bounds_u64 (hw x hx); omega)
end Go.Proofs.Ytbhiaclgakhcdaa
