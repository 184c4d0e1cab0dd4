/-
  What the document's One, Put and Turned do: the plain encodings in new memory. Conditions: numbers of 64 bits, at most 17592186044416 of them.
-/
import Derived.Test.YtbhiaclgakhcdaaVKit
import Derived.Test.YtbhiaclgakhcdaaVFold
namespace Go.Proofs.Ytbhiaclgakhcdaa
open Go.RowKit
set_option linter.unusedVariables false

theorem turned_any (n : Int) (w : World) (h : -9223372036854775808 ≤ n) (h' : n ≤ 9223372036854775807) :
    Calls Try.prog 12 #[.int .i64 n] w fun e w' => e = .returned (.int .u64 (foldI n)) ∧ w = w' := by
  unfold foldI
  by_cases h0 : n < 0
  · go_enter Try.func12, Try.ntmps12
    go_wp2
    go_ret
    exact ⟨ret1 (by first | omega | (simp [h0]; omega)), rfl⟩
  · go_enter Try.func12, Try.ntmps12
    go_wp2
    go_ret
    exact ⟨ret1 (by first | omega | (simp [h0]; omega)), rfl⟩


set_option maxHeartbeats 800000 in
theorem one_any (n : Int) (w : World) (h0 : 0 ≤ n) (h1 : n < 18446744073709551616) :
    Calls Try.prog 14 #[.int .u64 n] w fun e w' => ∃ v, e = .returned v ∧ w'.ownsRow w.heap.size 5 1 v (enc n).length ((enc n).map (Value.int .u8)) ∧ Below w.heap.size w w' := by
  obtain ⟨i0, hi, hz0, hz1, hz2⟩ := info_parts Try.info5
  have hel := enc_len n
  go_enter Try.func14, Try.ntmps14
  go_wp2
  go_loopw [0, 3] (fun x v wr => ∃ (m : Int) (ds : List Int), 0 ≤ m ∧ m < 18446744073709551616 ∧ x = .int .u64 m ∧ ds ++ digs m = digs n ∧ wr.ownsRow w.heap.size 5 1 v ds.length (ds.map (Value.int .u8)) ∧ Below w.heap.size w wr) (fun x _ _ => (intOf x).toNat)
  case atStart => exact ⟨n, [], h0, h1, rfl, rfl, World.ownsRow_nil _ _ _ _, Below.refl _ _⟩
  case round =>
    obtain ⟨m, ds, hm0, hm1, rfl, hd, hown, hbe⟩ := hrel
    have hdl : ds.length ≤ 10 := by have := congrArg List.length hd; rw [List.length_append, digs_len, digs_len] at this; omega
    have HD : Hid (ds ++ digs m = digs n) := hd
    clear hd
    have hsz := hbe.size
    by_cases hge : 128 ≤ m
    · have hne : (m / 128 == 0) = false := by simp; omega
      go_wp2_with (at_builtin; go_must (refine wpList_append_wide _ rfl _ _ 25 rfl w.heap.size 5 i0 (.int .u8 0) 1 1 Try.underlying25 hi hz0 hz1 hz2 rfl (by decide) _ _ _ rfl (hown.alloc _) ⟨_, 0, none⟩ 1 1 [.int .u8 (m % 128)] rfl rfl (cell_one_new _ _ _) (one_cell _ _) (by unfold maxLen; omega) (by omega) (by simp; omega) ?_); intro v' w1 hown' hgrow _; have R := step_append hown hbe (Nat.le_refl _) hown' hgrow; clear hown' hgrow)
      go_roundw
      case rel => exact ⟨m / 128, ds ++ [m % 128], by omega, by omega, rfl, by rw [← HD.out, digs_ge hge hm1]; simp, R.1, R.2⟩
      case measure => simp [intOf]; omega
    · have hz : m / 128 = 0 := by omega
      go_wp2_with (at_builtin; go_must (refine wpList_append_wide _ rfl _ _ 25 rfl w.heap.size 5 i0 (.int .u8 0) 1 1 Try.underlying25 hi hz0 hz1 hz2 rfl (by decide) _ _ _ rfl (hown.alloc _) ⟨_, 0, none⟩ 1 1 [.int .u8 (m % 128)] rfl rfl (cell_one_new _ _ _) (one_cell _ _) (by unfold maxLen; omega) (by omega) (by simp; omega) ?_); intro v' w1 hown' hgrow _; have R := step_append hown hbe (Nat.le_refl _) hown' hgrow; clear hown' hgrow)
      have HF : Hid (ds ++ [m % 128] = digs n) := by rw [← HD.out, digs_lt hm0 (by omega)]; rfl
      rw [HF.out] at R
      obtain ⟨hown1, hbe1⟩ := R
      rw [digs_len] at hown1
      obtain ⟨g, cap, rfl, hg0, hg1, hgc, hgm, _⟩ := own_open hown1 (by omega)
      unfold maxLen at hgm
      obtain ⟨L, HL⟩ : ∃ L, Hid (L = (enc n).length) := ⟨_, rfl⟩
      rw [← HL.out] at hown1 hel hgc ⊢
      have hown1 : w1.ownsRow w.heap.size 5 1 (.slice (some ⟨g, 0, none⟩) L cap) L ((marked n 0).map (Value.int .u8)) := by rw [marked_zero]; exact hown1
      clear hown hbe hz HF HD hdl
      go_loopw [4] (fun i wq => ∃ k : Nat, k + 1 ≤ L ∧ i = .int .i64 k ∧ wq.ownsRow w.heap.size 5 1 (.slice (some ⟨g, 0, none⟩) L cap) L ((marked n k).map (Value.int .u8)) ∧ Below w.heap.size w wq) (fun i _ => L - (intOf i).toNat)
      case atStart => exact ⟨0, by omega, rfl, hown1, hbe1⟩
      case round =>
        clear hown1 hbe1
        obtain ⟨k, hk, rfl, hown, hbe⟩ := hrel
        by_cases hlt : k + 1 < L
        · obtain ⟨d, hcell, hd0, hd1, HC⟩ : ∃ d, wr.cell? ⟨g, k, none⟩ = some (.int .u8 d) ∧ 0 ≤ d ∧ d ≤ 127 ∧ Hid (d + 128 = (enc n).getD k 0) := by
            have hk' : k < (enc n).length := by rw [← HL.out]; omega
            have h1 := (enc_hi h0 h1 k).1 (by rw [← HL.out]; omega)
            have h2 := enc_byte h0 (by assumption) _ (getD_mem (enc n) k hk')
            refine ⟨(enc n).getD k 0 % 128, ?_, by omega, by omega, by show _ = _; omega⟩
            rw [hown.cellAt k (by omega), ← marked_at n k hk']
            have : k < (marked n k).length := by rw [marked_len]; exact hk'
            simp [List.getD, List.getElem?_eq_getElem this]
          have hfz := hown.frozenAt k
          have R := hown.stored k (.int .u8 (d + 128))
          have R1 : (wr.setCell ⟨g, k, none⟩ (.int .u8 (d + 128))).ownsRow w.heap.size 5 1 (.slice (some ⟨g, 0, none⟩) L cap) L ((marked n (k + 1)).map (Value.int .u8)) := by
            have e := R.1
            rw [← List.map_set, HC.out, marked_set n k (by rw [← HL.out]; omega)] at e
            rw [HC.out]; exact e
          have R2 := hbe.setCell (p := ⟨g, k, none⟩) hg0 (.int .u8 (d + 128))
          clear hown hbe R
          go_wp2
          go_roundw
          case rel => exact ⟨k + 1, by omega, by go_num, R1, R2⟩
          case measure => simp [intOf]; omega
        · have HE : Hid (marked n k = enc n) := marked_end h0 h1 k (by rw [← HL.out]; omega)
          rw [HE.out] at hown
          go_wp2
          go_ret
          exact ⟨.slice (some ⟨g, 0, none⟩) L cap, rfl, by rw [← HL.out]; exact hown, hbe⟩

set_option maxHeartbeats 800000 in
theorem refput_some (b off cap : Nat) (xs : List Int) (w : World) (hb : b < w.heap.size) (hmax : xs.length ≤ 17592186044416)
    (hc : ∀ i, i < xs.length → w.cell? ⟨b, off + i, none⟩ = some (.int .u64 (xs.getD i 0)))
    (hr : ∀ x ∈ xs, 0 ≤ x ∧ x < 18446744073709551616) :
    Calls Try.prog 10 #[.slice (some ⟨b, off, none⟩) xs.length cap] w fun e w' =>
      ∃ v, e = .returned v ∧ w'.ownsRow w.heap.size 5 1 v (encs xs).length ((encs xs).map (Value.int .u8)) ∧ Below w.heap.size w w' := by
  obtain ⟨i5, hi5, hz50, hz51, hz52⟩ := info_parts Try.info5
  go_enter Try.func10, Try.ntmps10
  go_wp2
  go_loopw [3, 4] (fun v i wr => ∃ k : Nat, k ≤ xs.length ∧ i = .int .i64 k ∧ wr.ownsRow w.heap.size 5 1 v (encs (xs.take k)).length ((encs (xs.take k)).map (Value.int .u8)) ∧ Below w.heap.size w wr) (fun _ i _ => xs.length - (intOf i).toNat)
  case atStart => exact ⟨0, by omega, rfl, World.ownsRow_nil _ _ _ _, Below.refl _ _⟩
  case round =>
    obtain ⟨k, hk, rfl, hown, hbe⟩ := hrel
    have hl' := (encs_len (xs.take k)).1
    rw [List.length_take] at hl'
    have hsz := hbe.size
    by_cases hlt : k < xs.length
    · obtain ⟨c, hcell, hc0, hc1, HD⟩ : ∃ c, wr.cell? ⟨b, off + k, none⟩ = some (.int .u64 c) ∧ 0 ≤ c ∧ c < 18446744073709551616 ∧ Hid (encs (xs.take (k + 1)) = encs (xs.take k) ++ enc c) :=
        ⟨_, (hbe.cell (p := ⟨b, off + k, none⟩) hb).trans (hc k hlt), (hr _ (getD_mem xs k hlt)).1, (hr _ (getD_mem xs k hlt)).2, encs_take xs k hlt⟩
      obtain ⟨ys, HY, hL, hown⟩ : ∃ ys, Hid (ys = encs (xs.take k)) ∧ ys.length ≤ 175921860444160 ∧ wr.ownsRow w.heap.size 5 1 u3 ys.length (ys.map (Value.int .u8)) := ⟨_, rfl, by omega, hown⟩
      have HD : Hid (ys ++ enc c = encs (xs.take (k + 1))) := by show _ = _; rw [HD.out, HY.out]
      have hcl := (enc_len c).2
      have hby := enc_byte hc0 hc1
      clear hc hr
      go_wp2_with (first
        | (go_at_call 14; go_must (refine (one_any c _ hc0 hc1).mono ?_); rintro e w2 ⟨v2, rfl, hown2, hbe2⟩; have hown1 := own_below hown hbe2 (Nat.le_refl _); have hsee2 := Sees.own hown2 (wf_bytes hby); have hz2 := hbe2.size; have hbe1 := hbe.trans (hbe2.mono hsz); clear hown hown2 hbe2 hbe)
        | (at_builtin; go_must (refine wpList_append_sees rfl (.tmp 11) (.tmp 16) 25 rfl _ 5 i5 (.int .u8 0) 1 Try.underlying25 hi5 hz50 hz51 hz52 rfl .u8 _ _ rfl hown1 _ _ rfl hsee2 (by unfold maxLen; omega) (by omega) (by omega) ?_); intro v3 w3 hown3 hg3; have hb3 := below_grown hown1 hg3 (by omega); have hbe3 := hbe1.trans hb3; clear hown1 hsee2 hg3 hb3 hbe1))
      rw [HD.out] at hown3
      go_roundw
      case rel => exact ⟨k + 1, by omega, by go_num, hown3, hbe3⟩
      case measure => simp [intOf]; omega
    · obtain rfl : k = xs.length := by omega
      rw [List.take_length] at hown
      clear hc hr
      go_wp2
      go_ret
      exact ⟨_, rfl, hown, hbe⟩

/-- The document's Put. -/
theorem refput_any (v : Value) (xs : List Int) (w : World) (h : Sees .u64 w v xs) (hmax : xs.length ≤ 17592186044416) :
    Calls Try.prog 10 #[v] w fun e w' => ∃ v, e = .returned v ∧ w'.ownsRow w.heap.size 5 1 v (encs xs).length ((encs xs).map (Value.int .u8)) ∧ Below w.heap.size w w' := by
  obtain ⟨a, cap, rfl, hl, hm, hn0, hw, hs⟩ := h
  by_cases hne : xs = []
  · subst hne
    go_enter Try.func10, Try.ntmps10
    go_wp2
    refine wp_loop_rounds 1 ?_
    rw [rounds_succ]
    go_wp2
    go_ret
    exact ⟨_, rfl, World.ownsRow_nil _ _ _ _, Below.refl _ _⟩
  · obtain ⟨b, off, rfl, hlt, hc⟩ := hs hne
    exact refput_some b off cap xs w hlt hmax hc (fun x hx => by have := bounds_u64 (hw x hx); omega)
end Go.Proofs.Ytbhiaclgakhcdaa
