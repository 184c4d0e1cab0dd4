/-
  The law LebBack's walk. Condition: at most 17592186043904 numbers and bytes together.
-/
import Derived.Test.YtbhiaclgakhcdaaVAll
import Derived.Test.YtbhiaclgakhcdaaVNumbers
import Derived.Test.YtbhiaclgakhcdaaVUnfold
import Derived.Test.YtbhiaclgakhcdaaVPlainBack
import Derived.Deep.RegionHeld3
namespace Go.Proofs.Ytbhiaclgakhcdaa
open Go.RowKit
set_option linter.unusedVariables false

theorem wrap64_bd (c : Int) : -9223372036854775808 ≤ wrap64 c ∧ wrap64 c ≤ 9223372036854775807 := by unfold wrap64; omega

set_option maxRecDepth 100000 in
set_option maxHeartbeats 2000000 in
theorem back_walk (v : Value) (ns : List Int) (u : Value) (ms : List Int) (w : World) (hs : Sees .u64 w v ns) (hn : ns.length ≤ 17592186043904) (hu : Sees .u8 w u ms) (hm : ms.length ≤ 140737488351232) :
    Calls Try.prog 4 #[v, u] w fun e w' => e = .returned (.bool true) ∧ Below w.heap.size w w' := by
  obtain ⟨i5, hi5, hz50, hz51, hz52⟩ := info_parts Try.info5
  have HS : Hid (Sees .u64 w v ns) := hs
  have HU : Hid (Sees .u8 w u ms) := hu
  have hby := encs_byte hs.words
  have ln := (encs_len ns).1
  obtain ⟨av, cv, rfl⟩ := hs.shape
  obtain ⟨au, cu, rfl⟩ := hu.shape
  clear hs hu
  go_enter Try.func4, Try.ntmps4
  go_wp2_with (go_at_call 6; go_must (refine (awake_any _).mono ?_); rintro e w1 ⟨rfl, hB1⟩)
  go_loopw [5] (fun i wr => ∃ k : Nat, k ≤ ns.length ∧ i = .int .i64 k ∧ Below w.heap.size w wr) (fun i _ => ns.length - (intOf i).toNat)
  case atStart => exact ⟨0, by omega, rfl, hB1⟩
  case round =>
    clear hB1
    obtain ⟨k, hk, rfl, hbe⟩ := hrel
    have hsz := hbe.size
    by_cases hlt : k < ns.length
    · obtain ⟨a', cap', hv, hcl, hcm, _, hwf', hcs⟩ := HS.out
      obtain ⟨rfl, rfl⟩ : av = a' ∧ cv = cap' := by injection hv with e1 e2 e3; exact ⟨e1, e3⟩
      obtain ⟨b, off, rfl, hb, hc⟩ := hcs (by intro e; subst e; simp at hlt)
      obtain ⟨c, hcell, hc0, hc1⟩ : ∃ c, w.cell? ⟨b, off + k, none⟩ = some (.int .u64 c) ∧ 0 ≤ c ∧ c < 18446744073709551616 :=
        ⟨_, hc k hlt, by have := bounds_u64 (hwf' _ (getD_mem ns k hlt)); omega, by have := bounds_u64 (hwf' _ (getD_mem ns k hlt)); omega⟩
      have HC : Hid (w.cell? ⟨b, off + k, none⟩ = some (.int .u64 c)) := hcell
      have hcr := (hbe.cell (p := ⟨b, off + k, none⟩) hb).trans hcell
      have HG : Hid (getL 0 0 (enc c ++ ms) = (c, ((enc c).length : Int), 0)) := getL_enc hc0 hc1 ms
      have hbyc := enc_byte hc0 hc1
      have hlc := enc_len c
      clear hc hwf' hcs hv hby hcell hcm
      go_wp2_with (first
        | (go_at_call 7; go_must (refine (put_one c _ _ (by simp) ⟨hc0, hc1⟩).mono ?_); rintro e w2 ⟨v2, rfl, hown2, hbe2⟩; go_must (have hz2 := hbe2.size; have hB2 := hbe.trans (hbe2.mono hsz); have hsee2 := Sees.own hown2 (wf_bytes hbyc); clear hown2 hbe2; obtain ⟨a2, c2, rfl⟩ := hsee2.shape; have HS2 : Hid (Sees .u8 w2 (.slice a2 (enc c).length c2) (enc c)) := hsee2))
        | (at_builtin; have hq := hB2; clear hq; go_must (refine wpList_append_sees rfl (.tmp 36) (.tmp 37) 25 rfl w2.heap.size 5 i5 (.int .u8 0) 1 Try.underlying25 hi5 hz50 hz51 hz52 rfl .u8 _ [] rfl (World.ownsRow_lit w2 #[] 0 (Nat.le_refl _) (by simp [maxLen]) rfl) _ _ rfl (hsee2.alloc _) (by simp [maxLen]; omega) (by simp; omega) (by simp) ?_); intro v3 w3 hown3 hg3; go_must (have hb3 := below_grown (World.ownsRow_lit w2 #[] 0 (Nat.le_refl w2.heap.size) (by simp [maxLen]) rfl) hg3 (by simp); have hb3 : Below w2.heap.size w2 w3 := ((Below.refl _ _).alloc (Nat.le_refl _) _).trans hb3; have hz3 := hb3.size; have hB3 := hB2.trans (hb3.mono (by omega)); clear hg3 hB2 hsee2; simp only [List.nil_append] at hown3))
        | (at_builtin; have hq := hB3; clear hq; go_must (refine wpList_append_sees rfl (.tmp 38) (.tmp 39) 25 rfl w2.heap.size 5 i5 (.int .u8 0) 1 Try.underlying25 hi5 hz50 hz51 hz52 rfl .u8 _ (enc c) rfl hown3 _ _ rfl (HU.out.below hB3 (Nat.le_refl _)) (by simp [maxLen]; omega) (by omega) (by omega) ?_); intro v4 w4 hown4 hg4; go_must (have hb4 := below_grown hown3 hg4 (by omega); have hz4 := hb4.size; have hB4 := hB3.trans (hb4.mono (by omega)); have hb24 := hb3.trans hb4; have hsee4 := Sees.own hown4 (wf_bytes (by intro x hx; rcases List.mem_append.1 hx with hx | hx; exact hbyc x hx; exact HU.out.bytes x hx)); have hc4 := (hB4.cell (p := ⟨b, off + k, none⟩) hb).trans HC.out; clear hg4 hown4 hown3 hb3 hb4 hB3))
        | (go_at_call 15; go_must (refine (get_eq hsee4 HG.out).mono ?_); rintro e w5 ⟨rfl, rfl⟩))
      have HS4 : Hid (Sees .u8 w4 (.slice a2 (enc c).length c2) (enc c)) := HS2.out.below hb24 (Nat.le_refl _)
      have HCap : Hid ((enc c).length ≤ c2) := by
        obtain ⟨a', cap', e, hle, _⟩ := HS4.out
        injection e with e1 e2 e3
        rw [e3]; exact hle
      clear hsee4 hb24
      go_loop [10] (fun i => ∃ j : Nat, j ≤ (enc c).length ∧ i = .int .i64 j) (fun i => (enc c).length - (intOf i).toNat)
      case atStart => exact ⟨0, by omega, rfl⟩
      case round =>
        obtain ⟨j, hj, rfl⟩ := hrel
        by_cases hjl : j < (enc c).length
        · have hjc : j ≤ c2 := by have := HCap.out; omega
          obtain ⟨V, hV, HV⟩ : ∃ V, (∀ wx, (Instr.slice 25 (.slice a2 (enc c).length c2) none (some (.int .i64 j)) (some (.int .i64 j))).run Try.prog wx = .ok V wx) ∧ Hid (Sees .u8 w4 V ((enc c).take j)) :=
            ⟨_, run_upto3 Try.underlying25 size_u8 a2 (enc c).length c2 j hjc, Sees.cut HS4.out 0 j j (by omega) (by omega) (Nat.le_refl _) hjc⟩
          have HJ : Hid (getL 0 0 ((enc c).take j) = (0, 0, 10)) := getL_begin hc0 j hjl
          go_wp2_with (go_at_call 15; go_must (refine (get_eq HV.out HJ.out).mono ?_); rintro e w5 ⟨rfl, rfl⟩)
          go_round
          case rel => exact ⟨j + 1, by omega, by go_num⟩
          case measure => simp [intOf]; omega
        · have hs0 := wrap64_bd c
          have hfb := fold_bd hs0.1 hs0.2
          have HF : Hid (getL 0 0 (enc (foldI (wrap64 c))) = (foldI (wrap64 c), ((enc (foldI (wrap64 c))).length : Int), 0)) := by
            have := getL_enc hfb.1 hfb.2 []
            rw [List.append_nil] at this
            exact this
          have hunf := unfold_fold (wrap64 c)
          have hbyf := enc_byte hfb.1 hfb.2
          clear HS4 HCap HG HS2
          go_wp2_with (first
            | (go_at_call 13; go_must (refine (putint_one (wrap64 c) _ _ (by simp) hs0).mono ?_); rintro e w6 ⟨v6, rfl, hown6, hbe6⟩; go_must (have hB6 := hB4.trans (hbe6.mono (by omega)); have hc6 := (hB6.cell (p := ⟨b, off + k, none⟩) hb).trans HC.out; have hsee6 := Sees.own hown6 (wf_bytes hbyf); clear hown6 hbe6))
            | (go_at_call 16; go_must (refine (getint_eq hsee6 HF.out).mono ?_); rintro e w7 ⟨rfl, rfl⟩))
          go_roundw
          case rel => exact ⟨k + 1, by omega, by go_num, hB6⟩
          case measure => simp [intOf]; omega
    · have HA : Hid (allL (encs ns) = (ns, 0)) := allL_encs ns HS.out.words
      go_wp2_with (first
        | (go_at_call 7; go_must (refine (put_any _ ns _ (HS.out.below hbe (Nat.le_refl _)) (by omega)).mono ?_); rintro e w2 ⟨v2, rfl, hown2, hbe2⟩; go_must (have hz2 := hbe2.size; have hB2 := hbe.trans (hbe2.mono hsz); have hsee2 := Sees.own hown2 (wf_bytes hby); clear hown2 hbe2))
        | (go_at_call 17; go_must (refine (all_good _ (encs ns) ns _ hsee2 (by omega) HA.out).mono ?_); rintro e w3 ⟨v3, rfl, hown3, hbe3⟩; go_must (rw [HA.out] at hown3 ⊢; have hz3 := hbe3.size; have hB3 := hB2.trans (hbe3.mono (by omega)); have hsee3 : Sees .u64 w3 v3 ns := Sees.own hown3 HS.out.wf; clear hown3 hbe3 hsee2 hB2))
        | (go_at_call 8; go_must (refine (numbers_any v3 _ ns ns _ hsee3 (HS.out.below hB3 (Nat.le_refl _))).mono ?_); rintro e w4 ⟨rfl, n4, rfl⟩; rw [eqB_true (rfl : ns = ns)]; have hB4 := below_drewN hB3 n4)
        | (go_at_call 15; fail))
      have hz4 := hB4.size
      have hsee4 := HU.out.below hB4 (Nat.le_refl _)
      have HS4 : Hid (Sees .u8 (w3.drewN n4) (.slice au ms.length cu) ms) := hsee4
      clear hsee3 hB3 HA hbe hsee4
      generalize w3.drewN n4 = W at hB4 hz4 HS4 ⊢
      rcases getL_tells ms 0 0 (by omega) (by omega) (by simp) HU.out.bytes with (hg | hg) | ⟨n, j, hg, hn0, hn1, hj1, hj2, hj3⟩
      · refine (get_eq HS4.out hg).mono ?_
        rintro e w5 ⟨rfl, rfl⟩
        clear hg
        go_wp2
        go_ret
        exact ⟨rfl, hB4⟩
      · refine (get_eq HS4.out hg).mono ?_
        rintro e w5 ⟨rfl, rfl⟩
        clear hg
        go_wp2
        go_ret
        exact ⟨rfl, hB4⟩
      · refine (get_eq HS4.out hg).mono ?_
        rintro e w5 ⟨rfl, rfl⟩
        have hjl : j ≤ ms.length := by omega
        have HE : Hid (enc n = ms.take j) := enc_back HU.out.bytes hg
        obtain ⟨a', cap', ev, hcu, hcm, _⟩ := HS4.out
        obtain ⟨rfl, rfl⟩ : au = a' ∧ cu = cap' := by injection ev with e1 e2 e3; exact ⟨e1, e3⟩
        have hjc : j ≤ cu := by omega
        obtain ⟨V, hV, HV⟩ : ∃ V, (∀ wx, (Instr.slice 25 (.slice au ms.length cu) none (some (.int .i64 j)) none).run Try.prog wx = .ok V wx) ∧ Hid (Sees .u8 W V (ms.take j)) :=
          ⟨_, run_upto Try.underlying25 size_u8 au ms.length cu j hjc, Sees.cut HS4.out 0 j cu (by omega) hjl hjc (Nat.le_refl _)⟩
        have hbyn := enc_byte hn0 hn1
        unfold maxLen at hcm
        have hd1 : decide ((1 : Int) ≤ (j : Int)) = true := decide_eq_true (by omega)
        have hd2 : decide (1 ≤ j) = true := decide_eq_true (by omega)
        have hd3 : decide ((j : Int) ≤ (ms.length : Int)) = true := decide_eq_true (by omega)
        have hd4 : decide (j ≤ ms.length) = true := decide_eq_true (by omega)
        clear hg ev hby
        go_wp2
        go_region_held3 (fun _ => True) (trivial)
          (first
            | (go_at_call 7; refine (put_one_drew n _ _ (by simp) ⟨hn0, hn1⟩).mono ?_; rintro e w6 ⟨v6, rfl, hown6, hbe6⟩; have hB6 := hB4.trans (hbe6.mono hz4); have hsee6 := Sees.own hown6 (wf_bytes hbyn); have HV6 : Hid (Sees .u8 w6 V (ms.take j)) := HV.out.below hbe6 (Nat.le_refl _); clear hown6 hbe6)
            | (go_at_call 9; refine (same_any v6 V (enc n) (ms.take j) _ hsee6 HV6.out).mono ?_; rintro e w7 ⟨rfl, n7, rfl⟩; rw [eqB_true HE.out]; have hB7 := below_drewN hB6 n7))
        go_wp2
        go_ret
        exact ⟨rfl, hB7⟩
end Go.Proofs.Ytbhiaclgakhcdaa
