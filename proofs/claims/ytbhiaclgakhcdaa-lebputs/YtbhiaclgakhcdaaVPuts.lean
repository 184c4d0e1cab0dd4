/-
  The law LebPuts' walk. Condition: at most 17592186043904 numbers and signed numbers together.
-/
import Derived.Test.YtbhiaclgakhcdaaVRefPut
import Derived.Test.YtbhiaclgakhcdaaVNumbers
import Derived.Deep.RegionHeld3
namespace Go.Proofs.Ytbhiaclgakhcdaa
open Go.RowKit
set_option linter.unusedVariables false

theorem Try.info2 : (Try.prog.info? 2).map (fun i => (i.zero, i.size, i.bytes)) = some (some (.int .i64 0), 1, 8) := by kernel_rfl
set_option maxRecDepth 100000 in
set_option maxHeartbeats 2000000 in
theorem puts_walk (v : Value) (ns : List Int) (u : Value) (ss : List Int) (w : World) (hs : Sees .u64 w v ns) (hn : ns.length ≤ 17592186043904) (hu : Sees .i64 w u ss) (hm : ss.length ≤ 17592186043904) :
    Calls Try.prog 3 #[v, u] w fun e w' => e = .returned (.bool true) ∧ Below w.heap.size w w' := by
  obtain ⟨i5, hi5, hz50, hz51, hz52⟩ := info_parts Try.info5
  obtain ⟨i31, hi31, hz310, hz311, hz312⟩ := info_parts Try.info31
  obtain ⟨i2, hi2, hz20, hz21, hz22⟩ := info_parts Try.info2
  have HS : Hid (Sees .u64 w v ns) := hs
  have HU : Hid (Sees .i64 w u ss) := hu
  have hby := encs_byte hs.words
  have ln := (encs_len ns).1
  obtain ⟨av, cv, rfl⟩ := hs.shape
  obtain ⟨au, cu, rfl⟩ := hu.shape
  clear hs hu
  go_enter Try.func3, Try.ntmps3
  go_wp2_with (first
    | (go_at_call 6; go_must (refine (awake_any _).mono ?_); rintro e w1 ⟨rfl, hB1⟩; have hz1 := hB1.size)
    | (at_builtin; have hq := hB1; clear hq; refine wpList_append_sees rfl (.tmp 12) (.tmp 13) 22 rfl w1.heap.size 31 i31 (.int .u64 0) 8 Try.underlying22 hi31 hz310 hz311 hz312 rfl .u64 _ [] rfl (World.ownsRow_lit w1 #[] 0 (Nat.le_refl _) (by simp [maxLen]) rfl) _ _ rfl ((HS.out.below hB1 (Nat.le_refl _)).alloc _) (by simp [maxLen]; omega) (by simp; omega) (by simp) ?_; intro v2 w2 hown2 hg2; go_must (have hb2 := below_grown (World.ownsRow_lit w1 #[] 0 (Nat.le_refl w1.heap.size) (by simp [maxLen]) rfl) hg2 (by simp); have hb2 : Below w1.heap.size w1 w2 := ((Below.refl _ _).alloc (Nat.le_refl _) _).trans hb2; have hz2 := hb2.size; have hB2 := hB1.trans (hb2.mono hz1); clear hg2 hb2 hB1; simp only [List.nil_append] at hown2; have hsee2 := Sees.own hown2 HS.out.wf))
    | (go_at_call 7; have hq := hB2; clear hq; go_must (refine (put_any v2 ns _ hsee2 (by omega)).mono ?_); rintro e w3 ⟨v3, rfl, hown3, hbe3⟩; go_must (have hz3 := hbe3.size; have hB3 := hB2.trans (hbe3.mono (by omega)); have hsee2' := hsee2.below hbe3 (Nat.le_refl _); have hsee3 := Sees.own hown3 (wf_bytes hby); clear hsee2 hown2 hown3 hbe3 hB2; obtain ⟨a3, c3, rfl⟩ := hsee3.shape))
    | (go_at_call 8; go_must (refine (numbers_any v2 _ ns ns _ hsee2' (HS.out.below hB3 (Nat.le_refl _))).mono ?_); rintro e w4 ⟨rfl, n4, rfl⟩; rw [eqB_true (rfl : ns = ns)])
    | (go_at_call 10; have hq := hB3; clear hq; go_must (refine (refput_any _ ns _ ((HS.out.below hB3 (Nat.le_refl _)).drewN n4) (by omega)).mono ?_); rintro e w5 ⟨v5, rfl, hown5, hbe5⟩; go_must (have hz5 := hbe5.size; have hB5 := (below_drewN hB3 n4).trans (hbe5.mono (by simp; omega)); have hsee3' := (hsee3.drewN n4).below hbe5 (Nat.le_refl _); have hsee5 := Sees.own hown5 (wf_bytes hby); clear hown5 hbe5 hB3 hsee3 hsee2'))
    | (go_at_call 9; have hq := hsee3'; clear hq; go_must (refine (same_any _ v5 (encs ns) (encs ns) _ hsee3' hsee5).mono ?_); rintro e w6 ⟨rfl, n6, rfl⟩; rw [eqB_true (rfl : encs ns = encs ns)]; have hB6 := below_drewN hB5 n6; clear hB5)
    | (go_at_call 11; have hq := hB6; clear hq; go_must (refine (width_any _ ns _ (HS.out.below hB6 (Nat.le_refl _)) (by omega)).mono ?_); rintro e w7 ⟨rfl, rfl⟩))
  have HB : Hid (Below w.heap.size w (w5.drewN n6)) := hB6
  have hwf : ∀ x ∈ ss.map foldI, (Lit.int .u64 x).wf = true := by
    intro x hx
    obtain ⟨y, hy, rfl⟩ := List.mem_map.1 hx
    have hb := bounds_i64 (HU.out.wf y hy)
    have := fold_bd hb.1 hb.2
    exact wf_u64 this.1 this.2
  have hbs : ∀ x ∈ encs (ss.map foldI), 0 ≤ x ∧ x ≤ 255 := encs_byte (by
    intro x hx
    have := bounds_u64 (hwf x hx)
    omega)
  have ls := (encs_len (ss.map foldI)).1
  rw [List.length_map] at ls
  clear hsee3' hsee5 hB6
  go_loopw [7, 8] (fun t i wr => ∃ k : Nat, k ≤ ss.length ∧ i = .int .i64 k ∧ wr.ownsRow w.heap.size 31 1 t ((ss.take k).map foldI).length (((ss.take k).map foldI).map (Value.int .u64)) ∧ Below w.heap.size w wr) (fun _ i _ => ss.length - (intOf i).toNat)
  case atStart => exact ⟨0, by omega, rfl, World.ownsRow_nil _ _ _ _, HB.out⟩
  case round =>
    obtain ⟨k, hk, rfl, hown, hbe⟩ := hrel
    have hsz := hbe.size
    by_cases hlt : k < ss.length
    · obtain ⟨a', cap', hv, _, _, _, hwf', hcs⟩ := HU.out
      obtain ⟨rfl, rfl⟩ : au = a' ∧ cu = cap' := by injection hv with e1 e2 e3; exact ⟨e1, e3⟩
      obtain ⟨b, off, rfl, hb, hc⟩ := hcs (by intro e; subst e; simp at hlt)
      obtain ⟨c, hcell, hc0, hc1, HD⟩ : ∃ c, wr.cell? ⟨b, off + k, none⟩ = some (.int .i64 c) ∧ -9223372036854775808 ≤ c ∧ c ≤ 9223372036854775807 ∧ Hid (ss.take (k + 1) = ss.take k ++ [c]) :=
        ⟨_, (hbe.cell (p := ⟨b, off + k, none⟩) hb).trans (hc k hlt), (bounds_i64 (hwf' _ (getD_mem ss k hlt))).1, (bounds_i64 (hwf' _ (getD_mem ss k hlt))).2, take_at ss k hlt⟩
      obtain ⟨ys, HY, hL, hown⟩ : ∃ ys, Hid (ys = (ss.take k).map foldI) ∧ ys.length ≤ 17592186044416 ∧ wr.ownsRow w.heap.size 31 1 u7 ys.length (ys.map (Value.int .u64)) := ⟨_, rfl, by simp; omega, hown⟩
      have HF : Hid ((ss.take (k + 1)).map foldI = ys ++ [foldI c]) := by show _ = _; rw [HD.out, HY.out]; simp
      clear hc hwf hwf' hcs hv hbs hby
      go_wp2_with (first
        | (go_at_call 12; go_must (refine (turned_any c _ hc0 hc1).mono ?_); rintro e w' ⟨rfl, rfl⟩)
        | (at_builtin; go_must (refine wpList_append_wide _ rfl _ _ 22 rfl w.heap.size 31 i31 (.int .u64 0) 1 8 Try.underlying22 hi31 hz310 hz311 hz312 rfl (by decide) _ _ _ rfl (hown.alloc _) ⟨_, 0, none⟩ 1 1 [.int .u64 (foldI c)] rfl rfl (cell_one_new _ _ _) (one_cell _ _) (by unfold maxLen; omega) (by omega) (by simp; omega) ?_); intro v' w1 hown' hgrow _; have R := step_append hown hbe (Nat.le_refl _) hown' hgrow; clear hown' hgrow))
      rw [← HF.out] at R
      go_roundw
      case rel => exact ⟨k + 1, by omega, by go_num, R.1, R.2⟩
      case measure => simp [intOf]; omega
    · obtain rfl : k = ss.length := by omega
      rw [List.take_length] at hown
      have hseeT := Sees.own hown hwf
      have hlT : (ss.map foldI).length ≤ 17592186044416 := by simp; omega
      clear hown
      go_wp2_with (first
        | (at_builtin; have hq := hseeT; clear hq; refine wpList_append_sees rfl (.tmp 49) (.tmp 50) 23 rfl wr.heap.size 2 i2 (.int .i64 0) 8 Try.underlying23 hi2 hz20 hz21 hz22 rfl .i64 _ [] rfl (World.ownsRow_lit wr #[] 0 (Nat.le_refl _) (by simp [maxLen]) rfl) _ _ rfl ((HU.out.below hbe (Nat.le_refl _)).alloc _) (by simp [maxLen]; omega) (by simp; omega) (by simp) ?_; intro v8 w8 hown8 hg8; go_must (have hb8 := below_grown (World.ownsRow_lit wr #[] 0 (Nat.le_refl wr.heap.size) (by simp [maxLen]) rfl) hg8 (by simp); have hb8 : Below wr.heap.size wr w8 := ((Below.refl _ _).alloc (Nat.le_refl _) _).trans hb8; have hz8 := hb8.size; have hB8 := hbe.trans (hb8.mono hsz); have hseeT8 := hseeT.below hb8 (Nat.le_refl _); clear hg8 hb8 hbe hseeT; simp only [List.nil_append] at hown8; have hsee8 := Sees.own hown8 HU.out.wf))
        | (go_at_call 13; go_must (refine (putint_any v8 ss _ hsee8 (by omega)).mono ?_); rintro e w9 ⟨v9, rfl, hown9, hbe9⟩; go_must (have hz9 := hbe9.size; have hB9 := hB8.trans (hbe9.mono (by omega)); have hseeT9 := hseeT8.below hbe9 (Nat.le_refl _); have hsee9 := Sees.own hown9 (wf_bytes hbs); clear hsee8 hown8 hown9 hbe9 hB8 hseeT8))
        | (go_at_call 10; go_must (refine (refput_any _ (ss.map foldI) _ hseeT9 hlT).mono ?_); rintro e wA ⟨vA, rfl, hownA, hbeA⟩; go_must (have hzA := hbeA.size; have hBA := hB9.trans (hbeA.mono (by omega)); have hsee9' := hsee9.below hbeA (Nat.le_refl _); have hseeA := Sees.own hownA (wf_bytes hbs); clear hownA hbeA hB9 hsee9 hseeT9))
        | (go_at_call 9; go_must (refine (same_any _ vA _ _ _ hsee9' hseeA).mono ?_); rintro e wB ⟨rfl, nB, rfl⟩; rw [eqB_true (rfl : encs (ss.map foldI) = encs (ss.map foldI))]; have hBB := below_drewN hBA nB; clear hBA))
      have HBB : Hid (Below w.heap.size w (wA.drewN nB)) := hBB
      clear hsee9' hseeA hBB hbs hwf hlT
      go_loopw [9] (fun i wq => ∃ k : Nat, k ≤ ns.length ∧ i = .int .i64 k ∧ Below w.heap.size w wq) (fun i _ => ns.length - (intOf i).toNat)
      case atStart => exact ⟨0, by omega, rfl, HBB.out⟩
      case round =>
        obtain ⟨k, hk, rfl, hbe⟩ := hrel
        have hsz' := hbe.size
        by_cases hlt' : k < ns.length
        · obtain ⟨a', cap', hv, _, _, _, hwf', hcs⟩ := HS.out
          obtain ⟨rfl, rfl⟩ : av = a' ∧ cv = cap' := by injection hv with e1 e2 e3; exact ⟨e1, e3⟩
          obtain ⟨b, off, rfl, hb, hc⟩ := hcs (by intro e; subst e; simp at hlt')
          obtain ⟨c, hcell, hc0, hc1⟩ : ∃ c, wr.cell? ⟨b, off + k, none⟩ = some (.int .u64 c) ∧ 0 ≤ c ∧ c < 18446744073709551616 :=
            ⟨_, (hbe.cell (p := ⟨b, off + k, none⟩) hb).trans (hc k hlt'), by have := bounds_u64 (hwf' _ (getD_mem ns k hlt')); omega, by have := bounds_u64 (hwf' _ (getD_mem ns k hlt')); omega⟩
          have hbyc := enc_byte hc0 hc1
          have hbr : b < wr.heap.size := by omega
          clear hc hwf' hcs hv hby HBB HB
          go_wp2
          go_region_held3 (fun w' => w'.cell? ⟨b, off + k, none⟩ = some (.int .u64 c)) (first | assumption | (simp [go_sem, World.cell?_alloc_past, hcell, hbr]; done))
            (first
              | (go_at_call 7; refine (put_one_drew c _ _ (by simp) ⟨hc0, hc1⟩).mono ?_; rintro e wC ⟨vC, rfl, hownC, hbeC⟩; have hcC := (hbeC.cell (p := ⟨b, off + k, none⟩) hbr).trans hcell; have hzC := hbeC.size; have hBC := hbe.trans (hbeC.mono hsz'); have hseeC := Sees.own hownC (wf_bytes hbyc); clear hownC hbeC)
              | (go_at_call 14; go_must (refine (one_any c _ hc0 hc1).mono ?_); rintro e wD ⟨vD, rfl, hownD, hbeD⟩; go_must (have hcD := (hbeD.cell (p := ⟨b, off + k, none⟩) (show b < wC.heap.size by omega)).trans hcC; have hzD := hbeD.size; have hBD := hBC.trans (hbeD.mono (by omega)); have hseeD := Sees.own hownD (wf_bytes hbyc); have hseeC' := hseeC.below hbeD (Nat.le_refl _); clear hownD hbeD hseeC hBC))
              | (go_at_call 9; refine (same_any _ vD (enc c) (enc c) _ hseeC' hseeD).mono ?_; rintro e wE ⟨rfl, nE, rfl⟩; rw [eqB_true (rfl : enc c = enc c)]; have hBE := below_drewN hBD nE))
          go_wp2
          go_roundw
          case rel => exact ⟨k + 1, by omega, by go_num, hBE⟩
          case measure => simp [intOf]; omega
        · have hnil : ∀ wx : World, Sees .u64 wx (.slice none 0 0) [] := fun wx => Sees.nil .u64 wx
          clear HBB HB hby
          go_wp2_with (first
            | (go_at_call 7; go_must (refine (put_any _ [] _ (hnil _) (by simp)).mono ?_); rintro e wC ⟨vC, rfl, hownC, hbeC⟩; go_must (have hBC := hbe.trans (hbeC.mono hsz'); have hseeC : Sees .u8 wC vC [] := Sees.own hownC (by simp); obtain ⟨aC, cC, rfl⟩ := hseeC.shape; clear hownC hbeC hseeC))
            | (go_at_call 11; go_must (refine (width_any _ [] _ (hnil _) (by simp)).mono ?_); rintro e wD ⟨rfl, rfl⟩))
          go_ret
          exact ⟨rfl, hBC⟩
end Go.Proofs.Ytbhiaclgakhcdaa
