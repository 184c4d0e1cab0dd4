/-
  WireBack, walked: true. Conditions: the module's slices read as numbers and as instructions, the bytes as bytes.
-/
import Derived.Test.YtbpjcppgnndaaaaW4Awake
import Derived.Test.YtbpjcppgnndaaaaW4RSame
import Derived.Test.YtbpjcppgnndaaaaW4There
namespace Go.Proofs.Ytbpjcppgnndaaaa
open Go.RowKit
set_option linter.unusedVariables false
set_option maxRecDepth 100000
set_option linter.unusedSimpArgs false

set_option maxHeartbeats 12800000 in
theorem back_law (vm vc vb : Value) (ms : List Int) (is : List In) (bs : List Int) (x : Int) (w : World) (h : SeesM w vm vc ms is) (hb : Sees .u8 w vb bs) (hx0 : 0 ≤ x) (hx1 : x ≤ 255) :
    Calls Try.prog 5 #[modV vm vc, vb, .int .u8 x] w fun e w' => e = .returned (.bool true) ∧ Below w.heap.size w w' := by
  obtain ⟨i5, hi5, hz50, hz51, hz52⟩ := info_parts Try.info5
  have HTWO := keepH (dec_two (ys := bs) hb.bytes)
  have HBY := keepH hb.bytes
  have hbm := hb.lenMax
  obtain ⟨am, km, hvm⟩ := h.maps.shape
  obtain ⟨ac, kc, hvc⟩ := h.code.shape
  obtain ⟨ab, kb, hvb⟩ := hb.shape
  have HWF : Hid (∀ i ∈ is, i.wf) := h.wf
  obtain ⟨W0, HW0⟩ : ∃ W0, Hid (W0 = w.alloc (.cells #[vm, vc] 25)) := ⟨_, keepH rfl⟩
  have HM : Hid (∀ wk, Below W0.heap.size W0 wk → SeesM wk vm vc ms is) := fun wk hb => by
    rw [HW0.out] at hb
    exact (h.below (below_alloc w _)).below hb
  have HSB : Hid (∀ wk, Below W0.heap.size W0 wk → Sees .u8 wk vb bs) := fun wk hk => by
    rw [HW0.out] at hk
    exact (hb.below (below_alloc w _) (Nat.le_refl _)).below hk (Nat.le_refl _)
  have HD : Hid (∀ wk, Below W0.heap.size W0 wk → wk.cell? ⟨w.heap.size, 0, none⟩ = some vm ∧ wk.cell? ⟨w.heap.size, 1, none⟩ = some vc) := fun wk hb => by
    rw [HW0.out] at hb
    exact ((MdC.new w vm vc).below hb (by simp)).cells
  have HEND : Hid (∀ wk, Below W0.heap.size W0 wk → Below w.heap.size w wk) := fun wk hb => by
    rw [HW0.out] at hb
    exact below_of_alloc hb
  subst hvm hvc hvb
  clear h hb
  go_enter Try.func5, Try.ntmps5
  cases hf : formedB ms is with
  | false =>
    rcases HTWO.out with ⟨q, e, ht, hq0, hq1, he⟩ | ⟨xs, ys, ht, hf2, hw2, hm2⟩
    · have HT : Hid (decL bs = (([], []), q, e)) := ht
      have hen : (e != 0) = true := by simpa using he
      clear ht he
      go_wp2_with (first
        | (go_at_call 9; go_must (refine (awake_any _).mono ?_); rintro e w1 ⟨rfl, hb1⟩; go_must (rw [← HW0.out] at hb1; obtain ⟨d0, d1⟩ := HD.out _ hb1))
        | (go_at_call 11; have hq := hb1; clear hq; go_must (refine (encode_bad _ _ ms is _ (HM.out _ hb1) hf).mono ?_); rintro e w2 ⟨rfl, hb2⟩; go_must (have hB2 := hb1.trans (hb2.mono hb1.size); clear hb1 hb2 d0 d1))
        | (go_at_call 14; have hq := hB2; clear hq; go_must (refine (decode_any _ bs _ (HSB.out _ hB2)).mono ?_); rintro e w8 ⟨xm, xc, rfl, hom, hoc, _, hb8⟩; rw [HT.out] at hom hoc ⊢; go_must (obtain ⟨a8, k8, hxm⟩ := (Sees.own hom (by simp)).shape; obtain ⟨a9, k9, hxc⟩ := ownI_seesI_shape hoc; clear hom hoc; subst hxm hxc; have hB8 := hB2.trans (hb8.mono hB2.size); clear hb8 hB2)))
      go_ret
      exact ⟨retb (by simp), HEND.out _ (hB8.alloc hB8.size _)⟩
    · have HT : Hid (decL bs = ((xs, ys), 0, 0)) := ht
      have HF2 : Hid (formedB xs ys = true) := hf2
      have HW2 : Hid (∀ i ∈ ys, i.wf) := hw2
      have HM2 : Hid (modE xs ys = bs) := hm2
      clear ht hf2 hw2 hm2
      go_wp2_with (first
        | (go_at_call 9; go_must (refine (awake_any _).mono ?_); rintro e w1 ⟨rfl, hb1⟩; go_must (rw [← HW0.out] at hb1; obtain ⟨d0, d1⟩ := HD.out _ hb1))
        | (go_at_call 11; have hq := hb1; clear hq; go_must (refine (encode_bad _ _ ms is _ (HM.out _ hb1) hf).mono ?_); rintro e w2 ⟨rfl, hb2⟩; go_must (have hB2 := hb1.trans (hb2.mono hb1.size); clear hb1 hb2 d0 d1))
        | (go_at_call 14; have hq := hB2; clear hq; go_must (refine (decode_any _ bs _ (HSB.out _ hB2)).mono ?_); rintro e w8 ⟨xm, xc, rfl, hom, hoc, _, hb8⟩; rw [HT.out] at hom hoc ⊢; go_must (have HX : Hid (SeesM w8 xm xc xs ys) := ⟨Sees.own hom (wf_small (fitF_bd xs [] (formed_parts HF2.out).2.2.2.1)), own_seesI hoc, HW2.out⟩; obtain ⟨a8, k8, hxm⟩ := HX.out.maps.shape; obtain ⟨a9, k9, hxc⟩ := HX.out.code.shape; clear hom hoc; subst hxm hxc; have hB8 := hB2.trans (hb8.mono hB2.size); clear hb8 hB2))
        | (go_at_call 11; have hq := hB8; clear hq; go_must (refine (encode_ok _ _ xs ys _ (HX.out.below (below_alloc _ _)) HF2.out).mono ?_); rintro e w9 ⟨v9, rfl, ho9, hb9⟩; rw [HM2.out] at ho9; go_must (have hs9 : Sees .u8 w9 v9 bs := Sees.own ho9 (wf_bytes HBY.out); have hB9 := (hB8.alloc hB8.size _).trans (hb9.mono (hB8.alloc hB8.size _).size); obtain ⟨a10, k10, hv9⟩ := hs9.shape; subst hv9; have hcv := run_string (src := 28) (dst := 9) Try.underlying28 Try.underlying5 Try.underlying9 hs9; have hcb := run_string (src := 28) (dst := 9) Try.underlying28 Try.underlying5 Try.underlying9 (HSB.out _ hB9); clear ho9 hb9 hs9)))
      go_ret
      exact ⟨retb (by simp), HEND.out _ hB9⟩
  | true =>
    have HF : Hid (formedB ms is = true) := hf
    obtain ⟨C, HC⟩ : ∃ C, Hid (C = (modE ms is).length) := ⟨_, rfl⟩
    have hC : C ≤ 4096 := by rw [HC.out]; exact modE_len hf
    have HTH := keepH (dec_there hf HWF.out)
    have HBE := keepH (modE_byte hf HWF.out)
    go_wp2_with (first
      | (go_at_call 9; go_must (refine (awake_any _).mono ?_); rintro e w1 ⟨rfl, hb1⟩; go_must (rw [← HW0.out] at hb1; obtain ⟨d0, d1⟩ := HD.out _ hb1))
      | (go_at_call 11; have hq := hb1; clear hq; go_must (refine (encode_ok _ _ ms is _ (HM.out _ hb1) hf).mono ?_); rintro e w2 ⟨v2, rfl, ho2, hb2⟩; go_must (have hs2 : Sees .u8 w2 v2 (modE ms is) := Sees.own ho2 (wf_bytes HBE.out); have hB2 := hb1.trans (hb2.mono hb1.size); obtain ⟨a2, k2, hv2⟩ := hs2.shape; rw [← HC.out] at hv2; subst hv2; have HS2 := keepH hs2; clear hb1 hb2 d0 d1 ho2 hs2))
      | (go_at_call 14; have hq := hB2; clear hq; go_must (refine (decode_any _ (modE ms is) _ HS2.out).mono ?_); rintro e w3 ⟨um, uc, rfl, hom, hoc, _, hb3⟩; rw [HTH.out] at hom hoc ⊢; go_must (have HX3 : Hid (SeesM w3 um uc ms is) := ⟨Sees.own hom (wf_small (fitF_bd ms [] (formed_parts HF.out).2.2.2.1)), own_seesI hoc, HWF.out⟩; obtain ⟨a3, k3, hum⟩ := HX3.out.maps.shape; obtain ⟨a4, k4, huc⟩ := HX3.out.code.shape; clear hom hoc; subst hum huc; have hB3 := hB2.trans (hb3.mono hB2.size); have HS3 := keepH (HS2.out.below hb3 (Nat.le_refl _)); obtain ⟨g0, g1⟩ := HD.out _ (hB3.alloc hB3.size (.cells #[.slice a3 ms.length k3, .slice a4 is.length k4] 25)); clear hb3 hB2 HS2))
      | (go_at_call 13; go_must (refine (rsame_any _ _ _ _ ms is ms is _ (HM.out _ (hB3.alloc hB3.size _)) (HX3.out.below (below_alloc _ _))).mono ?_); rintro e w4 ⟨rfl, hb4⟩; rw [sameM_true]; go_must (have hB4 := (hB3.alloc hB3.size _).trans (hb4.mono (hB3.alloc hB3.size _).size); have HS4 := keepH ((HS3.out.alloc _).below hb4 (Nat.le_refl _)); clear hb4 HS3 g0 g1)))
    have HS4' : Hid (∀ wk, Below w4.heap.size w4 wk → Sees .u8 wk (.slice a2 C k2) (modE ms is)) := fun wk hk => HS4.out.below hk (Nat.le_refl _)
    have hk2 : C ≤ k2 := by
      obtain ⟨a', cap', hv, h1, _⟩ := HS4.out
      injection hv with _ _ e3
      rw [HC.out, e3]; exact h1
    go_loopw [12] (fun i wr => ∃ k : Nat, k ≤ C ∧ i = .int .i64 k ∧ Below w4.heap.size w4 wr) (fun i _ => C - (intOf i).toNat)
    case atStart => exact ⟨0, by omega, rfl, Below.refl _ _⟩
    case round =>
      obtain ⟨k, hk, rfl, hbr⟩ := hrel
      by_cases hlt : k < C
      · obtain ⟨cv, hsl, HCV⟩ : ∃ cv, (∀ w, (Instr.slice 28 (.slice a2 C k2) none (some (.int .i64 k)) (some (.int .i64 k))).run Try.prog w = .ok cv w) ∧ Hid (Sees .u8 wr cv ((modE ms is).take k)) := by
          refine ⟨_, fun w => run_upto3 Try.underlying28 size_u8 a2 C k2 k (by omega) w, ?_⟩
          have h0 := HS4'.out wr hbr
          rw [HC.out] at h0
          have h1 := h0.cut 0 k k (by omega) (by rw [← HC.out]; omega) (Nat.le_refl _) (by omega)
          rw [List.drop_zero] at h1
          rw [← HC.out] at *
          exact h1
        obtain ⟨q, HQ, hqk⟩ : ∃ q : Nat, Hid (decL ((modE ms is).take k) = (([], []), (q : Int), 10)) ∧ q ≤ k := dec_short HF.out HWF.out k (by rw [← HC.out]; exact hlt)
        go_wp2_with (go_at_call 14; go_must (refine (decode_any _ _ _ HCV.out).mono ?_); rintro e w5 ⟨xm, xc, rfl, hom, hoc, _, hb5⟩; rw [HQ.out] at hom hoc ⊢; go_must (obtain ⟨a8, k8, hxm⟩ := (Sees.own hom (by simp)).shape; obtain ⟨a9, k9, hxc⟩ := ownI_seesI_shape hoc; clear hom hoc; subst hxm hxc; have hB5 := hbr.trans (hb5.mono hbr.size); clear hb5))
        go_roundw
        case rel => exact ⟨k + 1, by omega, by go_num, hB5.alloc hB5.size _⟩
        case measure => simp [intOf]; omega
      · have hBr := hB4.trans (hbr.mono hB4.size)
        have hszr := hBr.size
        have HSr := keepH (HS4'.out wr hbr)
        have HOE := keepH (own_lit wr W0.heap.size 5 [] wr.heap.size rfl hszr (by simp [maxLen]))
        have HTR := keepH (dec_trail HF.out HWF.out x)
        have HBX : Hid (∀ y ∈ modE ms is ++ [x], 0 ≤ y ∧ y ≤ 255) := fun y hy => by
          rcases List.mem_append.1 hy with h | h
          · exact HBE.out y h
          · simp at h; subst h; exact ⟨hx0, hx1⟩
        clear hbr
        rcases HTWO.out with ⟨q, e, ht, hq0, hq1, he⟩ | ⟨xs, ys, ht, hf2, hw2, hm2⟩
        · have HT : Hid (decL bs = (([], []), q, e)) := ht
          have hen : (e != 0) = true := by simpa using he
          clear ht he
          go_wp2_with (first
            | (at_builtin; have hq := HOE; clear hq; go_must (refine wpList_append_sees rfl (.tmp 71) (.tmp 72) 28 rfl W0.heap.size 5 i5 (.int .u8 0) 1 Try.underlying28 hi5 hz50 hz51 hz52 rfl .u8 _ [] rfl HOE.out _ (modE ms is) rfl (HSr.out.alloc _) (by rw [← HC.out]; unfold maxLen; simp; omega) (by rw [← HC.out]; simp; omega) (by simp; omega) ?_); intro v5 w5 ho5 hg5; go_must (have hB5 := (hBr.alloc hszr _).grown hg5 (by simp; omega) (fun k hk => (HOE.out.lt k hk).1); have HO5 : Hid (w5.ownsRow W0.heap.size 5 1 v5 (modE ms is).length ((modE ms is).map (Value.int .u8))) := ho5; have hs5 := hB5.size; clear ho5 hg5 hBr HOE))
            | (at_builtin; have hq := HO5; clear hq; go_must (refine wpList_append_sees rfl (.tmp 73) (.tmp 75) 28 rfl W0.heap.size 5 i5 (.int .u8 0) 1 Try.underlying28 hi5 hz50 hz51 hz52 rfl .u8 _ (modE ms is) rfl (HO5.out.alloc _) _ [x] rfl (Sees.lit w5 .u8 _ [x] _ 1 rfl rfl (by simp) (by intro y hy; simp at hy; subst hy; exact WalkArith.wf_u8 (by omega))) (by rw [← HC.out]; unfold maxLen; simp; omega) (by rw [← HC.out]; simp; omega) (by simp; omega) ?_); intro v6 w6 ho6 hg6; go_must (have hB6 := (hB5.alloc hs5 _).grown hg6 (by simp; omega) (fun k hk => (HO5.out.lt k hk).1); have HS6 : Hid (Sees .u8 w6 v6 (modE ms is ++ [x])) := Sees.own ho6 (wf_bytes HBX.out); clear ho6 hg6 hB5 HO5))
            | (go_at_call 14; have hq := hB6; clear hq; go_must (refine (decode_any _ _ _ HS6.out).mono ?_); rintro e w7 ⟨ym, yc, rfl, hom, hoc, _, hb7⟩; rw [HTR.out] at hom hoc ⊢; go_must (obtain ⟨b8, l8, hym⟩ := (Sees.own hom (by simp)).shape; obtain ⟨b9, l9, hyc⟩ := ownI_seesI_shape hoc; clear hom hoc; subst hym hyc; have hB7 := hB6.trans (hb7.mono hB6.size); rw [← HC.out]; clear hb7 hB6 HS6))
            | (go_at_call 14; have hq := hB7; clear hq; go_must (refine (decode_any _ bs _ (HSB.out _ hB7)).mono ?_); rintro e w8 ⟨xm, xc, rfl, hom, hoc, _, hb8⟩; rw [HT.out] at hom hoc ⊢; go_must (obtain ⟨a8, k8, hxm⟩ := (Sees.own hom (by simp)).shape; obtain ⟨a9, k9, hxc⟩ := ownI_seesI_shape hoc; clear hom hoc; subst hxm hxc; have hB8 := hB7.trans (hb8.mono hB7.size); clear hb8 hB7)))
          go_ret
          exact ⟨retb (by simp), HEND.out _ (hB8.alloc hB8.size _)⟩
        · have HT : Hid (decL bs = ((xs, ys), 0, 0)) := ht
          have HF2 : Hid (formedB xs ys = true) := hf2
          have HW2 : Hid (∀ i ∈ ys, i.wf) := hw2
          have HM2 : Hid (modE xs ys = bs) := hm2
          clear ht hf2 hw2 hm2
          go_wp2_with (first
            | (at_builtin; have hq := HOE; clear hq; go_must (refine wpList_append_sees rfl (.tmp 71) (.tmp 72) 28 rfl W0.heap.size 5 i5 (.int .u8 0) 1 Try.underlying28 hi5 hz50 hz51 hz52 rfl .u8 _ [] rfl HOE.out _ (modE ms is) rfl (HSr.out.alloc _) (by rw [← HC.out]; unfold maxLen; simp; omega) (by rw [← HC.out]; simp; omega) (by simp; omega) ?_); intro v5 w5 ho5 hg5; go_must (have hB5 := (hBr.alloc hszr _).grown hg5 (by simp; omega) (fun k hk => (HOE.out.lt k hk).1); have HO5 : Hid (w5.ownsRow W0.heap.size 5 1 v5 (modE ms is).length ((modE ms is).map (Value.int .u8))) := ho5; have hs5 := hB5.size; clear ho5 hg5 hBr HOE))
            | (at_builtin; have hq := HO5; clear hq; go_must (refine wpList_append_sees rfl (.tmp 73) (.tmp 75) 28 rfl W0.heap.size 5 i5 (.int .u8 0) 1 Try.underlying28 hi5 hz50 hz51 hz52 rfl .u8 _ (modE ms is) rfl (HO5.out.alloc _) _ [x] rfl (Sees.lit w5 .u8 _ [x] _ 1 rfl rfl (by simp) (by intro y hy; simp at hy; subst hy; exact WalkArith.wf_u8 (by omega))) (by rw [← HC.out]; unfold maxLen; simp; omega) (by rw [← HC.out]; simp; omega) (by simp; omega) ?_); intro v6 w6 ho6 hg6; go_must (have hB6 := (hB5.alloc hs5 _).grown hg6 (by simp; omega) (fun k hk => (HO5.out.lt k hk).1); have HS6 : Hid (Sees .u8 w6 v6 (modE ms is ++ [x])) := Sees.own ho6 (wf_bytes HBX.out); clear ho6 hg6 hB5 HO5))
            | (go_at_call 14; have hq := hB6; clear hq; go_must (refine (decode_any _ _ _ HS6.out).mono ?_); rintro e w7 ⟨ym, yc, rfl, hom, hoc, _, hb7⟩; rw [HTR.out] at hom hoc ⊢; go_must (obtain ⟨b8, l8, hym⟩ := (Sees.own hom (by simp)).shape; obtain ⟨b9, l9, hyc⟩ := ownI_seesI_shape hoc; clear hom hoc; subst hym hyc; have hB7 := hB6.trans (hb7.mono hB6.size); rw [← HC.out]; clear hb7 hB6 HS6))
            | (go_at_call 14; have hq := hB7; clear hq; go_must (refine (decode_any _ bs _ (HSB.out _ hB7)).mono ?_); rintro e w8 ⟨xm, xc, rfl, hom, hoc, _, hb8⟩; rw [HT.out] at hom hoc ⊢; go_must (have HX : Hid (SeesM w8 xm xc xs ys) := ⟨Sees.own hom (wf_small (fitF_bd xs [] (formed_parts HF2.out).2.2.2.1)), own_seesI hoc, HW2.out⟩; obtain ⟨a8, k8, hxm⟩ := HX.out.maps.shape; obtain ⟨a9, k9, hxc⟩ := HX.out.code.shape; clear hom hoc; subst hxm hxc; have hB8 := hB7.trans (hb8.mono hB7.size); clear hb8 hB7))
            | (go_at_call 11; have hq := hB8; clear hq; go_must (refine (encode_ok _ _ xs ys _ (HX.out.below (below_alloc _ _)) HF2.out).mono ?_); rintro e w9 ⟨v9, rfl, ho9, hb9⟩; rw [HM2.out] at ho9; go_must (have hs9 : Sees .u8 w9 v9 bs := Sees.own ho9 (wf_bytes HBY.out); have hB9 := (hB8.alloc hB8.size _).trans (hb9.mono (hB8.alloc hB8.size _).size); obtain ⟨a10, k10, hv9⟩ := hs9.shape; subst hv9; have hcv := run_string (src := 28) (dst := 9) Try.underlying28 Try.underlying5 Try.underlying9 hs9; have hcb := run_string (src := 28) (dst := 9) Try.underlying28 Try.underlying5 Try.underlying9 (HSB.out _ hB9); clear ho9 hb9 hs9)))
          go_ret
          exact ⟨retb (by simp), HEND.out _ hB9⟩
end Go.Proofs.Ytbpjcppgnndaaaa
