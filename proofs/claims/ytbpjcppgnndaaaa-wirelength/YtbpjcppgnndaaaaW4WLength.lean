/-
  WireLength, walked: true. Conditions: the module's slices read as numbers and as instructions, and take up no more bytes than an argument may.
-/
import Derived.Test.YtbpjcppgnndaaaaW4Copied
import Derived.Test.YtbpjcppgnndaaaaW4RSame
namespace Go.Proofs.Ytbpjcppgnndaaaa
open Go.RowKit
set_option linter.unusedVariables false
set_option maxRecDepth 100000
attribute [local go_sem ↓] Go.wp_at_zero Go.wp_at_succ

/-- leb.Width of two numbers, of four. -/
theorem width_two (x y : Int) (n : Nat) (w : World) (hn : n = w.heap.size) (h : 0 ≤ x ∧ x < 18446744073709551616) (h' : 0 ≤ y ∧ y < 18446744073709551616) :
    Calls Try.prog 18 #[.slice (some ⟨n, 0, none⟩) 2 2] (w.alloc (.cells #[.int .u64 x, .int .u64 y] 47)) fun e w' => e = .returned (.int .i64 (encs [x, y]).length) ∧ Below w.heap.size w w' := by
  subst hn
  refine (width_any _ [x, y] _ (Sees.lit w .u64 47 [x, y] _ 2 rfl rfl (by simp) (by intro u hu; simp at hu; rcases hu with rfl | rfl <;> exact WalkArith.wf_u64 (by omega))) (by simp)).mono ?_
  rintro e w' ⟨rfl, rfl⟩
  exact ⟨rfl, below_alloc _ _⟩
theorem width_four (x y z t : Int) (n : Nat) (w : World) (hn : n = w.heap.size) (h1 : 0 ≤ x ∧ x < 18446744073709551616) (h2 : 0 ≤ y ∧ y < 18446744073709551616) (h3 : 0 ≤ z ∧ z < 18446744073709551616) (h4 : 0 ≤ t ∧ t < 18446744073709551616) :
    Calls Try.prog 18 #[.slice (some ⟨n, 0, none⟩) 4 4] (w.alloc (.cells #[.int .u64 x, .int .u64 y, .int .u64 z, .int .u64 t] 47)) fun e w' => e = .returned (.int .i64 (encs [x, y, z, t]).length) ∧ Below w.heap.size w w' := by
  subst hn
  refine (width_any _ [x, y, z, t] _ (Sees.lit w .u64 47 [x, y, z, t] _ 4 rfl rfl (by simp) (by intro u hu; simp at hu; rcases hu with rfl | rfl | rfl | rfl <;> exact WalkArith.wf_u64 (by omega))) (by simp)).mono ?_
  rintro e w' ⟨rfl, rfl⟩
  exact ⟨rfl, below_alloc _ _⟩
theorem width_one' (x : Int) (n : Nat) (w : World) (hn : n = w.heap.size) (h : 0 ≤ x ∧ x < 18446744073709551616) :
    Calls Try.prog 18 #[.slice (some ⟨n, 0, none⟩) 1 1] (w.alloc (.cells #[.int .u64 x] 47)) fun e w' => e = .returned (.int .i64 (enc x).length) ∧ Below w.heap.size w w' := by
  refine (width_one x n w hn h).mono ?_
  rintro e w' ⟨rfl, rfl⟩
  exact ⟨rfl, below_alloc _ _⟩

theorem lit4 (w : World) (x y z t : Int) (n : Nat) (hn : n = w.heap.size) (h1 : 0 ≤ x ∧ x < 18446744073709551616) (h2 : 0 ≤ y ∧ y < 18446744073709551616) (h3 : 0 ≤ z ∧ z < 18446744073709551616) (h4 : 0 ≤ t ∧ t < 18446744073709551616) :
    Sees .u64 (w.alloc (.cells #[.int .u64 x, .int .u64 y, .int .u64 z, .int .u64 t] 47)) (.slice (some ⟨n, 0, none⟩) 4 4) [x, y, z, t] := by
  subst hn
  exact Sees.lit w .u64 47 [x, y, z, t] _ 4 rfl rfl (by simp) (by intro u hu; simp at hu; rcases hu with rfl | rfl | rfl | rfl <;> exact WalkArith.wf_u64 (by omega))
theorem litI (w : World) (x : Int) (n : Nat) (hn : n = w.heap.size) (h : -9223372036854775808 ≤ x ∧ x ≤ 9223372036854775807) : Sees .i64 (w.alloc (.cells #[.int .i64 x] 2)) (.slice (some ⟨n, 0, none⟩) 1 1) [x] := by
  subst hn
  exact Sees.lit w .i64 2 [x] _ 1 rfl rfl (by simp) (by intro y hy; simp at hy; subst hy; exact WalkArith.wf_i64 (by omega))
theorem Sees.dr {k : IntKind} {w : World} {v : Value} {xs : List Int} (h : Sees k w v xs) : Sees k w.drew v xs := h
theorem below_drew' {B : Nat} {a w : World} (h : Below B a w) : Below B a w.drew := ⟨h.os, h.tape, h.output, h.size, h.block⟩
theorem below_al {a w : World} (h : Below a.heap.size a w) (o : Obj) : Below a.heap.size a (w.alloc o) := h.alloc h.size o

set_option maxHeartbeats 12800000 in
theorem wlength_law (vm vc : Value) (ms : List Int) (is : List In) (w : World) (h : SeesM w vm vc ms is) (z : ms.length * 8 ≤ 140737488351232 ∧ is.length * 40 ≤ 140737488355328) :
    Calls Try.prog 8 #[modV vm vc] w fun e w' => e = .returned (.bool true) ∧ Below w.heap.size w w' := by
  obtain ⟨am, km, hvm⟩ := h.maps.shape
  obtain ⟨ac, kc, hvc⟩ := h.code.shape
  have HWF : Hid (∀ i ∈ is, i.wf) := h.wf
  obtain ⟨W0, HW0⟩ : ∃ W0, Hid (W0 = w.alloc (.cells #[vm, vc] 25)) := ⟨_, keepH rfl⟩
  have HB0 : Hid (W0.heap.size = w.heap.size + 1) := by rw [HW0.out]; exact World.size_alloc _ _
  have HM : Hid (∀ wk, Below W0.heap.size W0 wk → SeesM wk vm vc ms is) := fun wk hb => by
    rw [HW0.out] at hb
    exact (h.below (below_alloc w _)).below hb
  have HD : Hid (∀ wk, Below W0.heap.size W0 wk → wk.cell? ⟨w.heap.size, 0, none⟩ = some vm ∧ wk.cell? ⟨w.heap.size, 1, none⟩ = some vc) := fun wk hb => by
    rw [HW0.out] at hb
    exact ((MdC.new w vm vc).below hb (by simp)).cells
  have HEND : Hid (∀ wk, Below W0.heap.size W0 wk → Below w.heap.size w wk) := fun wk hb => by
    rw [HW0.out] at hb
    exact below_of_alloc hb
  have HZ := keepH z
  cases hf : formedB ms is with
  | false =>
    subst hvm hvc
    clear h z
    go_enter Try.func8, Try.ntmps8
    go_wp2_with (first
      | (go_at_call 9; go_must (refine (awake_any _).mono ?_); rintro e w1 ⟨rfl, hb1⟩; go_must (rw [← HW0.out] at hb1; obtain ⟨d0, d1⟩ := HD.out _ hb1))
      | (go_at_call 10; go_must (refine (copied_any _ _ ms is _ (HM.out _ hb1) HZ.out).mono ?_); rintro e w2 ⟨xm, xc, rfl, hs2, hb2⟩; go_must (have hB2 := hb1.trans (hb2.mono hb1.size); have HS2 := keepH hs2; clear hb1 hb2 d0 d1 hs2))
      | (go_at_call 11; go_must (refine (encode_bad _ _ ms is _ HS2.out hf).mono ?_); rintro e w3 ⟨rfl, hb3⟩; go_must (have hB3 := hB2.trans (hb3.mono hB2.size); clear hb3 hB2)))
    go_ret
    exact ⟨rfl, HEND.out _ hB3⟩
  | true =>
    obtain ⟨p1, p2, p3, p4, p5⟩ := formed_parts hf
    have HR : Hid (∀ i ∈ is, i.right = true) := p5
    have HFM : Hid (∀ n ∈ ms, 0 ≤ n ∧ n ≤ 3) := fitF_bd ms [] p4
    obtain ⟨L, HL⟩ : ∃ L, Hid (L = ms.length) := ⟨_, rfl⟩
    obtain ⟨N, HN⟩ : ∃ N, Hid (N = is.length) := ⟨_, rfl⟩
    have hC := modE_len hf
    obtain ⟨C, HC⟩ : ∃ C, Hid (C = (modE ms is).length) := ⟨_, rfl⟩
    rw [← HC.out] at hC
    have HBE := keepH (modE_byte hf HWF.out)
    rw [← HL.out] at hvm p1
    rw [← HN.out] at hvc p2 p3
    subst hvm hvc
    clear h z p4 p5
    go_enter Try.func8, Try.ntmps8
    obtain ⟨E, HE⟩ : ∃ E : Nat, Hid ((encs [(L : Int), (N : Int)]).length = E) := ⟨_, rfl⟩
    have hel : E ≤ 20 := by
      have := (encs_len [(L : Int), (N : Int)]).1
      rw [HE.out] at this
      simpa using this
    go_wp2_with (first
      | (go_at_call 9; go_must (refine (awake_any _).mono ?_); rintro e w1 ⟨rfl, hb1⟩; go_must (rw [← HW0.out] at hb1; obtain ⟨d0, d1⟩ := HD.out _ hb1))
      | (go_at_call 10; go_must (refine (copied_any _ _ ms is _ (HM.out _ hb1) HZ.out).mono ?_); rintro e w2 ⟨xm, xc, rfl, hs2, hb2⟩; go_must (have hB2 := hb1.trans (hb2.mono hb1.size); have HS2 := keepH hs2; clear hb1 hb2 d0 d1 hs2))
      | (go_at_call 11; go_must (refine (encode_ok _ _ ms is _ HS2.out hf).mono ?_); rintro e w3 ⟨v3, rfl, ho3, hb3⟩; go_must (have hs3 : Sees .u8 w3 v3 (modE ms is) := Sees.own ho3 (wf_bytes HBE.out); obtain ⟨a3, k3, hv3⟩ := hs3.shape; rw [← HC.out] at hv3; subst hv3; have hB3 := hB2.trans (hb3.mono hB2.size); obtain ⟨d0, d1⟩ := HD.out _ hB3; clear hb3 hB2 ho3 hs3))
      | (go_at_call 18; go_must (refine (width_two (L : Int) (N : Int) _ _ (by simp) (by omega) (by omega)).mono ?_); rintro e w4 ⟨rfl, hb4⟩; rw [HE.out]; go_must (have hB4 := hB3.trans (hb4.mono hB3.size); obtain ⟨g0, g1⟩ := HD.out _ hB4; clear hb4 hB3 d0 d1)))
    go_loopw [5, 6] (fun t i wr => ∃ k T : Nat, k ≤ L ∧ i = .int .i64 k ∧ t = .int .i64 T ∧ T = 3 + E + (encs (ms.take k)).length ∧ Below W0.heap.size W0 wr) (fun _ i _ => L - (intOf i).toNat)
    case atStart => exact ⟨0, 3 + E, by omega, rfl, by go_num, by simp [encs], hB4⟩
    case round =>
      clear g0 g1
      obtain ⟨k, T, hk, rfl, rfl, hT, hbr⟩ := hrel
      have hTb : T ≤ 1000 := by
        have h2 := (encs_len (ms.take k)).1
        rw [List.length_take] at h2
        omega
      have HT : Hid (T = 3 + E + (encs (ms.take k)).length) := hT
      obtain ⟨d0, d1⟩ := HD.out _ hbr
      clear hT
      by_cases hlt : k < L
      · obtain ⟨n, bk, off, ham, hcell, hn0, hn3, HNX⟩ : ∃ n bk off, am = some ⟨bk, off, none⟩ ∧ wr.cell? ⟨bk, off + k, none⟩ = some (.int .i64 n) ∧ 0 ≤ n ∧ n ≤ 3 ∧ Hid (encs (ms.take (k + 1)) = encs (ms.take k) ++ enc n) := by
          have hk' : k < ms.length := by rw [← HL.out]; exact hlt
          obtain ⟨b, off, e1, hc⟩ := (HM.out wr hbr).maps.cellAt k hk'
          have hb := HFM.out _ (getD_mem ms k hk')
          exact ⟨_, b, off, e1, hc, hb.1, hb.2, encs_take ms k hk'⟩
        subst ham
        obtain ⟨F, HF, hF⟩ : ∃ F : Nat, Hid ((enc n).length = F) ∧ F ≤ 10 := ⟨_, rfl, (enc_len n).2⟩
        go_wp2_with (go_at_call 18; go_must (refine (width_one' n _ _ (by simp) (by omega)).mono ?_); rintro e w5 ⟨rfl, hb5⟩; rw [HF.out]; go_must (have hB5 := hbr.trans (hb5.mono hbr.size); clear hb5))
        go_roundw
        case rel => exact ⟨k + 1, T + F, by omega, by go_num, by go_num, by rw [HNX.out, List.length_append, HF.out, HT.out]; omega, hB5⟩
        case measure => simp [intOf]; omega
      · have HT1 : Hid (T = 3 + E + (encs ms).length) := by
          have h1 := HT.out
          rw [List.take_of_length_le (by rw [← HL.out]; omega)] at h1
          exact h1
        go_wp2_with fail
        go_loopw [5, 7] (fun t i wr => ∃ k U : Nat, k ≤ N ∧ i = .int .i64 k ∧ t = .int .i64 U ∧ U = T + (codeE (is.take k)).length ∧ Below W0.heap.size W0 wr) (fun _ i _ => N - (intOf i).toNat)
        case atStart => exact ⟨0, T, by omega, rfl, rfl, by simp [codeE], hbr⟩
        case round =>
          clear d0 d1 hbr hlt hk HT
          obtain ⟨k, U, hk, rfl, rfl, hU, hbr⟩ := hrel
          have hUb : U ≤ 5000 := by
            have h2 := codeE_len (is.take k)
            rw [List.length_take] at h2
            omega
          have HU : Hid (U = T + (codeE (is.take k)).length) := hU
          obtain ⟨d0, d1⟩ := HD.out _ hbr
          clear hU
          by_cases hlt : k < N
          · obtain ⟨jo, jd, ja, jb, ji, bk, off, hac, hat, hjo, hjd, hja, hjb, hji, HNX⟩ : ∃ jo jd ja jb ji bk off, ac = some ⟨bk, off, none⟩ ∧ At wr bk (off + k * 5) ⟨jo, jd, ja, jb, ji⟩ ∧ (0 ≤ jo ∧ jo ≤ 22) ∧ (0 ≤ jd ∧ jd ≤ 63) ∧ (0 ≤ ja ∧ ja ≤ 63) ∧ (0 ≤ jb ∧ jb ≤ 63) ∧ (-9223372036854775808 ≤ ji ∧ ji ≤ 9223372036854775807) ∧ Hid (codeE (is.take (k + 1)) = codeE (is.take k) ++ (encs [jo, jd, ja, jb] ++ enc (foldI ji))) := by
              have hk' : k < is.length := by rw [← HN.out]; exact hlt
              obtain ⟨b, off, e1, hc⟩ := (HM.out wr hbr).code.cellAt k hk'
              have hmem : is.getD k In.nil ∈ is := by simp [List.getD, hk']
              obtain ⟨h1, h2, h3, h4⟩ := right_bd (HR.out _ hmem)
              exact ⟨_, _, _, _, _, b, off, e1, hc, h1, h2, h3, h4, bounds_i64 (HWF.out _ hmem).2.2.2.2, codeE_take is k hk'⟩
            subst hac
            obtain ⟨x0, x1, x2, x3, x4⟩ := hat
            simp only at x0 x1 x2 x3 x4
            obtain ⟨hjo0, hjo1⟩ := hjo
            obtain ⟨hjd0, hjd1⟩ := hjd
            obtain ⟨hja0, hja1⟩ := hja
            obtain ⟨hjb0, hjb1⟩ := hjb
            obtain ⟨F, HF, hF⟩ : ∃ F : Nat, Hid ((encs [jo, jd, ja, jb]).length = F) ∧ F ≤ 40 := ⟨_, rfl, by simpa using (encs_len [jo, jd, ja, jb]).1⟩
            obtain ⟨G, HG, hG⟩ : ∃ G : Nat, Hid ((enc (foldI ji)).length = G) ∧ G ≤ 10 := ⟨_, rfl, (enc_len _).2⟩
            obtain ⟨Y, HY⟩ : ∃ Y, Hid (Y = wr.alloc (.cells #[.int .i64 jo, .int .i64 jd, .int .i64 ja, .int .i64 jb, .int .i64 ji] 45)) := ⟨_, keepH rfl⟩
            have hYb : Below W0.heap.size W0 Y := by rw [HY.out]; exact hbr.alloc hbr.size _
            have HYK : Hid (∀ wk, Below Y.heap.size Y wk → (wk.cell? ⟨wr.heap.size, 0, none⟩ = some (.int .i64 jo) ∧ wk.cell? ⟨wr.heap.size, 1, none⟩ = some (.int .i64 jd) ∧ wk.cell? ⟨wr.heap.size, 2, none⟩ = some (.int .i64 ja) ∧ wk.cell? ⟨wr.heap.size, 3, none⟩ = some (.int .i64 jb) ∧ wk.cell? ⟨wr.heap.size, 4, none⟩ = some (.int .i64 ji)) ∧ Below Y.heap.size Y wk) := fun wk hb => by
              have h1 : InC Y wr.heap.size jo jd ja jb ji := by rw [HY.out]; exact InC.new wr jo jd ja jb ji
              have h2 : InC wk wr.heap.size jo jd ja jb ji := by unfold InC; rw [hb.block _ h1.lt]; exact h1
              exact ⟨h2.cells, hb⟩
            have hY0 : Below Y.heap.size Y Y := Below.refl _ _
            go_wp2_with fail
            rw [← HY.out]
            have HL4 : Hid (∀ (w : World) (n : Nat), n = w.heap.size → Sees .u64 (w.alloc (.cells #[.int .u64 jo, .int .u64 jd, .int .u64 ja, .int .u64 jb] 47)) (.slice (some ⟨n, 0, none⟩) 4 4) [jo, jd, ja, jb]) := fun w n hn => lit4 w jo jd ja jb n hn (by omega) (by omega) (by omega) (by omega)
            have HLI : Hid (∀ (w : World) (n : Nat), n = w.heap.size → Sees .i64 (w.alloc (.cells #[.int .i64 ji] 2)) (.slice (some ⟨n, 0, none⟩) 1 1) [ji]) := fun w n hn => litI w ji n hn hji
            have HFB : Hid (∀ x ∈ encs ([ji].map foldI), 0 ≤ x ∧ x ≤ 255) := fun x hx => by
              rw [show encs ([ji].map foldI) = enc (foldI ji) from encs_one _] at hx
              have hb := fold_bd hji.1 hji.2
              exact enc_byte hb.1 hb.2 x hx
            have HG' : Hid ((encs ([ji].map foldI)).length = G) := by rw [show encs ([ji].map foldI) = enc (foldI ji) from encs_one _]; exact HG.out
            have HEo : Hid (IntKind.u64.wrap jo = jo ∧ IntKind.u64.wrap jd = jd ∧ IntKind.u64.wrap ja = ja ∧ IntKind.u64.wrap jb = jb) := ⟨IntWalk.u64_in _ ⟨hjo0, by omega⟩, IntWalk.u64_in _ ⟨hjd0, by omega⟩, IntWalk.u64_in _ ⟨hja0, by omega⟩, IntWalk.u64_in _ ⟨hjb0, by omega⟩⟩
            go_region_held_law (fun w' => (w'.cell? ⟨wr.heap.size, 0, none⟩ = some (.int .i64 jo) ∧ w'.cell? ⟨wr.heap.size, 1, none⟩ = some (.int .i64 jd) ∧ w'.cell? ⟨wr.heap.size, 2, none⟩ = some (.int .i64 ja) ∧ w'.cell? ⟨wr.heap.size, 3, none⟩ = some (.int .i64 jb) ∧ w'.cell? ⟨wr.heap.size, 4, none⟩ = some (.int .i64 ji)) ∧ Below Y.heap.size Y w')
              ((refine HYK.out _ ?_; repeat (first | assumption | refine below_drew' ?_ | refine below_al ?_ _)))
              (first
                | (go_at_call 18; rw [HEo.out.1, HEo.out.2.1, HEo.out.2.2.1, HEo.out.2.2.2]; refine (width_any _ [jo, jd, ja, jb] _ (by first | exact Sees.dr (HL4.out _ _ (by simp)) | exact Sees.dr ((HL4.out _ _ (by simp)).alloc _)) (by simp)).mono ?_; rintro e w5 ⟨rfl, rfl⟩; rw [HF.out])
                | (go_at_call 19; refine (putint_any _ [ji] _ (by first | exact Sees.dr (HLI.out _ _ (by simp)) | exact Sees.dr ((HLI.out _ _ (by simp)).alloc _)) (by simp)).mono ?_; rintro e w6 ⟨v6, rfl, ho6, hb6⟩; obtain ⟨a6, k6, hv6⟩ := (Sees.own ho6 (wf_bytes HFB.out)).shape; rw [HG'.out] at hv6; subst hv6; have hB6 := (And.right ‹_ ∧ Below Y.heap.size Y _›).trans (hb6.mono (And.right ‹_ ∧ Below Y.heap.size Y _›).size); clear hb6 ho6))
            all_goals
              have e1 : IntKind.i64.wrap ((F : Int) + (G : Int)) = (F : Int) + (G : Int) := IntWalk.i64_in _ ⟨by omega, by omega⟩
              have e2 : IntKind.i64.wrap ((U : Int) + ((F : Int) + (G : Int))) = ((U + (F + G) : Nat) : Int) := by rw [IntWalk.i64_in _ ⟨by omega, by omega⟩]; omega
              rw [e1, e2]
              clear e1 e2
              have hB7 : Below W0.heap.size W0 w6 := hYb.trans (hB6.mono hYb.size)
              go_wp2_with fail
              go_roundw
            all_goals first
              | exact ⟨k + 1, U + (F + G), by omega, by go_num, rfl, by rw [HNX.out, List.length_append, List.length_append, HF.out, HG.out, HU.out]; omega, hB7⟩
              | (simp [intOf]; omega)
          · have HE2 : Hid (C = U) := by
              show _ = _
              have h1 := HU.out
              rw [List.take_of_length_le (by rw [← HN.out]; omega), HT1.out] at h1
              have h2 := HE.out
              rw [encs_cons, encs_one, List.length_append] at h2
              rw [HC.out, modE]
              simp only [List.length_append, List.length_cons, List.length_nil]
              rw [← HL.out, ← HN.out]
              omega
            have hCU : ((C : Int) == (U : Int)) = true := by rw [HE2.out]; simp
            go_wp2_with fail
            go_ret
            exact ⟨rfl, HEND.out _ hbr⟩
theorem wlength_all (vm vc : Value) (ms : List Int) (is : List In) (w : World) (h : SeesM w vm vc ms is) (z : ms.length * 8 ≤ 140737488351232 ∧ is.length * 40 ≤ 140737488355328) :
    Calls Try.prog 8 #[modV vm vc] w fun e w' => e = .returned (.bool true) ∧ Below w.heap.size w w' := wlength_law vm vc ms is w h z
end Go.Proofs.Ytbpjcppgnndaaaa
