/-
  What the document's Fields does: the bytes of a module, field by field. Conditions: the module is well formed; its slices read as numbers and as instructions.
-/
import Derived.Test.YtbpjcppgnndaaaaW4RFields
namespace Go.Proofs.Ytbpjcppgnndaaaa
open Go.RowKit
set_option linter.unusedVariables false
set_option maxRecDepth 100000
attribute [local go_sem ↓] Go.wp_at_zero Go.wp_at_succ

theorem below_dr4 {B : Nat} {a w : World} (h : Below B a w) : Below B a w.drew := ⟨h.os, h.tape, h.output, h.size, h.block⟩
theorem below_al4 {a w : World} (h : Below a.heap.size a w) (o : Obj) : Below a.heap.size a (w.alloc o) := h.alloc h.size o
theorem five_rows {w : World} {base : Nat} {u1 u2 u3 u4 u5 : Value} {f1 f2 f3 f4 f5 : List Int} (h1 : RowB w base u1 f1) (h2 : RowB w base u2 f2) (h3 : RowB w base u3 f3) (h4 : RowB w base u4 f4) (h5 : RowB w base u5 f5) :
    ∀ i, i < [f1, f2, f3, f4, f5].length → RowB w base ([u1, u2, u3, u4, u5].getD i nilV) ([f1, f2, f3, f4, f5].getD i []) := by
  intro i hi
  have hc : i = 0 ∨ i = 1 ∨ i = 2 ∨ i = 3 ∨ i = 4 := by simp at hi; omega
  rcases hc with rfl | rfl | rfl | rfl | rfl
  · exact h1
  · exact h2
  · exact h3
  · exact h4
  · exact h5
theorem five_vals (w : World) (e : TypeId) (u1 u2 u3 u4 u5 : Value) (n : Nat) (hn : n = w.heap.size) : ∀ j x, [u1, u2, u3, u4, u5][j]? = some x → (w.alloc (.cells #[u1, u2, u3, u4, u5] e)).cell? ((⟨n, 0, none⟩ : Addr).add j) = some x := by
  subst hn
  intro j x hx
  show (w.alloc (.cells #[u1, u2, u3, u4, u5] e)).cell? _ = _
  rw [Addr.add_mid, Nat.zero_add, World.cell?_alloc_at _ _ _ _ rfl]
  simpa using hx

set_option maxHeartbeats 12800000 in
theorem rfields_ok (vm vc : Value) (ms : List Int) (is : List In) (w : World) (h : SeesM w vm vc ms is) (hf : formedB ms is = true) :
    Calls Try.prog 23 #[modV vm vc] w fun e w' => ∃ v vs, e = .returned v ∧ FB w' w.heap.size v vs (fieldsL ms is) ∧ Below w.heap.size w w' := by
  obtain ⟨i8, hi8, hz80, hz81, hz82⟩ := info_parts Try.infoSl
  obtain ⟨p1, p2, p3, p4, p5⟩ := formed_parts hf
  have HR : Hid (∀ i ∈ is, i.right = true) := p5
  have HFM : Hid (∀ n ∈ ms, 0 ≤ n ∧ n ≤ 3) := fitF_bd ms [] p4
  have HWF : Hid (∀ i ∈ is, i.wf) := h.wf
  obtain ⟨am, km, hvm⟩ := h.maps.shape
  obtain ⟨ac, kc, hvc⟩ := h.code.shape
  obtain ⟨W0, HW0⟩ : ∃ W0, Hid (W0 = w.alloc (.cells #[vm, vc] 25)) := ⟨_, keepH rfl⟩
  have HB0 : Hid (W0.heap.size = w.heap.size + 1) := by rw [HW0.out]; exact World.size_alloc _ _
  have HM : Hid (∀ wk, Below W0.heap.size W0 wk → SeesM wk vm vc ms is) := fun wk hb => by
    rw [HW0.out] at hb
    exact (h.below (below_alloc w _)).below hb
  have HD : Hid (∀ wk, Below W0.heap.size W0 wk → wk.cell? ⟨w.heap.size, 0, none⟩ = some vm ∧ wk.cell? ⟨w.heap.size, 1, none⟩ = some vc) := fun wk hb => by
    rw [HW0.out] at hb
    exact ((MdC.new w vm vc).below hb (by simp)).cells
  have HEND : Hid (∀ wk, Below W0.heap.size W0 wk → Below w.heap.size w wk) := fun wk hb => by
    rw [HW0.out] at hb
    exact below_of_alloc hb
  obtain ⟨L, HL⟩ : ∃ L, Hid (L = ms.length) := ⟨_, rfl⟩
  obtain ⟨N, HN⟩ : ∃ N, Hid (N = is.length) := ⟨_, rfl⟩
  rw [← HL.out] at hvm p1
  rw [← HN.out] at hvc p2 p3
  subst hvm hvc
  clear h p4 p5 hf
  have hb0 : Below W0.heap.size W0 (((W0.alloc (.cells #[.int .u8 84] 5)).alloc (.cells #[.int .u8 80] 5)).alloc (.cells #[.int .u8 1] 5)) := (((Below.refl _ _).alloc (Nat.le_refl _) _).alloc (by simp) _).alloc (by simp; omega) _
  have HBB := keepH hb0
  have HST : Hid (∀ (w2 : World) (v4 : Value) (f : List Int), Below (((W0.alloc (.cells #[.int .u8 84] 5)).alloc (.cells #[.int .u8 80] 5)).alloc (.cells #[.int .u8 1] 5)).heap.size (((W0.alloc (.cells #[.int .u8 84] 5)).alloc (.cells #[.int .u8 80] 5)).alloc (.cells #[.int .u8 1] 5)) w2 → RowB w2 W0.heap.size v4 f →
      FB (w2.alloc (.cells #[.slice (some ⟨w.heap.size + 1, 0, none⟩) 1 1, .slice (some ⟨w.heap.size + 1 + 1, 0, none⟩) 1 1, .slice (some ⟨w.heap.size + 1 + 1 + 1, 0, none⟩) 1 1, v4] 28)) W0.heap.size (.slice (some ⟨w2.heap.size, 0, none⟩) 4 4) [.slice (some ⟨w.heap.size + 1, 0, none⟩) 1 1, .slice (some ⟨w.heap.size + 1 + 1, 0, none⟩) 1 1, .slice (some ⟨w.heap.size + 1 + 1 + 1, 0, none⟩) 1 1, v4] ([[84], [80], [1]] ++ [f])) := fun w2 v4 f hb h4 => FB.start _ _ _ (by rw [HB0.out]) (by rw [HB0.out]) (by rw [HB0.out]) hb h4
  obtain ⟨d0, d1⟩ := HD.out _ hb0
  have hsz0 := hb0.size
  rw [HW0.out] at d0 d1
  clear hb0
  go_enter Try.func23, Try.ntmps23
  go_wp2_with (go_at_call 38; go_must (refine (one_any (L : Int) _ (by omega) (by omega)).mono ?_); rintro e w2 ⟨v2, rfl, ho2, hb2⟩; go_must (rw [← HW0.out] at ho2 hb2; have HF := keepH (HST.out w2 v2 (enc L) hb2 (own_base ho2 hsz0)); have hB2 := HBB.out.trans (hb2.mono HBB.out.size); obtain ⟨a2, k2, hv2⟩ := own_shape4 ho2; clear ho2 hb2; subst hv2))
  clear d0 d1
  go_loopw [3, 4] (fun v i wr => ∃ (k : Nat) (vs : List Value), k ≤ L ∧ i = .int .i64 k ∧ FB wr W0.heap.size v vs (([[84], [80], [1]] ++ [enc L]) ++ (ms.take k).map enc) ∧ Below W0.heap.size W0 wr) (fun _ i _ => L - (intOf i).toNat)
  case atStart => exact ⟨0, _, by omega, rfl, by simpa using HF.out, hB2.alloc hB2.size _⟩
  case round =>
    clear HF hB2 HST
    obtain ⟨k, vs, hk, rfl, hF, hB⟩ := hrel
    have HF := keepH hF
    have hvl : vs.length ≤ 8 := by
      have := hF.len
      simp at this
      omega
    have hs0 := hB.size
    obtain ⟨d0, d1⟩ := HD.out _ hB
    clear hF
    by_cases hlt : k < L
    · have hkm : k < ms.length := by rw [← HL.out]; exact hlt
      obtain ⟨bk, off, e1, hcell⟩ := (HM.out wr hB).maps.cellAt k hkm
      subst e1
      obtain ⟨n, HNN⟩ : ∃ n, Hid (ms.getD k 0 = n) := ⟨_, rfl⟩
      have hn := HFM.out _ (getD_mem ms k hkm)
      rw [HNN.out] at hcell hn
      obtain ⟨hn0, hn3⟩ := hn
      have HTK : Hid ((ms.take (k + 1)).map enc = (ms.take k).map enc ++ [enc n]) := by rw [← HNN.out]; exact map_take_enc ms k hkm
      clear hkm
      go_wp2_with (first
        | (go_at_call 38; go_must (refine (one_any n _ (by omega) (by omega)).mono ?_); rintro e w3 ⟨v3, rfl, ho3, hb3⟩; go_must (have hB3 := hB.trans (hb3.mono hs0); have HF3 := keepH (HF.out.below hb3); have hr3 := own_base ho3 hs0; obtain ⟨a3, k3, hv3⟩ := own_shape4 ho3; subst hv3; have HR3 := keepH hr3; have hs3 := hB3.size; clear ho3 hb3 hB HF hr3))
        | (at_builtin; have hq := HF3; clear hq; go_must (refine wpList_append_own _ rfl _ _ 50 rfl W0.heap.size 28 i8 nilV 1 24 Try.underlying50 hi8 hz80 hz81 hz82 rfl (by decide) _ _ _ rfl (HF3.out.own.alloc _) ⟨_, 0, none⟩ 1 1 [.slice a3 (enc n).length k3] rfl rfl (one_val _ _ _ _ (by simp)) (by intro u hu; simp at hu; subst hu; rfl) (by unfold maxLen; omega) (by omega) (by simp; omega) ?_); intro v4 w4 ho4 hg4 _; go_must (have hF4 := FB.add (us := [.slice a3 (enc n).length k3]) (gs := [enc n]) (HF3.out.below (below_alloc _ _)) rfl (fun i hi => by { have : i = 0 := by { simp at hi; exact hi }; subst this; exact HR3.out.alloc _ }) ho4 hg4; have hB4 := (hB3.alloc hs3 _).grown hg4 (by simp; omega) (fun k hk => (HF3.out.own.lt k hk).1); clear ho4 hg4 HF3 hB3 HR3)))
      rw [List.append_assoc, ← HTK.out] at hF4
      go_roundw
      case rel => exact ⟨k + 1, _, by omega, by go_num, hF4, hB4⟩
      case measure => simp [intOf]; omega
    · have HTK : Hid ((ms.take k).map enc = ms.map enc) := by rw [List.take_of_length_le (by rw [← HL.out]; omega)]; rfl
      rw [HTK.out] at HF
      go_wp2_with (first
        | (go_at_call 38; go_must (refine (one_any (N : Int) _ (by omega) (by omega)).mono ?_); rintro e w3 ⟨v3, rfl, ho3, hb3⟩; go_must (have hB3 := hB.trans (hb3.mono hs0); have HF3 := keepH (HF.out.below hb3); have hr3 := own_base ho3 hs0; obtain ⟨a3, k3, hv3⟩ := own_shape4 ho3; subst hv3; have HR3 := keepH hr3; have hs3 := hB3.size; clear ho3 hb3 hB HF hr3))
        | (at_builtin; have hq := HF3; clear hq; go_must (refine wpList_append_own _ rfl _ _ 50 rfl W0.heap.size 28 i8 nilV 1 24 Try.underlying50 hi8 hz80 hz81 hz82 rfl (by decide) _ _ _ rfl (HF3.out.own.alloc _) ⟨_, 0, none⟩ 1 1 [.slice a3 (enc N).length k3] rfl rfl (one_val _ _ _ _ (by simp)) (by intro u hu; simp at hu; subst hu; rfl) (by unfold maxLen; omega) (by omega) (by simp; omega) ?_); intro v4 w4 ho4 hg4 _; go_must (have hF4 := FB.add (us := [.slice a3 (enc N).length k3]) (gs := [enc N]) (HF3.out.below (below_alloc _ _)) rfl (fun i hi => by { have : i = 0 := by { simp at hi; exact hi }; subst this; exact HR3.out.alloc _ }) ho4 hg4; have hB4 := (hB3.alloc hs3 _).grown hg4 (by simp; omega) (fun k hk => (HF3.out.own.lt k hk).1); clear ho4 hg4 HF3 hB3 HR3)))
      clear d0 d1
      go_loopw [3, 5] (fun v i wr => ∃ (k : Nat) (vs : List Value), k ≤ N ∧ i = .int .i64 k ∧ FB wr W0.heap.size v vs (((([[84], [80], [1]] ++ [enc L]) ++ ms.map enc) ++ [enc N]) ++ (is.take k).flatMap instFs) ∧ Below W0.heap.size W0 wr) (fun _ i _ => N - (intOf i).toNat)
      case atStart => exact ⟨0, _, by omega, rfl, by simpa using hF4, hB4⟩
      case round =>
        clear hF4 hB4 hlt hk
        obtain ⟨k, vs, hk, rfl, hF, hB⟩ := hrel
        have HF := keepH hF
        have hvl : vs.length ≤ 400 := by
          have h1 := hF.len
          have h2 : ((is.take k).flatMap instFs).length = 5 * (is.take k).length := by
            generalize is.take k = l
            induction l with
            | nil => rfl
            | cons i l ih => rw [List.flatMap_cons, List.length_append, ih, List.length_cons]; simp [instFs]; omega
          rw [List.length_take] at h2
          simp only [List.length_append, h2, List.length_cons, List.length_nil, List.length_map] at h1
          rw [← HL.out] at h1
          omega
        have hs0 := hB.size
        obtain ⟨d0, d1⟩ := HD.out _ hB
        clear hF
        by_cases hlt : k < N
        · obtain ⟨jo, jd, ja, jb, ji, bk, off, hac, hat, hjo, hjd, hja, hjb, hji, HNX⟩ : ∃ jo jd ja jb ji bk off, ac = some ⟨bk, off, none⟩ ∧ At wr bk (off + k * 5) ⟨jo, jd, ja, jb, ji⟩ ∧ (0 ≤ jo ∧ jo ≤ 22) ∧ (0 ≤ jd ∧ jd ≤ 63) ∧ (0 ≤ ja ∧ ja ≤ 63) ∧ (0 ≤ jb ∧ jb ≤ 63) ∧ (-9223372036854775808 ≤ ji ∧ ji ≤ 9223372036854775807) ∧ Hid ((is.take (k + 1)).flatMap instFs = (is.take k).flatMap instFs ++ [enc jo, enc jd, enc ja, enc jb, enc (foldI ji)]) := by
            have hk' : k < is.length := by rw [← HN.out]; exact hlt
            obtain ⟨b, off, e1, hc⟩ := (HM.out wr hB).code.cellAt k hk'
            have hmem : is.getD k In.nil ∈ is := by simp [List.getD, hk']
            obtain ⟨h1, h2, h3, h4⟩ := right_bd (HR.out _ hmem)
            exact ⟨_, _, _, _, _, b, off, e1, hc, h1, h2, h3, h4, bounds_i64 (HWF.out _ hmem).2.2.2.2, fields_take is k hk'⟩
          subst hac
          obtain ⟨x0, x1, x2, x3, x4⟩ := hat
          simp only at x0 x1 x2 x3 x4
          obtain ⟨T, HT, HT2⟩ : ∃ T, Hid (foldI ji = T) ∧ Hid (0 ≤ T ∧ T < 18446744073709551616) := ⟨_, rfl, fold_bd hji.1 hji.2⟩
          rw [HT.out] at HNX
          have Hjo : Hid (0 ≤ jo ∧ jo < 18446744073709551616) := ⟨hjo.1, by omega⟩
          have Hjd : Hid (0 ≤ jd ∧ jd < 18446744073709551616) := ⟨hjd.1, by omega⟩
          have Hja : Hid (0 ≤ ja ∧ ja < 18446744073709551616) := ⟨hja.1, by omega⟩
          have Hjb : Hid (0 ≤ jb ∧ jb < 18446744073709551616) := ⟨hjb.1, by omega⟩
          have HEjo : Hid (IntKind.u64.wrap jo = jo) := IntWalk.u64_in _ ⟨hjo.1, by omega⟩
          have HEjd : Hid (IntKind.u64.wrap jd = jd) := IntWalk.u64_in _ ⟨hjd.1, by omega⟩
          have HEja : Hid (IntKind.u64.wrap ja = ja) := IntWalk.u64_in _ ⟨hja.1, by omega⟩
          have HEjb : Hid (IntKind.u64.wrap jb = jb) := IntWalk.u64_in _ ⟨hjb.1, by omega⟩
          obtain ⟨Y, HY⟩ : ∃ Y, Hid (Y = wr.alloc (.cells #[.int .i64 jo, .int .i64 jd, .int .i64 ja, .int .i64 jb, .int .i64 ji] 45)) := ⟨_, keepH rfl⟩
          have hYb : Below W0.heap.size W0 Y := by rw [HY.out]; exact hB.alloc hB.size _
          have hYs := hYb.size
          have HFY : Hid (FB Y W0.heap.size u3 vs (((([[84], [80], [1]] ++ [enc L]) ++ ms.map enc) ++ [enc N]) ++ (is.take k).flatMap instFs)) := by rw [HY.out]; exact HF.out.below (below_alloc _ _)
          have HYK : Hid (∀ wk, Below Y.heap.size Y wk → (wk.cell? ⟨wr.heap.size, 0, none⟩ = some (.int .i64 jo) ∧ wk.cell? ⟨wr.heap.size, 1, none⟩ = some (.int .i64 jd) ∧ wk.cell? ⟨wr.heap.size, 2, none⟩ = some (.int .i64 ja) ∧ wk.cell? ⟨wr.heap.size, 3, none⟩ = some (.int .i64 jb) ∧ wk.cell? ⟨wr.heap.size, 4, none⟩ = some (.int .i64 ji)) ∧ Below Y.heap.size Y wk) := fun wk hb => by
            have h1 : InC Y wr.heap.size jo jd ja jb ji := by rw [HY.out]; exact InC.new wr jo jd ja jb ji
            have h2 : InC wk wr.heap.size jo jd ja jb ji := by unfold InC; rw [hb.block _ h1.lt]; exact h1
            exact ⟨h2.cells, hb⟩
          have HC6 : Hid (∀ wx w6, Below Y.heap.size Y wx → wx.grownBy w6 u3.ownBlock → w6.cell? ⟨wr.heap.size, 0, none⟩ = some (.int .i64 jo) ∧ w6.cell? ⟨wr.heap.size, 1, none⟩ = some (.int .i64 jd) ∧ w6.cell? ⟨wr.heap.size, 2, none⟩ = some (.int .i64 ja) ∧ w6.cell? ⟨wr.heap.size, 3, none⟩ = some (.int .i64 jb) ∧ w6.cell? ⟨wr.heap.size, 4, none⟩ = some (.int .i64 ji)) := fun wx w6 hb hg => by
            obtain ⟨⟨t0, t1, t2, t3, t4⟩, _⟩ := HYK.out wx hb
            have hne : ¬ u3.ownBlock = some wr.heap.size := fun e => Nat.lt_irrefl _ (HF.out.own.lt _ e).2
            have hlt6 : wr.heap.size < wx.heap.size := by
              have h1 := hb.size
              have h2 : Y.heap.size = wr.heap.size + 1 := by rw [HY.out]; exact World.size_alloc _ _
              omega
            exact ⟨(grown_cell hg hlt6 0 hne).trans t0, (grown_cell hg hlt6 1 hne).trans t1, (grown_cell hg hlt6 2 hne).trans t2, (grown_cell hg hlt6 3 hne).trans t3, (grown_cell hg hlt6 4 hne).trans t4⟩
          have hY0 : Below Y.heap.size Y Y := Below.refl _ _
          have HV1 : Hid (vs.length + 5 ≤ maxLen) := by show _ ≤ _; unfold maxLen; omega
          have HV2 : Hid ((vs.length + 5) * 24 ≤ 140737488355328) := by show _ ≤ _; omega
          have A0 : Hid True := trivial
          clear hB HF
          go_wp2_with fail
          rw [← HY.out]
          go_region_held_law (fun w' => w'.cell? ⟨wr.heap.size, 0, none⟩ = some (.int .i64 jo) ∧ w'.cell? ⟨wr.heap.size, 1, none⟩ = some (.int .i64 jd) ∧ w'.cell? ⟨wr.heap.size, 2, none⟩ = some (.int .i64 ja) ∧ w'.cell? ⟨wr.heap.size, 3, none⟩ = some (.int .i64 jb) ∧ w'.cell? ⟨wr.heap.size, 4, none⟩ = some (.int .i64 ji))
            (first | assumption | ((refine (HYK.out _ ?_).1; repeat (first | assumption | refine below_dr4 ?_ | refine below_al4 ?_ _))))
            (first
              | (go_at_call 38; have hq := A0; clear hq; rw [HEjo.out]; refine (one_any jo _ Hjo.out.1 Hjo.out.2).mono ?_; rintro e w1 ⟨v1, rfl, ho, hb⟩; have hB1 := (below_dr4 hY0).trans (hb.mono (below_dr4 hY0).size); have R1 := keepH (own_base ho (Nat.le_trans hYs (below_dr4 hY0).size)); obtain ⟨a1, k1, hv1⟩ := own_shape4 ho; subst hv1; clear ho hb A0; have A1 := keepH trivial)
              | (go_at_call 38; have hq := A1; clear hq; rw [HEjd.out]; refine (one_any jd _ Hjd.out.1 Hjd.out.2).mono ?_; rintro e w2 ⟨v2, rfl, ho, hb⟩; have hB2 := hB1.trans (hb.mono hB1.size); have R2 := keepH (own_base ho (Nat.le_trans hYs hB1.size)); have R1' := keepH (own_below R1.out hb (Nat.le_refl _)); clear R1; have R1 := R1'; clear R1'; obtain ⟨a2, k2, hv2⟩ := own_shape4 ho; subst hv2; clear ho hb A1; have A2 := keepH trivial)
              | (go_at_call 38; have hq := A2; clear hq; rw [HEja.out]; refine (one_any ja _ Hja.out.1 Hja.out.2).mono ?_; rintro e w3 ⟨v3, rfl, ho, hb⟩; have hB3 := hB2.trans (hb.mono hB2.size); have R3 := keepH (own_base ho (Nat.le_trans hYs hB2.size)); have R1' := keepH (own_below R1.out hb (Nat.le_refl _)); clear R1; have R1 := R1'; clear R1'; have R2' := keepH (own_below R2.out hb (Nat.le_refl _)); clear R2; have R2 := R2'; clear R2'; obtain ⟨a3, k3, hv3⟩ := own_shape4 ho; subst hv3; clear ho hb A2; have A3 := keepH trivial)
              | (go_at_call 38; have hq := A3; clear hq; rw [HEjb.out]; refine (one_any jb _ Hjb.out.1 Hjb.out.2).mono ?_; rintro e w4 ⟨v4, rfl, ho, hb⟩; have hB4 := hB3.trans (hb.mono hB3.size); have R4 := keepH (own_base ho (Nat.le_trans hYs hB3.size)); have R1' := keepH (own_below R1.out hb (Nat.le_refl _)); clear R1; have R1 := R1'; clear R1'; have R2' := keepH (own_below R2.out hb (Nat.le_refl _)); clear R2; have R2 := R2'; clear R2'; have R3' := keepH (own_below R3.out hb (Nat.le_refl _)); clear R3; have R3 := R3'; clear R3'; obtain ⟨a4, k4, hv4⟩ := own_shape4 ho; subst hv4; clear ho hb A3; have A4 := keepH trivial)
              | (go_at_call 38; have hq := A4; clear hq; refine (one_any T _ HT2.out.1 HT2.out.2).mono ?_; rintro e w5 ⟨v5, rfl, ho, hb⟩; have hB5 := hB4.trans (hb.mono hB4.size); have R5 := keepH (own_base ho (Nat.le_trans hYs hB4.size)); have R1' := keepH (own_below R1.out hb (Nat.le_refl _)); clear R1; have R1 := R1'; clear R1'; have R2' := keepH (own_below R2.out hb (Nat.le_refl _)); clear R2; have R2 := R2'; clear R2'; have R3' := keepH (own_below R3.out hb (Nat.le_refl _)); clear R3; have R3 := R3'; clear R3'; have R4' := keepH (own_below R4.out hb (Nat.le_refl _)); clear R4; have R4 := R4'; clear R4'; obtain ⟨a5, k5, hv5⟩ := own_shape4 ho; subst hv5; clear ho hb A4; have A5 := keepH trivial)
              | (go_at_call 39; refine (turned_any ji _ hji.1 hji.2).mono ?_; rintro e wt ⟨rfl, rfl⟩; rw [HT.out])
              | ((refine step_append_lies _ (by rfl) (.tmp 53) (.tmp 74) 50 (by rfl) W0.heap.size 28 i8 nilV 1 24 Try.underlying50 hi8 hz80 hz81 hz82 rfl (by decide) u3 vs.length vs (by rfl) ((HFY.out.below hB5).own.alloc _) ⟨_, 0, none⟩ 5 5 [.slice a1 (enc jo).length k1, .slice a2 (enc jd).length k2, .slice a3 (enc ja).length k3, .slice a4 (enc jb).length k4, .slice a5 (enc T).length k5] (by rfl) rfl (five_vals w5 _ _ _ _ _ _ _ rfl) (by intro u hu; simp at hu; rcases hu with rfl | rfl | rfl | rfl | rfl <;> rfl) (by decide) HV1.out HV2.out (Nat.le_trans hYs (below_al4 hB5 _).size) (w5.heap.size + 1) (by simp) ?_; intro g cap w6 ho6 hg6 hat6 hlt6; have hF6 := FB.add (us := [.slice a1 (enc jo).length k1, .slice a2 (enc jd).length k2, .slice a3 (enc ja).length k3, .slice a4 (enc jb).length k4, .slice a5 (enc T).length k5]) (gs := [enc jo, enc jd, enc ja, enc jb, enc T]) ((HFY.out.below hB5).below (below_alloc _ _)) rfl (five_rows (R1.out.alloc _) (R2.out.alloc _) (R3.out.alloc _) (R4.out.alloc _) (R5.out.alloc _)) ho6 hg6; have hB6 : Below W0.heap.size W0 w6 := (hYb.trans ((below_al4 hB5 _).mono hYs)).grown hg6 (hYb.trans ((below_al4 hB5 _).mono hYs)).size (fun k hk => (HFY.out.own.lt k hk).1); have hc6 := HC6.out _ _ (below_al4 hB5 _) hg6)))
          rw [List.append_assoc, ← HNX.out] at hF6
          go_wp2_with fail
          go_roundw
          case rel => exact ⟨k + 1, _, by omega, by go_num, hF6, hB6⟩
          case measure => simp [intOf]; omega
        · have HTK : Hid ((is.take k).flatMap instFs = is.flatMap instFs) := by rw [List.take_of_length_le (by rw [← HN.out]; omega)]; rfl
          rw [HTK.out] at HF
          have HF2 : Hid (FB wr W0.heap.size u3 vs (fieldsL ms is)) := by
            have h1 := HF.out
            rw [HL.out, HN.out] at h1
            exact h1
          obtain ⟨a3, k3, hv3⟩ := own_shape4 HF2.out.own
          subst hv3
          go_wp2_with fail
          go_ret
          exact ⟨_, vs, rfl, ⟨own_base HF2.out.own (by rw [HB0.out]; omega), HF2.out.len, fun i hi => own_base (HF2.out.rows i hi) (by rw [HB0.out]; omega)⟩, HEND.out _ hB⟩
end Go.Proofs.Ytbpjcppgnndaaaa
