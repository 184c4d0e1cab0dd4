/-
  WireDecodes, walked: true. Conditions: the bytes read as bytes, and are no more than an argument may be.
-/
import Derived.Test.YtbpjcppgnndaaaaW4Awake
import Derived.Test.YtbpjcppgnndaaaaW4RSame
import Derived.Test.YtbpjcppgnndaaaaW4There
import Derived.Test.YtbpjcppgnndaaaaW4RDecode
namespace Go.Proofs.Ytbpjcppgnndaaaa
open Go.RowKit
set_option linter.unusedVariables false
set_option maxRecDepth 100000

theorem dec_wf {ys : List Int} (hy : Bytes ys) : ∃ ms is q e, decL ys = ((ms, is), q, e) ∧ (∀ n ∈ ms, 0 ≤ n ∧ n ≤ 3) ∧ (∀ i ∈ is, i.wf) := by
  rcases dec_two hy with ⟨q, e, h, _⟩ | ⟨ms, is, h, hf, hw, _⟩
  · exact ⟨[], [], q, e, h, by simp, by simp⟩
  · exact ⟨ms, is, 0, 0, h, fitF_bd ms [] (formed_parts hf).2.2.2.1, hw⟩

set_option maxHeartbeats 3200000 in
theorem wdecodes_law (vb : Value) (bs : List Int) (w : World) (h : Sees .u8 w vb bs) (zb : bs.length ≤ 140737488351232) :
    Calls Try.prog 4 #[vb] w fun e w' => e = .returned (.bool true) ∧ Below w.heap.size w w' := by
  obtain ⟨i5, hi5, hz50, hz51, hz52⟩ := info_parts Try.info5
  have HBY := keepH h.bytes
  have HSB : Hid (∀ wk, Below w.heap.size w wk → Sees .u8 wk vb bs) := fun wk hk => h.below hk (Nat.le_refl _)
  obtain ⟨ab, kb, hvb⟩ := h.shape
  subst hvb
  obtain ⟨ms, is, q, e, hdl, hmb, hiw⟩ := dec_wf (ys := bs) h.bytes
  have HDL := keepH hdl
  have HMB := keepH hmb
  have HIW := keepH hiw
  have HZ : Hid (bs.length ≤ 140737488351232) := zb
  clear h hdl hmb hiw zb
  go_enter Try.func4, Try.ntmps4
  go_wp2_with (first
    | (go_at_call 9; go_must (refine (awake_any _).mono ?_); rintro e w1 ⟨rfl, hb1⟩; go_must (have hs1 := hb1.size; have HOE := keepH (own_lit w1 w.heap.size 5 [] w1.heap.size rfl hs1 (by simp [maxLen]))))
    | (at_builtin; have hq := HOE; clear hq; go_must (refine wpList_append_sees rfl (.tmp 12) (.tmp 13) 28 rfl w.heap.size 5 i5 (.int .u8 0) 1 Try.underlying28 hi5 hz50 hz51 hz52 rfl .u8 _ [] rfl HOE.out _ bs rfl ((HSB.out _ hb1).alloc _) (by have := HZ.out; unfold maxLen; simp; omega) (by have := HZ.out; simp; omega) (by simp; omega) ?_); intro v2 w2 ho2 hg2; go_must (have hB2 := (hb1.alloc hs1 _).grown hg2 (by simp; omega) (fun k hk => (HOE.out.lt k hk).1); have HS2 : Hid (Sees .u8 w2 v2 bs) := Sees.own ho2 (wf_bytes HBY.out); clear ho2 hg2 hb1 HOE hs1))
    | (go_at_call 14; go_must (refine (decode_any _ bs _ HS2.out).mono ?_); rintro e w3 ⟨xm, xc, rfl, hom, hoc, _, hb3⟩; rw [HDL.out] at hom hoc ⊢; go_must (have HX3 : Hid (SeesM w3 xm xc ms is) := ⟨Sees.own hom (wf_small HMB.out), own_seesI hoc, HIW.out⟩; obtain ⟨a3, k3, hxm⟩ := HX3.out.maps.shape; obtain ⟨a4, k4, hxc⟩ := HX3.out.code.shape; clear hom hoc; subst hxm hxc; have hB3 := hB2.trans (hb3.mono hB2.size); clear hb3 hB2 HS2))
    | (go_at_call 15; go_must (refine (rdecode_any _ bs _ (HSB.out _ (hB3.alloc hB3.size _))).mono ?_); rintro e w4 ⟨ym, yc, rfl, hom, hoc, hb4⟩; rw [HDL.out] at hom hoc ⊢; go_must (have HX4 : Hid (SeesM w4 ym yc ms is) := ⟨Sees.own hom (wf_small HMB.out), own_seesI hoc, HIW.out⟩; obtain ⟨a5, k5, hym⟩ := HX4.out.maps.shape; obtain ⟨a6, k6, hyc⟩ := HX4.out.code.shape; clear hom hoc; subst hym hyc; have hB4 := (hB3.alloc hB3.size _).trans (hb4.mono (hB3.alloc hB3.size _).size); have HX5 := keepH ((HX3.out.below (below_alloc _ _)).below hb4); have hm3 := (MdC.new w3 (.slice a3 ms.length k3) (.slice a4 is.length k4)).below hb4 (by simp); have hz4 : w3.heap.size < w4.heap.size := hm3.lt; obtain ⟨c30, c31⟩ := hm3.cells; clear hb4 hm3 HX3 hB3))
    | (go_at_call 13; go_must (refine (rsame_any _ _ _ _ ms is ms is _ (HX5.out.below (below_alloc _ _)) (HX4.out.below (below_alloc _ _))).mono ?_); rintro e w5 ⟨rfl, hb5⟩; rw [sameM_true]; go_must (have hB5 := (hB4.alloc hB4.size _).trans (hb5.mono (hB4.alloc hB4.size _).size); clear hb5 hB4)))
  go_ret
  exact ⟨rfl, hB5⟩
theorem wdecodes_all (vb : Value) (bs : List Int) (w : World) (h : Sees .u8 w vb bs) (zb : bs.length * Try.prog.bytesOf 5 ≤ reachBytes) :
    Calls Try.prog 4 #[vb] w fun e w' => e = .returned (.bool true) ∧ Below w.heap.size w w' := by
  have b1 : Try.prog.bytesOf 5 = 1 := by kernel_rfl
  rw [b1] at zb
  exact wdecodes_law vb bs w h (by unfold reachBytes at zb; omega)
end Go.Proofs.Ytbpjcppgnndaaaa
