
/-
  Layer 26: the laws' own example. Condition: the listed variables read as they are laid.
-/
import Derived.Test.YtbfbfbbpajaclaaDoorMB32
import Derived.Test.YtbfbfbbpajaclaaDoorMB40
namespace Go.Proofs.YtbfbfbbpajaclaaDoor
open Go.RowKit
set_option linter.unusedVariables false
set_option linter.unusedSimpArgs false
set_option maxRecDepth 100000
set_option maxHeartbeats 6400000 in
theorem awake26 (w : World) (h : Laid w) : Calls Tryd.prog 8 #[] w fun r w' => r = .returned (.bool true) ∧ Below w.heap.size w w' := by
  obtain ⟨X, HX, HS, HB⟩ : ∃ X, Hid (w.alloc (.cells #[.int .i64 1, .int .i64 0, .int .i64 0, .int .i64 2, .int .i64 0, .int .i64 0, .int .i64 0, .int .i64 0, .int .i64 0, .int .i64 0, .int .i64 0, .int .i64 0, .int .u64 0, .int .u64 0, .int .i64 0, .bool false, .int .u64 0, .bool false, .int .u64 0, .int .u64 0, .int .u64 0, .int .i64 0, .int .i64 2, .int .i64 1, .int .i64 0, .int .i64 0, .int .i64 0, .int .i64 0, .int .i64 0, .int .i64 0, .int .i64 0, .int .i64 0, .int .i64 0, .int .i64 0, .int .u64 0, .int .u64 0, .int .i64 0, .bool false, .int .u64 0, .bool false, .int .u64 0, .int .u64 0, .int .u64 0, .int .i64 40] 36) = X) ∧ Hid (SeesG enC 22 En.nil X (.slice (some ⟨w.heap.size, 0, none⟩) 2 2) [ex1, ex2]) ∧ Hid (Below w.heap.size w X) := ⟨_, rfl, SeesG.lit enC_len En.nil w 36 [ex1, ex2] _ 2 rfl rfl (by simp), below_allocG _ _⟩
  have HLX : Hid (Laid X) := laid_keeps _ _ h HB.out
  have HP := keepG (lprint26 _ [ex1, ex2] X HLX.out HS.out (fun e he => by
    simp only [List.mem_cons, List.not_mem_nil, or_false] at he
    rcases he with rfl | rfl
    · exact ex1_wf
    · exact ex2_wf) (by simp))
  rw [ex12_print] at HP
  have HL := keepG (fun wx (hx : Laid wx) => lparse26 [98, 97, 99, 107, 32, 116, 50, 32, 101, 55, 32, 112, 49, 32, 118, 51, 32, 97, 52, 32, 121, 48, 32, 98, 48, 32, 114, 48, 32, 79, 56, 32, 86, 50, 10] wx hx (by simp))
  rw [ex3_parse] at HL
  have HLW : Hid (Laid w) := h
  clear h
  go_enter Tryd.func8, Tryd.ntmps8
  go_wp2_with (first
    | (rw [HX.out])
    | (go_at_call 12; go_must (refine HP.out.mono ?_); rintro x1 w1 ⟨rfl, hb1⟩; go_must (have HB1 := keepG (HB.out.trans (hb1.mono HB.out.size)); clear hb1))
    | (go_at_call 16; go_must (refine (HL.out _ (laid_keeps _ _ HLW.out HB1.out)).mono ?_); rintro x2 w2 ⟨v2, rfl, ho2, hb2⟩; go_must (obtain ⟨g, c, rfl, hgb, hgl, hgc, hgm, hat⟩ := own_atG enC_len En.nil ho2 (by simp); have HRG : Hid (w2.rangeAt g 0 (enC ex3)) := (fun j v hv => (by have hj : j < 22 := (List.getElem?_eq_some_iff.1 hv).1; have h := (hat 0 (by simp) j hj).1; rw [Nat.zero_mul, Nat.zero_add] at h; rw [Nat.zero_add, h]; exact hv)); have HB2 := keepG (HB1.out.trans (hb2.mono HB1.out.size)); clear ho2 hb2 hat))
    | ((with_reducible refine wpList_load_on ?_ 36 (.tmp 39) ?_ g 0 ?_ (enC ex3) _ HRG.out Tryd.underlying36 ?_ (sizeEn _) ?_); rfl; rfl; rfl; rfl))
  go_ret
  exact ⟨rfl, HB2.out⟩
end Go.Proofs.YtbfbfbbpajaclaaDoor
