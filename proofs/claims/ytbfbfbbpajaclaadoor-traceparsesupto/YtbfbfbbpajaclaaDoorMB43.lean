
/-
  Layer 26: TraceParses walked. Conditions: the listed variables read as they are laid; the text is of four million bytes at most.
-/
import Derived.Test.YtbfbfbbpajaclaaDoorMB41
import Derived.Test.YtbfbfbbpajaclaaDoorMB32
namespace Go.Proofs.YtbfbfbbpajaclaaDoor
open Go.RowKit
set_option linter.unusedVariables false
set_option linter.unusedSimpArgs false
set_option maxRecDepth 100000
set_option maxHeartbeats 3200000 in
theorem parses26 (l : List UInt8) (w : World) (h : Laid w) (hl : l.length ≤ 4194304) : Calls Tryd.prog 4 #[.string (str l)] w fun r w' => r = .returned (.bool true) ∧ Below w.heap.size w w' := by
  obtain ⟨⟨xs, n, E⟩, HQ⟩ : ∃ q, Hid (parE l = q) := ⟨_, rfl⟩
  have HL := keepG (fun wx (hx : Laid wx) => lparse26 l wx hx hl)
  have HR := keepG (fun wx => parse26 l wx hl)
  rw [HQ.out] at HL HR
  have HLW : Hid (Laid w) := h
  clear h
  have hnn : (n == n) = true := by simp
  have hee : (E == E) = true := by simp
  go_enter Tryd.func4, Tryd.ntmps4
  go_wp2_with (first
    | (go_at_call 8; go_must (refine (awake26 _ HLW.out).mono ?_); rintro x1 w1 ⟨rfl, hb1⟩; go_must (have HB1 := keepG hb1; clear hb1))
    | (go_at_call 16; go_must (refine (HL.out _ (laid_keeps _ _ HLW.out HB1.out)).mono ?_); rintro x2 w2 ⟨v2, rfl, ho2, hb2⟩; go_must (have HO2 := keepG (own_seesG enC_len En.nil ho2); have HB2 := keepG (HB1.out.trans (hb2.mono HB1.out.size)); clear ho2 hb2))
    | (go_at_call 17; go_must (refine (HR.out _).mono ?_); rintro x3 w3 ⟨v3, rfl, ho3, hb3⟩; go_must (have HO3 := keepG (own_seesG enC_len En.nil ho3); have HO23 := keepG (HO2.out.below hb3 (Nat.le_refl _)); have HB3 := keepG (HB2.out.trans (hb3.mono HB2.out.size)); clear ho3 hb3))
    | (go_at_call 15; go_must (refine (logs26 _ _ xs _ HO23.out HO3.out).mono ?_); rintro x4 w4 ⟨rfl, hb4⟩; go_must (have HB4 := keepG (HB3.out.trans (hb4.mono HB3.out.size)); clear hb4)))
  go_ret
  exact ⟨rfl, HB4.out⟩
theorem parses_law26 (s : ByteArray) (w : World) (hz : s.size ≤ 1048576) (h : Laid w) : Calls Tryd.prog 4 #[.string s] w fun r w' => r = .returned (.bool true) ∧ Below w.heap.size w w' := by
  have e : s = str s.data.toList := rfl
  have hl : s.data.toList.length ≤ 4194304 := by
    have : s.data.toList.length = s.size := by rw [Array.length_toList]; rfl
    omega
  rw [e]
  exact parses26 s.data.toList w h hl
end Go.Proofs.YtbfbfbbpajaclaaDoor
