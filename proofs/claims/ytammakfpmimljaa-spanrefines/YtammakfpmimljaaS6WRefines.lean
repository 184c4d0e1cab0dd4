/-
  SpanRefines, walked: it answers true. Premises: awake answers true, the landed Refine and the document's are the plain one. Condition: numbers of 64 bits.
-/
import Derived.Test.YtammakfpmimljaaS6WDoes
namespace Go.Proofs.Ytammakfpmimljaa
open Go.RowKit
set_option linter.unusedVariables false
set_option maxRecDepth 20000

def RRefine : Prop := ∀ (op a A b B : Int) (h : Bool) (w : World), W64 a → W64 A → W64 b → W64 B → Calls Try.prog 25 #[.int .i64 op, .agg #[.int .u64 a, .int .u64 A], .agg #[.int .u64 b, .int .u64 B], .bool h] w fun e w' => e = .returned (optV (refineR op a A b B h)) ∧ Below w.heap.size w w'

set_option maxHeartbeats 1600000 in
theorem refines_road (kw : KAwake) (kd : KRefine) (rd : RRefine) (op a A b B : Int) (w : World) (hop : -9223372036854775808 ≤ op ∧ op ≤ 9223372036854775807) (ha : W64 a) (hA : W64 A) (hb : W64 b) (hB : W64 B) :
    Calls Try.prog 6 #[.int .i64 op, .agg #[.int .u64 a, .int .u64 A], .agg #[.int .u64 b, .int .u64 B]] w fun e w' => e = .returned (.bool true) ∧ Below w.heap.size w w' := by
  have HW : Hid KAwake := kw
  have HK : Hid (∀ (op : Int) (h : Bool) (w : World), Calls Try.prog 24 #[.int .i64 op, .agg #[.int .u64 a, .int .u64 A], .agg #[.int .u64 b, .int .u64 B], .bool h] w fun e w' => e = .returned (optV (refineR op a A b B h)) ∧ Below w.heap.size w w') := fun op h w => kd op a A b B h w ha hA hb hB
  have HR : Hid (∀ (op : Int) (h : Bool) (w : World), Calls Try.prog 25 #[.int .i64 op, .agg #[.int .u64 a, .int .u64 A], .agg #[.int .u64 b, .int .u64 B], .bool h] w fun e w' => e = .returned (optV (refineR op a A b B h)) ∧ Below w.heap.size w w') := fun op h w => rd op a A b B h w ha hA hb hB
  clear kw kd rd ha hA hb hB
  go_enter Try.func6, Try.ntmps6
  go_wp2_with (go_at_call 9; go_must (refine (HW.out _).mono ?_); rintro e w1 ⟨rfl, hb1⟩; go_must (have hB0 : Hid (Bx w1 w.heap.size a A) := ((bx_new w a A).al (by simp)).below hb1 (by simp; omega); have hB1 : Hid (Bx w1 (w.heap.size + 1) b B) := (bx_two w _ b B).below hb1 (by simp); have hz : w.heap.size + 1 < w1.heap.size := Nat.lt_of_lt_of_le (by simp) hb1.size; have hbe : Below w.heap.size w w1 := boxS_below (boxS_below hb1); clear hb1))
  go_loopw [7] (fun i wr => ∃ k : Nat, 15 ≤ k ∧ k ≤ 21 ∧ i = .int .i64 k ∧ Bx wr w.heap.size a A ∧ Bx wr (w.heap.size + 1) b B ∧ w.heap.size + 1 < wr.heap.size ∧ Below w.heap.size w wr) (fun i _ => 21 - (intOf i).toNat)
  case atStart => exact ⟨15, by omega, by omega, rfl, hB0.out, hB1.out, hz, hbe⟩
  case round =>
    clear hB0 hB1 hz hbe
    obtain ⟨k, hk0, hk, rfl, hB0, hB1, hz, hbe⟩ := hrel
    by_cases hlt : k < 21
    · have G0 : Hid (Bx wr w.heap.size a A) := hB0
      have G1 : Hid (Bx wr (w.heap.size + 1) b B) := hB1
      clear hB0 hB1
      go_wp2
      go_loopw [8] (fun i wq => ∃ j : Nat, j ≤ 2 ∧ i = .int .i64 j ∧ Bx wq w.heap.size a A ∧ Bx wq (w.heap.size + 1) b B ∧ w.heap.size + 1 < wq.heap.size ∧ Below w.heap.size w wq) (fun i _ => 2 - (intOf i).toNat)
      case atStart => exact ⟨0, by omega, rfl, G0.out, G1.out, hz, hbe⟩
      case round =>
        clear G0 G1 hz hbe
        obtain ⟨j, hj, rfl, hB0, hB1, hz, hbe⟩ := hrel
        obtain ⟨⟨c0, c1⟩, _, _⟩ := id hB0
        obtain ⟨⟨d0, d1⟩, _, _⟩ := id hB1
        have H0 : Hid (Bx wr w.heap.size a A) := hB0
        have H1 : Hid (Bx wr (w.heap.size + 1) b B) := hB1
        have hz0 : w.heap.size < wr.heap.size := by omega
        clear hB0 hB1
        by_cases hj2 : j < 2
        · obtain ⟨g, hg⟩ : ∃ g, ((j : Int) == 1) = g := ⟨_, rfl⟩
          obtain ⟨x, y, c, hS⟩ := optV_shape (refineR k a A b B g)
          have HS : Hid (optV (refineR (k : Int) a A b B g) = .tuple #[.agg #[.int .u64 x, .int .u64 y], .bool c]) := hS
          clear hS
          cases g
          all_goals go_wp2_with (first
                  | (go_at_call 24; go_must (refine (HK.out _ _ _).mono ?_); rintro e w2 ⟨rfl, hb2⟩; go_must (rw [HS.out]; obtain ⟨⟨c0', c1'⟩, _, _⟩ := H0.out.below hb2 hz0; obtain ⟨⟨d0', d1'⟩, _, _⟩ := H1.out.below hb2 hz; have P0 : Hid (Bx w2 w.heap.size a A) := H0.out.below hb2 hz0; have P1 : Hid (Bx w2 (w.heap.size + 1) b B) := H1.out.below hb2 hz; have k0 := Nat.lt_of_lt_of_le hz0 hb2.size; have k1 := Nat.lt_of_lt_of_le hz hb2.size; have hB2 : Below w.heap.size w w2 := hbe.trans (hb2.mono (by omega)); clear hb2 hbe c0 c1 d0 d1 H0 H1 hz hz0))
                  | (go_at_call 25; go_must (refine (HR.out _ _ _).mono ?_); rintro e w3 ⟨rfl, hb3⟩; go_must (rw [HS.out]; obtain ⟨⟨s0, s1⟩, _, _⟩ := (bx_new w2 x y).below hb3 (by simp); have Q0 : Hid (Bx w3 w.heap.size a A) := (P0.out.al k0).below hb3 (by simp; omega); have Q1 : Hid (Bx w3 (w.heap.size + 1) b B) := (P1.out.al k1).below hb3 (by simp; omega); have k2 : w2.heap.size < w3.heap.size := Nat.lt_of_lt_of_le (by simp) hb3.size; have k3 : w.heap.size + 1 < w3.heap.size := (by omega); have hB3 : Below w.heap.size w w3 := (hB2.alloc hB2.size _).trans (hb3.mono (by have := hB2.size; simp; omega)); clear hb3 hB2 P0 P1 c0' c1' d0' d1')))
          all_goals go_roundw
          all_goals first
            | exact ⟨j + 1, by omega, by first | go_num | exact congrArg _ (by omega), Q0.out.al (by omega), Q1.out.al k3, by simp; omega, hB3.alloc hB3.size _⟩
            | (simp; exact ⟨_, _, ⟨j + 1, by omega, rfl, Q0.out.al (by omega), Q1.out.al k3, by omega, hB3.alloc hB3.size _⟩, rfl, by go_num, by omega⟩)
            | (simp [intOf]; omega)
        · obtain rfl : j = 2 := by omega
          go_wp2
          go_roundw
          case rel => exact ⟨k + 1, by omega, by omega, by go_num, H0.out, H1.out, hz, hbe⟩
          case measure => simp [intOf]; omega
    · obtain ⟨⟨c0, c1⟩, _, _⟩ := id hB0
      obtain ⟨⟨d0, d1⟩, _, _⟩ := id hB1
      have H0 : Hid (Bx wr w.heap.size a A) := hB0
      have H1 : Hid (Bx wr (w.heap.size + 1) b B) := hB1
      have hz0 : w.heap.size < wr.heap.size := by omega
      clear hB0 hB1
      obtain ⟨x, y, c, hS⟩ := optV_shape (refineR op a A b B true)
      have HS : Hid (optV (refineR op a A b B true) = .tuple #[.agg #[.int .u64 x, .int .u64 y], .bool c]) := hS
      clear hS
      go_wp2_with (first
        | (go_at_call 24; go_must (refine (HK.out _ _ _).mono ?_); rintro e w2 ⟨rfl, hb2⟩; go_must (rw [HS.out]; obtain ⟨⟨c0', c1'⟩, _, _⟩ := H0.out.below hb2 hz0; obtain ⟨⟨d0', d1'⟩, _, _⟩ := H1.out.below hb2 hz; have P0 : Hid (Bx w2 w.heap.size a A) := H0.out.below hb2 hz0; have P1 : Hid (Bx w2 (w.heap.size + 1) b B) := H1.out.below hb2 hz; have k0 := Nat.lt_of_lt_of_le hz0 hb2.size; have k1 := Nat.lt_of_lt_of_le hz hb2.size; have hB2 : Below w.heap.size w w2 := hbe.trans (hb2.mono (by omega)); clear hb2 hbe c0 c1 d0 d1 H0 H1 hz hz0))
        | (go_at_call 25; go_must (refine (HR.out _ _ _).mono ?_); rintro e w3 ⟨rfl, hb3⟩; go_must (rw [HS.out]; obtain ⟨⟨s0, s1⟩, _, _⟩ := (bx_new w2 x y).below hb3 (by simp); have Q0 : Hid (Bx w3 w.heap.size a A) := (P0.out.al k0).below hb3 (by simp; omega); have Q1 : Hid (Bx w3 (w.heap.size + 1) b B) := (P1.out.al k1).below hb3 (by simp; omega); have k2 : w2.heap.size < w3.heap.size := Nat.lt_of_lt_of_le (by simp) hb3.size; have k3 : w.heap.size + 1 < w3.heap.size := (by omega); have hB3 : Below w.heap.size w w3 := (hB2.alloc hB2.size _).trans (hb3.mono (by have := hB2.size; simp; omega)); clear hb3 hB2 P0 P1 c0' c1' d0' d1')))
      go_ret
      exact ⟨retb (by simp), hB3.alloc hB3.size _⟩
end Go.Proofs.Ytammakfpmimljaa
