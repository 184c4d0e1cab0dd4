/-
  SpanDoes, walked: it answers true. Premises: awake answers true, the landed Do and the document's are the plain one. Condition: numbers of 64 bits.
-/
import Derived.Test.YtammakfpmimljaaS6Awake
import Derived.Test.YtammakfpmimljaaS6RDo
namespace Go.Proofs.Ytammakfpmimljaa
open Go.RowKit
set_option linter.unusedVariables false
set_option maxRecDepth 20000

def KAwake : Prop := ∀ w : World, Calls Try.prog 9 #[] w fun e w' => e = .returned (.bool true) ∧ Below w.heap.size w w'
def RDo : Prop := ∀ (op a A b B : Int) (w : World), W64 a → W64 A → W64 b → W64 B → Calls Try.prog 23 #[.int .i64 op, .agg #[.int .u64 a, .int .u64 A], .agg #[.int .u64 b, .int .u64 B]] w fun e w' => e = .returned (optV (doR op a A b B)) ∧ Below w.heap.size w w'
/-- Every such answer has a span and a word. -/
theorem optV_shape (o : Option (Int × Int)) : ∃ x y c, optV o = .tuple #[.agg #[.int .u64 x, .int .u64 y], .bool c] := by
  cases o with
  | none => exact ⟨0, 0, false, rfl⟩
  | some p => exact ⟨p.1, p.2, true, rfl⟩

theorem bx_two (w : World) (o : Obj) (x y : Int) : Bx ((w.alloc o).alloc (spO x y)) (w.heap.size + 1) x y := by
  have h := bx_new (w.alloc o) x y
  rw [World.size_alloc] at h
  exact h
set_option maxHeartbeats 800000 in
theorem does_road (kw : KAwake) (kd : KDo) (rd : RDo) (op a A b B : Int) (w : World) (hop : -9223372036854775808 ≤ op ∧ op ≤ 9223372036854775807) (ha : W64 a) (hA : W64 A) (hb : W64 b) (hB : W64 B) :
    Calls Try.prog 5 #[.int .i64 op, .agg #[.int .u64 a, .int .u64 A], .agg #[.int .u64 b, .int .u64 B]] w fun e w' => e = .returned (.bool true) ∧ Below w.heap.size w w' := by
  have HW : Hid KAwake := kw
  have HK : Hid (∀ (op : Int) (w : World), Calls Try.prog 22 #[.int .i64 op, .agg #[.int .u64 a, .int .u64 A], .agg #[.int .u64 b, .int .u64 B]] w fun e w' => e = .returned (optV (doR op a A b B)) ∧ Below w.heap.size w w') := fun op w => kd op a A b B w ha hA hb hB
  have HR : Hid (∀ (op : Int) (w : World), Calls Try.prog 23 #[.int .i64 op, .agg #[.int .u64 a, .int .u64 A], .agg #[.int .u64 b, .int .u64 B]] w fun e w' => e = .returned (optV (doR op a A b B)) ∧ Below w.heap.size w w') := fun op w => rd op a A b B w ha hA hb hB
  clear kw kd rd ha hA hb hB
  go_enter Try.func5, Try.ntmps5
  go_wp2_with (go_at_call 9; go_must (refine (HW.out _).mono ?_); rintro e w1 ⟨rfl, hb1⟩; go_must (have hB0 : Hid (Bx w1 w.heap.size a A) := ((bx_new w a A).al (by simp)).below hb1 (by simp; omega); have hB1 : Hid (Bx w1 (w.heap.size + 1) b B) := (bx_two w _ b B).below hb1 (by simp); have hz : w.heap.size + 1 < w1.heap.size := Nat.lt_of_lt_of_le (by simp) hb1.size; have hbe : Below w.heap.size w w1 := boxS_below (boxS_below hb1); clear hb1))
  go_loopw [7] (fun i wr => ∃ k : Nat, k ≤ 12 ∧ i = .int .i64 k ∧ Bx wr w.heap.size a A ∧ Bx wr (w.heap.size + 1) b B ∧ w.heap.size + 1 < wr.heap.size ∧ Below w.heap.size w wr) (fun i _ => 12 - (intOf i).toNat)
  case atStart => exact ⟨0, by omega, rfl, hB0.out, hB1.out, hz, hbe⟩
  case round =>
    clear hB0 hB1 hz hbe
    obtain ⟨k, hk, rfl, hB0, hB1, hz, hbe⟩ := hrel
    obtain ⟨⟨c0, c1⟩, _, _⟩ := id hB0
    obtain ⟨⟨d0, d1⟩, _, _⟩ := id hB1
    have H0 : Hid (Bx wr w.heap.size a A) := hB0
    have H1 : Hid (Bx wr (w.heap.size + 1) b B) := hB1
    have hz0 : w.heap.size < wr.heap.size := by omega
    clear hB0 hB1
    by_cases hlt : k < 12
    · obtain ⟨x, y, c, hS⟩ := optV_shape (doR k a A b B)
      have HS : Hid (optV (doR (k : Int) a A b B) = .tuple #[.agg #[.int .u64 x, .int .u64 y], .bool c]) := hS
      clear hS
      go_wp2_with (first
        | (go_at_call 22; go_must (refine (HK.out _ _).mono ?_); rintro e w2 ⟨rfl, hb2⟩; go_must (rw [HS.out]; obtain ⟨⟨c0', c1'⟩, _, _⟩ := H0.out.below hb2 hz0; obtain ⟨⟨d0', d1'⟩, _, _⟩ := H1.out.below hb2 hz; have P0 : Hid (Bx w2 w.heap.size a A) := H0.out.below hb2 hz0; have P1 : Hid (Bx w2 (w.heap.size + 1) b B) := H1.out.below hb2 hz; have k0 := Nat.lt_of_lt_of_le hz0 hb2.size; have k1 := Nat.lt_of_lt_of_le hz hb2.size; have hB2 : Below w.heap.size w w2 := hbe.trans (hb2.mono (by omega)); clear hb2 hbe c0 c1 d0 d1 H0 H1 hz hz0))
        | (go_at_call 23; go_must (refine (HR.out _ _).mono ?_); rintro e w3 ⟨rfl, hb3⟩; go_must (rw [HS.out]; obtain ⟨⟨s0, s1⟩, _, _⟩ := (bx_new w2 x y).below hb3 (by simp); have Q0 : Hid (Bx w3 w.heap.size a A) := (P0.out.al k0).below hb3 (by simp; omega); have Q1 : Hid (Bx w3 (w.heap.size + 1) b B) := (P1.out.al k1).below hb3 (by simp; omega); have k2 : w2.heap.size < w3.heap.size := Nat.lt_of_lt_of_le (by simp) hb3.size; have k3 : w.heap.size + 1 < w3.heap.size := (by omega); have hB3 : Below w.heap.size w w3 := (hB2.alloc hB2.size _).trans (hb3.mono (by have := hB2.size; simp; omega)); clear hb3 hB2 P0 P1 c0' c1' d0' d1')))
      go_roundw
      case rel => exact ⟨k + 1, by omega, by go_num, Q0.out.al (by omega), Q1.out.al k3, by simp; omega, hB3.alloc hB3.size _⟩
      case measure => simp [intOf]; omega
    · obtain ⟨x, y, c, hS⟩ := optV_shape (doR op a A b B)
      have HS : Hid (optV (doR op a A b B) = .tuple #[.agg #[.int .u64 x, .int .u64 y], .bool c]) := hS
      clear hS
      go_wp2_with (first
        | (go_at_call 22; go_must (refine (HK.out _ _).mono ?_); rintro e w2 ⟨rfl, hb2⟩; go_must (rw [HS.out]; obtain ⟨⟨c0', c1'⟩, _, _⟩ := H0.out.below hb2 hz0; obtain ⟨⟨d0', d1'⟩, _, _⟩ := H1.out.below hb2 hz; have P0 : Hid (Bx w2 w.heap.size a A) := H0.out.below hb2 hz0; have P1 : Hid (Bx w2 (w.heap.size + 1) b B) := H1.out.below hb2 hz; have k0 := Nat.lt_of_lt_of_le hz0 hb2.size; have k1 := Nat.lt_of_lt_of_le hz hb2.size; have hB2 : Below w.heap.size w w2 := hbe.trans (hb2.mono (by omega)); clear hb2 hbe c0 c1 d0 d1 H0 H1 hz hz0))
        | (go_at_call 23; go_must (refine (HR.out _ _).mono ?_); rintro e w3 ⟨rfl, hb3⟩; go_must (rw [HS.out]; obtain ⟨⟨s0, s1⟩, _, _⟩ := (bx_new w2 x y).below hb3 (by simp); have Q0 : Hid (Bx w3 w.heap.size a A) := (P0.out.al k0).below hb3 (by simp; omega); have Q1 : Hid (Bx w3 (w.heap.size + 1) b B) := (P1.out.al k1).below hb3 (by simp; omega); have k2 : w2.heap.size < w3.heap.size := Nat.lt_of_lt_of_le (by simp) hb3.size; have k3 : w.heap.size + 1 < w3.heap.size := (by omega); have hB3 : Below w.heap.size w w3 := (hB2.alloc hB2.size _).trans (hb3.mono (by have := hB2.size; simp; omega)); clear hb3 hB2 P0 P1 c0' c1' d0' d1')))
      go_ret
      exact ⟨retb (by simp), hB3.alloc hB3.size _⟩
end Go.Proofs.Ytammakfpmimljaa
