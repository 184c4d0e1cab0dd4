/-
  The examples that each law of layer 6 asks first come out as the document has them. Premises: the landed functions answer as the plain ones do (to be met by their own contracts).
-/
import Derived.Test.YtammakfpmimljaaS6RJoin
import Derived.Test.YtammakfpmimljaaS6Inside
namespace Go.Proofs.Ytammakfpmimljaa
open Go.RowKit
set_option linter.unusedVariables false
set_option maxRecDepth 20000

/-! What the landed span is to answer. -/
def KDo : Prop := ∀ (op a A b B : Int) (w : World), W64 a → W64 A → W64 b → W64 B → Calls Try.prog 22 #[.int .i64 op, .agg #[.int .u64 a, .int .u64 A], .agg #[.int .u64 b, .int .u64 B]] w fun e w' => e = .returned (optV (doR op a A b B)) ∧ Below w.heap.size w w'
def KRefine : Prop := ∀ (op a A b B : Int) (h : Bool) (w : World), W64 a → W64 A → W64 b → W64 B → Calls Try.prog 24 #[.int .i64 op, .agg #[.int .u64 a, .int .u64 A], .agg #[.int .u64 b, .int .u64 B], .bool h] w fun e w' => e = .returned (optV (refineR op a A b B h)) ∧ Below w.heap.size w w'
def KJoin : Prop := ∀ (v : Value) (ss : List (Int × Int)) (w : World), SeesS w v ss → (∀ s ∈ ss, wfS s) → Calls Try.prog 18 #[v] w fun e w' => e = .returned (optV (if joinB ss = true then some (joinL ss) else none)) ∧ Below w.heap.size w w'
def KMeet : Prop := ∀ (v : Value) (ss : List (Int × Int)) (w : World), SeesS w v ss → (∀ s ∈ ss, wfS s) → Calls Try.prog 20 #[v] w fun e w' => e = .returned (optV (if meetB ss = true then some (meetL ss) else none)) ∧ Below w.heap.size w w'
def KFull : Prop := ∀ w : World, Calls Try.prog 13 #[] w fun e w' => e = .returned (.agg #[.int .u64 0, .int .u64 18446744073709551615]) ∧ Below w.heap.size w w'
def KSingle : Prop := ∀ (n : Int) (w : World), W64 n → Calls Try.prog 12 #[.int .u64 n] w fun e w' => e = .returned (.agg #[.int .u64 n, .int .u64 n]) ∧ Below w.heap.size w w'

theorem do_ex : doR 5 0 99 16 16 = some (0, 15) := by decide
theorem join_ex : (if joinB [(1, 2), (7, 9)] = true then some (joinL [(1, 2), (7, 9)]) else none) = some (1, 9) := by decide
theorem refine_ex : refineR 18 0 18446744073709551615 16 16 true = some (0, 15) := by decide
theorem w64 {n : Int} (h : 0 ≤ n ∧ n ≤ 18446744073709551615) : W64 n := h
theorem bx_new (w : World) (x y : Int) : Bx (w.alloc (spO x y)) w.heap.size x y := ⟨⟨by go_cell, by go_cell⟩, by go_simp, by go_simp⟩
theorem sees_two (w : World) (t : TypeId) (x X y Y : Int) (k : Nat) (hk : k = w.heap.size) : SeesS (w.alloc (.cells #[.int .u64 x, .int .u64 X, .int .u64 y, .int .u64 Y] t)) (.slice (some ⟨k, 0, none⟩) 2 2) [(x, X), (y, Y)] := by
  subst hk
  exact SeesS.lit w t [(x, X), (y, Y)] _ 2 rfl rfl (by simp)
theorem wf_ex : ∀ s ∈ [((1 : Int), (2 : Int)), (7, 9)], wfS s := by
  intro s hs
  simp at hs
  rcases hs with rfl | rfl <;> exact ⟨⟨by decide, by decide⟩, ⟨by decide, by decide⟩⟩

set_option maxHeartbeats 800000 in
theorem sawake_any (kd : KDo) (kj : KJoin) (kr : KRefine) (kf : KFull) (ks : KSingle) (w : World) : Calls Try.prog 9 #[] w fun e w' => e = .returned (.bool true) ∧ Below w.heap.size w w' := by
  have HD : Hid KDo := kd
  have HJ : Hid KJoin := kj
  have HR : Hid KRefine := kr
  have HF : Hid KFull := kf
  have HS : Hid KSingle := ks
  clear kd kj kr kf ks
  go_enter Try.func9, Try.ntmps9
  go_wp2_with (first
    | (go_at_call 22; go_must (refine (HD.out 5 0 99 16 16 _ (w64 (by omega)) (w64 (by omega)) (w64 (by omega)) (w64 (by omega))).mono ?_); rintro e w1 ⟨rfl, hb1⟩; go_must (rw [do_ex]; simp only [optV]))
    | (go_at_call 18; go_must (refine (HJ.out _ [(1, 2), (7, 9)] _ (sees_two (w1.alloc (spO 0 15)) _ 1 2 7 9 _ (by simp)) wf_ex).mono ?_); rintro e w2 ⟨rfl, hb2⟩; go_must (rw [join_ex]; simp only [optV]; have HB1 : Hid (Bx w2 w1.heap.size 0 15) := ((bx_new w1 0 15).al (by simp)).below hb2 (by simp; omega); have k12 : w1.heap.size < w2.heap.size := Nat.lt_of_lt_of_le (by simp; omega) hb2.size; have hB2 : Below w.heap.size w w2 := (hb1.alloc hb1.size _).trans ((boxS_below hb2).mono (by have := hb1.size; simp; omega)); clear hb1 hb2))
    | (go_at_call 13; go_must (refine (HF.out _).mono ?_); rintro e w3 ⟨rfl, hb3⟩; go_must (have HC1 : Hid (Bx w3 w1.heap.size 0 15) := (HB1.out.al k12).below hb3 (by simp; omega); have HC2 : Hid (Bx w3 w2.heap.size 1 9) := (bx_new w2 1 9).below hb3 (by simp); have k13 : w1.heap.size < w3.heap.size := Nat.lt_of_lt_of_le (by simp; omega) hb3.size; have k23 : w2.heap.size < w3.heap.size := Nat.lt_of_lt_of_le (by simp) hb3.size; have hB3 : Below w.heap.size w w3 := (hB2.alloc hB2.size _).trans (hb3.mono (by have := hB2.size; simp; omega)); clear HB1 hb3 hB2))
    | (go_at_call 12; go_must (refine (HS.out 16 _ (w64 (by omega))).mono ?_); rintro e w4 ⟨rfl, hb4⟩; go_must (have HD1 : Hid (Bx w4 w1.heap.size 0 15) := HC1.out.below hb4 k13; have HD2 : Hid (Bx w4 w2.heap.size 1 9) := HC2.out.below hb4 k23; have k14 := Nat.lt_of_lt_of_le k13 hb4.size; have k24 := Nat.lt_of_lt_of_le k23 hb4.size; have hB4 : Below w.heap.size w w4 := hB3.trans (hb4.mono hB3.size); clear HC1 HC2 hb4 hB3 k13 k23))
    | (go_at_call 24; go_must (refine (HR.out 18 0 18446744073709551615 16 16 true _ (w64 (by omega)) (w64 (by omega)) (w64 (by omega)) (w64 (by omega))).mono ?_); rintro e w5 ⟨rfl, hb5⟩; go_must (rw [refine_ex]; simp only [optV]; obtain ⟨⟨c0, c1⟩, _, _⟩ := HD1.out.below hb5 k14; obtain ⟨⟨d0, d1⟩, _, _⟩ := HD2.out.below hb5 k24; have k15 := Nat.lt_of_lt_of_le k14 hb5.size; have k25 := Nat.lt_of_lt_of_le k24 hb5.size; have hB5 : Below w.heap.size w w5 := hB4.trans (hb5.mono hB4.size); clear HD1 HD2 hb5 hB4 k14 k24)))
  go_ret
  exact ⟨rfl, hB5.alloc hB5.size _⟩
end Go.Proofs.Ytammakfpmimljaa
