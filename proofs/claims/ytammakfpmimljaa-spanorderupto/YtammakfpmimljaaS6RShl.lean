/-
  What the document's shifted answers: both ends by a power of two, or no where the upper one is too great. Condition: a right span of numbers of 64 bits.
-/
import Derived.Test.YtammakfpmimljaaS6RDoC
import Derived.Test.YtammakfpmimljaaS6RRefine
namespace Go.Proofs.Ytammakfpmimljaa
open Go.RowKit
set_option linter.unusedVariables false
set_option maxRecDepth 20000

/-- A box of two numbers that may be written. -/
def Bx (w : World) (n : Nat) (x y : Int) : Prop := (w.cell? ⟨n, 0, none⟩ = some (.int .u64 x) ∧ w.cell? ⟨n, 1, none⟩ = some (.int .u64 y)) ∧ w.frozen? ⟨n, 0, none⟩ = false ∧ w.frozen? ⟨n, 1, none⟩ = false
theorem Bx.set {w : World} {n : Nat} {x y : Int} (h : Bx w n x y) (x' y' : Int) : Bx ((w.setCell ⟨n, 0, none⟩ (.int .u64 x')).setCell ⟨n, 1, none⟩ (.int .u64 y')) n x' y' :=
  ⟨set_two h.1.1 h.1.2, by simpa using h.2.1, by simpa using h.2.2⟩
theorem Bx.far {w : World} {n m i : Nat} {x y : Int} {v : Value} (h : Bx w n x y) (hne : m ≠ n) : Bx (w.setCell ⟨m, i, none⟩ v) n x y := by
  have far : ∀ j, (w.setCell ⟨m, i, none⟩ v).cell? ⟨n, j, none⟩ = w.cell? ⟨n, j, none⟩ := fun j => World.cell?_setCell_other _ _ _ _ (fun e => hne (by injection e with e1))
  exact ⟨⟨(far 0).trans h.1.1, (far 1).trans h.1.2⟩, by simpa using h.2.1, by simpa using h.2.2⟩
def shiftR (a A : Int) (k : Nat) : Option (Int × Int) := if A * 2 ^ min k 64 ≤ 18446744073709551615 then some (a * 2 ^ min k 64, A * 2 ^ min k 64) else none
theorem shift_grows {A : Int} {j k : Nat} (hA : 0 < A) (h : 18446744073709551615 < A * 2 ^ j) (hj : j ≤ k) : 18446744073709551615 < A * 2 ^ min k 64 := by
  by_cases hk : k ≤ 64
  · rw [Nat.min_eq_left hk]
    have h1 : (2 : Int) ^ j ≤ 2 ^ k := by rw [two_pow_int, two_pow_int]; exact_mod_cast Nat.pow_le_pow_right (by decide) hj
    have h2 : A * 2 ^ j ≤ A * 2 ^ k := Int.mul_le_mul_of_nonneg_left h1 (by omega)
    omega
  · rw [Nat.min_eq_right (by omega)]
    have e : (2 : Int) ^ 64 = 18446744073709551616 := by decide
    rw [e]
    omega
theorem shift_small {A : Int} {k : Nat} (hA : 0 < A) (h : A * 2 ^ k ≤ 18446744073709551615) : k < 64 := by
  rcases Nat.lt_or_ge k 64 with hk | hk
  · exact hk
  · have h1 : (2 : Int) ^ 64 ≤ 2 ^ k := by rw [two_pow_int, two_pow_int]; exact_mod_cast Nat.pow_le_pow_right (by decide) hk
    have e : (2 : Int) ^ 64 = 18446744073709551616 := by decide
    have h2 : 1 * 2 ^ k ≤ A * 2 ^ k := Int.mul_le_mul_of_nonneg_right (by omega) (by omega)
    omega

set_option maxHeartbeats 800000 in
theorem shifted_any (a A k : Int) (w : World) (ha : 0 ≤ a ∧ a ≤ A ∧ A ≤ 18446744073709551615) (hk : 0 ≤ k ∧ k ≤ 18446744073709551615) :
    Calls Try.prog 41 #[.agg #[.int .u64 a, .int .u64 A], .int .u64 k] w fun e w' => e = .returned (optV (shiftR a A k.toNat)) ∧ Below w.heap.size w w' := by
  obtain ⟨K, rfl⟩ := Int.eq_ofNat_of_zero_le hk.1
  rw [Int.toNat_natCast]
  go_enter Try.func41, Try.ntmps41
  go_wp2
  go_loopw [6] (fun i wr => ∃ (j : Nat) (x X : Int), j ≤ K ∧ i = .int .u64 j ∧ x = a * 2 ^ j ∧ X = A * 2 ^ j ∧ 0 ≤ x ∧ x ≤ X ∧ X ≤ 18446744073709551615 ∧ Bx wr w.heap.size x X ∧ Bx wr (w.heap.size + 1) 0 0 ∧ Below w.heap.size w wr) (fun i _ => K - (intOf i).toNat)
  case atStart => exact ⟨0, a, A, by omega, rfl, by simp, by simp, by omega, by omega, by omega, ⟨⟨by go_cell, by go_cell⟩, by go_simp, by go_simp⟩, ⟨⟨by go_cell, by go_cell⟩, by go_simp, by go_simp⟩, by go_grown⟩
  case round =>
    obtain ⟨j, x, X, hj, rfl, hx, hX, hx0, hxX, hXM, hB0, hB1, hbe⟩ := hrel
    have HX : Hid (x = a * 2 ^ j ∧ X = A * 2 ^ j) := ⟨hx, hX⟩
    clear hx hX
    obtain ⟨⟨c0, c1⟩, f0, f1⟩ := id hB0
    obtain ⟨⟨d0, d1⟩, g0, g1⟩ := id hB1
    have HB0 : Hid (Bx wr w.heap.size x X) := hB0
    have HB1 : Hid (Bx wr (w.heap.size + 1) 0 0) := hB1
    clear hB0 hB1
    by_cases hlt : j < K ∧ 0 < X
    · obtain ⟨h1, h2⟩ := hlt
      by_cases hg : 9223372036854775807 < X
      · have HE : Hid (shiftR a A K = none) := by
          have hA : 0 < A := by
            rcases Int.lt_or_le 0 A with h | h
            · exact h
            · have : A = 0 := by omega
              have e := HX.out.2
              rw [this] at e; simp at e; omega
          unfold shiftR
          rw [if_neg]
          · rfl
          have := shift_grows (j := j + 1) (k := K) hA (by rw [Int.pow_succ, ← Int.mul_assoc, ← HX.out.2]; omega) (by omega)
          omega
        have HT : Hid _ := set_two (x := .int .u64 0) (y := .int .u64 0) d0 d1
        go_wp2
        refine bodyPost_ret (v := optV none) ?_ rfl ⟨by rw [HE.out], below_set (below_set hbe (by omega)) (by omega)⟩
        rw [results_cell_tmp rfl]
        simp [asAddr, Result.andThen]
        rw [run_boxS HT.out.1 HT.out.2]
        rfl
      · have hX2 : 2 * X ≤ 18446744073709551615 := by omega
        have HN : Hid (2 * x = a * 2 ^ (j + 1) ∧ 2 * X = A * 2 ^ (j + 1)) := by
          show _ ∧ _
          rw [Int.pow_succ, ← Int.mul_assoc, ← Int.mul_assoc, ← HX.out.1, ← HX.out.2]
          omega
        have HS : Hid (Bx ((wr.setCell ⟨w.heap.size, 0, none⟩ (.int .u64 (2 * x))).setCell ⟨w.heap.size, 1, none⟩ (.int .u64 (2 * X))) w.heap.size (2 * x) (2 * X)) := HB0.out.set _ _
        have HF : Hid (Bx ((wr.setCell ⟨w.heap.size, 0, none⟩ (.int .u64 (2 * x))).setCell ⟨w.heap.size, 1, none⟩ (.int .u64 (2 * X))) (w.heap.size + 1) 0 0) := (HB1.out.far (by omega)).far (by omega)
        have HW : Hid (Below w.heap.size w ((wr.setCell ⟨w.heap.size, 0, none⟩ (.int .u64 (2 * x))).setCell ⟨w.heap.size, 1, none⟩ (.int .u64 (2 * X)))) := below_set (below_set hbe (by omega)) (by omega)
        have c1' : (wr.setCell ⟨w.heap.size, 0, none⟩ (.int .u64 (2 * x))).cell? ⟨w.heap.size, 1, none⟩ = some (.int .u64 X) := by rw [World.cell?_setCell_other _ _ _ _ (fun e => by injection e with e1 e2; simp at e2)]; exact c1
        clear HX HB0 HB1 hbe
        go_wp2
        go_roundw
        case rel => exact ⟨j + 1, 2 * x, 2 * X, by omega, by go_num, HN.out.1, HN.out.2, by omega, by omega, by omega, HS.out, HF.out, HW.out⟩
        case measure => simp [intOf]; omega
    · have HE : Hid (shiftR a A K = some (x, X)) := by
        show _ = _
        rcases Int.lt_or_le 0 X with h | h
        · obtain rfl : j = K := by omega
          have hA : 0 < A := by
            rcases Int.lt_or_le 0 A with h' | h'
            · exact h'
            · have : A = 0 := by omega
              have e := HX.out.2
              rw [this] at e; simp at e; omega
          have h64 := shift_small hA (by rw [← HX.out.2]; exact hXM)
          unfold shiftR
          rw [Nat.min_eq_left (by omega), ← HX.out.1, ← HX.out.2, if_pos hXM]
        · have hp := pow_pos_int j
          have hA : A = 0 := by
            rcases Int.lt_or_le 0 A with h' | h'
            · have := Int.mul_pos h' hp
              have := HX.out.2
              omega
            · omega
          have ha0 : a = 0 := by omega
          have e1 := HX.out.1
          have e2 := HX.out.2
          rw [ha0] at e1
          rw [hA] at e2
          simp at e1 e2
          rw [e1, e2, ha0, hA]
          simp [shiftR]
      have HT : Hid _ := set_two (x := .int .u64 x) (y := .int .u64 X) d0 d1
      clear HX HB0 HB1
      by_cases hj2 : j < K
      · obtain rfl : X = 0 := by omega
        go_wp2
        refine bodyPost_ret (v := optV (some (x, 0))) ?_ rfl ⟨by rw [HE.out], below_set (below_set hbe (by omega)) (by omega)⟩
        rw [results_cell_tmp rfl]
        simp [asAddr, Result.andThen]
        rw [run_boxS HT.out.1 HT.out.2]
        rfl
      · go_wp2
        refine bodyPost_ret (v := optV (some (x, X))) ?_ rfl ⟨by rw [HE.out], below_set (below_set hbe (by omega)) (by omega)⟩
        rw [results_cell_tmp rfl]
        simp [asAddr, Result.andThen]
        rw [run_boxS HT.out.1 HT.out.2]
        rfl
end Go.Proofs.Ytammakfpmimljaa
