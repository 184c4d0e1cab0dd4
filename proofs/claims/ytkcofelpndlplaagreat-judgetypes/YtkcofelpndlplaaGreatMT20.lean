/-
  S6RDoC
  S6RShl
  S6RShls
  S6RJoin
  J9Join
  S6Awake
-/
import Derived.Test.YtkcofelpndlplaaGreatMT15
import Derived.Test.YtkcofelpndlplaaGreatMT16
import Derived.Deep.RegionHeldLaw
namespace Go.Proofs.YtkcofelpndlplaaGreat
open Go.RowKit
set_option linter.unusedVariables false
set_option maxRecDepth 20000
theorem keep4 {w : World} {n m k j : Nat} {v : Value} {x0 x1 y0 y1 : Value} (h : w.cell? ⟨n, 0, none⟩ = some x0 /\ w.cell? ⟨n, 1, none⟩ = some x1 /\ w.cell? ⟨m, 0, none⟩ = some y0 /\ w.cell? ⟨m, 1, none⟩ = some y1) (h1 : k ≠ n) (h2 : k ≠ m) :
  (w.setCell ⟨k, j, none⟩ v).cell? ⟨n, 0, none⟩ = some x0 /\ (w.setCell ⟨k, j, none⟩ v).cell? ⟨n, 1, none⟩ = some x1 /\ (w.setCell ⟨k, j, none⟩ v).cell? ⟨m, 0, none⟩ = some y0 /\ (w.setCell ⟨k, j, none⟩ v).cell? ⟨m, 1, none⟩ = some y1 := by
 have far : ∀ p i, k ≠ p -> (w.setCell ⟨k, j, none⟩ v).cell? ⟨p, i, none⟩ = w.cell? ⟨p, i, none⟩ := fun p i hp => World.cell?_setCell_other _ _ _ _ (fun e => hp (by injection e with e1))
 rw [far n 0 h1, far n 1 h1, far m 0 h2, far m 1 h2]
 exact h
theorem qAa {B : Nat} {w Z : World} {n j : Nat} {v : Value} (h : Below B w Z) (hn : B <= n) : Below B w (Z.setCell ⟨n, j, none⟩ v) :=
 ⟨h.os, h.tape, h.output, by simpa [World.setCell] using h.size, fun k hk => (Below.heap_setCell Z _ _ k (fun e => by simp at e; omega)).trans (h.block k hk)⟩
theorem below_dr {B : Nat} {w Z : World} (h : Below B w Z) : Below B w Z.drew := ⟨h.os, h.tape, h.output, h.size, h.block⟩
theorem form_as {n m : Int} (h : Hid (m = formL n)) (w : World) (hn : 0 <= n /\ n <= 18446744073709551615) : Calls Tryz.prog 105 #[.int .u64 n] w fun e w' => e = .returned (.int .u64 m) /\ w = w' := by
 rw [h.out]; exact qAq n w hn
theorem qCg {w : World} {n : Nat} {a A : Int} (h0 : w.cell? ⟨n, 0, none⟩ = some (.int .u64 a)) (h1 : w.cell? ⟨n, 1, none⟩ = some (.int .u64 A)) : (loadVar 44 ⟨n, 0, none⟩).run Tryz.prog w.drew = .ok (.agg #[.int .u64 a, .int .u64 A]) w.drew := qAb (w := w.drew) h0 h1
theorem qAk {Z : World} {n : Nat} {u0 u1 x y : Value} (r0 : Z.cell? ⟨n, 0, none⟩ = some u0) (r1 : Z.cell? ⟨n, 1, none⟩ = some u1) :
  ((Z.setCell ⟨n, 0, none⟩ x).setCell ⟨n, 1, none⟩ y).cell? ⟨n, 0, none⟩ = some x /\ ((Z.setCell ⟨n, 0, none⟩ x).setCell ⟨n, 1, none⟩ y).cell? ⟨n, 1, none⟩ = some y := by
 have e : ((Z.setCell ⟨n, 0, none⟩ x).cell? ⟨n, 1, none⟩) = some u1 := by rw [World.cell?_setCell_other _ _ _ _ (fun e => by injection e with e1 e2; simp at e2)]; exact r1
 constructor
 ·rw [World.cell?_setCell_other _ _ _ _ (fun e => by injection e with e1 e2; simp at e2)]
  simp [World.cell?_setCell_same', r0]
 ·simp [World.cell?_setCell_same', e]

set_option maxHeartbeats 400000 in
theorem sdo_shr (a A b B : Int) (w : World) (ha : 0 <= a /\ a <= A /\ A <= 18446744073709551615) (hb : 0 <= b /\ b <= B /\ B <= 18446744073709551615) (hs : (a == A) = false)  :
  Calls Tryz.prog 87 #[.int .i64 10, .agg #[.int .u64 a, .int .u64 A], .agg #[.int .u64 b, .int .u64 B]] w fun e w' => e = .returned (.tuple #[.agg #[.int .u64 (a / 2 ^ min B.toNat 64), .int .u64 (A / 2 ^ min b.toNat 64)], .bool true]) /\ Below w.heap.size w w' := by
 have h1 : decide (a <= A) = true := decide_eq_true ha.2.1
 have h2 : decide (b <= B) = true := decide_eq_true hb.2.1
 obtain ⟨X, HX⟩ : ∃ X, Hid (X = a / 2 ^ min B.toNat 64) := ⟨_, rfl⟩
 obtain ⟨Y, HY⟩ : ∃ Y, Hid (Y = A / 2 ^ min b.toNat 64) := ⟨_, rfl⟩
 obtain ⟨Z, HZ, hcells, r0, r1, f0, f1, hBZ⟩ : ∃ Z, Hid (Z = ((((((w.alloc (spO a A)).alloc (spO b B)).alloc (spO 0 0)).alloc (spO a A)).alloc (spO b B)).alloc (spO 0 18446744073709551615))) /\ (Z.cell? ⟨w.heap.size, 0, none⟩ = some (.int .u64 a) /\ Z.cell? ⟨w.heap.size, 1, none⟩ = some (.int .u64 A) /\ Z.cell? ⟨w.heap.size + 1, 0, none⟩ = some (.int .u64 b) /\ Z.cell? ⟨w.heap.size + 1, 1, none⟩ = some (.int .u64 B)) /\ Z.cell? ⟨w.heap.size + 1 + 1, 0, none⟩ = some (.int .u64 0) /\ Z.cell? ⟨w.heap.size + 1 + 1, 1, none⟩ = some (.int .u64 0) /\ Z.frozen? ⟨w.heap.size + 1 + 1, 0, none⟩ = false /\ Z.frozen? ⟨w.heap.size + 1 + 1, 1, none⟩ = false /\ Below w.heap.size w Z :=
  ⟨_, rfl, ⟨by go_cell, by go_cell, by go_cell, by go_cell⟩, by go_cell, by go_cell, by go_simp, by go_simp, by go_grown⟩
 go_enter Tryz.func87, Tryz.ntmps87
 go_wp2_with (first
  | (go_at_call 90; go_must (refine (qAd _ _ _).mono ?_); rintro e w' ⟨rfl, rfl⟩)
  | (go_at_call 107; fail))
 rw [<- HZ.out]
 clear HZ
 go_region_held_law (fun w' => w'.cell? ⟨w.heap.size, 0, none⟩ = some (.int .u64 a) /\ w'.cell? ⟨w.heap.size, 1, none⟩ = some (.int .u64 A) /\ w'.cell? ⟨w.heap.size + 1, 0, none⟩ = some (.int .u64 b) /\ w'.cell? ⟨w.heap.size + 1, 1, none⟩ = some (.int .u64 B))
  (first | assumption | ((refine keep4 ?_ (by omega) (by omega); first | assumption | (refine keep4 ?_ (by omega) (by omega); assumption))))
  ((go_at_call 107; refine (half_any _ _ _ (by omega) (by omega)).mono ?_; rintro e w' ⟨rfl, rfl⟩; first | rw [<- HX.out] | rw [<- HY.out]))
 go_wp2
 obtain ⟨t0, t1⟩ := qAk (x := .int .u64 (X)) (y := .int .u64 Y) r0 r1
 refine bodyPost_ret (v := .tuple #[.agg #[.int .u64 (X), .int .u64 Y], .bool true]) ?_ rfl ⟨by rw [HX.out, HY.out], below_dr (qAa (qAa hBZ (by omega)) (by omega))⟩
 rw [results_cell_tmp rfl]
 simp [asAddr, Result.andThen]
 rw [qCg t0 t1]
set_option maxHeartbeats 400000 in
theorem sdo_shrs (a b B : Int) (w : World) (ha : 0 <= a /\ a <= a /\ a <= 18446744073709551615) (hb : 0 <= b /\ b <= B /\ B <= 18446744073709551615) (hs : (b == B) = false)  :
  Calls Tryz.prog 87 #[.int .i64 10, .agg #[.int .u64 a, .int .u64 a], .agg #[.int .u64 b, .int .u64 B]] w fun e w' => e = .returned (.tuple #[.agg #[.int .u64 (a / 2 ^ min B.toNat 64), .int .u64 (a / 2 ^ min b.toNat 64)], .bool true]) /\ Below w.heap.size w w' := by
 have h1 : decide (a <= a) = true := decide_eq_true ha.2.1
 have h2 : decide (b <= B) = true := decide_eq_true hb.2.1
 obtain ⟨X, HX⟩ : ∃ X, Hid (X = a / 2 ^ min B.toNat 64) := ⟨_, rfl⟩
 obtain ⟨Y, HY⟩ : ∃ Y, Hid (Y = a / 2 ^ min b.toNat 64) := ⟨_, rfl⟩
 obtain ⟨Z, HZ, hcells, r0, r1, f0, f1, hBZ⟩ : ∃ Z, Hid (Z = ((((((w.alloc (spO a a)).alloc (spO b B)).alloc (spO 0 0)).alloc (spO a a)).alloc (spO b B)).alloc (spO 0 18446744073709551615))) /\ (Z.cell? ⟨w.heap.size, 0, none⟩ = some (.int .u64 a) /\ Z.cell? ⟨w.heap.size, 1, none⟩ = some (.int .u64 a) /\ Z.cell? ⟨w.heap.size + 1, 0, none⟩ = some (.int .u64 b) /\ Z.cell? ⟨w.heap.size + 1, 1, none⟩ = some (.int .u64 B)) /\ Z.cell? ⟨w.heap.size + 1 + 1, 0, none⟩ = some (.int .u64 0) /\ Z.cell? ⟨w.heap.size + 1 + 1, 1, none⟩ = some (.int .u64 0) /\ Z.frozen? ⟨w.heap.size + 1 + 1, 0, none⟩ = false /\ Z.frozen? ⟨w.heap.size + 1 + 1, 1, none⟩ = false /\ Below w.heap.size w Z :=
  ⟨_, rfl, ⟨by go_cell, by go_cell, by go_cell, by go_cell⟩, by go_cell, by go_cell, by go_simp, by go_simp, by go_grown⟩
 go_enter Tryz.func87, Tryz.ntmps87
 go_wp2_with (first
  | (go_at_call 90; go_must (refine (qAd _ _ _).mono ?_); rintro e w' ⟨rfl, rfl⟩)
  | (go_at_call 107; fail))
 rw [<- HZ.out]
 clear HZ
 go_region_held_law (fun w' => w'.cell? ⟨w.heap.size, 0, none⟩ = some (.int .u64 a) /\ w'.cell? ⟨w.heap.size, 1, none⟩ = some (.int .u64 a) /\ w'.cell? ⟨w.heap.size + 1, 0, none⟩ = some (.int .u64 b) /\ w'.cell? ⟨w.heap.size + 1, 1, none⟩ = some (.int .u64 B))
  (first | assumption | ((refine keep4 ?_ (by omega) (by omega); first | assumption | (refine keep4 ?_ (by omega) (by omega); assumption))))
  ((go_at_call 107; refine (half_any _ _ _ (by omega) (by omega)).mono ?_; rintro e w' ⟨rfl, rfl⟩; first | rw [<- HX.out] | rw [<- HY.out]))
 go_wp2
 obtain ⟨t0, t1⟩ := qAk (x := .int .u64 (X)) (y := .int .u64 Y) r0 r1
 refine bodyPost_ret (v := .tuple #[.agg #[.int .u64 (X), .int .u64 Y], .bool true]) ?_ rfl ⟨by rw [HX.out, HY.out], below_dr (qAa (qAa hBZ (by omega)) (by omega))⟩
 rw [results_cell_tmp rfl]
 simp [asAddr, Result.andThen]
 rw [qCg t0 t1]
def Bx (w : World) (n : Nat) (x y : Int) : Prop := (w.cell? ⟨n, 0, none⟩ = some (.int .u64 x) /\ w.cell? ⟨n, 1, none⟩ = some (.int .u64 y)) /\ w.frozen? ⟨n, 0, none⟩ = false /\ w.frozen? ⟨n, 1, none⟩ = false
theorem Bx.set {w : World} {n : Nat} {x y : Int} (h : Bx w n x y) (x' y' : Int) : Bx ((w.setCell ⟨n, 0, none⟩ (.int .u64 x')).setCell ⟨n, 1, none⟩ (.int .u64 y')) n x' y' :=
 ⟨qAk h.1.1 h.1.2, by simpa using h.2.1, by simpa using h.2.2⟩
theorem Bx.far {w : World} {n m i : Nat} {x y : Int} {v : Value} (h : Bx w n x y) (hne : m ≠ n) : Bx (w.setCell ⟨m, i, none⟩ v) n x y := by
 have far : ∀ j, (w.setCell ⟨m, i, none⟩ v).cell? ⟨n, j, none⟩ = w.cell? ⟨n, j, none⟩ := fun j => World.cell?_setCell_other _ _ _ _ (fun e => hne (by injection e with e1))
 exact ⟨⟨(far 0).trans h.1.1, (far 1).trans h.1.2⟩, by simpa using h.2.1, by simpa using h.2.2⟩
def shiftR (a A : Int) (k : Nat) : Option (Int × Int) := if A * 2 ^ min k 64 <= 18446744073709551615 then some (a * 2 ^ min k 64, A * 2 ^ min k 64) else none
theorem shift_grows {A : Int} {j k : Nat} (hA : 0 < A) (h : 18446744073709551615 < A * 2 ^ j) (hj : j <= k) : 18446744073709551615 < A * 2 ^ min k 64 := by
 by_cases hk : k <= 64
 ·rw [Nat.min_eq_left hk]
  have h1 : (2 : Int) ^ j <= 2 ^ k := by rw [qBa, qBa]; exact_mod_cast Nat.pow_le_pow_right (by decide) hj
  have h2 : A * 2 ^ j <= A * 2 ^ k := Int.mul_le_mul_of_nonneg_left h1 (by omega)
  omega
 ·rw [Nat.min_eq_right (by omega)]
  have e : (2 : Int) ^ 64 = 18446744073709551616 := by decide
  rw [e]
  omega
theorem shift_small {A : Int} {k : Nat} (hA : 0 < A) (h : A * 2 ^ k <= 18446744073709551615) : k < 64 := by
 rcases Nat.lt_or_ge k 64 with hk | hk
 ·exact hk
 ·have h1 : (2 : Int) ^ 64 <= 2 ^ k := by rw [qBa, qBa]; exact_mod_cast Nat.pow_le_pow_right (by decide) hk
  have e : (2 : Int) ^ 64 = 18446744073709551616 := by decide
  have h2 : 1 * 2 ^ k <= A * 2 ^ k := Int.mul_le_mul_of_nonneg_right (by omega) (by omega)
  omega

set_option maxHeartbeats 800000 in
theorem shifted_any (a A k : Int) (w : World) (ha : 0 <= a /\ a <= A /\ A <= 18446744073709551615) (hk : 0 <= k /\ k <= 18446744073709551615) :
  Calls Tryz.prog 106 #[.agg #[.int .u64 a, .int .u64 A], .int .u64 k] w fun e w' => e = .returned (optV (shiftR a A k.toNat)) /\ Below w.heap.size w w' := by
 obtain ⟨K, rfl⟩ := Int.eq_ofNat_of_zero_le hk.1
 rw [Int.toNat_natCast]
 go_enter Tryz.func106, Tryz.ntmps106
 go_wp2
 go_loopw [6] (fun i wr => ∃ (j : Nat) (x X : Int), j <= K /\ i = .int .u64 j /\ x = a * 2 ^ j /\ X = A * 2 ^ j /\ 0 <= x /\ x <= X /\ X <= 18446744073709551615 /\ Bx wr w.heap.size x X /\ Bx wr (w.heap.size + 1) 0 0 /\ Below w.heap.size w wr) (fun i _ => K - (intOf i).toNat)
 case atStart => exact ⟨0, a, A, by omega, rfl, by simp, by simp, by omega, by omega, by omega, ⟨⟨by go_cell, by go_cell⟩, by go_simp, by go_simp⟩, ⟨⟨by go_cell, by go_cell⟩, by go_simp, by go_simp⟩, by go_grown⟩
 case round =>
  obtain ⟨j, x, X, hj, rfl, hx, hX, hx0, hxX, hXM, hB0, hB1, hbe⟩ := hrel
  have HX : Hid (x = a * 2 ^ j /\ X = A * 2 ^ j) := ⟨hx, hX⟩
  clear hx hX
  obtain ⟨⟨c0, c1⟩, f0, f1⟩ := id hB0
  obtain ⟨⟨d0, d1⟩, g0, g1⟩ := id hB1
  have HB0 : Hid (Bx wr w.heap.size x X) := hB0
  have HB1 : Hid (Bx wr (w.heap.size + 1) 0 0) := hB1
  clear hB0 hB1
  by_cases hlt : j < K /\ 0 < X
  ·obtain ⟨h1, h2⟩ := hlt
   by_cases hg : 9223372036854775807 < X
   ·have HE : Hid (shiftR a A K = none) := by
     have hA : 0 < A := by
      rcases Int.lt_or_le 0 A with h | h
      ·exact h
      ·have : A = 0 := by omega
       have e := HX.out.2
       rw [this] at e; simp at e; omega
     unfold shiftR
     rw [if_neg]
     ·rfl
     have := shift_grows (j := j + 1) (k := K) hA (by rw [Int.pow_succ, <- Int.mul_assoc, <- HX.out.2]; omega) (by omega)
     omega
    have HT : Hid _ := qAk (x := .int .u64 0) (y := .int .u64 0) d0 d1
    go_wp2
    refine bodyPost_ret (v := optV none) ?_ rfl ⟨by rw [HE.out], qAa (qAa hbe (by omega)) (by omega)⟩
    rw [results_cell_tmp rfl]
    simp [asAddr, Result.andThen]
    rw [qAb HT.out.1 HT.out.2]
    rfl
   ·have hX2 : 2 * X <= 18446744073709551615 := by omega
    have HN : Hid (2 * x = a * 2 ^ (j + 1) /\ 2 * X = A * 2 ^ (j + 1)) := by
     show _ /\ _
     rw [Int.pow_succ, <- Int.mul_assoc, <- Int.mul_assoc, <- HX.out.1, <- HX.out.2]
     omega
    have HS : Hid (Bx ((wr.setCell ⟨w.heap.size, 0, none⟩ (.int .u64 (2 * x))).setCell ⟨w.heap.size, 1, none⟩ (.int .u64 (2 * X))) w.heap.size (2 * x) (2 * X)) := HB0.out.set _ _
    have HF : Hid (Bx ((wr.setCell ⟨w.heap.size, 0, none⟩ (.int .u64 (2 * x))).setCell ⟨w.heap.size, 1, none⟩ (.int .u64 (2 * X))) (w.heap.size + 1) 0 0) := (HB1.out.far (by omega)).far (by omega)
    have HW : Hid (Below w.heap.size w ((wr.setCell ⟨w.heap.size, 0, none⟩ (.int .u64 (2 * x))).setCell ⟨w.heap.size, 1, none⟩ (.int .u64 (2 * X)))) := qAa (qAa hbe (by omega)) (by omega)
    have c1' : (wr.setCell ⟨w.heap.size, 0, none⟩ (.int .u64 (2 * x))).cell? ⟨w.heap.size, 1, none⟩ = some (.int .u64 X) := by rw [World.cell?_setCell_other _ _ _ _ (fun e => by injection e with e1 e2; simp at e2)]; exact c1
    clear HX HB0 HB1 hbe
    go_wp2
    go_roundw
    case rel => exact ⟨j + 1, 2 * x, 2 * X, by omega, by go_num, HN.out.1, HN.out.2, by omega, by omega, by omega, HS.out, HF.out, HW.out⟩
    case measure => simp [intOf]; omega
  ·have HE : Hid (shiftR a A K = some (x, X)) := by
    show _ = _
    rcases Int.lt_or_le 0 X with h | h
    ·obtain rfl : j = K := by omega
     have hA : 0 < A := by
      rcases Int.lt_or_le 0 A with h' | h'
      ·exact h'
      ·have : A = 0 := by omega
       have e := HX.out.2
       rw [this] at e; simp at e; omega
     have h64 := shift_small hA (by rw [<- HX.out.2]; exact hXM)
     unfold shiftR
     rw [Nat.min_eq_left (by omega), <- HX.out.1, <- HX.out.2, if_pos hXM]
    ·have hp := qBh j
     have hA : A = 0 := by
      rcases Int.lt_or_le 0 A with h' | h'
      ·have := Int.mul_pos h' hp
       have := HX.out.2
       omega
      ·omega
     have ha0 : a = 0 := by omega
     have e1 := HX.out.1
     have e2 := HX.out.2
     rw [ha0] at e1
     rw [hA] at e2
     simp at e1 e2
     rw [e1, e2, ha0, hA]
     simp [shiftR]
   have HT : Hid _ := qAk (x := .int .u64 x) (y := .int .u64 X) d0 d1
   clear HX HB0 HB1
   by_cases hj2 : j < K
   ·obtain rfl : X = 0 := by omega
    go_wp2
    refine bodyPost_ret (v := optV (some (x, 0))) ?_ rfl ⟨by rw [HE.out], qAa (qAa hbe (by omega)) (by omega)⟩
    rw [results_cell_tmp rfl]
    simp [asAddr, Result.andThen]
    rw [qAb HT.out.1 HT.out.2]
    rfl
   ·go_wp2
    refine bodyPost_ret (v := optV (some (x, X))) ?_ rfl ⟨by rw [HE.out], qAa (qAa hbe (by omega)) (by omega)⟩
    rw [results_cell_tmp rfl]
    simp [asAddr, Result.andThen]
    rw [qAb HT.out.1 HT.out.2]
    rfl
theorem shifted_as {a A k : Int} {o : Option (Int × Int)} (h : Hid (o = shiftR a A k.toNat)) (w : World) (ha : 0 <= a /\ a <= A /\ A <= 18446744073709551615) (hk : 0 <= k /\ k <= 18446744073709551615) :
  Calls Tryz.prog 106 #[.agg #[.int .u64 a, .int .u64 A], .int .u64 k] w fun e w' => e = .returned (optV o) /\ Below w.heap.size w w' := by
 rw [h.out]; exact shifted_any a A k w ha hk
theorem Bx.below {w w' : World} {n B : Nat} {x y : Int} (h : Bx w n x y) (hb : Below B w w') (hB : n < B) : Bx w' n x y := by
 unfold Bx
 rw [hb.cell (p := ⟨n, 0, none⟩) hB, hb.cell (p := ⟨n, 1, none⟩) hB, hb.frozen (p := ⟨n, 0, none⟩) hB, hb.frozen (p := ⟨n, 1, none⟩) hB]
 exact h

set_option maxHeartbeats 400000 in
theorem sdo_shl2 (a A n : Int) (w : World) (ha : 0 <= a /\ a <= A /\ A <= 18446744073709551615) (hn : 0 <= n /\ n <= 18446744073709551615) (hs : (a == A) = false) (h : Hid (none = shiftR a A n.toNat)) :
  Calls Tryz.prog 87 #[.int .i64 9, .agg #[.int .u64 a, .int .u64 A], .agg #[.int .u64 n, .int .u64 n]] w fun e w' => e = .returned (.tuple #[.agg #[.int .u64 0, .int .u64 18446744073709551615], .bool true]) /\ Below w.heap.size w w' := by
 have h1 : decide (a <= A) = true := decide_eq_true ha.2.1
 have h2 : decide (n <= n) = true := decide_eq_true (Int.le_refl _)
 obtain ⟨Z, HZ, hcells, r, fu, hBZ, hz⟩ : ∃ Z, Hid (Z = ((((((w.alloc (spO a A)).alloc (spO n n)).alloc (spO 0 0)).alloc (spO a A)).alloc (spO n n)).alloc (spO 0 18446744073709551615))) /\ Bx Z w.heap.size a A /\ Bx Z (w.heap.size + 1 + 1) 0 0 /\ Bx Z (w.heap.size + 1 + 1 + 1 + 1 + 1) 0 18446744073709551615 /\ Below w.heap.size w Z /\ w.heap.size + 1 + 1 + 1 + 1 + 1 < Z.heap.size :=
  ⟨_, rfl, ⟨⟨by go_cell, by go_cell⟩, by go_simp, by go_simp⟩, ⟨⟨by go_cell, by go_cell⟩, by go_simp, by go_simp⟩, ⟨⟨by go_cell, by go_cell⟩, by go_simp, by go_simp⟩, by go_grown, by simp⟩
 go_enter Tryz.func87, Tryz.ntmps87
 go_wp2_with (first
  | (go_at_call 90; go_must (refine (qAd _ _ _).mono ?_); rintro e w' ⟨rfl, rfl⟩)
  | (go_at_call 106; go_must (rw [<- HZ.out]; refine (shifted_as h _ ha hn).mono ?_); rintro e w1 ⟨rfl, hb1⟩; go_must (simp only [optV]; obtain ⟨⟨r0, r1⟩, q0, q1⟩ := r.below hb1 (by omega); obtain ⟨⟨e0, e1⟩, _, _⟩ := fu.below hb1 (by omega); have hB1 := hBZ.trans (hb1.mono hBZ.size); have hz1 := hb1.size; have k5 : w.heap.size + 1 + 1 + 1 + 1 + 1 < w1.heap.size := Nat.lt_of_lt_of_le hz hz1; have k2 : w.heap.size + 1 + 1 < w1.heap.size := Nat.lt_trans (by omega) k5; clear hz1 hb1 hz HZ)))
 have t := qAk (x := .int .u64 0) (y := .int .u64 18446744073709551615) r0 r1
 refine bodyPost_ret (v := .tuple #[.agg #[.int .u64 0, .int .u64 18446744073709551615], .bool true]) ?_ rfl ⟨rfl, (qAa (qAa hB1 (by omega)) (by omega)).alloc (by simp [World.setCell]; omega) _⟩
 rw [results_cell_tmp rfl]
 simp [asAddr, Result.andThen]
 rw [qAb (a := 0) (A := 18446744073709551615)]
 ·refine (World.cell?_alloc_past _ _ _ ?_).trans t.1; simp [World.setCell]; omega
 ·refine (World.cell?_alloc_past _ _ _ ?_).trans t.2; simp [World.setCell]; omega
set_option maxHeartbeats 400000 in
theorem sdo_shl3 (a A n x X : Int) (w : World) (ha : 0 <= a /\ a <= A /\ A <= 18446744073709551615) (hn : 0 <= n /\ n <= 18446744073709551615) (hs : (a == A) = false) (h : Hid (some (x, X) = shiftR a A n.toNat)) :
  Calls Tryz.prog 87 #[.int .i64 9, .agg #[.int .u64 a, .int .u64 A], .agg #[.int .u64 n, .int .u64 n]] w fun e w' => e = .returned (.tuple #[.agg #[.int .u64 x, .int .u64 X], .bool true]) /\ Below w.heap.size w w' := by
 have h1 : decide (a <= A) = true := decide_eq_true ha.2.1
 have h2 : decide (n <= n) = true := decide_eq_true (Int.le_refl _)
 obtain ⟨Z, HZ, hcells, r, fu, hBZ, hz⟩ : ∃ Z, Hid (Z = ((((((w.alloc (spO a A)).alloc (spO n n)).alloc (spO 0 0)).alloc (spO a A)).alloc (spO n n)).alloc (spO 0 18446744073709551615))) /\ Bx Z w.heap.size a A /\ Bx Z (w.heap.size + 1 + 1) 0 0 /\ Bx Z (w.heap.size + 1 + 1 + 1 + 1 + 1) 0 18446744073709551615 /\ Below w.heap.size w Z /\ w.heap.size + 1 + 1 + 1 + 1 + 1 < Z.heap.size :=
  ⟨_, rfl, ⟨⟨by go_cell, by go_cell⟩, by go_simp, by go_simp⟩, ⟨⟨by go_cell, by go_cell⟩, by go_simp, by go_simp⟩, ⟨⟨by go_cell, by go_cell⟩, by go_simp, by go_simp⟩, by go_grown, by simp⟩
 go_enter Tryz.func87, Tryz.ntmps87
 go_wp2_with (first
  | (go_at_call 90; go_must (refine (qAd _ _ _).mono ?_); rintro e w' ⟨rfl, rfl⟩)
  | (go_at_call 106; go_must (rw [<- HZ.out]; refine (shifted_as h _ ha hn).mono ?_); rintro e w1 ⟨rfl, hb1⟩; go_must (simp only [optV]; obtain ⟨⟨r0, r1⟩, q0, q1⟩ := r.below hb1 (by omega); obtain ⟨⟨e0, e1⟩, _, _⟩ := fu.below hb1 (by omega); have hB1 := hBZ.trans (hb1.mono hBZ.size); have hz1 := hb1.size; have k5 : w.heap.size + 1 + 1 + 1 + 1 + 1 < w1.heap.size := Nat.lt_of_lt_of_le hz hz1; have k2 : w.heap.size + 1 + 1 < w1.heap.size := Nat.lt_trans (by omega) k5; clear hz1 hb1 hz HZ)))
 have t := qAk (x := .int .u64 x) (y := .int .u64 X) r0 r1
 refine bodyPost_ret (v := .tuple #[.agg #[.int .u64 x, .int .u64 X], .bool true]) ?_ rfl ⟨rfl, (qAa (qAa hB1 (by omega)) (by omega)).alloc (by simp [World.setCell]; omega) _⟩
 rw [results_cell_tmp rfl]
 simp [asAddr, Result.andThen]
 rw [qAb (a := x) (A := X)]
 ·refine (World.cell?_alloc_past _ _ _ ?_).trans t.1; simp [World.setCell]; omega
 ·refine (World.cell?_alloc_past _ _ _ ?_).trans t.2; simp [World.setCell]; omega
theorem loF_step {ss : List (Int × Int)} {k : Nat} (hk : k < ss.length) (h0 : k ≠ 0) : loF (ss.take (k + 1)) = min (loF (ss.take k)) (ss.getD k (0, 0)).1 /\ hiF (ss.take (k + 1)) = max (hiF (ss.take k)) (ss.getD k (0, 0)).2 /\ loM (ss.take (k + 1)) = max (loM (ss.take k)) (ss.getD k (0, 0)).1 /\ hiM (ss.take (k + 1)) = min (hiM (ss.take k)) (ss.getD k (0, 0)).2 := by
 have e : ss.getD k (0, 0) = ss[k] := by simp [hk]
 have hne : ∀ f : Int × Int -> Int, (ss.take k).map f ≠ [] := fun f h => by
  have hl : (ss.take k).length = 0 := by rw [List.map_eq_nil_iff.1 h]; rfl
  rw [List.length_take] at hl
  omega
 unfold loF hiF loM hiM
 rw [e, List.take_succ_eq_append_getElem hk]
 simp only [List.map_append, List.map_cons, List.map_nil]
 exact ⟨minF_snoc (hne _) _, maxF_snoc (hne _) _, maxF_snoc (hne _) _, minF_snoc (hne _) _⟩
theorem ends_one {ss : List (Int × Int)} (h : 0 < ss.length) : loF (ss.take 1) = (ss.getD 0 (0, 0)).1 /\ hiF (ss.take 1) = (ss.getD 0 (0, 0)).2 /\ loM (ss.take 1) = (ss.getD 0 (0, 0)).1 /\ hiM (ss.take 1) = (ss.getD 0 (0, 0)).2 := by
 cases ss with
 | nil => simp at h
 | cons s r => exact ⟨rfl, rfl, rfl, rfl⟩
theorem okS_all_take {ss : List (Int × Int)} {k : Nat} (hk : k < ss.length) : (ss.take (k + 1)).all okS = ((ss.take k).all okS && okS (ss.getD k (0, 0))) := by
 have e : ss.getD k (0, 0) = ss[k] := by simp [hk]
 rw [e, List.take_succ_eq_append_getElem hk, List.all_append]
 simp
theorem okS_false {ss : List (Int × Int)} {k : Nat} (hk : k < ss.length) (h : okS (ss.getD k (0, 0)) = false) : joinB ss = false := by
 have e : ss.getD k (0, 0) = ss[k] := by simp [hk]
 rw [e] at h
 unfold joinB
 rw [Bool.and_eq_false_iff]
 right
 rw [Bool.eq_false_iff]
 intro hall
 rw [List.all_eq_true.1 hall _ (List.getElem_mem hk)] at h
 cases h

theorem Bx.set0 {w : World} {n : Nat} {x y : Int} (h : Bx w n x y) (x' : Int) : Bx (w.setCell ⟨n, 0, none⟩ (.int .u64 x')) n x' y :=
 ⟨⟨by simp [World.cell?_setCell_same', h.1.1], by rw [World.cell?_setCell_other _ _ _ _ (fun e => by injection e with e1 e2; simp at e2)]; exact h.1.2⟩, by simpa using h.2.1, by simpa using h.2.2⟩
theorem Bx.set1 {w : World} {n : Nat} {x y : Int} (h : Bx w n x y) (y' : Int) : Bx (w.setCell ⟨n, 1, none⟩ (.int .u64 y')) n x y' :=
 ⟨⟨by rw [World.cell?_setCell_other _ _ _ _ (fun e => by injection e with e1 e2; simp at e2)]; exact h.1.1, by simp [World.cell?_setCell_same', h.1.2]⟩, by simpa using h.2.1, by simpa using h.2.2⟩
theorem Bx.drew2 {w : World} {n : Nat} {x y : Int} {o : Obj} (h : Bx w n x y) (hn : n < w.heap.size) : Bx (w.alloc o).drew.drew n x y :=
 have h' : Bx (w.alloc o) n x y := h.below ((Below.refl w.heap.size w).alloc (Nat.le_refl _) o) hn
 h'
theorem Bx.al {w : World} {n : Nat} {x y : Int} {o : Obj} (h : Bx w n x y) (hn : n < w.heap.size) : Bx (w.alloc o) n x y := h.below ((Below.refl w.heap.size w).alloc (Nat.le_refl _) o) hn
theorem below_dr2 {B : Nat} {w Z : World} {o : Obj} (h : Below B w Z) (hB : B <= Z.heap.size) : Below B w (Z.alloc o).drew.drew := below_dr (below_dr (h.alloc hB o))
theorem qBd {w : World} {a : Addr} {v : Value} : (w.setCell a v).heap.size = w.heap.size := by simp [World.setCell]

set_option maxHeartbeats 1600000 in
theorem rjoin_some (bk off cap : Nat) (ss : List (Int × Int)) (w : World) (hpos : 0 < ss.length) (hc : ss.length <= cap) (hm : cap <= 9223372036854775807) (hbk : bk < w.heap.size) (hwf : ∀ s ∈ ss, wfS s)
  (hat : ∀ k, k < ss.length -> AtS w bk (off + k * 2) (ss.getD k (0, 0))) :
  Calls Tryz.prog 66 #[.slice (some ⟨bk, off, none⟩) ss.length cap] w fun e w' => e = .returned (optV (if joinB ss = true then some (joinL ss) else none)) /\ Below w.heap.size w w' := by
 have HA : Hid (∀ k, k < ss.length -> AtS w bk (off + k * 2) (ss.getD k (0, 0))) := hat
 have HW : Hid (∀ s ∈ ss, wfS s) := hwf
 clear hat hwf
 obtain ⟨n, HN⟩ : ∃ n, Hid (n = ss.length) := ⟨_, rfl⟩
 rw [<- HN.out] at hc hpos ⊢
 obtain ⟨R, HR⟩ : ∃ R, Hid (R = if joinB ss = true then some (joinL ss) else none) := ⟨_, rfl⟩
 rw [<- HR.out]
 go_enter Tryz.func66, Tryz.ntmps66
 go_wp2
 go_loopw [5] (fun i wr => ∃ (k : Nat) (x X : Int), k <= n /\ i = .int .i64 k /\ Hid ((ss.take k).all okS = true /\ (k ≠ 0 -> x = loF (ss.take k) /\ X = hiF (ss.take k))) /\ Bx wr w.heap.size 0 0 /\ Bx wr (w.heap.size + 1) x X /\ Below w.heap.size w wr /\ w.heap.size + 1 < wr.heap.size) (fun i _ => n - (intOf i).toNat)
 case atStart => exact ⟨0, 0, 0, by omega, rfl, ⟨rfl, fun h => absurd rfl h⟩, ⟨⟨by go_cell, by go_cell⟩, by go_simp, by go_simp⟩, ⟨⟨by go_cell, by go_cell⟩, by go_simp, by go_simp⟩, by go_grown, by simp⟩
 case round =>
  obtain ⟨k, x, X, hk, rfl, HI, hB0, hB1, hbe, m1⟩ := hrel
  have m0 : w.heap.size < wr.heap.size := by omega
  have mb : bk < wr.heap.size := by omega
  obtain ⟨⟨c0, c1⟩, f0, f1⟩ := id hB0
  obtain ⟨⟨d0, d1⟩, g0, g1⟩ := id hB1
  have HB0 : Hid (Bx wr w.heap.size 0 0) := hB0
  have HB1 : Hid (Bx wr (w.heap.size + 1) x X) := hB1
  have hsz := hbe.size
  clear hB0 hB1
  by_cases hlt : k < n
  ·obtain ⟨y, Y, HS⟩ : ∃ y Y, Hid (ss.getD k (0, 0) = (y, Y)) := ⟨_, _, rfl⟩
   have hcell := (HA.out k (by have := HN.out; omega)).below hbe hbk
   rw [HS.out] at hcell
   obtain ⟨e0, e1⟩ := hcell
   simp only at e0 e1
   cases hr : decide (y <= Y)
   ·have HF : Hid (joinB ss = false) := okS_false (k := k) (by have := HN.out; omega) (by rw [HS.out]; exact hr)
    have HT : Hid _ := qAk (x := .int .u64 0) (y := .int .u64 0) c0 c1
    have HE : Hid (R = none) := by rw [HR.out, HF.out]; rfl
    go_wp2_with (go_at_call 90; go_must (refine (qAd _ _ _).mono ?_); rintro e w' ⟨rfl, rfl⟩)
    refine bodyPost_ret (v := optV none) ?_ rfl ⟨by rw [HE.out], (qAa (qAa hbe (by omega)) (by omega)).alloc (by simp [World.setCell]; omega) _⟩
    rw [results_cell_tmp rfl]
    simp [asAddr, Result.andThen]
    rw [qAb (a := 0) (A := 0)]
    ·rfl
    ·refine (World.cell?_alloc_past _ _ _ ?_).trans HT.out.1; simp [World.setCell]; omega
    ·refine (World.cell?_alloc_past _ _ _ ?_).trans HT.out.2; simp [World.setCell]; omega
   ·have HOK : Hid ((ss.take (k + 1)).all okS = true) := by
     show _ = _
     rw [okS_all_take (by have := HN.out; omega), HI.out.1, HS.out]; exact hr
    by_cases hk0 : k = 0
    ·have hk1 : ((k : Int) == 0) = true := by simp [hk0]
     have e0' : wr.cell? ⟨bk, off, none⟩ = some (.int .u64 y) := by simpa [hk0] using e0
     have e1' : wr.cell? ⟨bk, off + 1, none⟩ = some (.int .u64 Y) := by simpa [hk0] using e1
     have HL : Hid (loF (ss.take (k + 1)) = y /\ hiF (ss.take (k + 1)) = Y) := by
      have h := ends_one (ss := ss) (by have := HN.out; omega)
      have e := HS.out
      rw [hk0] at e ⊢
      rw [e] at h
      exact ⟨h.1, h.2.1⟩
     go_wp2_with (go_at_call 90; go_must (refine (qAd _ _ _).mono ?_); rintro e w' ⟨rfl, rfl⟩)
     go_region
     all_goals go_wp2
     all_goals go_region
     all_goals go_wp2
     ·go_roundw
      case rel => exact ⟨k + 1, y, Y, by omega, by first | go_num | exact congrArg _ (by omega), ⟨HOK.out, fun _ => ⟨by rw [HL.out.1], by rw [HL.out.2]⟩⟩, Bx.drew2 ((HB0.out.far (m := w.heap.size + 1) (by omega)).far (m := w.heap.size + 1) (by omega)) (by first | omega | (simp only [qBd]; omega)), Bx.drew2 ((HB1.out.set0 y).set1 Y) (by first | omega | (simp only [qBd]; omega)), below_dr2 (qAa (qAa hbe (by omega)) (by omega)) (by first | omega | (simp only [qBd]; omega)), by first | (simp; omega) | (simp [World.setCell]; omega)⟩
      case measure => simp [intOf]; omega
    ·have hk1 : ((k : Int) == 0) = false := by simp; omega
     have HL : Hid (loF (ss.take (k + 1)) = min (loF (ss.take k)) y /\ hiF (ss.take (k + 1)) = max (hiF (ss.take k)) Y) := by
      have h := loF_step (ss := ss) (k := k) (by have := HN.out; omega) hk0
      rw [HS.out] at h
      exact ⟨h.1, h.2.1⟩
     go_wp2_with (go_at_call 90; go_must (refine (qAd _ _ _).mono ?_); rintro e w' ⟨rfl, rfl⟩)
     by_cases hy : y < x <;> by_cases hY : X < Y
     all_goals go_region
     all_goals go_wp2
     all_goals go_region
     all_goals go_wp2
     ·go_roundw
      case rel => exact ⟨k + 1, y, Y, by omega, by go_num, ⟨HOK.out, fun _ => ⟨by rw [HL.out.1, <- (HI.out.2 hk0).1]; omega, by rw [HL.out.2, <- (HI.out.2 hk0).2]; omega⟩⟩, Bx.drew2 ((HB0.out.far (m := w.heap.size + 1) (by omega)).far (m := w.heap.size + 1) (by omega)) (by first | omega | (simp only [qBd]; omega)), Bx.drew2 ((HB1.out.set0 y).set1 Y) (by first | omega | (simp only [qBd]; omega)), below_dr2 (qAa (qAa hbe (by omega)) (by omega)) (by first | omega | (simp only [qBd]; omega)), by first | (simp; omega) | (simp [World.setCell]; omega)⟩
      case measure => simp [intOf]; omega
     ·go_roundw
      case rel => exact ⟨k + 1, y, X, by omega, by go_num, ⟨HOK.out, fun _ => ⟨by rw [HL.out.1, <- (HI.out.2 hk0).1]; omega, by rw [HL.out.2, <- (HI.out.2 hk0).2]; omega⟩⟩, Bx.drew2 (HB0.out.far (m := w.heap.size + 1) (by omega)) (by first | omega | (simp only [qBd]; omega)), Bx.drew2 (HB1.out.set0 y) (by first | omega | (simp only [qBd]; omega)), below_dr2 (qAa hbe (by omega)) (by first | omega | (simp only [qBd]; omega)), by first | (simp; omega) | (simp [World.setCell]; omega)⟩
      case measure => simp [intOf]; omega
     ·go_roundw
      case rel => exact ⟨k + 1, x, Y, by omega, by go_num, ⟨HOK.out, fun _ => ⟨by rw [HL.out.1, <- (HI.out.2 hk0).1]; omega, by rw [HL.out.2, <- (HI.out.2 hk0).2]; omega⟩⟩, Bx.drew2 (HB0.out.far (m := w.heap.size + 1) (by omega)) (by first | omega | (simp only [qBd]; omega)), Bx.drew2 (HB1.out.set1 Y) (by first | omega | (simp only [qBd]; omega)), below_dr2 (qAa hbe (by omega)) (by first | omega | (simp only [qBd]; omega)), by first | (simp; omega) | (simp [World.setCell]; omega)⟩
      case measure => simp [intOf]; omega
     ·go_roundw
      case rel => exact ⟨k + 1, x, X, by omega, by go_num, ⟨HOK.out, fun _ => ⟨by rw [HL.out.1, <- (HI.out.2 hk0).1]; omega, by rw [HL.out.2, <- (HI.out.2 hk0).2]; omega⟩⟩, Bx.drew2 HB0.out (by first | omega | (simp only [qBd]; omega)), Bx.drew2 HB1.out (by first | omega | (simp only [qBd]; omega)), below_dr2 hbe (by first | omega | (simp only [qBd]; omega)), by first | (simp; omega) | (simp [World.setCell]; omega)⟩
      case measure => simp [intOf]; omega
  ·obtain rfl : k = n := by omega
   have HE : Hid (R = some (x, X)) := by
    have hall := HI.out.1
    have h2 := HI.out.2 (by omega)
    rw [show ss.take k = ss by rw [HN.out]; exact List.take_length] at hall h2
    have hj : joinB ss = true := by
     unfold joinB
     rw [hall, Bool.and_true]
     cases ss with
     | nil => have := HN.out; simp at this; omega
     | cons s r => rfl
    show _ = _
    rw [HR.out, if_pos hj]
    unfold joinL
    rw [if_pos hj, <- h2.1, <- h2.2]
   have HT : Hid _ := qAk (x := .int .u64 x) (y := .int .u64 X) c0 c1
   have hgt : decide ((0 : Int) < (k : Int)) = true := decide_eq_true (by omega)
   go_wp2
   refine bodyPost_ret (v := optV (some (x, X))) ?_ rfl ⟨by rw [HE.out], qAa (qAa hbe (by omega)) (by omega)⟩
   rw [results_cell_tmp rfl]
   simp [asAddr, Result.andThen]
   rw [qAb HT.out.1 HT.out.2]
   rfl
theorem rjoin_none (a : Option Addr) (cap : Nat) (w : World) : Calls Tryz.prog 66 #[.slice a 0 cap] w fun e w' => e = .returned (optV none) /\ Below w.heap.size w w' := by
 go_enter Tryz.func66, Tryz.ntmps66
 go_wp2
 refine wp_loop_rounds 1 ?_
 rw [rounds_succ]
 go_wp2
 refine bodyPost_ret (v := optV none) ?_ rfl ⟨rfl, by go_grown⟩
 rw [results_cell_tmp rfl]
 simp [asAddr, Result.andThen]
 rw [qAb (a := 0) (A := 0)]
 ·rfl
 all_goals go_cell
theorem rjoin_any (v : Value) (ss : List (Int × Int)) (w : World) (hs : SeesS w v ss) (hwf : ∀ s ∈ ss, wfS s) :
  Calls Tryz.prog 66 #[v] w fun e w' => e = .returned (optV (if joinB ss = true then some (joinL ss) else none)) /\ Below w.heap.size w w' := by
 obtain ⟨a, cap, rfl, hl, hm, hn, hc⟩ := hs
 by_cases hne : ss = []
 ·subst hne
  exact rjoin_none a cap w
 ·obtain ⟨b, off, rfl, hb, hat⟩ := hc hne
  exact rjoin_some b off cap ss w (List.length_pos_iff.2 hne) hl (by unfold maxLen at hm; omega) hb hwf hat
def KDo : Prop := ∀ (op a A b B : Int) (w : World), W64 a -> W64 A -> W64 b -> W64 B -> Calls Tryz.prog 102 #[.int .i64 op, .agg #[.int .u64 a, .int .u64 A], .agg #[.int .u64 b, .int .u64 B]] w fun e w' => e = .returned (optV (doR op a A b B)) /\ Below w.heap.size w w'
def KRefine : Prop := ∀ (op a A b B : Int) (h : Bool) (w : World), W64 a -> W64 A -> W64 b -> W64 B -> Calls Tryz.prog 85 #[.int .i64 op, .agg #[.int .u64 a, .int .u64 A], .agg #[.int .u64 b, .int .u64 B], .bool h] w fun e w' => e = .returned (optV (refineR op a A b B h)) /\ Below w.heap.size w w'
theorem qAs (w : World) (t : TypeId) (x X y Y : Int) (k : Nat) (hk : k = w.heap.size) : SeesS (w.alloc (.cells #[.int .u64 x, .int .u64 X, .int .u64 y, .int .u64 Y] t)) (.slice (some ⟨k, 0, none⟩) 2 2) [(x, X), (y, Y)] := by
 subst hk
 exact SeesS.lit w t [(x, X), (y, Y)] _ 2 rfl rfl (by simp)
end Go.Proofs.YtkcofelpndlplaaGreat
