/-
  S6LWays
  S6LRaise
  S6LDoA
  S6LDoB
  S6LDo
-/
import Derived.Test.YtkondcjmhlppiaaGreatMW17
import Derived.Test.YtkondcjmhlppiaaGreatMW1
import Derived.Test.YtkondcjmhlppiaaGreatMW13
import Derived.Test.YtkondcjmhlppiaaGreatMW11
import Derived.Deep.RegionHeldLaw
namespace Go.Proofs.YtkondcjmhlppiaaGreat
open Go.RowKit
set_option linter.unusedVariables false
set_option maxRecDepth 20000
abbrev aggS (p : Int × Int) : Value := .agg #[.int .u64 p.1, .int .u64 p.2]
theorem bitLen_pow : ∀ (f x : Nat), x < f -> x < 18446744073709551616 -> x < 2 ^ Lib.bitLen x /\ (x ≠ 0 -> 2 ^ (Lib.bitLen x - 1) <= x /\ 0 < Lib.bitLen x) /\ (x = 0 -> Lib.bitLen x = 0)
 | 0, x, h, _ => absurd h (by omega)
 | f + 1, x, h, hx => by
  by_cases h0 : x = 0
  ·subst h0
   exact ⟨by decide, fun h => absurd rfl h, fun _ => by decide⟩
  ·obtain ⟨h1, h2, h3⟩ := bitLen_pow f (x / 2) (by omega) (by omega)
   have e := Lib.bitLen_half x h0 (by omega)
   refine ⟨?_, fun _ => ⟨?_, by omega⟩, fun h => absurd h h0⟩
   ·rw [e, Nat.add_comm, Nat.pow_succ]; omega
   ·rw [e, Nat.add_sub_cancel_left]
    by_cases hz : x / 2 = 0
    ·rw [h3 hz]; omega
    ·obtain ⟨g1, g2⟩ := h2 hz
     have : Lib.bitLen (x / 2) = Lib.bitLen (x / 2) - 1 + 1 := by omega
     rw [this, Nat.pow_succ]; omega
theorem bitLen_le {x : Nat} (hx : x < 18446744073709551616) : Lib.bitLen x <= 64 := by
 obtain ⟨h1, h2, h3⟩ := bitLen_pow (x + 1) x (by omega) hx
 by_cases h0 : x = 0
 ·rw [h3 h0]; omega
 ·obtain ⟨g1, g2⟩ := h2 h0
  rcases Nat.lt_or_ge 64 (Lib.bitLen x) with h | h
  ·have : 2 ^ 64 <= 2 ^ (Lib.bitLen x - 1) := Nat.pow_le_pow_right (by decide) (by omega)
   have e : (2 : Nat) ^ 64 = 18446744073709551616 := by decide
   omega
  ·exact h
theorem form_bits {n : Int} (h0 : 0 <= n) (h : n <= 18446744073709551615) : formL n = 2 ^ Lib.bitLen n.toNat - 1 := by
 obtain ⟨m, rfl⟩ := Int.eq_ofNat_of_zero_le h0
 rw [Int.toNat_natCast]
 obtain ⟨h1, h2, h3⟩ := bitLen_pow (m + 1) m (by omega) (by omega)
 refine form_eq h0 h (by rw [two_pow_int]; exact_mod_cast h1) fun hp => ?_
 rw [two_pow_int]
 by_cases hz : m = 0
 ·have := h3 hz; omega
 ·exact_mod_cast (h2 hz).1
theorem lones_any (a b : Int) (w : World) (ha : 0 <= a /\ a <= 18446744073709551615) (hb : 0 <= b /\ b <= 18446744073709551615) :
  Calls Tryz.prog 114 #[.int .u64 a, .int .u64 b] w fun e w' => e = .returned (.int .u64 (formL (max a b))) /\ w = w' := by
 obtain ⟨m, HM⟩ : ∃ m, Hid (m = max a b) := ⟨_, rfl⟩
 have hm : 0 <= m /\ m <= 18446744073709551615 := by have := HM.out; omega
 obtain ⟨k, HK⟩ : ∃ k, Hid (k = Lib.bitLen m.toNat) := ⟨_, rfl⟩
 have hk : k <= 64 := by rw [HK.out]; exact bitLen_le (by omega)
 have hki : (k : Int) <= 64 := by omega
 have HF : Hid (formL m = 2 ^ k - 1) := by rw [HK.out]; exact form_bits hm.1 hm.2
 have hp1 := pow_pos_int k
 have hp2 := pow_le64 hk
 have hfm : formL (max a b) = 2 ^ k - 1 := by rw [<- HM.out]; exact HF.out
 rw [hfm]
 go_enter Tryz.func114, Tryz.ntmps114
 go_wp2_with (go_at_call 118; go_must (rw [<- HM.out]; refine (Tryz.bits_Len64 m _ hm.1 hm.2).mono ?_); rintro e w' ⟨rfl, rfl⟩; go_must (rw [<- HK.out]))
 go_ret
 refine ⟨ret1 ?_, rfl⟩
 simp [IntKind.wrap_u64]
 omega
theorem third {w w1 : World} {o1 o2 : Obj} (hb1 : Below (((w.alloc o1).alloc o2).alloc (spO 0 0)).heap.size (((w.alloc o1).alloc o2).alloc (spO 0 0)) w1) : Bx w1 (w.heap.size + 1 + 1) 0 0 /\ Below w.heap.size w w1 /\ w.heap.size + 1 + 1 < w1.heap.size := by
 refine ⟨Bx.below ⟨⟨by go_cell, by go_cell⟩, by go_simp, by go_simp⟩ hb1 (by simp), boxS_below (boxS_below (boxS_below hb1)), Nat.lt_of_lt_of_le (by simp) hb1.size⟩
theorem lsum_any (a A b B : Int) (w : World) (ha : 0 <= a /\ a <= A /\ A <= 18446744073709551615) (hb : 0 <= b /\ b <= B /\ B <= 18446744073709551615) :
  Calls Tryz.prog 109 #[.agg #[.int .u64 a, .int .u64 A], .agg #[.int .u64 b, .int .u64 B]] w fun e w' => e = .returned (aggS (if 18446744073709551615 < A + B then (0, 18446744073709551615) else (a + b, A + B))) /\ Below w.heap.size w w' := by
 by_cases h : 18446744073709551615 < A + B
 ·rw [if_pos h]
  have e1 : (A + B) / 18446744073709551616 = 1 := by omega
  have HC : Hid (∀ w, (callFunc 116 #[.int .u64 A, .int .u64 B, .int .u64 0]).run Tryz.prog w = .ok (.value (.tuple #[.int .u64 ((A + B) % 18446744073709551616), .int .u64 1])) w) := fun w => by rw [add64_any A B (by omega) (by omega), e1]
  go_enter Tryz.func109, Tryz.ntmps109
  go_wp2_with (first | simp only [HC.out] | (go_at_call 82; go_must (refine (lfull_any _).mono ?_); rintro e w1 ⟨rfl, hb1⟩; go_must (obtain ⟨⟨⟨c0, c1⟩, f0, f1⟩, hbe, hz⟩ := third hb1; have HT : Hid _ := set_two (x := .int .u64 0) (y := .int .u64 18446744073709551615) c0 c1; clear hb1)))
  refine bodyPost_ret (v := aggS (0, 18446744073709551615)) ?_ rfl ⟨rfl, below_set (below_set hbe (by omega)) (by omega)⟩
  rw [results_cell rfl]
  simp [asAddr, Result.andThen]
  rw [run_boxS HT.out.1 HT.out.2]
 ·rw [if_neg h]
  have e1 : (A + B) / 18446744073709551616 = 0 := by omega
  have e2 : (A + B) % 18446744073709551616 = A + B := by omega
  have HC : Hid (∀ w, (callFunc 116 #[.int .u64 A, .int .u64 B, .int .u64 0]).run Tryz.prog w = .ok (.value (.tuple #[.int .u64 (A + B), .int .u64 0])) w) := fun w => by rw [add64_any A B (by omega) (by omega), e1, e2]
  go_enter Tryz.func109, Tryz.ntmps109
  go_wp2_with (first | simp only [HC.out])
  refine bodyPost_ret (v := aggS (a + b, A + B)) ?_ rfl ⟨rfl, by go_grown⟩
  rw [results_cell rfl]
  simp [asAddr, Result.andThen]
  rw [run_boxS (a := a + b) (A := A + B)]
  all_goals go_cell
theorem ldiff_any (a A b B : Int) (w : World) (ha : 0 <= a /\ a <= A /\ A <= 18446744073709551615) (hb : 0 <= b /\ b <= B /\ B <= 18446744073709551615) :
  Calls Tryz.prog 110 #[.agg #[.int .u64 a, .int .u64 A], .agg #[.int .u64 b, .int .u64 B]] w fun e w' => e = .returned (aggS (if a < B then (0, 18446744073709551615) else (a - B, A - b))) /\ Below w.heap.size w w' := by
 by_cases h : a < B
 ·rw [if_pos h]
  go_enter Tryz.func110, Tryz.ntmps110
  go_wp2_with ((go_at_call 82; go_must (refine (lfull_any _).mono ?_); rintro e w1 ⟨rfl, hb1⟩; go_must (obtain ⟨⟨⟨c0, c1⟩, f0, f1⟩, hbe, hz⟩ := third hb1; have HT : Hid _ := set_two (x := .int .u64 0) (y := .int .u64 18446744073709551615) c0 c1; clear hb1)))
  refine bodyPost_ret (v := aggS (0, 18446744073709551615)) ?_ rfl ⟨rfl, below_set (below_set hbe (by omega)) (by omega)⟩
  rw [results_cell rfl]
  simp [asAddr, Result.andThen]
  rw [run_boxS HT.out.1 HT.out.2]
 ·rw [if_neg h]
  go_enter Tryz.func110, Tryz.ntmps110
  go_wp2
  refine bodyPost_ret (v := aggS (a - B, A - b)) ?_ rfl ⟨rfl, by go_grown⟩
  rw [results_cell rfl]
  simp [asAddr, Result.andThen]
  rw [run_boxS (a := a - B) (A := A - b)]
  all_goals go_cell
theorem lprod_any (a A b B : Int) (w : World) (ha : 0 <= a /\ a <= A /\ A <= 18446744073709551615) (hb : 0 <= b /\ b <= B /\ B <= 18446744073709551615) :
  Calls Tryz.prog 111 #[.agg #[.int .u64 a, .int .u64 A], .agg #[.int .u64 b, .int .u64 B]] w fun e w' => e = .returned (aggS (if 18446744073709551615 < A * B then (0, 18446744073709551615) else (a * b, A * B))) /\ Below w.heap.size w w' := by
 obtain ⟨X, rfl⟩ := Int.eq_ofNat_of_zero_le (show 0 <= A by omega)
 obtain ⟨Y, rfl⟩ := Int.eq_ofNat_of_zero_le (show 0 <= B by omega)
 have hXY : ((X * Y : Nat) : Int) = (X : Int) * Y := by simp
 by_cases h : 18446744073709551615 < (X : Int) * Y
 ·rw [if_pos h]
  obtain ⟨q, HQ⟩ : ∃ q : Nat, Hid (X * Y / 18446744073709551616 = q) := ⟨_, rfl⟩
  have hq : 0 < q := by have := HQ.out; omega
  have hq0 : ((q : Int) == 0) = false := by simp; omega
  have HM : Hid (∀ w, Calls Tryz.prog 117 #[.int .u64 X, .int .u64 Y] w fun e w' => e = .returned (.tuple #[.int .u64 (q : Int), .int .u64 ((X * Y % 18446744073709551616 : Nat) : Int)]) /\ w' = w) := fun w => by rw [<- HQ.out]; exact Tryz.bits_Mul64 X Y (by omega) (by omega) w
  clear hXY h
  go_enter Tryz.func111, Tryz.ntmps111
  go_wp2_with (first | (go_at_call 117; go_must (refine (HM.out _).mono ?_); rintro e w' ⟨rfl, rfl⟩) | (go_at_call 82; go_must (refine (lfull_any _).mono ?_); rintro e w1 ⟨rfl, hb1⟩; go_must (obtain ⟨⟨⟨c0, c1⟩, f0, f1⟩, hbe, hz⟩ := third hb1; have HT : Hid _ := set_two (x := .int .u64 0) (y := .int .u64 18446744073709551615) c0 c1; clear hb1)))
  refine bodyPost_ret (v := aggS (0, 18446744073709551615)) ?_ rfl ⟨rfl, below_set (below_set hbe (by omega)) (by omega)⟩
  rw [results_cell rfl]
  simp [asAddr, Result.andThen]
  rw [run_boxS HT.out.1 HT.out.2]
 ·rw [if_neg h]
  have g1 : a * b <= (X : Int) * Y := Int.mul_le_mul ha.2.1 hb.2.1 hb.1 (by omega)
  have g0 : 0 <= a * b := Int.mul_nonneg ha.1 hb.1
  have e1 : X * Y / 18446744073709551616 = 0 := by omega
  have e2 : ((X * Y % 18446744073709551616 : Nat) : Int) = (X : Int) * Y := by omega
  obtain ⟨P, HP⟩ : ∃ P, Hid (P = (X : Int) * Y) := ⟨_, rfl⟩
  have hw : IntKind.u64.wrap (a * b) = a * b := wrap_in g0 (by omega)
  have HM : Hid (∀ w, Calls Tryz.prog 117 #[.int .u64 X, .int .u64 Y] w fun e w' => e = .returned (.tuple #[.int .u64 0, .int .u64 P]) /\ w' = w) := fun w => by
   have h1 := Tryz.bits_Mul64 X Y (by omega) (by omega) w
   rw [e1, e2, <- HP.out] at h1
   exact h1
  rw [<- HP.out]
  clear e1 e2 hXY h g1
  go_enter Tryz.func111, Tryz.ntmps111
  go_wp2_with (go_at_call 117; go_must (refine (HM.out _).mono ?_); rintro e w' ⟨rfl, rfl⟩)
  refine bodyPost_ret (v := aggS (a * b, P)) ?_ rfl ⟨rfl, by go_grown⟩
  rw [results_cell rfl]
  simp [asAddr, Result.andThen]
  rw [run_boxS (a := a * b) (A := P)]
  all_goals go_cell
theorem lquo_any (a A b B : Int) (w : World) (ha : 0 <= a /\ a <= A /\ A <= 18446744073709551615) (hb : 0 <= b /\ b <= B /\ B <= 18446744073709551615) :
  Calls Tryz.prog 112 #[.agg #[.int .u64 a, .int .u64 A], .agg #[.int .u64 b, .int .u64 B]] w fun e w' => e = .returned (aggS (if b = 0 then (0, A) else (a / B, A / b))) /\ Below w.heap.size w w' := by
 by_cases h : b = 0
 ·rw [if_pos h]
  subst h
  go_enter Tryz.func112, Tryz.ntmps112
  go_wp2
  refine bodyPost_ret (v := aggS (0, A)) ?_ rfl ⟨rfl, by go_grown⟩
  rw [results_cell rfl]
  simp [asAddr, Result.andThen]
  rw [run_boxS (a := 0) (A := A)]
  all_goals go_cell
 ·rw [if_neg h]
  have hb0 : (b == 0) = false := by simpa using h
  have hbn : b ≠ 0 := h
  have hBn : B ≠ 0 := by omega
  have hB0 : (B == 0) = false := by simpa using hBn
  go_enter Tryz.func112, Tryz.ntmps112
  go_wp2
  go_region
  go_wp2
  refine bodyPost_ret (v := aggS (a / B, A / b)) ?_ rfl ⟨rfl, by go_grown⟩
  rw [results_cell rfl]
  simp [asAddr, Result.andThen]
  rw [run_boxS (a := a / B) (A := A / b)]
  all_goals go_cell
theorem lrest_any (a A b B : Int) (w : World) (ha : 0 <= a /\ a <= A /\ A <= 18446744073709551615) (hb : 0 <= b /\ b <= B /\ B <= 18446744073709551615) :
  Calls Tryz.prog 113 #[.agg #[.int .u64 a, .int .u64 A], .agg #[.int .u64 b, .int .u64 B]] w fun e w' => e = .returned (aggS (if b = 0 then (0, A) else if A < b then (a, A) else (0, min A (B - 1)))) /\ Below w.heap.size w w' := by
 by_cases h : b = 0
 ·rw [if_pos h]
  subst h
  go_enter Tryz.func113, Tryz.ntmps113
  go_wp2
  refine bodyPost_ret (v := aggS (0, A)) ?_ rfl ⟨rfl, by go_grown⟩
  rw [results_cell rfl]
  simp [asAddr, Result.andThen]
  rw [run_boxS (a := 0) (A := A)]
  all_goals go_cell
 ·rw [if_neg h]
  have hb0 : (b == 0) = false := by simpa using h
  by_cases h2 : A < b
  ·rw [if_pos h2]
   go_enter Tryz.func113, Tryz.ntmps113
   go_wp2
   refine bodyPost_ret (v := aggS (a, A)) ?_ rfl ⟨rfl, by go_grown⟩
   rw [results_cell rfl]
   simp [asAddr, Result.andThen]
   rw [run_boxS (a := a) (A := A)]
   all_goals go_cell
  ·rw [if_neg h2]
   have hw : IntKind.u64.wrap (B - 1) = B - 1 := wrap_in (by omega) (by omega)
   obtain ⟨m, HM⟩ : ∃ m, Hid (min A (B - 1) = m) := ⟨_, rfl⟩
   rw [HM.out]
   go_enter Tryz.func113, Tryz.ntmps113
   go_wp2
   rw [HM.out]
   refine bodyPost_ret (v := aggS (0, m)) ?_ rfl ⟨rfl, by go_grown⟩
   rw [results_cell rfl]
   simp [asAddr, Result.andThen]
   rw [run_boxS (a := 0) (A := m)]
   all_goals go_cell
theorem sees_one (w : World) (t : TypeId) (x X : Int) (k : Nat) (hk : k = w.heap.size) : SeesS (w.alloc (.cells #[.int .u64 x, .int .u64 X] t)) (.slice (some ⟨k, 0, none⟩) 1 1) [(x, X)] := by
 subst hk
 exact SeesS.lit w t [(x, X)] _ 1 rfl rfl (by simp)
theorem lone_any {r : Bool} {x X : Int} (h : Hid (r = (x == X))) (v : Value) (w : World) (hs : SeesS w v [(x, X)]) : Calls Tryz.prog 101 #[v] w fun e w' => e = .returned (.bool r) /\ Below w.heap.size w w' := by
 have h1 := lallSingle_any v [(x, X)] w hs (by simp)
 rw [show [(x, X)].all oneS = r by rw [h.out]; simp [oneS]] at h1
 exact h1
theorem shift_fit {A P : Int} (hA : 0 <= A) (hP : 0 < P) (h : A * P <= 18446744073709551615) : IntKind.u64.wrap (A * P) = A * P /\ (IntKind.u64.wrap (A * P) / P != A) = false := by
 have h0 : 0 <= A * P := Int.mul_nonneg hA (by omega)
 have e := wrap_in h0 h
 refine ⟨e, ?_⟩
 rw [e, Int.mul_ediv_cancel _ (by omega)]
 simp
theorem shift_lost {A P : Int} (hA : 0 <= A) (hP : 0 < P) (h : ¬ A * P <= 18446744073709551615) : (IntKind.u64.wrap (A * P) / P != A) = true := by
 have h0 : IntKind.u64.wrap (A * P) < A * P := by rw [IntKind.wrap_u64]; omega
 have h1 : IntKind.u64.wrap (A * P) / P < A := Int.ediv_lt_of_lt_mul hP h0
 simp
 omega
theorem third4 {w w1 : World} {o1 o2 o4 : Obj} (hb1 : Below ((((w.alloc o1).alloc o2).alloc (spO 0 0)).alloc o4).heap.size ((((w.alloc o1).alloc o2).alloc (spO 0 0)).alloc o4) w1) : Bx w1 (w.heap.size + 1 + 1) 0 0 /\ Below w.heap.size w w1 /\ w.heap.size + 1 + 1 < w1.heap.size := by
 refine ⟨Bx.below ⟨⟨by go_cell, by go_cell⟩, by go_simp, by go_simp⟩ hb1 (by simp), boxS_below (boxS_below (boxS_below (boxS_below hb1))), Nat.lt_of_lt_of_le (by simp) hb1.size⟩
theorem first4 {w w1 : World} {o2 o3 o4 : Obj} {a A : Int} (hb1 : Below ((((w.alloc (spO a A)).alloc o2).alloc o3).alloc o4).heap.size ((((w.alloc (spO a A)).alloc o2).alloc o3).alloc o4) w1) : Bx w1 w.heap.size a A := by
 refine Bx.below ⟨⟨by go_cell, by go_cell⟩, by go_simp, by go_simp⟩ hb1 (by simp; omega)
theorem lraised_wide (a A b B : Int) (w : World) (hs : (b == B) = false) :
  Calls Tryz.prog 115 #[.agg #[.int .u64 a, .int .u64 A], .agg #[.int .u64 b, .int .u64 B]] w fun e w' => e = .returned (aggS (0, 18446744073709551615)) /\ Below w.heap.size w w' := by
 have HS : Hid (false = (b == B)) := hs.symm
 go_enter Tryz.func115, Tryz.ntmps115
 go_wp2_with (first
  | (go_at_call 101; go_must (refine (lone_any HS _ _ (sees_one _ _ b B _ (by simp))).mono ?_); rintro e w1 ⟨rfl, hb1⟩; go_must (obtain ⟨hB, hbe, hz⟩ := third4 hb1; have HB : Hid (Bx w1 (w.heap.size + 1 + 1) 0 0) := hB; clear hb1 hB))
  | (go_at_call 82; go_must (refine (lfull_any _).mono ?_); rintro e w2 ⟨rfl, hb2⟩; go_must (obtain ⟨⟨c0, c1⟩, f0, f1⟩ := HB.out.below hb2 hz; have hbe2 : Below w.heap.size w w2 := hbe.trans (hb2.mono hbe.size); have hz2 := Nat.lt_of_lt_of_le hz hb2.size; have HT : Hid _ := set_two (x := .int .u64 0) (y := .int .u64 18446744073709551615) c0 c1; clear hb2 hbe hz)))
 refine bodyPost_ret (v := aggS (0, 18446744073709551615)) ?_ rfl ⟨rfl, below_set (below_set hbe2 (by omega)) (by omega)⟩
 rw [results_cell rfl]
 simp [asAddr, Result.andThen]
 rw [run_boxS HT.out.1 HT.out.2]
theorem lraised_one (a A b : Int) (w : World) (ha : 0 <= a /\ a <= A /\ A <= 18446744073709551615) (hb : 0 <= b /\ b <= 18446744073709551615) :
  Calls Tryz.prog 115 #[.agg #[.int .u64 a, .int .u64 A], .agg #[.int .u64 b, .int .u64 b]] w fun e w' => e = .returned (aggS (if A * 2 ^ min b.toNat 64 <= 18446744073709551615 then (a * 2 ^ min b.toNat 64, A * 2 ^ min b.toNat 64) else (0, 18446744073709551615))) /\ Below w.heap.size w w' := by
 have HS : Hid (true = (b == b)) := by show _ = _; simp
 have hp := pow_pos_int (min b.toNat 64)
 by_cases h : A * 2 ^ min b.toNat 64 <= 18446744073709551615
 ·rw [if_pos h]
  obtain ⟨wA, hq⟩ := shift_fit (show 0 <= A by omega) hp h
  have h2 : a * 2 ^ min b.toNat 64 <= A * 2 ^ min b.toNat 64 := Int.mul_le_mul_of_nonneg_right ha.2.1 (by omega)
  obtain ⟨wa, _⟩ := shift_fit ha.1 hp (Int.le_trans h2 h)
  obtain ⟨x, HX⟩ : ∃ x, Hid (a * 2 ^ min b.toNat 64 = x) := ⟨_, rfl⟩
  obtain ⟨X, HXX⟩ : ∃ x, Hid (A * 2 ^ min b.toNat 64 = x) := ⟨_, rfl⟩
  have wa' : IntKind.u64.wrap (a * 2 ^ min b.toNat 64) = x := wa.trans HX.out
  have wA' : IntKind.u64.wrap (A * 2 ^ min b.toNat 64) = X := wA.trans HXX.out
  have hq' : (X / 2 ^ min b.toNat 64 != A) = false := by rw [<- wA']; exact hq
  rw [HX.out, HXX.out]
  clear wA wa hq h2 h hp
  go_enter Tryz.func115, Tryz.ntmps115
  go_wp2_with (first
   | (go_at_call 101; go_must (refine (lone_any HS _ _ (sees_one _ _ b b _ (by simp))).mono ?_); rintro e w1 ⟨rfl, hb1⟩; go_must (obtain ⟨hB, hbe, hz⟩ := third4 hb1; obtain ⟨⟨d0, d1⟩, g0, g1⟩ := first4 hb1; obtain ⟨⟨c0, c1⟩, f0, f1⟩ := hB; have HT : Hid _ := set_two (x := .int .u64 x) (y := .int .u64 X) c0 c1; clear hb1)))
  refine bodyPost_ret (v := aggS (x, X)) ?_ rfl ⟨rfl, below_set (below_set hbe (by omega)) (by omega)⟩
  rw [results_cell rfl]
  simp [asAddr, Result.andThen]
  rw [run_boxS HT.out.1 HT.out.2]
 ·rw [if_neg h]
  have hq := shift_lost (show 0 <= A by omega) hp h
  clear h hp
  go_enter Tryz.func115, Tryz.ntmps115
  go_wp2_with (first
   | (go_at_call 101; go_must (refine (lone_any HS _ _ (sees_one _ _ b b _ (by simp))).mono ?_); rintro e w1 ⟨rfl, hb1⟩; go_must (obtain ⟨hB, hbe, hz⟩ := third4 hb1; obtain ⟨⟨d0, d1⟩, g0, g1⟩ := first4 hb1; have HB : Hid (Bx w1 (w.heap.size + 1 + 1) 0 0) := hB; clear hb1 hB))
   | (go_at_call 82; go_must (refine (lfull_any _).mono ?_); rintro e w2 ⟨rfl, hb2⟩; go_must (obtain ⟨⟨c0, c1⟩, f0, f1⟩ := HB.out.below hb2 hz; have hbe2 : Below w.heap.size w w2 := hbe.trans (hb2.mono hbe.size); have hz2 := Nat.lt_of_lt_of_le hz hb2.size; have HT : Hid _ := set_two (x := .int .u64 0) (y := .int .u64 18446744073709551615) c0 c1; clear hb2 hbe hz d0 d1 g0 g1)))
  refine bodyPost_ret (v := aggS (0, 18446744073709551615)) ?_ rfl ⟨rfl, below_set (below_set hbe2 (by omega)) (by omega)⟩
  rw [results_cell rfl]
  simp [asAddr, Result.andThen]
  rw [run_boxS HT.out.1 HT.out.2]
theorem lraised_any (a A b B : Int) (w : World) (ha : 0 <= a /\ a <= A /\ A <= 18446744073709551615) (hb : 0 <= b /\ b <= B /\ B <= 18446744073709551615) :
  Calls Tryz.prog 115 #[.agg #[.int .u64 a, .int .u64 A], .agg #[.int .u64 b, .int .u64 B]] w fun e w' => e = .returned (aggS (if b = B /\ A * 2 ^ min b.toNat 64 <= 18446744073709551615 then (a * 2 ^ min b.toNat 64, A * 2 ^ min b.toNat 64) else (0, 18446744073709551615))) /\ Below w.heap.size w w' := by
 by_cases h : b = B
 ·subst h
  have h1 := lraised_one a A b w ha (by omega)

  simp only [true_and]
  exact h1
 ·rw [if_neg (fun h' => h h'.1)]
  exact lraised_wide a A b B w (by simpa using h)
theorem two_right {r : Bool} {x X y Y : Int} (h : Hid (r = (decide (x <= X) && decide (y <= Y)))) (v : Value) (w : World) (hs : SeesS w v [(x, X), (y, Y)]) : Calls Tryz.prog 98 #[v] w fun e w' => e = .returned (.bool r) /\ Below w.heap.size w w' := by
 have h1 := lallRight_any v [(x, X), (y, Y)] w hs (by simp)
 rw [show [(x, X), (y, Y)].all okS = r by rw [h.out]; simp [okS]] at h1
 exact h1
theorem two_one {r : Bool} {x X y Y : Int} (h : Hid (r = ((x == X) && (y == Y)))) (v : Value) (w : World) (hs : SeesS w v [(x, X), (y, Y)]) : Calls Tryz.prog 101 #[v] w fun e w' => e = .returned (.bool r) /\ Below w.heap.size w w' := by
 have h1 := lallSingle_any v [(x, X), (y, Y)] w hs (by simp)
 rw [show [(x, X), (y, Y)].all oneS = r by rw [h.out]; simp [oneS]] at h1
 exact h1
def B3 (w : World) (n : Nat) (a A b B : Int) : Prop := Bx w n a A /\ Bx w (n + 1) b B /\ Bx w (n + 1 + 1) 0 0 /\ n + 1 + 1 < w.heap.size
theorem b3_new (w : World) (a A b B : Int) : B3 (((w.alloc (spO a A)).alloc (spO b B)).alloc (spO 0 0)) w.heap.size a A b B :=
 ⟨⟨⟨by go_cell, by go_cell⟩, by go_simp, by go_simp⟩, ⟨⟨by go_cell, by go_cell⟩, by go_simp, by go_simp⟩, ⟨⟨by go_cell, by go_cell⟩, by go_simp, by go_simp⟩, by simp⟩
theorem B3.al {w : World} {n : Nat} {a A b B : Int} (h : B3 w n a A b B) (o : Obj) : B3 (w.alloc o) n a A b B :=
 ⟨h.1.al (by have := h.2.2.2; omega), h.2.1.al (by have := h.2.2.2; omega), h.2.2.1.al h.2.2.2, by have := h.2.2.2; simp; omega⟩
theorem B3.below {w w' : World} {n : Nat} {a A b B : Int} (h : B3 w n a A b B) (hb : Below w.heap.size w w') : B3 w' n a A b B :=
 ⟨h.1.below hb (by have := h.2.2.2; omega), h.2.1.below hb (by have := h.2.2.2; omega), h.2.2.1.below hb h.2.2.2, by have := h.2.2.2; have := hb.size; omega⟩
theorem B3.next {w w' : World} {n : Nat} {a A b B : Int} {o : Obj} (h : B3 w n a A b B) (hb : Below (w.alloc o).heap.size (w.alloc o) w') : B3 w' n a A b B := (h.al o).below hb
theorem grow4 {w w1 : World} {o1 o2 o3 o4 : Obj} (hb1 : Below ((((w.alloc o1).alloc o2).alloc o3).alloc o4).heap.size ((((w.alloc o1).alloc o2).alloc o3).alloc o4) w1) : Below w.heap.size w w1 := boxS_below (boxS_below (boxS_below (boxS_below hb1)))
theorem grow1 {B : Nat} {w w1 w2 : World} {o : Obj} (h : Below B w w1) (hB : B <= w1.heap.size) (hb : Below (w1.alloc o).heap.size (w1.alloc o) w2) : Below B w w2 := h.trans ((boxS_below hb).mono hB)

theorem ldo_no1 (op : Int) (a A b B n : Int) (w : World) (ha : 0 <= a /\ a <= 18446744073709551615) (hb : 0 <= b /\ b <= 18446744073709551615) (HO : Hid (false = isOp op)) (HN : Hid (n = doL op a b)) :
  Calls Tryz.prog 105 #[.int .i64 op, .agg #[.int .u64 a, .int .u64 A], .agg #[.int .u64 b, .int .u64 B]] w fun e w' => e = .returned (.tuple #[.agg #[.int .u64 0, .int .u64 0], .bool false]) /\ Below w.heap.size w w' := by
 go_enter Tryz.func105, Tryz.ntmps105
 go_wp2_with (first
  | (go_at_call 71; go_must (refine (do_as HN HO _ ha hb).mono ?_); rintro e w' ⟨rfl, rfl⟩))
 refine bodyPost_ret (v := .tuple #[.agg #[.int .u64 0, .int .u64 0], .bool false]) ?_ rfl ⟨rfl, by go_grown⟩
 rw [results_cell_tmp rfl]
 simp [asAddr, Result.andThen]
 rw [run_boxS (a := 0) (A := 0)]
 all_goals go_cell
theorem ldo_no2 (op : Int) (a A b B n : Int) (w : World) (ha : 0 <= a /\ a <= 18446744073709551615) (hb : 0 <= b /\ b <= 18446744073709551615) (HO : Hid (true = isOp op)) (HN : Hid (n = doL op a b)) (HR : Hid (false = (decide (a <= A) && decide (b <= B)))) :
  Calls Tryz.prog 105 #[.int .i64 op, .agg #[.int .u64 a, .int .u64 A], .agg #[.int .u64 b, .int .u64 B]] w fun e w' => e = .returned (.tuple #[.agg #[.int .u64 0, .int .u64 0], .bool false]) /\ Below w.heap.size w w' := by
 go_enter Tryz.func105, Tryz.ntmps105
 go_wp2_with (first
  | (go_at_call 71; go_must (refine (do_as HN HO _ ha hb).mono ?_); rintro e w' ⟨rfl, rfl⟩)
  | (go_at_call 98; go_must (refine (two_right HR _ _ (sees_two _ _ a A b B _ (by simp))).mono ?_); rintro e w1 ⟨rfl, hb1⟩; go_must (have H3 : Hid (B3 w1 w.heap.size a A b B) := (b3_new w a A b B).next hb1; obtain ⟨⟨⟨c0, c1⟩, _, _⟩, ⟨⟨d0, d1⟩, _, _⟩, ⟨⟨r0, r1⟩, f0, f1⟩, hz⟩ := H3.out; have hz1 : w.heap.size + 1 < w1.heap.size := (by omega); have hz0 : w.heap.size < w1.heap.size := (by omega); have hbe : Below w.heap.size w w1 := grow4 hb1; clear hb1; have HT : Hid _ := set_two (x := .int .u64 0) (y := .int .u64 0) r0 r1)))
 refine bodyPost_ret (v := .tuple #[.agg #[.int .u64 0, .int .u64 0], .bool false]) ?_ rfl ⟨rfl, below_set (below_set hbe (by omega)) (by omega)⟩
 rw [results_cell_tmp rfl]
 simp [asAddr, Result.andThen]
 rw [run_boxS HT.out.1 HT.out.2]
theorem ldo_one (op : Int) (a A b B n : Int) (w : World) (ha : 0 <= a /\ a <= 18446744073709551615) (hb : 0 <= b /\ b <= 18446744073709551615) (HO : Hid (true = isOp op)) (HN : Hid (n = doL op a b)) (HR : Hid (true = (decide (a <= A) && decide (b <= B)))) (HS : Hid (true = ((a == A) && (b == B)))) :
  Calls Tryz.prog 105 #[.int .i64 op, .agg #[.int .u64 a, .int .u64 A], .agg #[.int .u64 b, .int .u64 B]] w fun e w' => e = .returned (.tuple #[.agg #[.int .u64 n, .int .u64 n], .bool true]) /\ Below w.heap.size w w' := by
 go_enter Tryz.func105, Tryz.ntmps105
 go_wp2_with (first
  | (go_at_call 71; go_must (refine (do_as HN HO _ ha hb).mono ?_); rintro e w' ⟨rfl, rfl⟩)
  | (go_at_call 98; go_must (refine (two_right HR _ _ (sees_two _ _ a A b B _ (by simp))).mono ?_); rintro e w1 ⟨rfl, hb1⟩; go_must (have H3 : Hid (B3 w1 w.heap.size a A b B) := (b3_new w a A b B).next hb1; obtain ⟨⟨⟨c0, c1⟩, _, _⟩, ⟨⟨d0, d1⟩, _, _⟩, ⟨⟨r0, r1⟩, f0, f1⟩, hz⟩ := H3.out; have hz1 : w.heap.size + 1 < w1.heap.size := (by omega); have hz0 : w.heap.size < w1.heap.size := (by omega); have hbe : Below w.heap.size w w1 := grow4 hb1; clear hb1))
  | (go_at_call 101; go_must (refine (two_one HS _ _ (sees_two _ _ a A b B _ (by simp))).mono ?_); rintro e w2 ⟨rfl, hb2⟩; go_must (have H4 : Hid (B3 w2 w.heap.size a A b B) := H3.out.next hb2; have hbe2 : Below w.heap.size w w2 := grow1 hbe (by omega) hb2; clear hb2 hbe H3 c0 c1 d0 d1 r0 r1 f0 f1 hz hz0 hz1; obtain ⟨⟨⟨c0, c1⟩, _, _⟩, ⟨⟨d0, d1⟩, _, _⟩, ⟨⟨r0, r1⟩, f0, f1⟩, hz⟩ := H4.out; have hz1 : w.heap.size + 1 < w2.heap.size := (by omega); have hz0 : w.heap.size < w2.heap.size := (by omega)))
  | (go_at_call 83; go_must (refine (lsingle_any n _).mono ?_); rintro e w3 ⟨rfl, hb3⟩; go_must (have H5 : Hid (B3 w3 w.heap.size a A b B) := H4.out.below hb3; have hbe3 : Below w.heap.size w w3 := hbe2.trans (hb3.mono (by omega)); clear hb3 hbe2 H4 c0 c1 d0 d1 r0 r1 f0 f1 hz hz0 hz1; obtain ⟨⟨⟨c0, c1⟩, _, _⟩, ⟨⟨d0, d1⟩, _, _⟩, ⟨⟨r0, r1⟩, f0, f1⟩, hz⟩ := H5.out; have hz1 : w.heap.size + 1 < w3.heap.size := (by omega); have hz0 : w.heap.size < w3.heap.size := (by omega); have HT : Hid _ := set_two (x := .int .u64 n) (y := .int .u64 n) r0 r1)))
 refine bodyPost_ret (v := .tuple #[.agg #[.int .u64 n, .int .u64 n], .bool true]) ?_ rfl ⟨rfl, below_set (below_set hbe3 (by omega)) (by omega)⟩
 rw [results_cell_tmp rfl]
 simp [asAddr, Result.andThen]
 rw [run_boxS HT.out.1 HT.out.2]
theorem ldo_sum (a A b B n : Int) (w : World) (ha : 0 <= a /\ a <= 18446744073709551615) (hb : 0 <= b /\ b <= 18446744073709551615) (HO : Hid (true = isOp 1)) (HN : Hid (n = doL 1 a b)) (HR : Hid (true = (decide (a <= A) && decide (b <= B)))) (HS : Hid (false = ((a == A) && (b == B)))) (p q : Int) (HK : Hid (∀ w, Calls Tryz.prog 109 #[.agg #[.int .u64 a, .int .u64 A], .agg #[.int .u64 b, .int .u64 B]] w fun e w' => e = .returned (.agg #[.int .u64 p, .int .u64 q]) /\ Below w.heap.size w w')) :
  Calls Tryz.prog 105 #[.int .i64 1, .agg #[.int .u64 a, .int .u64 A], .agg #[.int .u64 b, .int .u64 B]] w fun e w' => e = .returned (.tuple #[.agg #[.int .u64 p, .int .u64 q], .bool true]) /\ Below w.heap.size w w' := by
 go_enter Tryz.func105, Tryz.ntmps105
 go_wp2_with (first
  | (go_at_call 71; go_must (refine (do_as HN HO _ ha hb).mono ?_); rintro e w' ⟨rfl, rfl⟩)
  | (go_at_call 98; go_must (refine (two_right HR _ _ (sees_two _ _ a A b B _ (by simp))).mono ?_); rintro e w1 ⟨rfl, hb1⟩; go_must (have H3 : Hid (B3 w1 w.heap.size a A b B) := (b3_new w a A b B).next hb1; obtain ⟨⟨⟨c0, c1⟩, _, _⟩, ⟨⟨d0, d1⟩, _, _⟩, ⟨⟨r0, r1⟩, f0, f1⟩, hz⟩ := H3.out; have hz1 : w.heap.size + 1 < w1.heap.size := (by omega); have hz0 : w.heap.size < w1.heap.size := (by omega); have hbe : Below w.heap.size w w1 := grow4 hb1; clear hb1))
  | (go_at_call 101; go_must (refine (two_one HS _ _ (sees_two _ _ a A b B _ (by simp))).mono ?_); rintro e w2 ⟨rfl, hb2⟩; go_must (have H4 : Hid (B3 w2 w.heap.size a A b B) := H3.out.next hb2; have hbe2 : Below w.heap.size w w2 := grow1 hbe (by omega) hb2; clear hb2 hbe H3 c0 c1 d0 d1 r0 r1 f0 f1 hz hz0 hz1; obtain ⟨⟨⟨c0, c1⟩, _, _⟩, ⟨⟨d0, d1⟩, _, _⟩, ⟨⟨r0, r1⟩, f0, f1⟩, hz⟩ := H4.out; have hz1 : w.heap.size + 1 < w2.heap.size := (by omega); have hz0 : w.heap.size < w2.heap.size := (by omega)))
  | (go_at_call 109; go_must (refine (HK.out _).mono ?_); rintro e w3 ⟨rfl, hb3⟩; go_must (have H5 : Hid (B3 w3 w.heap.size a A b B) := H4.out.below hb3; have hbe3 : Below w.heap.size w w3 := hbe2.trans (hb3.mono (by omega)); clear hb3 hbe2 H4 c0 c1 d0 d1 r0 r1 f0 f1 hz hz0 hz1; obtain ⟨⟨⟨c0, c1⟩, _, _⟩, ⟨⟨d0, d1⟩, _, _⟩, ⟨⟨r0, r1⟩, f0, f1⟩, hz⟩ := H5.out; have hz1 : w.heap.size + 1 < w3.heap.size := (by omega); have hz0 : w.heap.size < w3.heap.size := (by omega); have HT : Hid _ := set_two (x := .int .u64 p) (y := .int .u64 q) r0 r1)))
 refine bodyPost_ret (v := .tuple #[.agg #[.int .u64 p, .int .u64 q], .bool true]) ?_ rfl ⟨rfl, below_set (below_set hbe3 (by omega)) (by omega)⟩
 rw [results_cell_tmp rfl]
 simp [asAddr, Result.andThen]
 rw [run_boxS HT.out.1 HT.out.2]
theorem ldo_difference (a A b B n : Int) (w : World) (ha : 0 <= a /\ a <= 18446744073709551615) (hb : 0 <= b /\ b <= 18446744073709551615) (HO : Hid (true = isOp 2)) (HN : Hid (n = doL 2 a b)) (HR : Hid (true = (decide (a <= A) && decide (b <= B)))) (HS : Hid (false = ((a == A) && (b == B)))) (p q : Int) (HK : Hid (∀ w, Calls Tryz.prog 110 #[.agg #[.int .u64 a, .int .u64 A], .agg #[.int .u64 b, .int .u64 B]] w fun e w' => e = .returned (.agg #[.int .u64 p, .int .u64 q]) /\ Below w.heap.size w w')) :
  Calls Tryz.prog 105 #[.int .i64 2, .agg #[.int .u64 a, .int .u64 A], .agg #[.int .u64 b, .int .u64 B]] w fun e w' => e = .returned (.tuple #[.agg #[.int .u64 p, .int .u64 q], .bool true]) /\ Below w.heap.size w w' := by
 go_enter Tryz.func105, Tryz.ntmps105
 go_wp2_with (first
  | (go_at_call 71; go_must (refine (do_as HN HO _ ha hb).mono ?_); rintro e w' ⟨rfl, rfl⟩)
  | (go_at_call 98; go_must (refine (two_right HR _ _ (sees_two _ _ a A b B _ (by simp))).mono ?_); rintro e w1 ⟨rfl, hb1⟩; go_must (have H3 : Hid (B3 w1 w.heap.size a A b B) := (b3_new w a A b B).next hb1; obtain ⟨⟨⟨c0, c1⟩, _, _⟩, ⟨⟨d0, d1⟩, _, _⟩, ⟨⟨r0, r1⟩, f0, f1⟩, hz⟩ := H3.out; have hz1 : w.heap.size + 1 < w1.heap.size := (by omega); have hz0 : w.heap.size < w1.heap.size := (by omega); have hbe : Below w.heap.size w w1 := grow4 hb1; clear hb1))
  | (go_at_call 101; go_must (refine (two_one HS _ _ (sees_two _ _ a A b B _ (by simp))).mono ?_); rintro e w2 ⟨rfl, hb2⟩; go_must (have H4 : Hid (B3 w2 w.heap.size a A b B) := H3.out.next hb2; have hbe2 : Below w.heap.size w w2 := grow1 hbe (by omega) hb2; clear hb2 hbe H3 c0 c1 d0 d1 r0 r1 f0 f1 hz hz0 hz1; obtain ⟨⟨⟨c0, c1⟩, _, _⟩, ⟨⟨d0, d1⟩, _, _⟩, ⟨⟨r0, r1⟩, f0, f1⟩, hz⟩ := H4.out; have hz1 : w.heap.size + 1 < w2.heap.size := (by omega); have hz0 : w.heap.size < w2.heap.size := (by omega)))
  | (go_at_call 110; go_must (refine (HK.out _).mono ?_); rintro e w3 ⟨rfl, hb3⟩; go_must (have H5 : Hid (B3 w3 w.heap.size a A b B) := H4.out.below hb3; have hbe3 : Below w.heap.size w w3 := hbe2.trans (hb3.mono (by omega)); clear hb3 hbe2 H4 c0 c1 d0 d1 r0 r1 f0 f1 hz hz0 hz1; obtain ⟨⟨⟨c0, c1⟩, _, _⟩, ⟨⟨d0, d1⟩, _, _⟩, ⟨⟨r0, r1⟩, f0, f1⟩, hz⟩ := H5.out; have hz1 : w.heap.size + 1 < w3.heap.size := (by omega); have hz0 : w.heap.size < w3.heap.size := (by omega); have HT : Hid _ := set_two (x := .int .u64 p) (y := .int .u64 q) r0 r1)))
 refine bodyPost_ret (v := .tuple #[.agg #[.int .u64 p, .int .u64 q], .bool true]) ?_ rfl ⟨rfl, below_set (below_set hbe3 (by omega)) (by omega)⟩
 rw [results_cell_tmp rfl]
 simp [asAddr, Result.andThen]
 rw [run_boxS HT.out.1 HT.out.2]
theorem ldo_product (a A b B n : Int) (w : World) (ha : 0 <= a /\ a <= 18446744073709551615) (hb : 0 <= b /\ b <= 18446744073709551615) (HO : Hid (true = isOp 3)) (HN : Hid (n = doL 3 a b)) (HR : Hid (true = (decide (a <= A) && decide (b <= B)))) (HS : Hid (false = ((a == A) && (b == B)))) (p q : Int) (HK : Hid (∀ w, Calls Tryz.prog 111 #[.agg #[.int .u64 a, .int .u64 A], .agg #[.int .u64 b, .int .u64 B]] w fun e w' => e = .returned (.agg #[.int .u64 p, .int .u64 q]) /\ Below w.heap.size w w')) :
  Calls Tryz.prog 105 #[.int .i64 3, .agg #[.int .u64 a, .int .u64 A], .agg #[.int .u64 b, .int .u64 B]] w fun e w' => e = .returned (.tuple #[.agg #[.int .u64 p, .int .u64 q], .bool true]) /\ Below w.heap.size w w' := by
 go_enter Tryz.func105, Tryz.ntmps105
 go_wp2_with (first
  | (go_at_call 71; go_must (refine (do_as HN HO _ ha hb).mono ?_); rintro e w' ⟨rfl, rfl⟩)
  | (go_at_call 98; go_must (refine (two_right HR _ _ (sees_two _ _ a A b B _ (by simp))).mono ?_); rintro e w1 ⟨rfl, hb1⟩; go_must (have H3 : Hid (B3 w1 w.heap.size a A b B) := (b3_new w a A b B).next hb1; obtain ⟨⟨⟨c0, c1⟩, _, _⟩, ⟨⟨d0, d1⟩, _, _⟩, ⟨⟨r0, r1⟩, f0, f1⟩, hz⟩ := H3.out; have hz1 : w.heap.size + 1 < w1.heap.size := (by omega); have hz0 : w.heap.size < w1.heap.size := (by omega); have hbe : Below w.heap.size w w1 := grow4 hb1; clear hb1))
  | (go_at_call 101; go_must (refine (two_one HS _ _ (sees_two _ _ a A b B _ (by simp))).mono ?_); rintro e w2 ⟨rfl, hb2⟩; go_must (have H4 : Hid (B3 w2 w.heap.size a A b B) := H3.out.next hb2; have hbe2 : Below w.heap.size w w2 := grow1 hbe (by omega) hb2; clear hb2 hbe H3 c0 c1 d0 d1 r0 r1 f0 f1 hz hz0 hz1; obtain ⟨⟨⟨c0, c1⟩, _, _⟩, ⟨⟨d0, d1⟩, _, _⟩, ⟨⟨r0, r1⟩, f0, f1⟩, hz⟩ := H4.out; have hz1 : w.heap.size + 1 < w2.heap.size := (by omega); have hz0 : w.heap.size < w2.heap.size := (by omega)))
  | (go_at_call 111; go_must (refine (HK.out _).mono ?_); rintro e w3 ⟨rfl, hb3⟩; go_must (have H5 : Hid (B3 w3 w.heap.size a A b B) := H4.out.below hb3; have hbe3 : Below w.heap.size w w3 := hbe2.trans (hb3.mono (by omega)); clear hb3 hbe2 H4 c0 c1 d0 d1 r0 r1 f0 f1 hz hz0 hz1; obtain ⟨⟨⟨c0, c1⟩, _, _⟩, ⟨⟨d0, d1⟩, _, _⟩, ⟨⟨r0, r1⟩, f0, f1⟩, hz⟩ := H5.out; have hz1 : w.heap.size + 1 < w3.heap.size := (by omega); have hz0 : w.heap.size < w3.heap.size := (by omega); have HT : Hid _ := set_two (x := .int .u64 p) (y := .int .u64 q) r0 r1)))
 refine bodyPost_ret (v := .tuple #[.agg #[.int .u64 p, .int .u64 q], .bool true]) ?_ rfl ⟨rfl, below_set (below_set hbe3 (by omega)) (by omega)⟩
 rw [results_cell_tmp rfl]
 simp [asAddr, Result.andThen]
 rw [run_boxS HT.out.1 HT.out.2]
theorem ldo_quotient (a A b B n : Int) (w : World) (ha : 0 <= a /\ a <= 18446744073709551615) (hb : 0 <= b /\ b <= 18446744073709551615) (HO : Hid (true = isOp 4)) (HN : Hid (n = doL 4 a b)) (HR : Hid (true = (decide (a <= A) && decide (b <= B)))) (HS : Hid (false = ((a == A) && (b == B)))) (p q : Int) (HK : Hid (∀ w, Calls Tryz.prog 112 #[.agg #[.int .u64 a, .int .u64 A], .agg #[.int .u64 b, .int .u64 B]] w fun e w' => e = .returned (.agg #[.int .u64 p, .int .u64 q]) /\ Below w.heap.size w w')) :
  Calls Tryz.prog 105 #[.int .i64 4, .agg #[.int .u64 a, .int .u64 A], .agg #[.int .u64 b, .int .u64 B]] w fun e w' => e = .returned (.tuple #[.agg #[.int .u64 p, .int .u64 q], .bool true]) /\ Below w.heap.size w w' := by
 go_enter Tryz.func105, Tryz.ntmps105
 go_wp2_with (first
  | (go_at_call 71; go_must (refine (do_as HN HO _ ha hb).mono ?_); rintro e w' ⟨rfl, rfl⟩)
  | (go_at_call 98; go_must (refine (two_right HR _ _ (sees_two _ _ a A b B _ (by simp))).mono ?_); rintro e w1 ⟨rfl, hb1⟩; go_must (have H3 : Hid (B3 w1 w.heap.size a A b B) := (b3_new w a A b B).next hb1; obtain ⟨⟨⟨c0, c1⟩, _, _⟩, ⟨⟨d0, d1⟩, _, _⟩, ⟨⟨r0, r1⟩, f0, f1⟩, hz⟩ := H3.out; have hz1 : w.heap.size + 1 < w1.heap.size := (by omega); have hz0 : w.heap.size < w1.heap.size := (by omega); have hbe : Below w.heap.size w w1 := grow4 hb1; clear hb1))
  | (go_at_call 101; go_must (refine (two_one HS _ _ (sees_two _ _ a A b B _ (by simp))).mono ?_); rintro e w2 ⟨rfl, hb2⟩; go_must (have H4 : Hid (B3 w2 w.heap.size a A b B) := H3.out.next hb2; have hbe2 : Below w.heap.size w w2 := grow1 hbe (by omega) hb2; clear hb2 hbe H3 c0 c1 d0 d1 r0 r1 f0 f1 hz hz0 hz1; obtain ⟨⟨⟨c0, c1⟩, _, _⟩, ⟨⟨d0, d1⟩, _, _⟩, ⟨⟨r0, r1⟩, f0, f1⟩, hz⟩ := H4.out; have hz1 : w.heap.size + 1 < w2.heap.size := (by omega); have hz0 : w.heap.size < w2.heap.size := (by omega)))
  | (go_at_call 112; go_must (refine (HK.out _).mono ?_); rintro e w3 ⟨rfl, hb3⟩; go_must (have H5 : Hid (B3 w3 w.heap.size a A b B) := H4.out.below hb3; have hbe3 : Below w.heap.size w w3 := hbe2.trans (hb3.mono (by omega)); clear hb3 hbe2 H4 c0 c1 d0 d1 r0 r1 f0 f1 hz hz0 hz1; obtain ⟨⟨⟨c0, c1⟩, _, _⟩, ⟨⟨d0, d1⟩, _, _⟩, ⟨⟨r0, r1⟩, f0, f1⟩, hz⟩ := H5.out; have hz1 : w.heap.size + 1 < w3.heap.size := (by omega); have hz0 : w.heap.size < w3.heap.size := (by omega); have HT : Hid _ := set_two (x := .int .u64 p) (y := .int .u64 q) r0 r1)))
 refine bodyPost_ret (v := .tuple #[.agg #[.int .u64 p, .int .u64 q], .bool true]) ?_ rfl ⟨rfl, below_set (below_set hbe3 (by omega)) (by omega)⟩
 rw [results_cell_tmp rfl]
 simp [asAddr, Result.andThen]
 rw [run_boxS HT.out.1 HT.out.2]
theorem ldo_rest (a A b B n : Int) (w : World) (ha : 0 <= a /\ a <= 18446744073709551615) (hb : 0 <= b /\ b <= 18446744073709551615) (HO : Hid (true = isOp 5)) (HN : Hid (n = doL 5 a b)) (HR : Hid (true = (decide (a <= A) && decide (b <= B)))) (HS : Hid (false = ((a == A) && (b == B)))) (p q : Int) (HK : Hid (∀ w, Calls Tryz.prog 113 #[.agg #[.int .u64 a, .int .u64 A], .agg #[.int .u64 b, .int .u64 B]] w fun e w' => e = .returned (.agg #[.int .u64 p, .int .u64 q]) /\ Below w.heap.size w w')) :
  Calls Tryz.prog 105 #[.int .i64 5, .agg #[.int .u64 a, .int .u64 A], .agg #[.int .u64 b, .int .u64 B]] w fun e w' => e = .returned (.tuple #[.agg #[.int .u64 p, .int .u64 q], .bool true]) /\ Below w.heap.size w w' := by
 go_enter Tryz.func105, Tryz.ntmps105
 go_wp2_with (first
  | (go_at_call 71; go_must (refine (do_as HN HO _ ha hb).mono ?_); rintro e w' ⟨rfl, rfl⟩)
  | (go_at_call 98; go_must (refine (two_right HR _ _ (sees_two _ _ a A b B _ (by simp))).mono ?_); rintro e w1 ⟨rfl, hb1⟩; go_must (have H3 : Hid (B3 w1 w.heap.size a A b B) := (b3_new w a A b B).next hb1; obtain ⟨⟨⟨c0, c1⟩, _, _⟩, ⟨⟨d0, d1⟩, _, _⟩, ⟨⟨r0, r1⟩, f0, f1⟩, hz⟩ := H3.out; have hz1 : w.heap.size + 1 < w1.heap.size := (by omega); have hz0 : w.heap.size < w1.heap.size := (by omega); have hbe : Below w.heap.size w w1 := grow4 hb1; clear hb1))
  | (go_at_call 101; go_must (refine (two_one HS _ _ (sees_two _ _ a A b B _ (by simp))).mono ?_); rintro e w2 ⟨rfl, hb2⟩; go_must (have H4 : Hid (B3 w2 w.heap.size a A b B) := H3.out.next hb2; have hbe2 : Below w.heap.size w w2 := grow1 hbe (by omega) hb2; clear hb2 hbe H3 c0 c1 d0 d1 r0 r1 f0 f1 hz hz0 hz1; obtain ⟨⟨⟨c0, c1⟩, _, _⟩, ⟨⟨d0, d1⟩, _, _⟩, ⟨⟨r0, r1⟩, f0, f1⟩, hz⟩ := H4.out; have hz1 : w.heap.size + 1 < w2.heap.size := (by omega); have hz0 : w.heap.size < w2.heap.size := (by omega)))
  | (go_at_call 113; go_must (refine (HK.out _).mono ?_); rintro e w3 ⟨rfl, hb3⟩; go_must (have H5 : Hid (B3 w3 w.heap.size a A b B) := H4.out.below hb3; have hbe3 : Below w.heap.size w w3 := hbe2.trans (hb3.mono (by omega)); clear hb3 hbe2 H4 c0 c1 d0 d1 r0 r1 f0 f1 hz hz0 hz1; obtain ⟨⟨⟨c0, c1⟩, _, _⟩, ⟨⟨d0, d1⟩, _, _⟩, ⟨⟨r0, r1⟩, f0, f1⟩, hz⟩ := H5.out; have hz1 : w.heap.size + 1 < w3.heap.size := (by omega); have hz0 : w.heap.size < w3.heap.size := (by omega); have HT : Hid _ := set_two (x := .int .u64 p) (y := .int .u64 q) r0 r1)))
 refine bodyPost_ret (v := .tuple #[.agg #[.int .u64 p, .int .u64 q], .bool true]) ?_ rfl ⟨rfl, below_set (below_set hbe3 (by omega)) (by omega)⟩
 rw [results_cell_tmp rfl]
 simp [asAddr, Result.andThen]
 rw [run_boxS HT.out.1 HT.out.2]
theorem ldo_raised (a A b B n : Int) (w : World) (ha : 0 <= a /\ a <= 18446744073709551615) (hb : 0 <= b /\ b <= 18446744073709551615) (HO : Hid (true = isOp 9)) (HN : Hid (n = doL 9 a b)) (HR : Hid (true = (decide (a <= A) && decide (b <= B)))) (HS : Hid (false = ((a == A) && (b == B)))) (p q : Int) (HK : Hid (∀ w, Calls Tryz.prog 115 #[.agg #[.int .u64 a, .int .u64 A], .agg #[.int .u64 b, .int .u64 B]] w fun e w' => e = .returned (.agg #[.int .u64 p, .int .u64 q]) /\ Below w.heap.size w w')) :
  Calls Tryz.prog 105 #[.int .i64 9, .agg #[.int .u64 a, .int .u64 A], .agg #[.int .u64 b, .int .u64 B]] w fun e w' => e = .returned (.tuple #[.agg #[.int .u64 p, .int .u64 q], .bool true]) /\ Below w.heap.size w w' := by
 go_enter Tryz.func105, Tryz.ntmps105
 go_wp2_with (first
  | (go_at_call 71; go_must (refine (do_as HN HO _ ha hb).mono ?_); rintro e w' ⟨rfl, rfl⟩)
  | (go_at_call 98; go_must (refine (two_right HR _ _ (sees_two _ _ a A b B _ (by simp))).mono ?_); rintro e w1 ⟨rfl, hb1⟩; go_must (have H3 : Hid (B3 w1 w.heap.size a A b B) := (b3_new w a A b B).next hb1; obtain ⟨⟨⟨c0, c1⟩, _, _⟩, ⟨⟨d0, d1⟩, _, _⟩, ⟨⟨r0, r1⟩, f0, f1⟩, hz⟩ := H3.out; have hz1 : w.heap.size + 1 < w1.heap.size := (by omega); have hz0 : w.heap.size < w1.heap.size := (by omega); have hbe : Below w.heap.size w w1 := grow4 hb1; clear hb1))
  | (go_at_call 101; go_must (refine (two_one HS _ _ (sees_two _ _ a A b B _ (by simp))).mono ?_); rintro e w2 ⟨rfl, hb2⟩; go_must (have H4 : Hid (B3 w2 w.heap.size a A b B) := H3.out.next hb2; have hbe2 : Below w.heap.size w w2 := grow1 hbe (by omega) hb2; clear hb2 hbe H3 c0 c1 d0 d1 r0 r1 f0 f1 hz hz0 hz1; obtain ⟨⟨⟨c0, c1⟩, _, _⟩, ⟨⟨d0, d1⟩, _, _⟩, ⟨⟨r0, r1⟩, f0, f1⟩, hz⟩ := H4.out; have hz1 : w.heap.size + 1 < w2.heap.size := (by omega); have hz0 : w.heap.size < w2.heap.size := (by omega)))
  | (go_at_call 115; go_must (refine (HK.out _).mono ?_); rintro e w3 ⟨rfl, hb3⟩; go_must (have H5 : Hid (B3 w3 w.heap.size a A b B) := H4.out.below hb3; have hbe3 : Below w.heap.size w w3 := hbe2.trans (hb3.mono (by omega)); clear hb3 hbe2 H4 c0 c1 d0 d1 r0 r1 f0 f1 hz hz0 hz1; obtain ⟨⟨⟨c0, c1⟩, _, _⟩, ⟨⟨d0, d1⟩, _, _⟩, ⟨⟨r0, r1⟩, f0, f1⟩, hz⟩ := H5.out; have hz1 : w.heap.size + 1 < w3.heap.size := (by omega); have hz0 : w.heap.size < w3.heap.size := (by omega); have HT : Hid _ := set_two (x := .int .u64 p) (y := .int .u64 q) r0 r1)))
 refine bodyPost_ret (v := .tuple #[.agg #[.int .u64 p, .int .u64 q], .bool true]) ?_ rfl ⟨rfl, below_set (below_set hbe3 (by omega)) (by omega)⟩
 rw [results_cell_tmp rfl]
 simp [asAddr, Result.andThen]
 rw [run_boxS HT.out.1 HT.out.2]
theorem ldo_and (a A b B n : Int) (w : World) (ha : 0 <= a /\ a <= 18446744073709551615) (hb : 0 <= b /\ b <= 18446744073709551615) (HO : Hid (true = isOp 6)) (HN : Hid (n = doL 6 a b)) (HR : Hid (true = (decide (a <= A) && decide (b <= B)))) (HS : Hid (false = ((a == A) && (b == B)))) :
  Calls Tryz.prog 105 #[.int .i64 6, .agg #[.int .u64 a, .int .u64 A], .agg #[.int .u64 b, .int .u64 B]] w fun e w' => e = .returned (.tuple #[.agg #[.int .u64 0, .int .u64 (min A B)], .bool true]) /\ Below w.heap.size w w' := by
 obtain ⟨m, hm⟩ : ∃ m, min A B = m := ⟨_, rfl⟩
 rw [hm]
 go_enter Tryz.func105, Tryz.ntmps105
 go_wp2_with (first
  | (go_at_call 71; go_must (refine (do_as HN HO _ ha hb).mono ?_); rintro e w' ⟨rfl, rfl⟩)
  | (go_at_call 98; go_must (refine (two_right HR _ _ (sees_two _ _ a A b B _ (by simp))).mono ?_); rintro e w1 ⟨rfl, hb1⟩; go_must (have H3 : Hid (B3 w1 w.heap.size a A b B) := (b3_new w a A b B).next hb1; obtain ⟨⟨⟨c0, c1⟩, _, _⟩, ⟨⟨d0, d1⟩, _, _⟩, ⟨⟨r0, r1⟩, f0, f1⟩, hz⟩ := H3.out; have hz1 : w.heap.size + 1 < w1.heap.size := (by omega); have hz0 : w.heap.size < w1.heap.size := (by omega); have hbe : Below w.heap.size w w1 := grow4 hb1; clear hb1))
  | (go_at_call 101; go_must (refine (two_one HS _ _ (sees_two _ _ a A b B _ (by simp))).mono ?_); rintro e w2 ⟨rfl, hb2⟩; go_must (have H4 : Hid (B3 w2 w.heap.size a A b B) := H3.out.next hb2; have hbe2 : Below w.heap.size w w2 := grow1 hbe (by omega) hb2; clear hb2 hbe H3 c0 c1 d0 d1 r0 r1 f0 f1 hz hz0 hz1; obtain ⟨⟨⟨c0, c1⟩, _, _⟩, ⟨⟨d0, d1⟩, _, _⟩, ⟨⟨r0, r1⟩, f0, f1⟩, hz⟩ := H4.out; have hz1 : w.heap.size + 1 < w2.heap.size := (by omega); have hz0 : w.heap.size < w2.heap.size := (by omega); have HT : Hid _ := set_two (x := .int .u64 0) (y := .int .u64 m) r0 r1)))
 refine bodyPost_ret (v := .tuple #[.agg #[.int .u64 0, .int .u64 m], .bool true]) ?_ rfl ⟨rfl, below_set (below_set hbe2 (by omega)) (by omega)⟩
 rw [results_cell_tmp rfl]
 simp [asAddr, Result.andThen]
 rw [run_boxS HT.out.1 HT.out.2]
theorem ldo_xor (a A b B n : Int) (w : World) (ha : 0 <= a /\ a <= 18446744073709551615) (hb : 0 <= b /\ b <= 18446744073709551615) (HO : Hid (true = isOp 8)) (HN : Hid (n = doL 8 a b)) (HR : Hid (true = (decide (a <= A) && decide (b <= B)))) (HS : Hid (false = ((a == A) && (b == B)))) (hA : 0 <= A /\ A <= 18446744073709551615) (hB : 0 <= B /\ B <= 18446744073709551615) :
  Calls Tryz.prog 105 #[.int .i64 8, .agg #[.int .u64 a, .int .u64 A], .agg #[.int .u64 b, .int .u64 B]] w fun e w' => e = .returned (.tuple #[.agg #[.int .u64 0, .int .u64 (formL (max A B))], .bool true]) /\ Below w.heap.size w w' := by
 obtain ⟨m, HM⟩ : ∃ m, Hid (formL (max A B) = m) := ⟨_, rfl⟩
 rw [HM.out]
 have HK : Hid (∀ w, Calls Tryz.prog 114 #[.int .u64 A, .int .u64 B] w fun e w' => e = .returned (.int .u64 m) /\ w = w') := fun w => by rw [<- HM.out]; exact lones_any A B w hA hB
 go_enter Tryz.func105, Tryz.ntmps105
 go_wp2_with (first
  | (go_at_call 71; go_must (refine (do_as HN HO _ ha hb).mono ?_); rintro e w' ⟨rfl, rfl⟩)
  | (go_at_call 98; go_must (refine (two_right HR _ _ (sees_two _ _ a A b B _ (by simp))).mono ?_); rintro e w1 ⟨rfl, hb1⟩; go_must (have H3 : Hid (B3 w1 w.heap.size a A b B) := (b3_new w a A b B).next hb1; obtain ⟨⟨⟨c0, c1⟩, _, _⟩, ⟨⟨d0, d1⟩, _, _⟩, ⟨⟨r0, r1⟩, f0, f1⟩, hz⟩ := H3.out; have hz1 : w.heap.size + 1 < w1.heap.size := (by omega); have hz0 : w.heap.size < w1.heap.size := (by omega); have hbe : Below w.heap.size w w1 := grow4 hb1; clear hb1))
  | (go_at_call 101; go_must (refine (two_one HS _ _ (sees_two _ _ a A b B _ (by simp))).mono ?_); rintro e w2 ⟨rfl, hb2⟩; go_must (have H4 : Hid (B3 w2 w.heap.size a A b B) := H3.out.next hb2; have hbe2 : Below w.heap.size w w2 := grow1 hbe (by omega) hb2; clear hb2 hbe H3 c0 c1 d0 d1 r0 r1 f0 f1 hz hz0 hz1; obtain ⟨⟨⟨c0, c1⟩, _, _⟩, ⟨⟨d0, d1⟩, _, _⟩, ⟨⟨r0, r1⟩, f0, f1⟩, hz⟩ := H4.out; have hz1 : w.heap.size + 1 < w2.heap.size := (by omega); have hz0 : w.heap.size < w2.heap.size := (by omega); have HT : Hid _ := set_two (x := .int .u64 0) (y := .int .u64 m) r0 r1))
  | (go_at_call 114; go_must (refine (HK.out _).mono ?_); rintro e w' ⟨rfl, rfl⟩))
 refine bodyPost_ret (v := .tuple #[.agg #[.int .u64 0, .int .u64 m], .bool true]) ?_ rfl ⟨rfl, below_set (below_set hbe2 (by omega)) (by omega)⟩
 rw [results_cell_tmp rfl]
 simp [asAddr, Result.andThen]
 rw [run_boxS HT.out.1 HT.out.2]
theorem ldo_shr (a A b B n : Int) (w : World) (ha : 0 <= a /\ a <= 18446744073709551615) (hb : 0 <= b /\ b <= 18446744073709551615) (HO : Hid (true = isOp 10)) (HN : Hid (n = doL 10 a b)) (HR : Hid (true = (decide (a <= A) && decide (b <= B)))) (HS : Hid (false = ((a == A) && (b == B)))) (hA : 0 <= A /\ A <= 18446744073709551615) (hB : 0 <= B /\ B <= 18446744073709551615) :
  Calls Tryz.prog 105 #[.int .i64 10, .agg #[.int .u64 a, .int .u64 A], .agg #[.int .u64 b, .int .u64 B]] w fun e w' => e = .returned (.tuple #[.agg #[.int .u64 (a / 2 ^ min B.toNat 64), .int .u64 (A / 2 ^ min b.toNat 64)], .bool true]) /\ Below w.heap.size w w' := by
 go_enter Tryz.func105, Tryz.ntmps105
 go_wp2_with (first
  | (go_at_call 71; go_must (refine (do_as HN HO _ ha hb).mono ?_); rintro e w' ⟨rfl, rfl⟩)
  | (go_at_call 98; go_must (refine (two_right HR _ _ (sees_two _ _ a A b B _ (by simp))).mono ?_); rintro e w1 ⟨rfl, hb1⟩; go_must (have H3 : Hid (B3 w1 w.heap.size a A b B) := (b3_new w a A b B).next hb1; obtain ⟨⟨⟨c0, c1⟩, _, _⟩, ⟨⟨d0, d1⟩, _, _⟩, ⟨⟨r0, r1⟩, f0, f1⟩, hz⟩ := H3.out; have hz1 : w.heap.size + 1 < w1.heap.size := (by omega); have hz0 : w.heap.size < w1.heap.size := (by omega); have hbe : Below w.heap.size w w1 := grow4 hb1; clear hb1))
  | (go_at_call 101; go_must (refine (two_one HS _ _ (sees_two _ _ a A b B _ (by simp))).mono ?_); rintro e w2 ⟨rfl, hb2⟩; go_must (have H4 : Hid (B3 w2 w.heap.size a A b B) := H3.out.next hb2; have hbe2 : Below w.heap.size w w2 := grow1 hbe (by omega) hb2; clear hb2 hbe H3 c0 c1 d0 d1 r0 r1 f0 f1 hz hz0 hz1; obtain ⟨⟨⟨c0, c1⟩, _, _⟩, ⟨⟨d0, d1⟩, _, _⟩, ⟨⟨r0, r1⟩, f0, f1⟩, hz⟩ := H4.out; have hz1 : w.heap.size + 1 < w2.heap.size := (by omega); have hz0 : w.heap.size < w2.heap.size := (by omega); have HT : Hid _ := set_two (x := .int .u64 (a / 2 ^ min B.toNat 64)) (y := .int .u64 (A / 2 ^ min b.toNat 64)) r0 r1)))
 refine bodyPost_ret (v := .tuple #[.agg #[.int .u64 (a / 2 ^ min B.toNat 64), .int .u64 (A / 2 ^ min b.toNat 64)], .bool true]) ?_ rfl ⟨rfl, below_set (below_set hbe2 (by omega)) (by omega)⟩
 rw [results_cell_tmp rfl]
 simp [asAddr, Result.andThen]
 rw [run_boxS HT.out.1 HT.out.2]
set_option maxHeartbeats 4000000 in
theorem ldo_or (a A b B n : Int) (w : World) (ha : 0 <= a /\ a <= 18446744073709551615) (hb : 0 <= b /\ b <= 18446744073709551615) (HO : Hid (true = isOp 7)) (HN : Hid (n = doL 7 a b)) (HR : Hid (true = (decide (a <= A) && decide (b <= B)))) (HS : Hid (false = ((a == A) && (b == B)))) (hA : 0 <= A /\ A <= 18446744073709551615) (hB : 0 <= B /\ B <= 18446744073709551615) :
  Calls Tryz.prog 105 #[.int .i64 7, .agg #[.int .u64 a, .int .u64 A], .agg #[.int .u64 b, .int .u64 B]] w fun e w' => e = .returned (.tuple #[.agg #[.int .u64 (max a b), .int .u64 (formL (max A B))], .bool true]) /\ Below w.heap.size w w' := by
 obtain ⟨Y, HM⟩ : ∃ m, Hid (formL (max A B) = m) := ⟨_, rfl⟩
 rw [HM.out]
 have HK : Hid (∀ w, Calls Tryz.prog 114 #[.int .u64 A, .int .u64 B] w fun e w' => e = .returned (.int .u64 Y) /\ w = w') := fun w => by rw [<- HM.out]; exact lones_any A B w hA hB
 obtain ⟨Q, hQ⟩ : ∃ Q, max a b = Q := ⟨_, rfl⟩
 rw [hQ]
 go_enter Tryz.func105, Tryz.ntmps105
 go_wp2_with (first
  | (go_at_call 71; go_must (refine (do_as HN HO _ ha hb).mono ?_); rintro e w' ⟨rfl, rfl⟩)
  | (go_at_call 98; go_must (refine (two_right HR _ _ (sees_two _ _ a A b B _ (by simp))).mono ?_); rintro e w1 ⟨rfl, hb1⟩; go_must (have H3 : Hid (B3 w1 w.heap.size a A b B) := (b3_new w a A b B).next hb1; obtain ⟨⟨⟨c0, c1⟩, _, _⟩, ⟨⟨d0, d1⟩, _, _⟩, ⟨⟨r0, r1⟩, f0, f1⟩, hz⟩ := H3.out; have hz1 : w.heap.size + 1 < w1.heap.size := (by omega); have hz0 : w.heap.size < w1.heap.size := (by omega); have hbe : Below w.heap.size w w1 := grow4 hb1; clear hb1))
  | (go_at_call 101; go_must (refine (two_one HS _ _ (sees_two _ _ a A b B _ (by simp))).mono ?_); rintro e w2 ⟨rfl, hb2⟩; go_must (have H4 : Hid (B3 w2 w.heap.size a A b B) := H3.out.next hb2; have hbe2 : Below w.heap.size w w2 := grow1 hbe (by omega) hb2; clear hb2 hbe H3 c0 c1 d0 d1 r0 r1 f0 f1 hz hz0 hz1; obtain ⟨⟨⟨c0, c1⟩, _, _⟩, ⟨⟨d0, d1⟩, _, _⟩, ⟨⟨r0, r1⟩, f0, f1⟩, hz⟩ := H4.out; have hz1 : w.heap.size + 1 < w2.heap.size := (by omega); have hz0 : w.heap.size < w2.heap.size := (by omega); have HT : Hid _ := set_two (x := .int .u64 Q) (y := .int .u64 Y) r0 r1))
  | (go_at_call 114; fail))
 have hcells : w2.cell? ⟨w.heap.size, 0, none⟩ = some (.int .u64 a) /\ w2.cell? ⟨w.heap.size, 1, none⟩ = some (.int .u64 A) /\ w2.cell? ⟨w.heap.size + 1, 0, none⟩ = some (.int .u64 b) /\ w2.cell? ⟨w.heap.size + 1, 1, none⟩ = some (.int .u64 B) := ⟨c0, c1, d0, d1⟩
 clear c0 c1 d0 d1
 go_region_held_law (fun w' => w'.cell? ⟨w.heap.size, 0, none⟩ = some (.int .u64 a) /\ w'.cell? ⟨w.heap.size, 1, none⟩ = some (.int .u64 A) /\ w'.cell? ⟨w.heap.size + 1, 0, none⟩ = some (.int .u64 b) /\ w'.cell? ⟨w.heap.size + 1, 1, none⟩ = some (.int .u64 B))
  (first | assumption | ((refine keep4 ?_ (by omega) (by omega); first | assumption | (refine keep4 ?_ (by omega) (by omega); assumption))))
  ((go_at_call 114; refine (HK.out _).mono ?_; rintro e w' ⟨rfl, rfl⟩))
 all_goals go_wp2
 all_goals refine bodyPost_ret (v := .tuple #[.agg #[.int .u64 Q, .int .u64 Y], .bool true]) ?_ rfl ⟨rfl, below_dr (below_set (below_set hbe2 (by omega)) (by omega))⟩
 all_goals rw [results_cell_tmp rfl]
 all_goals simp [asAddr, Result.andThen]
 all_goals rw [run_boxS_drew HT.out.1 HT.out.2]
theorem isOp_eq (op : Int) : isOp op = decide (1 <= op /\ op <= 10) := rfl
theorem ldo_any : KDo := by
 intro op a A b B w ha hA hb hB
 unfold W64 at ha hA hb hB
 obtain ⟨n, HN⟩ : ∃ n, Hid (n = doL op a b) := ⟨_, rfl⟩
 unfold doR
 by_cases c1 : 1 <= op /\ op <= 10
 case neg => rw [if_neg (fun h => c1 h.1)]; exact ldo_no1 op a A b B n w ha hb (by show _ = _; rw [isOp_eq, decide_eq_false c1]) HN
 have HO : Hid (true = isOp op) := by show _ = _; rw [isOp_eq, decide_eq_true c1]
 by_cases c2 : a <= A /\ b <= B
 case neg =>
  rw [if_neg (fun h => c2 h.2)]
  exact ldo_no2 op a A b B n w ha hb HO HN (by show _ = _; rw [<- Bool.decide_and, decide_eq_false c2])
 have HR : Hid (true = (decide (a <= A) && decide (b <= B))) := by show _ = _; rw [<- Bool.decide_and, decide_eq_true c2]
 rw [if_pos ⟨c1, c2⟩]
 by_cases hs : a = A /\ b = B
 ·have e : spanL op a A b B = (n, n) := by unfold spanL; rw [if_pos hs, HN.out]
  rw [e]
  exact ldo_one op a A b B n w ha hb HO HN HR (by show _ = _; rw [hs.1, hs.2]; simp)
 have HS : Hid (false = ((a == A) && (b == B))) := by
  show _ = _
  symm
  rw [Bool.eq_false_iff]
  intro h
  simp at h
  exact hs h
 have h1 : 0 <= a /\ a <= A /\ A <= 18446744073709551615 := by omega
 have h2 : 0 <= b /\ b <= B /\ B <= 18446744073709551615 := by omega
 have c : op = 1 ∨ op = 2 ∨ op = 3 ∨ op = 4 ∨ op = 5 ∨ op = 6 ∨ op = 7 ∨ op = 8 ∨ op = 9 ∨ op = 10 := by omega
 rcases c with rfl | rfl | rfl | rfl | rfl | rfl | rfl | rfl | rfl | rfl
 ·have e : spanL 1 a A b B = (if 18446744073709551615 < A + B then (0, 18446744073709551615) else (a + b, A + B)) := by unfold spanL; rw [if_neg hs]; rfl
  rw [e]
  exact ldo_sum a A b B n w ha hb HO HN HR HS _ _ (fun w => lsum_any a A b B w h1 h2)
 ·have e : spanL 2 a A b B = (if a < B then (0, 18446744073709551615) else (a - B, A - b)) := by unfold spanL; rw [if_neg hs]; rfl
  rw [e]
  exact ldo_difference a A b B n w ha hb HO HN HR HS _ _ (fun w => ldiff_any a A b B w h1 h2)
 ·have e : spanL 3 a A b B = (if 18446744073709551615 < A * B then (0, 18446744073709551615) else (a * b, A * B)) := by unfold spanL; rw [if_neg hs]; rfl
  rw [e]
  exact ldo_product a A b B n w ha hb HO HN HR HS _ _ (fun w => lprod_any a A b B w h1 h2)
 ·have e : spanL 4 a A b B = (if b = 0 then (0, A) else (a / B, A / b)) := by unfold spanL; rw [if_neg hs]; rfl
  rw [e]
  exact ldo_quotient a A b B n w ha hb HO HN HR HS _ _ (fun w => lquo_any a A b B w h1 h2)
 ·have e : spanL 5 a A b B = (if b = 0 then (0, A) else if A < b then (a, A) else (0, min A (B - 1))) := by unfold spanL; rw [if_neg hs]; rfl
  rw [e]
  exact ldo_rest a A b B n w ha hb HO HN HR HS _ _ (fun w => lrest_any a A b B w h1 h2)
 ·have e : spanL 6 a A b B = (0, min A B) := by unfold spanL; rw [if_neg hs]; rfl
  rw [e]
  exact ldo_and a A b B n w ha hb HO HN HR HS
 ·have e : spanL 7 a A b B = (max a b, formL (max A B)) := by unfold spanL; rw [if_neg hs]; rfl
  rw [e]
  exact ldo_or a A b B n w ha hb HO HN HR HS hA hB
 ·have e : spanL 8 a A b B = (0, formL (max A B)) := by unfold spanL; rw [if_neg hs]; rfl
  rw [e]
  exact ldo_xor a A b B n w ha hb HO HN HR HS hA hB
 ·have e : spanL 9 a A b B = (if b = B /\ A * 2 ^ min b.toNat 64 <= 18446744073709551615 then (a * 2 ^ min b.toNat 64, A * 2 ^ min b.toNat 64) else (0, 18446744073709551615)) := by unfold spanL; rw [if_neg hs]; rfl
  rw [e]
  exact ldo_raised a A b B n w ha hb HO HN HR HS _ _ (fun w => lraised_any a A b B w h1 h2)
 ·have e : spanL 10 a A b B = (a / 2 ^ min B.toNat 64, A / 2 ^ min b.toNat 64) := by unfold spanL; rw [if_neg hs]; rfl
  rw [e]
  exact ldo_shr a A b B n w ha hb HO HN HR HS hA hB
end Go.Proofs.YtkondcjmhlppiaaGreat
