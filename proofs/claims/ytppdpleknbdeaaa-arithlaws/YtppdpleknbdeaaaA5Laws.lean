/-
  ArithLaws answers true at every three numbers; memory that was there stays. Condition: the numbers are of 64 bits.
-/
import Derived.Test.YtppdpleknbdeaaaA5Bits
namespace Go.Proofs.Ytppdpleknbdeaaa
open Go.RowKit
set_option linter.unusedVariables false

theorem ldo_h {op a b n : Int} (h : Hid (n = doL op a b)) (ha : Hid (W64 a)) (hb : Hid (W64 b)) (w : World) :
    Calls Try.prog 15 #[.int .i64 op, .int .u64 a, .int .u64 b] w fun e w' => e = .returned (.int .u64 n) ∧ w = w' := by
  rw [h.out]; exact ldo_any op a b w ha.out hb.out

set_option maxRecDepth 20000 in
set_option maxHeartbeats 1600000 in
theorem laws_road (a b c n1 n2 n3 n5 n6 n7 n8 n9 m1 m2 m3 s1 s2 s3 : Int) (w : World) (ha : 0 ≤ a ∧ a ≤ 18446744073709551615) (hb : 0 ≤ b ∧ b ≤ 18446744073709551615) (hc : 0 ≤ c ∧ c ≤ 18446744073709551615)
    (K1 : Hid (n1 = doL 4 a b)) (K2 : Hid (n2 = doL 3 n1 b)) (K3 : Hid (n3 = doL 5 a b)) (K4 : Hid (a = doL 1 n2 n3)) (K5 : Hid (n3 = doL 5 a b)) (K6 : Hid (n5 = doL 1 a b)) (K7 : Hid (a = doL 2 n5 b)) (K8 : Hid (n6 = doL 1 b c)) (K9 : Hid (n7 = doL 3 a n6)) (K10 : Hid (n8 = doL 3 a b)) (K11 : Hid (n9 = doL 3 a c)) (K12 : Hid (n7 = doL 1 n8 n9)) (K13 : Hid (m1 = doL 6 a b)) (K14 : Hid (m2 = doL 7 a b)) (K15 : Hid (n5 = doL 1 m1 m2)) (K16 : Hid (n5 = doL 1 a b)) (K17 : Hid (m3 = doL 8 a b)) (K18 : Hid (a = doL 8 m3 b)) (K19 : Hid (m2 = doL 7 a b)) (K20 : Hid (m1 = doL 6 a b)) (K21 : Hid (m3 = doL 2 m2 m1)) (K22 : Hid (m3 = doL 8 a b)) (K23 : Hid (s1 = doL 9 a (c % 64))) (K24 : Hid (s2 = doL 9 1 (c % 64))) (K25 : Hid (s1 = doL 3 a s2)) (K26 : Hid (s3 = doL 10 a (c % 64))) (K27 : Hid (s2 = doL 9 1 (c % 64))) (K28 : Hid (s3 = doL 4 a s2)) (K29 : Hid (0 = doL 9 a (64 + c / 2))) (K30 : Hid (0 = doL 10 a (64 + c / 2)))
    (Wa : Hid (W64 a)) (Wb : Hid (W64 b)) (Wc : Hid (W64 c)) (W1 : Hid (W64 1)) (Ws : Hid (W64 (c % 64))) (Wt : Hid (W64 (64 + c / 2))) (Wn1 : Hid (W64 n1)) (Wn2 : Hid (W64 n2)) (Wn3 : Hid (W64 n3)) (Wn5 : Hid (W64 n5)) (Wn6 : Hid (W64 n6)) (Wn7 : Hid (W64 n7)) (Wn8 : Hid (W64 n8)) (Wn9 : Hid (W64 n9)) (Wm1 : Hid (W64 m1)) (Wm2 : Hid (W64 m2)) (Wm3 : Hid (W64 m3)) (Ws1 : Hid (W64 s1)) (Ws2 : Hid (W64 s2)) (Ws3 : Hid (W64 s3)) (hn3 : 0 < b → n3 < b) :
    Calls Try.prog 5 #[.int .u64 a, .int .u64 b, .int .u64 c] w fun e w' => e = .returned (.bool true) ∧ Below w.heap.size w w' := by
  by_cases hb0 : 0 < b
  · have hn := hn3 hb0
    have hn' : decide (b ≤ n3) = false := decide_eq_false (by omega)
    clear hn3
    go_enter Try.func5, Try.ntmps5
    go_wp2_with (first
      | (go_at_call 8; go_must (refine (awake_any _).mono ?_); rintro e w1 ⟨rfl, hbe⟩)
      | (go_at_call 15; have hq := K1; clear hq; go_must (refine (ldo_h K1 Wa Wb _).mono ?_); rintro e w' ⟨rfl, rfl⟩; clear K1)
      | (go_at_call 15; have hq := K2; clear hq; go_must (refine (ldo_h K2 Wn1 Wb _).mono ?_); rintro e w' ⟨rfl, rfl⟩; clear K2)
      | (go_at_call 15; have hq := K3; clear hq; go_must (refine (ldo_h K3 Wa Wb _).mono ?_); rintro e w' ⟨rfl, rfl⟩; clear K3)
      | (go_at_call 15; have hq := K4; clear hq; go_must (refine (ldo_h K4 Wn2 Wn3 _).mono ?_); rintro e w' ⟨rfl, rfl⟩; clear K4)
      | (go_at_call 15; have hq := K5; clear hq; go_must (refine (ldo_h K5 Wa Wb _).mono ?_); rintro e w' ⟨rfl, rfl⟩; clear K5)
      | (go_at_call 15; have hq := K6; clear hq; go_must (refine (ldo_h K6 Wa Wb _).mono ?_); rintro e w' ⟨rfl, rfl⟩; clear K6)
      | (go_at_call 15; have hq := K7; clear hq; go_must (refine (ldo_h K7 Wn5 Wb _).mono ?_); rintro e w' ⟨rfl, rfl⟩; clear K7)
      | (go_at_call 15; have hq := K8; clear hq; go_must (refine (ldo_h K8 Wb Wc _).mono ?_); rintro e w' ⟨rfl, rfl⟩; clear K8)
      | (go_at_call 15; have hq := K9; clear hq; go_must (refine (ldo_h K9 Wa Wn6 _).mono ?_); rintro e w' ⟨rfl, rfl⟩; clear K9)
      | (go_at_call 15; have hq := K10; clear hq; go_must (refine (ldo_h K10 Wa Wb _).mono ?_); rintro e w' ⟨rfl, rfl⟩; clear K10)
      | (go_at_call 15; have hq := K11; clear hq; go_must (refine (ldo_h K11 Wa Wc _).mono ?_); rintro e w' ⟨rfl, rfl⟩; clear K11)
      | (go_at_call 15; have hq := K12; clear hq; go_must (refine (ldo_h K12 Wn8 Wn9 _).mono ?_); rintro e w' ⟨rfl, rfl⟩; clear K12)
      | (go_at_call 15; have hq := K13; clear hq; go_must (refine (ldo_h K13 Wa Wb _).mono ?_); rintro e w' ⟨rfl, rfl⟩; clear K13)
      | (go_at_call 15; have hq := K14; clear hq; go_must (refine (ldo_h K14 Wa Wb _).mono ?_); rintro e w' ⟨rfl, rfl⟩; clear K14)
      | (go_at_call 15; have hq := K15; clear hq; go_must (refine (ldo_h K15 Wm1 Wm2 _).mono ?_); rintro e w' ⟨rfl, rfl⟩; clear K15)
      | (go_at_call 15; have hq := K16; clear hq; go_must (refine (ldo_h K16 Wa Wb _).mono ?_); rintro e w' ⟨rfl, rfl⟩; clear K16)
      | (go_at_call 15; have hq := K17; clear hq; go_must (refine (ldo_h K17 Wa Wb _).mono ?_); rintro e w' ⟨rfl, rfl⟩; clear K17)
      | (go_at_call 15; have hq := K18; clear hq; go_must (refine (ldo_h K18 Wm3 Wb _).mono ?_); rintro e w' ⟨rfl, rfl⟩; clear K18)
      | (go_at_call 15; have hq := K19; clear hq; go_must (refine (ldo_h K19 Wa Wb _).mono ?_); rintro e w' ⟨rfl, rfl⟩; clear K19)
      | (go_at_call 15; have hq := K20; clear hq; go_must (refine (ldo_h K20 Wa Wb _).mono ?_); rintro e w' ⟨rfl, rfl⟩; clear K20)
      | (go_at_call 15; have hq := K21; clear hq; go_must (refine (ldo_h K21 Wm2 Wm1 _).mono ?_); rintro e w' ⟨rfl, rfl⟩; clear K21)
      | (go_at_call 15; have hq := K22; clear hq; go_must (refine (ldo_h K22 Wa Wb _).mono ?_); rintro e w' ⟨rfl, rfl⟩; clear K22)
      | (go_at_call 15; have hq := K23; clear hq; go_must (refine (ldo_h K23 Wa Ws _).mono ?_); rintro e w' ⟨rfl, rfl⟩; clear K23)
      | (go_at_call 15; have hq := K24; clear hq; go_must (refine (ldo_h K24 W1 Ws _).mono ?_); rintro e w' ⟨rfl, rfl⟩; clear K24)
      | (go_at_call 15; have hq := K25; clear hq; go_must (refine (ldo_h K25 Wa Ws2 _).mono ?_); rintro e w' ⟨rfl, rfl⟩; clear K25)
      | (go_at_call 15; have hq := K26; clear hq; go_must (refine (ldo_h K26 Wa Ws _).mono ?_); rintro e w' ⟨rfl, rfl⟩; clear K26)
      | (go_at_call 15; have hq := K27; clear hq; go_must (refine (ldo_h K27 W1 Ws _).mono ?_); rintro e w' ⟨rfl, rfl⟩; clear K27)
      | (go_at_call 15; have hq := K28; clear hq; go_must (refine (ldo_h K28 Wa Ws2 _).mono ?_); rintro e w' ⟨rfl, rfl⟩; clear K28)
      | (go_at_call 15; have hq := K29; clear hq; go_must (refine (ldo_h K29 Wa Wt _).mono ?_); rintro e w' ⟨rfl, rfl⟩; clear K29)
      | (go_at_call 15; have hq := K30; clear hq; go_must (refine (ldo_h K30 Wa Wt _).mono ?_); rintro e w' ⟨rfl, rfl⟩; clear K30))
    all_goals go_ret
    all_goals exact ⟨rfl, hbe⟩
  · obtain rfl : b = 0 := by omega
    clear hn3 K5
    go_enter Try.func5, Try.ntmps5
    go_wp2_with (first
      | (go_at_call 8; go_must (refine (awake_any _).mono ?_); rintro e w1 ⟨rfl, hbe⟩)
      | (go_at_call 15; have hq := K1; clear hq; go_must (refine (ldo_h K1 Wa Wb _).mono ?_); rintro e w' ⟨rfl, rfl⟩; clear K1)
      | (go_at_call 15; have hq := K2; clear hq; go_must (refine (ldo_h K2 Wn1 Wb _).mono ?_); rintro e w' ⟨rfl, rfl⟩; clear K2)
      | (go_at_call 15; have hq := K3; clear hq; go_must (refine (ldo_h K3 Wa Wb _).mono ?_); rintro e w' ⟨rfl, rfl⟩; clear K3)
      | (go_at_call 15; have hq := K4; clear hq; go_must (refine (ldo_h K4 Wn2 Wn3 _).mono ?_); rintro e w' ⟨rfl, rfl⟩; clear K4)
      | (go_at_call 15; have hq := K6; clear hq; go_must (refine (ldo_h K6 Wa Wb _).mono ?_); rintro e w' ⟨rfl, rfl⟩; clear K6)
      | (go_at_call 15; have hq := K7; clear hq; go_must (refine (ldo_h K7 Wn5 Wb _).mono ?_); rintro e w' ⟨rfl, rfl⟩; clear K7)
      | (go_at_call 15; have hq := K8; clear hq; go_must (refine (ldo_h K8 Wb Wc _).mono ?_); rintro e w' ⟨rfl, rfl⟩; clear K8)
      | (go_at_call 15; have hq := K9; clear hq; go_must (refine (ldo_h K9 Wa Wn6 _).mono ?_); rintro e w' ⟨rfl, rfl⟩; clear K9)
      | (go_at_call 15; have hq := K10; clear hq; go_must (refine (ldo_h K10 Wa Wb _).mono ?_); rintro e w' ⟨rfl, rfl⟩; clear K10)
      | (go_at_call 15; have hq := K11; clear hq; go_must (refine (ldo_h K11 Wa Wc _).mono ?_); rintro e w' ⟨rfl, rfl⟩; clear K11)
      | (go_at_call 15; have hq := K12; clear hq; go_must (refine (ldo_h K12 Wn8 Wn9 _).mono ?_); rintro e w' ⟨rfl, rfl⟩; clear K12)
      | (go_at_call 15; have hq := K13; clear hq; go_must (refine (ldo_h K13 Wa Wb _).mono ?_); rintro e w' ⟨rfl, rfl⟩; clear K13)
      | (go_at_call 15; have hq := K14; clear hq; go_must (refine (ldo_h K14 Wa Wb _).mono ?_); rintro e w' ⟨rfl, rfl⟩; clear K14)
      | (go_at_call 15; have hq := K15; clear hq; go_must (refine (ldo_h K15 Wm1 Wm2 _).mono ?_); rintro e w' ⟨rfl, rfl⟩; clear K15)
      | (go_at_call 15; have hq := K16; clear hq; go_must (refine (ldo_h K16 Wa Wb _).mono ?_); rintro e w' ⟨rfl, rfl⟩; clear K16)
      | (go_at_call 15; have hq := K17; clear hq; go_must (refine (ldo_h K17 Wa Wb _).mono ?_); rintro e w' ⟨rfl, rfl⟩; clear K17)
      | (go_at_call 15; have hq := K18; clear hq; go_must (refine (ldo_h K18 Wm3 Wb _).mono ?_); rintro e w' ⟨rfl, rfl⟩; clear K18)
      | (go_at_call 15; have hq := K19; clear hq; go_must (refine (ldo_h K19 Wa Wb _).mono ?_); rintro e w' ⟨rfl, rfl⟩; clear K19)
      | (go_at_call 15; have hq := K20; clear hq; go_must (refine (ldo_h K20 Wa Wb _).mono ?_); rintro e w' ⟨rfl, rfl⟩; clear K20)
      | (go_at_call 15; have hq := K21; clear hq; go_must (refine (ldo_h K21 Wm2 Wm1 _).mono ?_); rintro e w' ⟨rfl, rfl⟩; clear K21)
      | (go_at_call 15; have hq := K22; clear hq; go_must (refine (ldo_h K22 Wa Wb _).mono ?_); rintro e w' ⟨rfl, rfl⟩; clear K22)
      | (go_at_call 15; have hq := K23; clear hq; go_must (refine (ldo_h K23 Wa Ws _).mono ?_); rintro e w' ⟨rfl, rfl⟩; clear K23)
      | (go_at_call 15; have hq := K24; clear hq; go_must (refine (ldo_h K24 W1 Ws _).mono ?_); rintro e w' ⟨rfl, rfl⟩; clear K24)
      | (go_at_call 15; have hq := K25; clear hq; go_must (refine (ldo_h K25 Wa Ws2 _).mono ?_); rintro e w' ⟨rfl, rfl⟩; clear K25)
      | (go_at_call 15; have hq := K26; clear hq; go_must (refine (ldo_h K26 Wa Ws _).mono ?_); rintro e w' ⟨rfl, rfl⟩; clear K26)
      | (go_at_call 15; have hq := K27; clear hq; go_must (refine (ldo_h K27 W1 Ws _).mono ?_); rintro e w' ⟨rfl, rfl⟩; clear K27)
      | (go_at_call 15; have hq := K28; clear hq; go_must (refine (ldo_h K28 Wa Ws2 _).mono ?_); rintro e w' ⟨rfl, rfl⟩; clear K28)
      | (go_at_call 15; have hq := K29; clear hq; go_must (refine (ldo_h K29 Wa Wt _).mono ?_); rintro e w' ⟨rfl, rfl⟩; clear K29)
      | (go_at_call 15; have hq := K30; clear hq; go_must (refine (ldo_h K30 Wa Wt _).mono ?_); rintro e w' ⟨rfl, rfl⟩; clear K30))
    all_goals go_ret
    all_goals exact ⟨rfl, hbe⟩

theorem laws_walk (a b c : Int) (w : World) (ha : 0 ≤ a ∧ a ≤ 18446744073709551615) (hb : 0 ≤ b ∧ b ≤ 18446744073709551615) (hc : 0 ≤ c ∧ c ≤ 18446744073709551615) :
    Calls Try.prog 5 #[.int .u64 a, .int .u64 b, .int .u64 c] w fun e w' => e = .returned (.bool true) ∧ Below w.heap.size w w' := by
  have hA : W64 a := ha
  have hB : W64 b := hb
  have hC : W64 c := hc
  have hS : W64 (c % 64) := by unfold W64; omega
  have hO : W64 1 := by unfold W64; omega
  have hT : W64 (64 + c / 2) := by unfold W64; omega
  exact laws_road a b c (doL 4 a b) (doL 3 (doL 4 a b) b) (doL 5 a b) (doL 1 a b) (doL 1 b c) (doL 3 a (doL 1 b c)) (doL 3 a b) (doL 3 a c) (doL 6 a b) (doL 7 a b) (doL 8 a b) (doL 9 a (c % 64)) (doL 9 1 (c % 64)) (doL 10 a (c % 64)) w ha hb hc
    rfl rfl rfl (law_div hA hB) rfl rfl (law_sub hA) rfl rfl rfl rfl (law_mul a b c) rfl rfl (law_and hA hB) rfl rfl (law_xor hA) rfl rfl (law_or a b) rfl rfl rfl (law_shl (by omega) (by omega)) rfl rfl (law_shr (by omega) (by omega)) (far_shl (by omega)) (far_shr hA (by omega))
    hA hB hC hO hS hT (doL_in 4 hA hB) (doL_in 3 (doL_in 4 hA hB) hB) (doL_in 5 hA hB) (doL_in 1 hA hB) (doL_in 1 hB hC) (doL_in 3 hA (doL_in 1 hB hC)) (doL_in 3 hA hB) (doL_in 3 hA hC) (doL_in 6 hA hB) (doL_in 7 hA hB) (doL_in 8 hA hB) (doL_in 9 hA hS) (doL_in 9 hO hS) (doL_in 10 hA hS) (fun h => law_rem hA h)
end Go.Proofs.Ytppdpleknbdeaaa
