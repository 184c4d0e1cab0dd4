/-
  The law SigsChecks, walked: it answers true. Condition: the package-level variable 'names' reads as it is laid; a slice of types that takes up no more bytes than an argument may.
-/
import Derived.Test.YtpgkjoahngfgnaaDoorT8Alike
import Derived.Test.YtpgkjoahngfgnaaDoorT8RCheck
namespace Go.Proofs.YtpgkjoahngfgnaaDoor
open Go.RowKit
set_option linter.unusedVariables false
set_option maxRecDepth 100000

theorem check_as {h : Int} {v : Value} {xs : List Ty} {w : World} (hs : SeesT w v xs) {r : Int} (hr : Hid (r = checkL h xs)) : Calls Tryd.prog 20 #[.int .i64 h, v] w fun e w' => e = .returned (.int .i64 r) ∧ Below w.heap.size w w' := by
  rw [hr.out]; exact check_any h v xs w hs
theorem rcheck_as {h : Int} {v : Value} {xs : List Ty} {w : World} (hs : SeesT w v xs) {r : Int} (hr : Hid (r = checkL h xs)) : Calls Tryd.prog 21 #[.int .i64 h, v] w fun e w' => e = .returned (.int .i64 r) ∧ Below w.heap.size w w' := by
  rw [hr.out]; exact rcheck_any h v xs w hs

set_option maxHeartbeats 1600000 in
theorem checks_walk (h : Int) (v : Value) (xs : List Ty) (w : World) (_ : -9223372036854775808 ≤ h ∧ h ≤ 9223372036854775807) (hs : SeesT w v xs ∧ ∀ i ∈ xs, wfT i) (hx : xs.length * 32 ≤ 140737488351232) (hn : Named w) : Calls Tryd.prog 5 #[.int .i64 h, v] w fun e w' => e = .returned (.bool true) ∧ Below w.heap.size w w' := by
  have HN : Hid (Named w) := hn
  have HS : Hid (SeesT w v xs) := hs.1
  obtain ⟨i0, hi, hz0, hz1, hz2⟩ := infoT_parts
  obtain ⟨a, cap, rfl⟩ := hs.1.shape
  obtain ⟨n, HL⟩ : ∃ n, Hid (xs.length = n) := ⟨_, rfl⟩
  rw [HL.out] at hx
  clear hn hs
  go_enter Tryd.func5, Tryd.ntmps5
  go_wp2_with (first
    | (go_at_call 8; go_must (refine (awake_any _ HN.out).mono ?_); rintro e w1 ⟨rfl, hB1⟩)
    | (at_builtin; go_must (refine wpList_append_seesT rfl (.tmp 9) (.tmp 10) 39 rfl w1.heap.size 30 i0 (tyV Ty.nil) Tryd.underlying39 hi hz0 hz1 hz2 rfl _ [] rfl (ownT_empty w1 30) _ xs rfl ((HS.out.below hB1).below ((Below.refl _ _).alloc (Nat.le_refl _) _)) (by have := HL.out; unfold maxLen; simp; omega) (by have := HL.out; simp; omega) (by simp) ?_); intro v3 w3 hown3 hg3; go_must (have hB3 : Below w.heap.size w w3 := (hB1.alloc hB1.size _).grown hg3 (by have := hB1.size; simp; omega) (fun j hj => by (have hj' : w1.heap.size = j := Option.some.inj hj); have := hB1.size; omega); rw [List.nil_append] at hown3; have HS3 : Hid (SeesT w3 v3 xs) := own_seesT hown3; obtain ⟨a3, c3, rfl⟩ := (own_seesT hown3).shape; clear hg3 hown3)))
  have hz3 := hB3.size
  go_loopw [6] (fun i wr => ∃ k : Int, 0 ≤ k ∧ k ≤ 7 ∧ i = .int .i64 k ∧ Below w3.heap.size w3 wr) (fun i _ => (7 - intOf i).toNat)
  case atStart => exact ⟨0, by omega, by omega, rfl, Below.refl _ _⟩
  case round =>
    obtain ⟨k, hk0, hk7, rfl, hbr⟩ := hrel
    have hzr := hbr.size
    have hBr : Below w.heap.size w wr := hB3.trans (hbr.mono hz3)
    have HSr : Hid (SeesT wr (Value.slice a3 xs.length c3) xs) := HS3.out.below hbr
    have HSa : Hid (SeesT wr (Value.slice a xs.length cap) xs) := HS.out.below hBr
    by_cases hlt : k < 7
    · obtain ⟨r, HR⟩ : ∃ r, Hid (r = checkL k xs) := ⟨_, rfl⟩
      go_wp2_with (first
        | (go_at_call 20; go_must (refine (check_as HSr.out HR).mono ?_); rintro e w4 ⟨rfl, hb4⟩; go_must (have HSa4 : Hid (SeesT w4 (Value.slice a xs.length cap) xs) := HSa.out.below hb4; have hB4 := hbr.trans (hb4.mono hzr); clear hb4))
        | (go_at_call 21; go_must (refine (rcheck_as HSa4.out HR).mono ?_); rintro e w5 ⟨rfl, hb5⟩; go_must (have hB5 := hB4.trans (hb5.mono hB4.size); clear hb5)))
      go_roundw
      case rel => exact ⟨k + 1, by omega, by omega, by go_num, hB5⟩
      case measure => simp [intOf]; omega
    · obtain rfl : k = 7 := by omega
      obtain ⟨r, HR⟩ : ∃ r, Hid (r = checkL h xs) := ⟨_, rfl⟩
      go_wp2_with (first
        | (go_at_call 20; go_must (refine (check_as HSr.out HR).mono ?_); rintro e w4 ⟨rfl, hb4⟩; go_must (have HSa4 : Hid (SeesT w4 (Value.slice a xs.length cap) xs) := HSa.out.below hb4; have HSr4 : Hid (SeesT w4 (Value.slice a3 xs.length c3) xs) := HSr.out.below hb4; have hB4 := hBr.trans (hb4.mono hBr.size); clear hb4))
        | (go_at_call 21; go_must (refine (rcheck_as HSa4.out HR).mono ?_); rintro e w5 ⟨rfl, hb5⟩; go_must (have HSa5 : Hid (SeesT w5 (Value.slice a xs.length cap) xs) := HSa4.out.below hb5; have HSr5 : Hid (SeesT w5 (Value.slice a3 xs.length c3) xs) := HSr4.out.below hb5; have hB5 := hB4.trans (hb5.mono hB4.size); clear hb5))
        | (go_at_call 19; go_must (refine (alike_any _ _ xs _ HSr5.out HSa5.out).mono ?_); rintro e w6 ⟨rfl, n6, rfl⟩))
      go_ret
      exact ⟨retb (by simp), below_drewN hB5 n6⟩
end Go.Proofs.YtpgkjoahngfgnaaDoor
