/-
  What the law's alike and awake answer. Condition: two slices that read as one list (alike); the package-level variable 'names' reads as it is laid (awake).
-/
import Derived.Test.YtpgkjoahngfgnaaDoorT8Check
import Derived.Test.YtpgkjoahngfgnaaDoorT8Value
namespace Go.Proofs.YtpgkjoahngfgnaaDoor
open Go.RowKit
set_option linter.unusedVariables false
set_option maxRecDepth 100000

theorem alike_any (v u : Value) (xs : List Ty) (w : World) (hv : SeesT w v xs) (hu : SeesT w u xs) : Calls Tryd.prog 19 #[v, u] w fun e w' => e = .returned (.bool true) ∧ ∃ n, w' = w.drewN n := by
  obtain ⟨a, cap, rfl, hcap, hmax, hnone, hcell⟩ := hv
  have HS : Hid (xs ≠ [] → ∃ b off, a = some ⟨b, off, none⟩ ∧ b < w.heap.size ∧ ∀ k, k < xs.length → AtT w b (off + k * 4) (xs.getD k Ty.nil)) := hcell
  obtain ⟨a2, cap2, rfl, hcap2, hmax2, hnone2, hcell2⟩ := hu
  have HS2 : Hid (xs ≠ [] → ∃ b off, a2 = some ⟨b, off, none⟩ ∧ b < w.heap.size ∧ ∀ k, k < xs.length → AtT w b (off + k * 4) (xs.getD k Ty.nil)) := hcell2
  obtain ⟨n, HN⟩ : ∃ n, Hid (xs.length = n) := ⟨_, rfl⟩
  rw [HN.out] at hcap hcap2 ⊢
  unfold maxLen at hmax hmax2
  clear hcell hnone hcell2 hnone2
  go_enter Tryd.func19, Tryd.ntmps19
  go_wp2
  go_loopw [5] (fun i wr => ∃ k m : Nat, k ≤ n ∧ i = .int .i64 k ∧ wr = w.drewN m) (fun i _ => n - (intOf i).toNat)
  case atStart => exact ⟨0, 0, by omega, rfl, rfl⟩
  case round =>
    obtain ⟨k, m, hk, rfl, rfl⟩ := hrel
    by_cases hlt : k < n
    · obtain ⟨b, off, rfl, hb, hat⟩ := HS.out (fun h => by have := HN.out; rw [h] at this; simp at this; omega)
      obtain ⟨b2, off2, rfl, hbb2, hat2⟩ := HS2.out (fun h => by have := HN.out; rw [h] at this; simp at this; omega)
      obtain ⟨xk, xl, xh, xm, HX⟩ : ∃ xk xl xh xm, Hid (xs.getD k Ty.nil = ⟨xk, xl, xh, xm⟩) := ⟨_, _, _, _, rfl⟩
      have hA := hat k (by have := HN.out; omega)
      have hA2 := hat2 k (by have := HN.out; omega)
      rw [HX.out] at hA hA2
      have hAt : At2 w b (off + k * 4) ⟨xk, xl, xh, xm⟩ b2 (off2 + k * 4) ⟨xk, xl, xh, xm⟩ := ⟨hA, hA2⟩
      clear hat hat2 hA hA2
      go_wp2
      go_region_held3 (fun w' => (w'.cell? ⟨b, off + k * 4, none⟩ = some (.int .i64 xk) ∧ w'.cell? ⟨b, off + k * 4 + 1, none⟩ = some (.int .u64 xl) ∧ w'.cell? ⟨b, off + k * 4 + 2, none⟩ = some (.int .u64 xh) ∧ w'.cell? ⟨b, off + k * 4 + 3, none⟩ = some (.int .i64 xm)) ∧ w'.cell? ⟨b2, off2 + k * 4, none⟩ = some (.int .i64 xk) ∧ w'.cell? ⟨b2, off2 + k * 4 + 1, none⟩ = some (.int .u64 xl) ∧ w'.cell? ⟨b2, off2 + k * 4 + 2, none⟩ = some (.int .u64 xh) ∧ w'.cell? ⟨b2, off2 + k * 4 + 3, none⟩ = some (.int .i64 xm))
        (exact hAt)
        (first | (fail))
      go_wp2
      go_roundw
      case rel => exact ⟨k + 1, m + 1, by omega, by go_num, rfl⟩
      case measure => simp [intOf]; omega
    · obtain rfl : k = n := by omega
      go_wp2
      go_ret
      exact ⟨rfl, m, rfl⟩
theorem find_note : findL ⟨#[110, 111, 116, 101]⟩ = (6, true) := by decide +kernel
theorem name_put : nameF 2 = ⟨#[112, 117, 116]⟩ := rfl
theorem args0_any (w : World) : Calls Tryd.prog 17 #[.int .i64 0] w fun e w' => ∃ b off c, e = .returned (.slice (some ⟨b, off, none⟩) 2 c) ∧ 2 ≤ c ∧ c ≤ 9223372036854775807 ∧ b < w'.heap.size ∧ w'.cell? ⟨b, off, none⟩ = some (.int .i64 2) ∧ Below w.heap.size w w' := by
  refine (args_any 0 w).mono ?_
  rintro e w1 ⟨u1, rfl, hown1, hb1⟩
  obtain ⟨a1, c1, rfl, hcap1, hmax1, _, hcell1⟩ := own_seesT hown1
  obtain ⟨b1, off1, rfl, hlt1, hat1⟩ := hcell1 (by decide)
  have h0 := (hat1 0 (by decide)).1
  rw [Nat.zero_mul, Nat.add_zero] at h0
  exact ⟨b1, off1, c1, rfl, hcap1, by unfold maxLen at hmax1; omega, hlt1, h0, hb1⟩
theorem check9 : checkL 9 [] = 34 := rfl
theorem val0 : valL 0 0 false 7 = 7 := rfl
set_option maxHeartbeats 800000 in
theorem awake_any (w : World) (h : Named w) : Calls Tryd.prog 8 #[] w fun e w' => e = .returned (.bool true) ∧ Below w.heap.size w w' := by
  have HN : Hid (Named w) := h
  have h0 := h.1
  clear h
  go_enter Tryd.func8, Tryd.ntmps8
  go_wp2_with (first
    | (go_at_call 9; go_must (refine (ofind_any _ _ HN.out).mono ?_); rintro e w' ⟨rfl, rfl⟩; rw [find_note])
    | (go_at_call 17; go_must (refine (args0_any _).mono ?_); rintro e w1 ⟨b1, off1, c1, rfl, hcap1, hmax1, hlt1, d0, hb1⟩; go_must (have hz1 := hb1.size))
    | (go_at_call 15; go_must (refine (oname_any 2 _ (HN.out.below hb1 h0)).mono ?_); rintro e w' ⟨rfl, rfl⟩; rw [name_put])
    | (go_at_call 20; go_must (refine (check_any 9 _ [] _ (SeesT.nil _)).mono ?_); rintro e w2 ⟨rfl, hb2⟩; rw [check9]; go_must (have hB2 := hb1.trans (hb2.mono hz1)))
    | (go_at_call 22; go_must (refine (value_any 0 0 false 7 false 0 0 _).mono ?_); rintro e w3 ⟨rfl, hb3⟩; rw [val0]; go_must (have hB3 := hB2.trans (hb3.mono hB2.size))))
  go_ret
  exact ⟨rfl, hB3⟩
end Go.Proofs.YtpgkjoahngfgnaaDoor
