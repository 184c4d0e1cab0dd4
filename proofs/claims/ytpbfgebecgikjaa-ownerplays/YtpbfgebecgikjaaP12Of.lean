
/-
  Which shard has a key: the landed Of and the document's, by one plain function.
-/
import Derived.Test.YtpbfgebecgikjaaGKit
namespace Go.Proofs.Ytpbfgebecgikjaa
open Go.RowKit
set_option linter.unusedVariables false
set_option maxRecDepth 20000

/-- The shard of a key. -/
def ofL (k s : Int) : Int := if s < 1 then 0 else k * 11400714819323198485 % 18446744073709551616 / 4294967296 % s
theorem mod_of {x s : Int} (h0 : 0 ≤ x) (h1 : x < 4294967296) (hs : 1 ≤ s) : wrap64 (x.tmod s) = x % s := by
  rw [Int.tmod_eq_emod_of_nonneg h0]
  have h2 := Int.emod_nonneg x (show s ≠ 0 by omega)
  have h3 : x % s ≤ x := by
    have e := Int.mul_ediv_add_emod x s
    have : 0 ≤ s * (x / s) := Int.mul_nonneg (by omega) (Int.ediv_nonneg h0 (by omega))
    omega
  unfold wrap64
  omega
theorem half_of (x m q r : Int) (hr0 : 0 ≤ r) (hr1 : r < 4294967296) : (x * 18446744073709551616 + m * 4294967296 + (q * 4294967296 + r)) % 18446744073709551616 / 4294967296 = (m + q) % 4294967296 := by
  omega
theorem top_of {k : Int} (hk0 : 0 ≤ k) (hk1 : k < 18446744073709551616) : ((k / 4294967296 * 2135587861 + k % 4294967296 * 2654435769) % 18446744073709551616 + k % 4294967296 * 2135587861 / 4294967296) % 18446744073709551616 % 4294967296 = k * 11400714819323198485 % 18446744073709551616 / 4294967296 := by
  obtain ⟨a, ha⟩ : ∃ a, k / 4294967296 = a := ⟨_, rfl⟩
  obtain ⟨b, hb⟩ : ∃ b, k % 4294967296 = b := ⟨_, rfl⟩
  have hk : k = a * 4294967296 + b := by omega
  rw [ha, hb]
  obtain ⟨q, hq⟩ : ∃ q, b * 2135587861 / 4294967296 = q := ⟨_, rfl⟩
  obtain ⟨r, hr⟩ : ∃ r, b * 2135587861 % 4294967296 = r := ⟨_, rfl⟩
  have hbl : b * 2135587861 = q * 4294967296 + r := by omega
  rw [hq]
  have e : k * 11400714819323198485 = (a * 2654435769) * 18446744073709551616 + (a * 2135587861 + b * 2654435769) * 4294967296 + (q * 4294967296 + r) := by omega
  rw [e, half_of _ _ _ _ (by omega) (by omega)]
  generalize a * 2135587861 + b * 2654435769 = m
  omega
theorem lof_any (k s : Int) (w : World) (hk : 0 ≤ k ∧ k < 18446744073709551616) (hs : -9223372036854775808 ≤ s ∧ s ≤ 9223372036854775807) :
    Calls Try.prog 24 #[.int .u64 k, .int .i64 s] w fun e w' => e = .returned (.int .i64 (ofL k s)) ∧ w = w' := by
  obtain ⟨hk0, hk1⟩ := hk
  obtain ⟨hs0, hs1⟩ := hs
  by_cases h1 : s < 1
  · go_enter Try.func24, Try.ntmps24
    go_wp2
    go_ret
    exact ⟨by rw [ofL, if_pos h1]; rfl, rfl⟩
  · go_enter Try.func24, Try.ntmps24
    go_wp2
    go_ret
    refine ⟨?_, rfl⟩
    rw [ofL, if_neg (by omega)]
    refine congrArg Ending.returned ?_
    simp
    rw [IntKind.wrap_u64]
    exact mod_of (by omega) (by omega) h1
theorem rof_any (k s : Int) (w : World) (hk : 0 ≤ k ∧ k < 18446744073709551616) (hs : -9223372036854775808 ≤ s ∧ s ≤ 9223372036854775807) :
    Calls Try.prog 27 #[.int .u64 k, .int .i64 s] w fun e w' => e = .returned (.int .i64 (ofL k s)) ∧ w = w' := by
  obtain ⟨hk0, hk1⟩ := hk
  obtain ⟨hs0, hs1⟩ := hs
  by_cases h1 : s < 1
  · go_enter Try.func27, Try.ntmps27
    go_wp2
    go_ret
    exact ⟨by rw [ofL, if_pos h1]; rfl, rfl⟩
  · go_enter Try.func27, Try.ntmps27
    go_wp2
    go_ret
    refine ⟨?_, rfl⟩
    rw [ofL, if_neg (by omega)]
    refine congrArg Ending.returned ?_
    simp
    rw [IntKind.wrap_u64, IntKind.wrap_u64, Int.tmod_eq_emod_of_nonneg (a := _ % 18446744073709551616) (by omega), top_of hk0 hk1]
    exact mod_of (by omega) (by omega) h1
end Go.Proofs.Ytpbfgebecgikjaa
