/-
  The law LebAlls' walk. Condition: at most 1048576 bytes.
-/
import Derived.Test.YtkfeomgfpokeeaaRefAll
namespace Go.Proofs.Ytkfeomgfpokeeaa
open Go.RowKit
set_option linter.unusedVariables false

set_option maxHeartbeats 800000 in
theorem alls_walk (v : Value) (xs : List Int) (w : World) (hs : Sees .u8 w v xs) (hn : xs.length ≤ 1048576) :
    Calls Try.prog 5 #[v] w fun e w' => e = .returned (.bool true) ∧ Below w.heap.size w w' := by
  have HW : Hid (∀ n ∈ (allL xs).1, (Lit.int .u64 n).wf = true) := wf_words (allL_nums xs hs.bytes)
  go_enter Try.func5, Try.ntmps5
  go_wp2_with (first
    | (go_at_call 9; go_must (refine (awake_any _).mono ?_); rintro e w1 ⟨rfl, hbe1⟩; have hs1 := hs.below hbe1 (Nat.le_refl _); have hz1 := hbe1.size)
    | (go_at_call 22; go_must (refine (all_any v xs _ hs1 (by omega)).mono ?_); rintro e w2 ⟨u, rfl, hown2, hbe2⟩; have hs2 := hs1.below hbe2 (Nat.le_refl _); have hz2 := hbe2.size; have hb2 := hbe1.trans (hbe2.mono hz1))
    | (go_at_call 23; go_must (refine (refall_any v xs _ hs2 (by omega)).mono ?_); rintro e w3 ⟨u', rfl, hown3, hbe3⟩; have hown2' := own_below hown2 hbe3 (Nat.le_refl _); have hb3 := hb2.trans (hbe3.mono (by omega)))
    | (go_at_call 11; go_must (refine (numbers_any u u' _ _ _ (Sees.own hown2' HW.out) (Sees.own hown3 HW.out)).mono ?_); rintro e w4 ⟨rfl, n4, rfl⟩))
  have hend := below_drewN hb3 n4
  go_ret
  exact ⟨retb (eqB_true rfl), hend⟩
end Go.Proofs.Ytkfeomgfpokeeaa
