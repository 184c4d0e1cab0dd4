/-
  KBKit
  KW4Lib
-/
import Derived.Test.YtlkdniglaldilaaGreatMG6
import Derived.Test.YtlkdniglaldilaaGreatMG22
import Derived.Laws.AppendOwnNone
import Derived.ProofKit
import Derived.OpenShut
import Derived.ShutString
import Derived.ChangeOld
import Derived.Below
import Derived.JoinedCond
import Derived.WalkLawsBesides
namespace Go.Proofs.YtlkdniglaldilaaGreat
open Go.RowKit Go.ChangeShapes Go.WideShapes Go.ChangeAt
set_option linter.unusedVariables false
open Go.RowKit
theorem size_u8 (w : World) : (Go.sizeOf 5).run Tryz.prog w = .ok 1 w := by
 obtain ⟨i0, hi, hz0, hz1, hz2⟩ := info_parts Tryz.info5
 simp [Go.sizeOf, typeInfo, hi, hz1]
def memB_w (xs : List Int) (n : Int) : Bool := decide (n ∈ xs)
theorem memB_getD {xs : List Int} {n : Int} {k : Nat} (hk : k < xs.length) (h : n = xs.getD k 0) : memB_w xs n = true := by
 unfold memB_w; rw [h]; exact decide_eq_true (getD_mem_w xs k hk)
theorem memB_none {xs : List Int} {n : Int} (h : ∀ j, j < xs.length -> xs.getD j 0 ≠ n) : memB_w xs n = false := by
 unfold memB_w
 refine decide_eq_false fun hm => ?_
 obtain ⟨j, hj, he⟩ := List.getElem_of_mem hm
 exact h j hj (by simp [List.getD, hj, he])

set_option maxHeartbeats 400000 in
theorem index_some (b off cap : Nat) (xs : List Int) (n : Int) (w : World) (hmax : xs.length <= 9223372036854775807)
  (hc : ∀ i, i < xs.length -> w.cell? ⟨b, off + i, none⟩ = some (.int .i64 (xs.getD i 0))) :
  Calls Tryz.prog 55 #[.slice (some ⟨b, off, none⟩) xs.length cap, .int .i64 n] w fun e w' => ∃ r, e = .returned (.int .i64 r) /\ decide (0 <= r) = memB_w xs n /\ w = w' := by
 go_enter Tryz.func55, Tryz.ntmps55
 go_wp2
 go_loop [8] (fun i => ∃ k : Nat, k <= xs.length /\ i = .int .i64 k /\ ∀ j, j < k -> xs.getD j 0 ≠ n) (fun i => xs.length - (intOf i).toNat)
 case atStart => exact ⟨0, by omega, rfl, by omega⟩
 case round =>
  obtain ⟨k, hk, rfl, hall⟩ := hrel
  have HA : Hid (∀ j, j < k -> xs.getD j 0 ≠ n) := hall
  clear hall
  by_cases hlt : k < xs.length
  ·obtain ⟨x, hx, HX⟩ : ∃ x, w.cell? ⟨b, off + k, none⟩ = some (.int .i64 x) /\ Hid (x = xs.getD k 0) := ⟨_, hc k hlt, rfl⟩
   clear hc
   by_cases hxy : n = x
   ·have hb : (n == x) = true := by simpa using hxy
    have HE : Hid (memB_w xs n = true) := memB_getD hlt (hxy.trans HX.out)
    clear hxy
    go_wp2
    go_ret
    exact ⟨_, rfl, by rw [HE.out]; exact decide_eq_true (by omega), rfl⟩
   ·have hb : (n == x) = false := by simpa using hxy
    have HB : Hid (∀ j, j < k + 1 -> xs.getD j 0 ≠ n) := by
     intro j hj
     rcases Nat.lt_succ_iff_lt_or_eq.1 hj with h | h
     ·exact HA.out j h
     ·rw [h, <- HX.out]; exact fun e => hxy e.symm
    clear hxy
    go_wp2
    go_round
    case rel => exact ⟨k + 1, by omega, by go_num, HB.out⟩
    case measure => simp [intOf]; omega
  ·have HE : Hid (memB_w xs n = false) := memB_none fun j hj => HA.out j (by omega)
   clear hc
   go_wp2
   go_ret
   exact ⟨_, rfl, by rw [HE.out]; rfl, rfl⟩
theorem index_any (v : Value) (xs : List Int) (n : Int) (w : World) (h : Sees .i64 w v xs) :
  Calls Tryz.prog 55 #[v, .int .i64 n] w fun e w' => ∃ r, e = .returned (.int .i64 r) /\ decide (0 <= r) = memB_w xs n /\ w = w' := by
 obtain ⟨a, cap, rfl, hl, hm, hn0, hw, hs⟩ := h
 unfold maxLen at hm
 by_cases hne : xs = []
 ·subst hne
  go_enter Tryz.func55, Tryz.ntmps55
  go_wp2
  refine wp_loop_rounds 1 ?_
  rw [rounds_succ]
  go_wp2
  go_ret
  exact ⟨_, rfl, rfl, rfl⟩
 ·obtain ⟨b, off, rfl, _, hc⟩ := hs hne
  exact index_some b off cap xs n w (by omega) hc
theorem contains_any (v : Value) (xs : List Int) (n : Int) (w : World) (h : Sees .i64 w v xs) :
  Calls Tryz.prog 49 #[v, .int .i64 n] w fun e w' => e = .returned (.bool (memB_w xs n)) /\ w = w' := by
 go_enter Tryz.func49, Tryz.ntmps49
 go_wp2_with (go_at_call 55; go_must (refine (index_any v xs n _ h).mono ?_); rintro e w' ⟨r, rfl, HR, rfl⟩; have HR : Hid (decide (0 <= r) = memB_w xs n) := HR)
 all_goals go_ret
 all_goals exact ⟨retb (by rw [<- HR.out]), rfl⟩

end Go.Proofs.YtlkdniglaldilaaGreat
