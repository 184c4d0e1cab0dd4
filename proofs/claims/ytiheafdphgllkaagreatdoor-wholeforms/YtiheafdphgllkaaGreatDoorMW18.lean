/-
  KBKit
  KW4Lib
-/
import Derived.Test.YtiheafdphgllkaaGreatDoorMW17
import Derived.Test.YtiheafdphgllkaaGreatDoorMW15
import Derived.Laws.AppendOwnNone
import Derived.ProofKit
import Derived.OpenShut
import Derived.ShutString
import Derived.ChangeOld
import Derived.Below
import Derived.JoinedCond
import Derived.WalkLawsBesides
namespace Go.Proofs.YtiheafdphgllkaaGreatDoor
open Go.RowKit Go.ChangeShapes Go.WideShapes Go.ChangeAt
set_option linter.unusedVariables false
open Go.RowKit
theorem size_u8 (w : World) : (Go.sizeOf 5).run Tryz.prog w = .ok 1 w := by
 obtain ⟨i0, hi, hz0, hz1, hz2⟩ := info_parts Tryz.info5
 simp [Go.sizeOf, typeInfo, hi, hz1]
theorem width_one (x : Int) (n : Nat) (w : World) (hn : n = w.heap.size) (h : 0 <= x /\ x < 18446744073709551616) :
  Calls Tryz.prog 43 #[.slice (some ⟨n, 0, none⟩) 1 1] (w.alloc (.cells #[.int .u64 x] 26)) fun e w' => e = .returned (.int .i64 (enc x).length) /\ w.alloc (.cells #[.int .u64 x] 26) = w' := by
 subst hn
 have h2 := width_any _ [x] _ (Sees.lit w .u64 26 [x] _ 1 rfl rfl (by simp) (by intro y hy; simp at hy; subst hy; exact WalkArith.wf_u64 (by omega))) (by simp)
 rw [encs_one] at h2
 exact h2
theorem put_one (x : Int) (n : Nat) (w : World) (hn : n = w.heap.size) (h : 0 <= x /\ x < 18446744073709551616) :
  Calls Tryz.prog 19 #[.slice (some ⟨n, 0, none⟩) 1 1] (w.alloc (.cells #[.int .u64 x] 26)) fun e w' => ∃ v, e = .returned v /\ w'.ownsRow w.heap.size 5 1 v (enc x).length ((enc x).map (Value.int .u8)) /\ Below w.heap.size w w' := by
 subst hn
 have h2 := put_any _ [x] _ (Sees.lit w .u64 26 [x] _ 1 rfl rfl (by simp) (by intro y hy; simp at hy; subst hy; exact WalkArith.wf_u64 (by omega))) (by simp)
 rw [encs_one] at h2
 refine h2.mono ?_
 rintro e w' ⟨v, rfl, hown, hbe⟩
 refine ⟨v, rfl, ?_, ((Below.refl _ _).alloc (Nat.le_refl _) _).trans (hbe.mono (by simp))⟩
 rcases hown with ⟨h1, h2 | ⟨g, cap, cur, hv, hg, r⟩⟩
 ·exact ⟨h1, .inl h2⟩
 ·exact ⟨h1, .inr ⟨g, cap, cur, hv, by simp at hg; omega, r⟩⟩
def memB_w (xs : List Int) (n : Int) : Bool := decide (n ∈ xs)
theorem memB_getD {xs : List Int} {n : Int} {k : Nat} (hk : k < xs.length) (h : n = xs.getD k 0) : memB_w xs n = true := by
 unfold memB_w; rw [h]; exact decide_eq_true (getD_mem_w xs k hk)
theorem memB_none {xs : List Int} {n : Int} (h : ∀ j, j < xs.length -> xs.getD j 0 ≠ n) : memB_w xs n = false := by
 unfold memB_w
 refine decide_eq_false fun hm => ?_
 obtain ⟨j, hj, he⟩ := List.getElem_of_mem hm
 exact h j hj (by simp [List.getD, hj, he])

set_option maxHeartbeats 400000 in
theorem index_some (b off cap : Nat) (xs : List Int) (n : Int) (w : World) (hmax : xs.length <= 9223372036854775807)
  (hc : ∀ i, i < xs.length -> w.cell? ⟨b, off + i, none⟩ = some (.int .i64 (xs.getD i 0))) :
  Calls Tryz.prog 79 #[.slice (some ⟨b, off, none⟩) xs.length cap, .int .i64 n] w fun e w' => ∃ r, e = .returned (.int .i64 r) /\ decide (0 <= r) = memB_w xs n /\ w = w' := by
 go_enter Tryz.func79, Tryz.ntmps79
 go_wp2
 go_loop [8] (fun i => ∃ k : Nat, k <= xs.length /\ i = .int .i64 k /\ ∀ j, j < k -> xs.getD j 0 ≠ n) (fun i => xs.length - (intOf i).toNat)
 case atStart => exact ⟨0, by omega, rfl, by omega⟩
 case round =>
  obtain ⟨k, hk, rfl, hall⟩ := hrel
  have HA : Hid (∀ j, j < k -> xs.getD j 0 ≠ n) := hall
  clear hall
  by_cases hlt : k < xs.length
  ·obtain ⟨x, hx, HX⟩ : ∃ x, w.cell? ⟨b, off + k, none⟩ = some (.int .i64 x) /\ Hid (x = xs.getD k 0) := ⟨_, hc k hlt, rfl⟩
   clear hc
   by_cases hxy : n = x
   ·have hb : (n == x) = true := by simpa using hxy
    have HE : Hid (memB_w xs n = true) := memB_getD hlt (hxy.trans HX.out)
    clear hxy
    go_wp2
    go_ret
    exact ⟨_, rfl, by rw [HE.out]; exact decide_eq_true (by omega), rfl⟩
   ·have hb : (n == x) = false := by simpa using hxy
    have HB : Hid (∀ j, j < k + 1 -> xs.getD j 0 ≠ n) := by
     intro j hj
     rcases Nat.lt_succ_iff_lt_or_eq.1 hj with h | h
     ·exact HA.out j h
     ·rw [h, <- HX.out]; exact fun e => hxy e.symm
    clear hxy
    go_wp2
    go_round
    case rel => exact ⟨k + 1, by omega, by go_num, HB.out⟩
    case measure => simp [intOf]; omega
  ·have HE : Hid (memB_w xs n = false) := memB_none fun j hj => HA.out j (by omega)
   clear hc
   go_wp2
   go_ret
   exact ⟨_, rfl, by rw [HE.out]; rfl, rfl⟩
theorem index_any (v : Value) (xs : List Int) (n : Int) (w : World) (h : Sees .i64 w v xs) :
  Calls Tryz.prog 79 #[v, .int .i64 n] w fun e w' => ∃ r, e = .returned (.int .i64 r) /\ decide (0 <= r) = memB_w xs n /\ w = w' := by
 obtain ⟨a, cap, rfl, hl, hm, hn0, hw, hs⟩ := h
 unfold maxLen at hm
 by_cases hne : xs = []
 ·subst hne
  go_enter Tryz.func79, Tryz.ntmps79
  go_wp2
  refine wp_loop_rounds 1 ?_
  rw [rounds_succ]
  go_wp2
  go_ret
  exact ⟨_, rfl, rfl, rfl⟩
 ·obtain ⟨b, off, rfl, _, hc⟩ := hs hne
  exact index_some b off cap xs n w (by omega) hc
theorem contains_any (v : Value) (xs : List Int) (n : Int) (w : World) (h : Sees .i64 w v xs) :
  Calls Tryz.prog 50 #[v, .int .i64 n] w fun e w' => e = .returned (.bool (memB_w xs n)) /\ w = w' := by
 go_enter Tryz.func50, Tryz.ntmps50
 go_wp2_with (go_at_call 79; go_must (refine (index_any v xs n _ h).mono ?_); rintro e w' ⟨r, rfl, HR, rfl⟩; have HR : Hid (decide (0 <= r) = memB_w xs n) := HR)
 all_goals go_ret
 all_goals exact ⟨retb (by rw [<- HR.out]), rfl⟩

set_option maxHeartbeats 400000 in
theorem equal_some (b off cap b' off' cap' : Nat) (xs ys : List Int) (w : World) (hlen : xs.length = ys.length) (hmax : xs.length <= 9223372036854775807)
  (hc : ∀ i, i < xs.length -> w.cell? ⟨b, off + i, none⟩ = some (.int .i64 (xs.getD i 0)))
  (hc' : ∀ i, i < ys.length -> w.cell? ⟨b', off' + i, none⟩ = some (.int .i64 (ys.getD i 0))) :
  Calls Tryz.prog 27 #[.slice (some ⟨b, off, none⟩) xs.length cap, .slice (some ⟨b', off', none⟩) ys.length cap'] w fun e w' => e = .returned (.bool (eqB xs ys)) /\ ∃ n, w' = w.drewN n := by
 obtain ⟨L, HL⟩ : ∃ L, Hid (L = xs.length) := ⟨_, rfl⟩
 rw [<- hlen] at hc' ⊢
 rw [<- HL.out] at hc hc' hmax ⊢
 go_enter Tryz.func27, Tryz.ntmps27
 go_wp2
 go_loopw [13] (fun i wr => ∃ k n : Nat, k <= L /\ i = .int .i64 k /\ wr = w.drewN n /\ xs.take k = ys.take k) (fun i _ => L - (intOf i).toNat)
 case atStart => exact ⟨0, 0, by omega, rfl, rfl, rfl⟩
 case round =>
  obtain ⟨k, n, hk, rfl, rfl, ht⟩ := hrel
  have HT : Hid (xs.take k = ys.take k) := ht
  clear ht
  by_cases hlt : k < L
  ·obtain ⟨x, hx, HX⟩ : ∃ x, w.cell? ⟨b, off + k, none⟩ = some (.int .i64 x) /\ Hid (x = xs.getD k 0) := ⟨_, hc k hlt, rfl⟩
   obtain ⟨y, hy, HY⟩ : ∃ y, w.cell? ⟨b', off' + k, none⟩ = some (.int .i64 y) /\ Hid (y = ys.getD k 0) := ⟨_, hc' k hlt, rfl⟩
   clear hc hc'
   by_cases hxy : x = y
   ·subst hxy
    have HT' : Hid (xs.take (k + 1) = ys.take (k + 1)) := by
     rw [take_at xs k (by rw [<- HL.out]; omega), take_at ys k (by rw [<- hlen, <- HL.out]; omega), HT.out, <- HX.out, <- HY.out]; rfl
    go_wp2
    go_region
    all_goals go_wp2
    all_goals go_roundw
    case rel => exact ⟨k + 1, _, by omega, by go_num, rfl, HT'.out⟩
    case measure => simp [intOf]; omega
   ·have hb : (x != y) = true := by simpa using hxy
    have HE : Hid (eqB xs ys = false) := eqB_false fun h => hxy (by rw [HX.out, HY.out, h])
    clear hxy
    go_wp2
    go_region
    all_goals go_wp2
    all_goals go_ret
    all_goals exact ⟨retb HE.out.symm, _, rfl⟩
  ·have HE : Hid (eqB xs ys = true) := eqB_true (by
    have h1 : xs.take k = xs := List.take_of_length_le (by rw [<- HL.out]; omega)
    have h2 : ys.take k = ys := List.take_of_length_le (by rw [<- hlen, <- HL.out]; omega)
    rw [<- h1, HT.out, h2])
   clear hc hc'
   go_wp2
   go_ret
   exact ⟨retb HE.out.symm, _, rfl⟩
theorem equal_any (va vb : Value) (xs ys : List Int) (w : World) (h : Sees .i64 w va xs) (h' : Sees .i64 w vb ys) :
  Calls Tryz.prog 27 #[va, vb] w fun e w' => e = .returned (.bool (eqB xs ys)) /\ ∃ n, w' = w.drewN n := by
 obtain ⟨a, cap, rfl, hl, hm, hn0, hw, hs⟩ := h
 obtain ⟨a', cap', rfl, hl', hm', hn0', hw', hs'⟩ := h'
 unfold maxLen at hm hm'
 by_cases hlen : xs.length = ys.length
 ·by_cases hne : xs = []
  ·subst hne
   obtain rfl : ys = [] := List.eq_nil_of_length_eq_zero (by simpa using hlen.symm)
   go_enter Tryz.func27, Tryz.ntmps27
   go_wp2
   refine wp_loop_rounds 1 ?_
   rw [rounds_succ]
   go_wp2
   go_ret
   exact ⟨rfl, 0, rfl⟩
  ·obtain ⟨b, off, rfl, _, hc⟩ := hs hne
   obtain ⟨b', off', rfl, _, hc'⟩ := hs' (fun e => hne (List.eq_nil_of_length_eq_zero (by rw [hlen, e]; rfl)))
   exact equal_some b off cap b' off' cap' xs ys w hlen (by omega) hc hc'
 ·have hb : ((xs.length : Int) != (ys.length : Int)) = true := by simp; omega
  have HE : Hid (eqB xs ys = false) := eqB_false fun h => hlen (by rw [h])
  clear hs hs'
  go_enter Tryz.func27, Tryz.ntmps27
  go_wp2
  go_ret
  exact ⟨retb HE.out.symm, 0, rfl⟩
end Go.Proofs.YtiheafdphgllkaaGreatDoor
