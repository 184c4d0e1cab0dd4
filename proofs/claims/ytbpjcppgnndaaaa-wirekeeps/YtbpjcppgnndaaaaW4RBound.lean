/-
  What the document's Back, bound and next do: the signed number; what is wrong with a field's number by itself; the field that comes behind one. Condition: the maps lie where the slice says.
-/
import Derived.Test.YtbpjcppgnndaaaaW4RPlain
import Derived.Test.YtbpjcppgnndaaaaBRefGet
namespace Go.Proofs.Ytbpjcppgnndaaaa
open Go.RowKit
set_option linter.unusedVariables false
set_option maxRecDepth 100000
set_option linter.unusedSimpArgs false

theorem keepH4 {p : Prop} (h : p) : Hid p := h
theorem Sees.cellAt4 {k : IntKind} {w : World} {a : Option Addr} {n cap : Nat} {xs : List Int} (h : Sees k w (.slice a n cap) xs) (i : Nat) (hi : i < xs.length) : ∃ b off, a = some ⟨b, off, none⟩ ∧ w.cell? ⟨b, off + i, none⟩ = some (.int k (xs.getD i 0)) := by
  obtain ⟨a', cap', hv, _, _, _, _, hs⟩ := h
  injection hv with e1
  subst e1
  obtain ⟨b, off, rfl, _, hc⟩ := hs (fun e => by subst e; simp at hi)
  exact ⟨b, off, rfl, hc i hi⟩
theorem Sees.lenMax4 {k : IntKind} {w : World} {v : Value} {xs : List Int} (h : Sees k w v xs) : xs.length ≤ 9223372036854775807 := by
  obtain ⟨a, cap, _, h1, h2, _⟩ := h
  unfold maxLen at h2
  omega
theorem rback_any (u : Int) (w : World) (h : 0 ≤ u) (h' : u < 18446744073709551616) :
    Calls Try.prog 30 #[.int .u64 u] w fun e w' => e = .returned (.int .i64 (unfoldI u)) ∧ w = w' := by
  unfold unfoldI
  by_cases h0 : u % 2 = 1
  · have hb : (u % 2 == 0) = false := by simp; omega
    go_enter Try.func30, Try.ntmps30
    go_wp2
    go_ret
    exact ⟨ret1 (by first | omega | (simp [h0]; omega)), rfl⟩
  · have hb : (u % 2 == 0) = true := by simp; omega
    go_enter Try.func30, Try.ntmps30
    go_wp2
    go_ret
    exact ⟨ret1 (by first | omega | (simp [h0]; omega)), rfl⟩

set_option maxHeartbeats 800000 in
theorem rbound_3 (n : Int) (a : Option Addr) (L cap : Nat) (ms : List Int) (w : World) (h0 : 0 ≤ n) (h1 : n < 18446744073709551616) (hL : L ≤ 9223372036854775807) :
    Calls Try.prog 29 #[.int .i64 3, .int .u64 n, .slice a L cap] w fun e w' => e = .returned (.int .i64 (boundI 3 n ms)) ∧ w = w' := by
  by_cases hn : 4 < n
  · have HE : Hid (boundI 3 n ms = 11) := by show _ = _; simp [boundI, hn]
    go_enter Try.func29, Try.ntmps29
    go_wp2_with fail
    go_ret
    exact ⟨ret1 HE.out.symm, rfl⟩
  · have HE : Hid (boundI 3 n ms = 0) := by show _ = _; simp [boundI, hn]
    go_enter Try.func29, Try.ntmps29
    go_wp2_with fail
    refine wp_loop_rounds 1 ?_
    rw [rounds_succ]
    by_cases hl0 : 0 < L
    · go_wp2_with fail
      go_ret
      exact ⟨ret1 HE.out.symm, rfl⟩
    · go_wp2_with fail
      go_ret
      exact ⟨ret1 HE.out.symm, rfl⟩

set_option maxHeartbeats 800000 in
theorem rbound_6 (n : Int) (a : Option Addr) (L cap : Nat) (ms : List Int) (w : World) (h0 : 0 ≤ n) (h1 : n < 18446744073709551616) (hL : L ≤ 9223372036854775807) :
    Calls Try.prog 29 #[.int .i64 6, .int .u64 n, .slice a L cap] w fun e w' => e = .returned (.int .i64 (boundI 6 n ms)) ∧ w = w' := by
  by_cases hn : 22 < n
  · have HE : Hid (boundI 6 n ms = 12) := by show _ = _; simp [boundI, hn]
    go_enter Try.func29, Try.ntmps29
    go_wp2_with fail
    go_ret
    exact ⟨ret1 HE.out.symm, rfl⟩
  · have HE : Hid (boundI 6 n ms = 0) := by show _ = _; simp [boundI, hn]
    go_enter Try.func29, Try.ntmps29
    go_wp2_with fail
    refine wp_loop_rounds 1 ?_
    rw [rounds_succ]
    by_cases hl0 : 0 < L
    · go_wp2_with fail
      go_ret
      exact ⟨ret1 HE.out.symm, rfl⟩
    · go_wp2_with fail
      go_ret
      exact ⟨ret1 HE.out.symm, rfl⟩

set_option maxHeartbeats 800000 in
theorem rbound_7 (n : Int) (a : Option Addr) (L cap : Nat) (ms : List Int) (w : World) (h0 : 0 ≤ n) (h1 : n < 18446744073709551616) (hL : L ≤ 9223372036854775807) :
    Calls Try.prog 29 #[.int .i64 7, .int .u64 n, .slice a L cap] w fun e w' => e = .returned (.int .i64 (boundI 7 n ms)) ∧ w = w' := by
  by_cases hn : 63 < n
  · have HE : Hid (boundI 7 n ms = 12) := by show _ = _; simp [boundI, hn]
    go_enter Try.func29, Try.ntmps29
    go_wp2_with fail
    go_ret
    exact ⟨ret1 HE.out.symm, rfl⟩
  · have HE : Hid (boundI 7 n ms = 0) := by show _ = _; simp [boundI, hn]
    go_enter Try.func29, Try.ntmps29
    go_wp2_with fail
    refine wp_loop_rounds 1 ?_
    rw [rounds_succ]
    by_cases hl0 : 0 < L
    · go_wp2_with fail
      go_ret
      exact ⟨ret1 HE.out.symm, rfl⟩
    · go_wp2_with fail
      go_ret
      exact ⟨ret1 HE.out.symm, rfl⟩

set_option maxHeartbeats 800000 in
theorem rbound_8 (n : Int) (a : Option Addr) (L cap : Nat) (ms : List Int) (w : World) (h0 : 0 ≤ n) (h1 : n < 18446744073709551616) (hL : L ≤ 9223372036854775807) :
    Calls Try.prog 29 #[.int .i64 8, .int .u64 n, .slice a L cap] w fun e w' => e = .returned (.int .i64 (boundI 8 n ms)) ∧ w = w' := by
  by_cases hn : 63 < n
  · have HE : Hid (boundI 8 n ms = 12) := by show _ = _; simp [boundI, hn]
    go_enter Try.func29, Try.ntmps29
    go_wp2_with fail
    go_ret
    exact ⟨ret1 HE.out.symm, rfl⟩
  · have HE : Hid (boundI 8 n ms = 0) := by show _ = _; simp [boundI, hn]
    go_enter Try.func29, Try.ntmps29
    go_wp2_with fail
    refine wp_loop_rounds 1 ?_
    rw [rounds_succ]
    by_cases hl0 : 0 < L
    · go_wp2_with fail
      go_ret
      exact ⟨ret1 HE.out.symm, rfl⟩
    · go_wp2_with fail
      go_ret
      exact ⟨ret1 HE.out.symm, rfl⟩

set_option maxHeartbeats 800000 in
theorem rbound_9 (n : Int) (a : Option Addr) (L cap : Nat) (ms : List Int) (w : World) (h0 : 0 ≤ n) (h1 : n < 18446744073709551616) (hL : L ≤ 9223372036854775807) :
    Calls Try.prog 29 #[.int .i64 9, .int .u64 n, .slice a L cap] w fun e w' => e = .returned (.int .i64 (boundI 9 n ms)) ∧ w = w' := by
  by_cases hn : 63 < n
  · have HE : Hid (boundI 9 n ms = 12) := by show _ = _; simp [boundI, hn]
    go_enter Try.func29, Try.ntmps29
    go_wp2_with fail
    go_ret
    exact ⟨ret1 HE.out.symm, rfl⟩
  · have HE : Hid (boundI 9 n ms = 0) := by show _ = _; simp [boundI, hn]
    go_enter Try.func29, Try.ntmps29
    go_wp2_with fail
    refine wp_loop_rounds 1 ?_
    rw [rounds_succ]
    by_cases hl0 : 0 < L
    · go_wp2_with fail
      go_ret
      exact ⟨ret1 HE.out.symm, rfl⟩
    · go_wp2_with fail
      go_ret
      exact ⟨ret1 HE.out.symm, rfl⟩

set_option maxHeartbeats 800000 in
theorem rbound_5 (n : Int) (a : Option Addr) (L cap : Nat) (ms : List Int) (w : World) (h0 : 0 ≤ n) (h1 : n < 18446744073709551616) (hL : L ≤ 9223372036854775807) :
    Calls Try.prog 29 #[.int .i64 5, .int .u64 n, .slice a L cap] w fun e w' => e = .returned (.int .i64 (boundI 5 n ms)) ∧ w = w' := by
  by_cases hn : 64 < n
  · have HE : Hid (boundI 5 n ms = 11) := by show _ = _; simp [boundI, hn]
    go_enter Try.func29, Try.ntmps29
    go_wp2_with fail
    go_ret
    exact ⟨ret1 HE.out.symm, rfl⟩
  · by_cases hz : n = 0
    · have HE : Hid (boundI 5 n ms = 12) := by show _ = _; simp [boundI, hn, hz]
      have hzb : (n == 0) = true := by simpa using hz
      clear hz
      go_enter Try.func29, Try.ntmps29
      go_wp2_with fail
      go_ret
      exact ⟨ret1 HE.out.symm, rfl⟩
    · have HE : Hid (boundI 5 n ms = 0) := by show _ = _; simp [boundI, hn, hz]
      have hzb : (n == 0) = false := by simpa using hz
      clear hz
      go_enter Try.func29, Try.ntmps29
      go_wp2_with fail
      refine wp_loop_rounds 1 ?_
      rw [rounds_succ]
      by_cases hl0 : 0 < L
      · go_wp2_with fail
        go_ret
        exact ⟨ret1 HE.out.symm, rfl⟩
      · go_wp2_with fail
        go_ret
        exact ⟨ret1 HE.out.symm, rfl⟩

set_option maxHeartbeats 800000 in
theorem rbound_10 (n : Int) (a : Option Addr) (L cap : Nat) (ms : List Int) (w : World) (h0 : 0 ≤ n) (h1 : n < 18446744073709551616) (hL : L ≤ 9223372036854775807) :
    Calls Try.prog 29 #[.int .i64 10, .int .u64 n, .slice a L cap] w fun e w' => e = .returned (.int .i64 (boundI 10 n ms)) ∧ w = w' := by
  have HE : Hid (boundI 10 n ms = 0) := by show _ = _; simp [boundI]
  go_enter Try.func29, Try.ntmps29
  go_wp2_with fail
  refine wp_loop_rounds 1 ?_
  rw [rounds_succ]
  by_cases hl0 : 0 < L
  · go_wp2_with fail
    go_ret
    exact ⟨ret1 HE.out.symm, rfl⟩
  · go_wp2_with fail
    go_ret
    exact ⟨ret1 HE.out.symm, rfl⟩

set_option maxHeartbeats 1600000 in
theorem rbound_4 (n : Int) (v : Value) (ms : List Int) (w : World) (h0 : 0 ≤ n) (h1 : n < 18446744073709551616) (hsee : Sees .i64 w v ms) :
    Calls Try.prog 29 #[.int .i64 4, .int .u64 n, v] w fun e w' => e = .returned (.int .i64 (boundI 4 n ms)) ∧ w = w' := by
  obtain ⟨a, cap, hv⟩ := hsee.shape
  have hL := hsee.lenMax4
  obtain ⟨L, HL⟩ : ∃ L, Hid (L = ms.length) := ⟨_, rfl⟩
  rw [← HL.out] at hv hL
  subst hv
  have HS := keepH4 hsee
  clear hsee
  by_cases hn : 3 < n
  · have HE : Hid (boundI 4 n ms = 12) := by show _ = _; simp [boundI, hn]
    go_enter Try.func29, Try.ntmps29
    go_wp2_with fail
    go_ret
    exact ⟨ret1 HE.out.symm, rfl⟩
  · go_enter Try.func29, Try.ntmps29
    go_wp2_with fail
    go_loop [7] (fun i => ∃ k : Nat, k ≤ L ∧ i = .int .i64 k ∧ ∀ j, j < k → ms.getD j 0 ≠ n) (fun i => L - (intOf i).toNat)
    case atStart => exact ⟨0, by omega, rfl, by omega⟩
    case round =>
      obtain ⟨k, hk, rfl, hall⟩ := hrel
      have HA : Hid (∀ j, j < k → ms.getD j 0 ≠ n) := hall
      clear hall
      by_cases hlt : k < L
      · obtain ⟨b, off, e1, hx⟩ := Sees.cellAt4 HS.out k (by rw [← HL.out]; exact hlt)
        obtain ⟨x, HX⟩ : ∃ x, Hid (ms.getD k 0 = x) := ⟨_, rfl⟩
        rw [HX.out] at hx
        subst e1
        by_cases hxy : x = n
        · have hb : (x == n) = true := by simpa using hxy
          have HE : Hid (boundI 4 n ms = 12) := by
            have hm : n ∈ ms := by
              rw [← hxy, ← HX.out]; exact getD_mem ms k (by rw [← HL.out]; exact hlt)
            show _ = _
            simp [boundI, hn, hm]
          clear hxy
          go_wp2_with fail
          go_ret
          exact ⟨ret1 HE.out.symm, rfl⟩
        · have hb : (x == n) = false := by simpa using hxy
          have HB : Hid (∀ j, j < k + 1 → ms.getD j 0 ≠ n) := by
            intro j hj
            rcases Nat.lt_succ_iff_lt_or_eq.1 hj with h | h
            · exact HA.out j h
            · rw [h, HX.out]; exact hxy
          clear hxy
          go_wp2_with fail
          go_round
          case rel => exact ⟨k + 1, by omega, by go_num, HB.out⟩
          case measure => simp [intOf]; omega
      · have HE : Hid (boundI 4 n ms = 0) := by
          have hm : ¬ n ∈ ms := of_decide_eq_false (memB_none (xs := ms) (n := n) fun j hj => HA.out j (by rw [← HL.out] at hj; omega))
          show _ = _
          simp [boundI, hn, hm]
        go_wp2_with fail
        go_ret
        exact ⟨ret1 HE.out.symm, rfl⟩
/-- bound, in whatever state. -/
theorem rbound_any (st : Nat) (n : Int) (v : Value) (ms : List Int) (w : World) (hs0 : 3 ≤ st) (hs1 : st < 11) (h0 : 0 ≤ n) (h1 : n < 18446744073709551616) (hsee : Sees .i64 w v ms) :
    Calls Try.prog 29 #[.int .i64 st, .int .u64 n, v] w fun e w' => e = .returned (.int .i64 (boundI st n ms)) ∧ w = w' := by
  have hL := hsee.lenMax4
  obtain ⟨a, cap, hv⟩ := hsee.shape
  have hc : st = 3 ∨ st = 4 ∨ st = 5 ∨ st = 6 ∨ st = 7 ∨ st = 8 ∨ st = 9 ∨ st = 10 := by omega
  rcases hc with rfl | rfl | rfl | rfl | rfl | rfl | rfl | rfl
  · subst hv; exact rbound_3 n a _ cap ms w h0 h1 hL
  · exact rbound_4 n v ms w h0 h1 hsee
  · subst hv; exact rbound_5 n a _ cap ms w h0 h1 hL
  · subst hv; exact rbound_6 n a _ cap ms w h0 h1 hL
  · subst hv; exact rbound_7 n a _ cap ms w h0 h1 hL
  · subst hv; exact rbound_8 n a _ cap ms w h0 h1 hL
  · subst hv; exact rbound_9 n a _ cap ms w h0 h1 hL
  · subst hv; exact rbound_10 n a _ cap ms w h0 h1 hL

set_option maxHeartbeats 800000 in
theorem rnext_any (st m c : Int) (w : World) (h0 : 0 ≤ st) (h1 : st ≤ 100) : Calls Try.prog 32 #[.int .i64 st, .int .i64 m, .int .i64 c] w fun e w' => e = .returned (.int .i64 (nextI st m c)) ∧ w = w' := by
  by_cases h4 : st ≤ 4
  · by_cases hm : 0 < m
    · have HE : Hid (nextI st m c = 4) := by show _ = _; simp [nextI, h4, hm]
      go_enter Try.func32, Try.ntmps32
      go_wp2_with fail
      go_ret
      exact ⟨ret1 HE.out.symm, rfl⟩
    · have HE : Hid (nextI st m c = 5) := by show _ = _; simp [nextI, h4, hm]
      go_enter Try.func32, Try.ntmps32
      go_wp2_with fail
      go_ret
      exact ⟨ret1 HE.out.symm, rfl⟩
  · by_cases h10 : st = 10
    · subst h10
      by_cases hc : 0 < c
      · have HE : Hid (nextI 10 m c = 6) := by show _ = _; simp [nextI, hc]
        go_enter Try.func32, Try.ntmps32
        go_wp2_with fail
        go_ret
        exact ⟨ret1 HE.out.symm, rfl⟩
      · have HE : Hid (nextI 10 m c = 11) := by show _ = _; simp [nextI, hc]
        go_enter Try.func32, Try.ntmps32
        go_wp2_with fail
        go_ret
        exact ⟨ret1 HE.out.symm, rfl⟩
    · have hb : (st == 10) = false := by simpa using h10
      have HE : Hid (nextI st m c = st + 1) := by show _ = _; simp [nextI, h4, h10]
      clear h10
      go_enter Try.func32, Try.ntmps32
      go_wp2_with fail
      go_ret
      exact ⟨ret1 HE.out.symm, rfl⟩
end Go.Proofs.Ytbpjcppgnndaaaa
