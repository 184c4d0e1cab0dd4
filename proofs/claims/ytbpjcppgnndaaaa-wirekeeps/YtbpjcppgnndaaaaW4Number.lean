/-
  What the reader's methods number, signed, head and end do: they read a field, or keep the first error. Condition: the bytes lie where the reader says.
-/
import Derived.Test.YtbpjcppgnndaaaaW4Reader
namespace Go.Proofs.Ytbpjcppgnndaaaa
open Go.RowKit
set_option linter.unusedVariables false
set_option maxRecDepth 100000

set_option maxHeartbeats 1600000 in
theorem number_above (br : Nat) (a : Option Addr) (cap : Nat) (xs : List Int) (p : Nat) (most above : Int) (w : World) (h : RdC w br (.slice a xs.length cap) p 0 0) (hsee : Sees .u8 w (.slice a xs.length cap) xs) (hp : p ≤ xs.length) (hc : xs.length ≤ cap) (hm : cap ≤ 9223372036854775807)
    (n : Int) (j : Nat) (hg : getL 0 0 (xs.drop p) = (n, (j : Int), 0)) (hn0 : 0 ≤ n) (hn1 : n < 18446744073709551616) (hmost0 : 0 ≤ most) (hmost1 : most ≤ 4096) (hn : most < n) (hab : above = 11 ∨ above = 12) :
    Calls Try.prog 41 #[rdP br, .int .i64 most, .int .i64 above] w fun x w' => x = .returned (.int .i64 0) ∧ RdC w' br (.slice a xs.length cap) p p above ∧ w.grownBy w' (some br) := by
  obtain ⟨c0, c1, c2, c3⟩ := h.cells
  have f1 := h.frozen 1
  obtain ⟨cv, hs, hsee'⟩ : ∃ cv, (∀ w, (Instr.slice 28 (.slice a xs.length cap) (some (.int .i64 p)) none none).run Try.prog w = .ok cv w) ∧ Sees .u8 w cv (xs.drop p) := ⟨_, fun w => run_from Try.underlying28 size_u8 a xs.length cap p hp w, hsee.from' p hp hc⟩
  have HG : Hid (∀ m, Calls Try.prog 51 #[cv] (w.drewN m) fun x w' => x = .returned (.tuple #[.int .u64 n, .int .i64 j, .int .i64 0]) ∧ w.drewN m = w') := fun m => get_eq (w := w.drewN m) hsee' hg
  have HF : Hid (∀ m, Calls Try.prog 40 #[rdP br, .int .i64 p, .int .i64 above] (w.drewN m) fun x w' => x = .returned (.tuple #[]) ∧ RdC w' br (.slice a xs.length cap) p p above ∧ (w.drewN m).grownBy w' (some br)) := fun m => fail_ok br _ p p above (w.drewN m) h
  have h1 : (above != 0) = true := by simp; omega
  clear h hg hsee hab hsee'
  go_enter Try.func41, Try.ntmps41
  go_wp2_with fail
  go_quiet (first | (go_at_call 51; refine (HG.out _).mono ?_; rintro e w' ⟨rfl, rfl⟩; exact ⟨rfl, _, rfl⟩))
  go_wp2_with (go_at_call 40; go_must (refine (HF.out _).mono ?_); rintro e w' ⟨rfl, hr, hgr⟩)
  go_ret
  exact ⟨rfl, hr, (grown_drewN _ _ _).trans hgr⟩
set_option maxHeartbeats 1600000 in
theorem number_ok (br : Nat) (a : Option Addr) (cap : Nat) (xs : List Int) (p : Nat) (most above : Int) (w : World) (h : RdC w br (.slice a xs.length cap) p 0 0) (hsee : Sees .u8 w (.slice a xs.length cap) xs) (hp : p ≤ xs.length) (hc : xs.length ≤ cap) (hm : cap ≤ 9223372036854775807)
    (n : Int) (j : Nat) (hg : getL 0 0 (xs.drop p) = (n, (j : Int), 0)) (hn0 : 0 ≤ n) (hpj : p + j ≤ xs.length) (hmost1 : most ≤ 4096) (hn : n ≤ most) :
    Calls Try.prog 41 #[rdP br, .int .i64 most, .int .i64 above] w fun x w' => x = .returned (.int .i64 n) ∧ RdC w' br (.slice a xs.length cap) ((p + j : Nat) : Int) 0 0 ∧ w.grownBy w' (some br) := by
  obtain ⟨c0, c1, c2, c3⟩ := h.cells
  have f1 := h.frozen 1
  obtain ⟨cv, hs, hsee'⟩ : ∃ cv, (∀ w, (Instr.slice 28 (.slice a xs.length cap) (some (.int .i64 p)) none none).run Try.prog w = .ok cv w) ∧ Sees .u8 w cv (xs.drop p) := ⟨_, fun w => run_from Try.underlying28 size_u8 a xs.length cap p hp w, hsee.from' p hp hc⟩
  have HG : Hid (∀ m, Calls Try.prog 51 #[cv] (w.drewN m) fun x w' => x = .returned (.tuple #[.int .u64 n, .int .i64 j, .int .i64 0]) ∧ w.drewN m = w') := fun m => get_eq (w := w.drewN m) hsee' hg
  have HR : Hid (∀ m, RdC ((w.drewN m).setCell ⟨br, 1, none⟩ (.int .i64 ((p : Int) + (j : Int)))) br (.slice a xs.length cap) ((p + j : Nat) : Int) 0 0) := fun m => by
    have := RdC.set1 (w := w.drewN m) h ((p + j : Nat) : Int)
    rwa [Int.natCast_add] at this ⊢
  clear h hg hsee hsee'
  go_enter Try.func41, Try.ntmps41
  go_wp2_with fail
  go_quiet (first | (go_at_call 51; refine (HG.out _).mono ?_; rintro e w' ⟨rfl, rfl⟩; exact ⟨rfl, _, rfl⟩))
  go_wp2_with fail
  go_ret
  exact ⟨rfl, HR.out _, (grown_drewN _ _ _).trans (grown_set _ ⟨br, 1, none⟩ _)⟩
/-- number, wherever the reader stands. -/
theorem number_any (br : Nat) (a : Option Addr) (cap : Nat) (xs : List Int) (s : St) (most above : Int) (w : World) (h : RdAt w br (.slice a xs.length cap) xs.length s) (hsee : Sees .u8 w (.slice a xs.length cap) xs) (hmost0 : 0 ≤ most) (hmost1 : most ≤ 4096) (hab : above = 11 ∨ above = 12) :
    Calls Try.prog 41 #[rdP br, .int .i64 most, .int .i64 above] w fun x w' => ∃ s' n, x = .returned (.int .i64 n) ∧ 0 ≤ n ∧ n ≤ most ∧ RdAt w' br (.slice a xs.length cap) xs.length s' ∧ After s (numR xs most above) s' n ∧ w.grownBy w' (some br) := by
  have hb := hsee.bytes
  have hcap : xs.length ≤ cap ∧ cap ≤ 9223372036854775807 := by
    obtain ⟨a', cap', hv, h1, h2, _⟩ := hsee
    injection hv with _ _ e
    subst e
    exact ⟨h1, h2⟩
  cases s with
  | error x =>
    obtain ⟨z, hz⟩ := h.2
    exact (number_bad br _ z x.1 x.2 most above w hz h.1).mono fun y w' ⟨h1, h2⟩ => ⟨.error x, 0, h1, by omega, hmost0, by subst h2; exact h, rfl, by subst h2; exact grown_refl _ _⟩
  | ok p =>
    rcases get_at hb p h.1 with ⟨e, he, hg⟩ | ⟨n, j, hg, hn0, hn1, hj, hpj⟩
    · exact (number_err br a cap xs p most above w h.2 hsee h.1 hcap.1 hcap.2 e he hg).mono fun y w' ⟨h1, h2, h3⟩ => ⟨.error ((p : Int), e), 0, h1, by omega, hmost0, ⟨by omega, _, h2⟩, numR_err hg (by omega), h3⟩
    · by_cases hn : n ≤ most
      · exact (number_ok br a cap xs p most above w h.2 hsee h.1 hcap.1 hcap.2 n j hg hn0 hpj hmost1 hn).mono fun y w' ⟨h1, h2, h3⟩ => ⟨.ok (p + j), n, h1, hn0, hn, ⟨hpj, h2⟩, numR_ok hg hn, h3⟩
      · exact (number_above br a cap xs p most above w h.2 hsee h.1 hcap.1 hcap.2 n j hg hn0 hn1 hmost0 hmost1 (by omega) hab).mono fun y w' ⟨h1, h2, h3⟩ => ⟨.error ((p : Int), above), 0, h1, by omega, hmost0, ⟨by omega, _, h2⟩, numR_above hg (by omega), h3⟩

set_option maxHeartbeats 800000 in
theorem signed_bad (br : Nat) (v : Value) (z q e : Int) (w : World) (h : RdC w br v z q e) (he : e ≠ 0) :
    Calls Try.prog 53 #[rdP br] w fun x w' => x = .returned (.int .i64 0) ∧ w = w' := by
  obtain ⟨c0, c1, c2, c3⟩ := h.cells
  have hb : (e != 0) = true := by simpa using he
  clear h he
  go_enter Try.func53, Try.ntmps53
  go_wp2
  go_ret
  exact ⟨rfl, rfl⟩
set_option maxHeartbeats 1600000 in
theorem signed_err (br : Nat) (a : Option Addr) (cap : Nat) (xs : List Int) (p : Nat) (w : World) (h : RdC w br (.slice a xs.length cap) p 0 0) (hsee : Sees .u8 w (.slice a xs.length cap) xs) (hp : p ≤ xs.length) (hc : xs.length ≤ cap) (hm : cap ≤ 9223372036854775807)
    (e : Int) (he : e = 10 ∨ e = 12) (hg : getL 0 0 (xs.drop p) = (0, 0, e)) :
    Calls Try.prog 53 #[rdP br] w fun x w' => x = .returned (.int .i64 0) ∧ RdC w' br (.slice a xs.length cap) p p e ∧ w.grownBy w' (some br) := by
  obtain ⟨c0, c1, c2, c3⟩ := h.cells
  have f1 := h.frozen 1
  obtain ⟨cv, hs, hsee'⟩ : ∃ cv, (∀ w, (Instr.slice 28 (.slice a xs.length cap) (some (.int .i64 p)) none none).run Try.prog w = .ok cv w) ∧ Sees .u8 w cv (xs.drop p) := ⟨_, fun w => run_from Try.underlying28 size_u8 a xs.length cap p hp w, hsee.from' p hp hc⟩
  have HG : Hid (∀ m, Calls Try.prog 56 #[cv] (w.drewN m) fun x w' => x = .returned (.tuple #[.int .i64 (unfoldI 0), .int .i64 0, .int .i64 e]) ∧ w.drewN m = w') := fun m => getint_eq (w := w.drewN m) hsee' hg
  have HF : Hid (∀ m, Calls Try.prog 40 #[rdP br, .int .i64 p, .int .i64 e] (w.drewN m) fun x w' => x = .returned (.tuple #[]) ∧ RdC w' br (.slice a xs.length cap) p p e ∧ (w.drewN m).grownBy w' (some br)) := fun m => fail_ok br _ p p e (w.drewN m) h
  have h1 : (e != 0) = true := by simp; omega
  clear h hg hsee he hsee'
  go_enter Try.func53, Try.ntmps53
  go_wp2_with fail
  go_quiet (first | (go_at_call 56; refine (HG.out _).mono ?_; rintro e w' ⟨rfl, rfl⟩; exact ⟨rfl, _, rfl⟩))
  go_wp2_with (go_at_call 40; go_must (refine (HF.out _).mono ?_); rintro e w' ⟨rfl, hr, hgr⟩)
  go_ret
  exact ⟨rfl, hr, (grown_drewN _ _ _).trans hgr⟩
set_option maxHeartbeats 1600000 in
theorem signed_ok (br : Nat) (a : Option Addr) (cap : Nat) (xs : List Int) (p : Nat) (w : World) (h : RdC w br (.slice a xs.length cap) p 0 0) (hsee : Sees .u8 w (.slice a xs.length cap) xs) (hp : p ≤ xs.length) (hc : xs.length ≤ cap) (hm : cap ≤ 9223372036854775807)
    (n : Int) (j : Nat) (hg : getL 0 0 (xs.drop p) = (n, (j : Int), 0)) (hpj : p + j ≤ xs.length) :
    Calls Try.prog 53 #[rdP br] w fun x w' => x = .returned (.int .i64 (unfoldI n)) ∧ RdC w' br (.slice a xs.length cap) ((p + j : Nat) : Int) 0 0 ∧ w.grownBy w' (some br) := by
  obtain ⟨c0, c1, c2, c3⟩ := h.cells
  have f1 := h.frozen 1
  obtain ⟨cv, hs, hsee'⟩ : ∃ cv, (∀ w, (Instr.slice 28 (.slice a xs.length cap) (some (.int .i64 p)) none none).run Try.prog w = .ok cv w) ∧ Sees .u8 w cv (xs.drop p) := ⟨_, fun w => run_from Try.underlying28 size_u8 a xs.length cap p hp w, hsee.from' p hp hc⟩
  have HG : Hid (∀ m, Calls Try.prog 56 #[cv] (w.drewN m) fun x w' => x = .returned (.tuple #[.int .i64 (unfoldI n), .int .i64 j, .int .i64 0]) ∧ w.drewN m = w') := fun m => getint_eq (w := w.drewN m) hsee' hg
  have HR : Hid (∀ m, RdC ((w.drewN m).setCell ⟨br, 1, none⟩ (.int .i64 ((p : Int) + (j : Int)))) br (.slice a xs.length cap) ((p + j : Nat) : Int) 0 0) := fun m => by
    have := RdC.set1 (w := w.drewN m) h ((p + j : Nat) : Int)
    rwa [Int.natCast_add] at this ⊢
  clear h hg hsee hsee'
  generalize unfoldI n = u at *
  go_enter Try.func53, Try.ntmps53
  go_wp2_with fail
  go_quiet (first | (go_at_call 56; refine (HG.out _).mono ?_; rintro e w' ⟨rfl, rfl⟩; exact ⟨rfl, _, rfl⟩))
  go_wp2_with fail
  go_ret
  exact ⟨rfl, HR.out _, (grown_drewN _ _ _).trans (grown_set _ ⟨br, 1, none⟩ _)⟩
theorem unfold_bd {u : Int} (h : 0 ≤ u) (h' : u < 18446744073709551616) : -9223372036854775808 ≤ unfoldI u ∧ unfoldI u ≤ 9223372036854775807 := by unfold unfoldI; split <;> omega
/-- signed, wherever the reader stands. -/
theorem signed_any (br : Nat) (a : Option Addr) (cap : Nat) (xs : List Int) (s : St) (w : World) (h : RdAt w br (.slice a xs.length cap) xs.length s) (hsee : Sees .u8 w (.slice a xs.length cap) xs) :
    Calls Try.prog 53 #[rdP br] w fun x w' => ∃ s' n, x = .returned (.int .i64 n) ∧ -9223372036854775808 ≤ n ∧ n ≤ 9223372036854775807 ∧ RdAt w' br (.slice a xs.length cap) xs.length s' ∧ After s (sgnR xs) s' n ∧ w.grownBy w' (some br) := by
  have hb := hsee.bytes
  have hcap : xs.length ≤ cap ∧ cap ≤ 9223372036854775807 := by
    obtain ⟨a', cap', hv, h1, h2, _⟩ := hsee
    injection hv with _ _ e
    subst e
    exact ⟨h1, h2⟩
  cases s with
  | error x =>
    obtain ⟨z, hz⟩ := h.2
    exact (signed_bad br _ z x.1 x.2 w hz h.1).mono fun y w' ⟨h1, h2⟩ => ⟨.error x, 0, h1, by omega, by omega, by subst h2; exact h, rfl, by subst h2; exact grown_refl _ _⟩
  | ok p =>
    rcases get_at hb p h.1 with ⟨e, he, hg⟩ | ⟨n, j, hg, hn0, hn1, hj, hpj⟩
    · exact (signed_err br a cap xs p w h.2 hsee h.1 hcap.1 hcap.2 e he hg).mono fun y w' ⟨h1, h2, h3⟩ => ⟨.error ((p : Int), e), 0, h1, by omega, by omega, ⟨by omega, _, h2⟩, sgnR_err hg (by omega), h3⟩
    · have hu := unfold_bd hn0 hn1
      exact (signed_ok br a cap xs p w h.2 hsee h.1 hcap.1 hcap.2 n j hg hpj).mono fun y w' ⟨h1, h2, h3⟩ => ⟨.ok (p + j), unfoldI n, h1, hu.1, hu.2, ⟨hpj, h2⟩, sgnR_ok hg, h3⟩
end Go.Proofs.Ytbpjcppgnndaaaa
