/-
  SpanAsks, walked: it answers true. Condition: numbers of 64 bits.
-/
import Derived.Test.YtammakfpmimljaaS6LRefine
import Derived.Deep.RegionHeldLaw
namespace Go.Proofs.Ytammakfpmimljaa
open Go.RowKit
set_option linter.unusedVariables false
set_option maxRecDepth 20000

theorem lright_as {a A : Int} {r : Bool} (h : Hid (r = decide (a ≤ A))) (w : World) : Calls Try.prog 10 #[.agg #[.int .u64 a, .int .u64 A]] w fun e w' => e = .returned (.bool r) ∧ Below w.heap.size w w' := by
  rw [h.out]; exact (lright_any a A w).mono fun e w' ⟨he, hw⟩ => ⟨he, by rw [← hw]; go_grown⟩
theorem rright_as {a A : Int} {r : Bool} (h : Hid (r = decide (a ≤ A))) (w : World) : Calls Try.prog 11 #[.agg #[.int .u64 a, .int .u64 A]] w fun e w' => e = .returned (.bool r) ∧ Below w.heap.size w w' := by
  rw [h.out]; exact (rright_any a A w).mono fun e w' ⟨he, hw⟩ => ⟨he, by rw [← hw]; go_grown⟩
theorem lhas_as {a A n : Int} {r : Bool} (h : Hid (r = hasB a A n)) (w : World) : Calls Try.prog 14 #[.agg #[.int .u64 a, .int .u64 A], .int .u64 n] w fun e w' => e = .returned (.bool r) ∧ Below w.heap.size w w' := by
  rw [h.out]; exact (lhas_any a A n w).mono fun e w' ⟨he, hw⟩ => ⟨he, by rw [← hw]; go_grown⟩
theorem rhas_as {a A n : Int} {r : Bool} (h : Hid (r = hasB a A n)) (w : World) : Calls Try.prog 15 #[.agg #[.int .u64 a, .int .u64 A], .int .u64 n] w fun e w' => e = .returned (.bool r) ∧ Below w.heap.size w w' := by
  rw [h.out]; exact (rhas_any a A n w).mono fun e w' ⟨he, hw⟩ => ⟨he, by rw [← hw]; go_grown⟩
theorem lwithin_as {a A b B : Int} {r : Bool} (h : Hid (r = withinB a A b B)) (w : World) : Calls Try.prog 16 #[.agg #[.int .u64 a, .int .u64 A], .agg #[.int .u64 b, .int .u64 B]] w fun e w' => e = .returned (.bool r) ∧ Below w.heap.size w w' := by
  rw [h.out]; exact lwithin_any a A b B w
theorem rwithin_as {a A b B : Int} {r : Bool} (h : Hid (r = withinB a A b B)) (w : World) : Calls Try.prog 17 #[.agg #[.int .u64 a, .int .u64 A], .agg #[.int .u64 b, .int .u64 B]] w fun e w' => e = .returned (.bool r) ∧ Below w.heap.size w w' := by
  rw [h.out]; exact rwithin_any a A b B w
theorem keepA {w w0 w1 : World} {n : Nat} {x0 x1 x2 x3 : Value} (h : w0.cell? ⟨n, 0, none⟩ = some x0 ∧ w0.cell? ⟨n, 1, none⟩ = some x1 ∧ w0.cell? ⟨n + 1, 0, none⟩ = some x2 ∧ w0.cell? ⟨n + 1, 1, none⟩ = some x3 ∧ Hid (n + 1 < w0.heap.size ∧ w.heap.size ≤ w0.heap.size ∧ Below w.heap.size w w0)) (hb : Below w0.heap.size w0 w1) :
    w1.cell? ⟨n, 0, none⟩ = some x0 ∧ w1.cell? ⟨n, 1, none⟩ = some x1 ∧ w1.cell? ⟨n + 1, 0, none⟩ = some x2 ∧ w1.cell? ⟨n + 1, 1, none⟩ = some x3 ∧ Hid (n + 1 < w1.heap.size ∧ w.heap.size ≤ w1.heap.size ∧ Below w.heap.size w w1) := by
  obtain ⟨h0, h1, h2, h3, ⟨k1, k2, k3⟩⟩ := h
  have hs := hb.size
  refine ⟨?_, ?_, ?_, ?_, by omega, by omega, k3.trans (hb.mono k2)⟩
  · rw [hb.cell (p := ⟨n, 0, none⟩) (show n < w0.heap.size by omega)]; exact h0
  · rw [hb.cell (p := ⟨n, 1, none⟩) (show n < w0.heap.size by omega)]; exact h1
  · rw [hb.cell (p := ⟨n + 1, 0, none⟩) (show n + 1 < w0.heap.size by omega)]; exact h2
  · rw [hb.cell (p := ⟨n + 1, 1, none⟩) (show n + 1 < w0.heap.size by omega)]; exact h3
theorem keepD {w w0 : World} {n : Nat} {x0 x1 x2 x3 : Value} (h : w0.cell? ⟨n, 0, none⟩ = some x0 ∧ w0.cell? ⟨n, 1, none⟩ = some x1 ∧ w0.cell? ⟨n + 1, 0, none⟩ = some x2 ∧ w0.cell? ⟨n + 1, 1, none⟩ = some x3 ∧ Hid (n + 1 < w0.heap.size ∧ w.heap.size ≤ w0.heap.size ∧ Below w.heap.size w w0)) :
    w0.drew.cell? ⟨n, 0, none⟩ = some x0 ∧ w0.drew.cell? ⟨n, 1, none⟩ = some x1 ∧ w0.drew.cell? ⟨n + 1, 0, none⟩ = some x2 ∧ w0.drew.cell? ⟨n + 1, 1, none⟩ = some x3 ∧ Hid (n + 1 < w0.drew.heap.size ∧ w.heap.size ≤ w0.drew.heap.size ∧ Below w.heap.size w w0.drew) := by
  obtain ⟨h0, h1, h2, h3, ⟨k1, k2, k3⟩⟩ := h
  exact ⟨h0, h1, h2, h3, ⟨k1, k2, below_dr k3⟩⟩
set_option maxHeartbeats 1200000 in
theorem asks_walk (a A b B n : Int) (w : World) (ha : W64 a) (hA : W64 A) (hb : W64 b) (hB : W64 B) (hn : 0 ≤ n ∧ n ≤ 18446744073709551615) :
    Calls Try.prog 3 #[.agg #[.int .u64 a, .int .u64 A], .agg #[.int .u64 b, .int .u64 B], .int .u64 n] w fun e w' => e = .returned (.bool true) ∧ Below w.heap.size w w' := by
  clear ha hA hb hB hn
  obtain ⟨r1, H1⟩ : ∃ r, Hid (r = decide (a ≤ A)) := ⟨_, rfl⟩
  obtain ⟨r2, H2⟩ : ∃ r, Hid (r = hasB a A n) := ⟨_, rfl⟩
  obtain ⟨r3, H3⟩ : ∃ r, Hid (r = withinB a A b B) := ⟨_, rfl⟩
  obtain ⟨r4, H4⟩ : ∃ r, Hid (r = decide (b ≤ B)) := ⟨_, rfl⟩
  have H5 : Hid (r4 = withinB b B b B) := by
    show _ = _
    rw [H4.out, Bool.eq_iff_iff]
    simp [withinB, hasB]
  have K2 := H1
  have K7 := H3
  go_enter Try.func3, Try.ntmps3
  go_wp2_with (first
    | (go_at_call 9; go_must (refine (awake6 _).mono ?_); rintro e w0 ⟨rfl, hb0⟩; go_must (have hS : w0.cell? ⟨w.heap.size, 0, none⟩ = some (.int .u64 a) ∧ w0.cell? ⟨w.heap.size, 1, none⟩ = some (.int .u64 A) ∧ w0.cell? ⟨w.heap.size + 1, 0, none⟩ = some (.int .u64 b) ∧ w0.cell? ⟨w.heap.size + 1, 1, none⟩ = some (.int .u64 B) ∧ Hid (w.heap.size + 1 < w0.heap.size ∧ w.heap.size ≤ w0.heap.size ∧ Below w.heap.size w w0) := keepA (w := w) ⟨by go_cell, by go_cell, by go_cell, by go_cell, by simp, by simp; omega, by go_grown⟩ hb0; replace hS := keepD hS; clear hb0))
    | (go_at_call 10; fail))
  go_region_held_law (fun w' => w'.cell? ⟨w.heap.size, 0, none⟩ = some (.int .u64 a) ∧ w'.cell? ⟨w.heap.size, 1, none⟩ = some (.int .u64 A) ∧ w'.cell? ⟨w.heap.size + 1, 0, none⟩ = some (.int .u64 b) ∧ w'.cell? ⟨w.heap.size + 1, 1, none⟩ = some (.int .u64 B) ∧ Hid (w.heap.size + 1 < w'.heap.size ∧ w.heap.size ≤ w'.heap.size ∧ Below w.heap.size w w'))
    (first | assumption | fail)
    ((first
      | (go_at_call 10; refine (lright_as H1 _).mono ?_; rintro e w1 ⟨rfl, hb1⟩; replace hS := keepA hS hb1; clear hb1)
      | (go_at_call 11; have hq := K2; clear hq K2; refine (rright_as H1 _).mono ?_; rintro e w2 ⟨rfl, hb2⟩; replace hS := keepA hS hb2; clear hb2)
      | (go_at_call 12; refine (lsingle_any n _).mono ?_; rintro e w3 ⟨rfl, hb3⟩; replace hS := keepA hS hb3; clear hb3)
      | (go_at_call 13; refine (lfull_any _).mono ?_; rintro e w4 ⟨rfl, hb4⟩; replace hS := keepA hS hb4; clear hb4)
      | (go_at_call 14; refine (lhas_as H2 _).mono ?_; rintro e w5 ⟨rfl, hb5⟩; replace hS := keepA hS hb5; clear hb5)
      | (go_at_call 15; refine (rhas_as H2 _).mono ?_; rintro e w6 ⟨rfl, hb6⟩; replace hS := keepA hS hb6; clear hb6)
      | (go_at_call 16; have hq := K7; clear hq K7; refine (lwithin_as H3 _).mono ?_; rintro e w7 ⟨rfl, hb7⟩; replace hS := keepA hS hb7; clear hb7)
      | (go_at_call 17; refine (rwithin_as H3 _).mono ?_; rintro e w8 ⟨rfl, hb8⟩; replace hS := keepA hS hb8; clear hb8)
      | (go_at_call 16; refine (lwithin_as H5 _).mono ?_; rintro e w9 ⟨rfl, hb9⟩; replace hS := keepA hS hb9; clear hb9)
      | (go_at_call 11; refine (rright_as H4 _).mono ?_; rintro e w10 ⟨rfl, hb10⟩; replace hS := keepA hS hb10; clear hb10)))
  go_wp2
  go_ret
  exact ⟨rfl, hS.2.2.2.2.out.2.2⟩
end Go.Proofs.Ytammakfpmimljaa
