/-
  FlowChecks, walked: it answers true. Condition: the code takes up no more bytes than an argument may.
-/
import Derived.Test.YtfmibjgihicedaaF7WKit
namespace Go.Proofs.Ytfmibjgihicedaa
open Go.RowKit Go.Deep
set_option linter.unusedVariables false
set_option maxRecDepth 20000

set_option maxHeartbeats 1600000 in
theorem checks_walk (v : Value) (xs : List In) (w : World) (hs : SeesI w v xs) (hz : xs.length * 40 ≤ 140737488355328) :
    Calls Try.prog 3 #[v] w fun e w' => e = .returned (.bool true) ∧ Below w.heap.size w w' := by
  have HS : Hid (SeesI w v xs) := hs
  obtain ⟨a, cap, rfl, hc, hm, hn0, hcell⟩ := hs
  have HC : Hid (xs ≠ [] → ∃ b off, a = some ⟨b, off, none⟩ ∧ b < w.heap.size ∧ ∀ k, k < xs.length → At w b (off + k * 5) (xs.getD k In.nil)) := hcell
  clear hcell hn0
  have HZ : Hid (xs.length * 40 ≤ 140737488355328) := hz
  have hlen : xs.length ≤ 4611686018427387904 := by omega
  obtain ⟨P, HP⟩ : ∃ P, Hid (P = (checkL xs).1) := ⟨_, rfl⟩
  obtain ⟨E, HE⟩ : ∃ E, Hid (E = errL xs) := ⟨_, rfl⟩
  go_enter Try.func3, Try.ntmps3
  go_wp2_with (first
    | (go_at_call 8; go_must (refine (awake_any _).mono ?_); rintro e w1 ⟨rfl, hb1⟩)
    | (go_at_call 9; go_must (refine (copied_any _ xs _ (HS.out.below hb1) HZ.out).mono ?_); rintro e w2 ⟨u, rfl, hown, hb2⟩; go_must (have HU : Hid (SeesI w2 u xs) := own_seesI hown; have hB2 := hb1.trans (hb2.mono hb1.size); obtain ⟨au, cu, rfl⟩ := HU.out.shape; clear hb2 hown))
    | (go_at_call 10; go_must (refine (check_as HU.out HP HE).mono ?_); rintro e w3 ⟨rfl, hb3⟩; go_must (have hB3 := hB2.trans (hb3.mono hB2.size); have HU3 : Hid (SeesI w3 (.slice au xs.length cu) xs) := HU.out.below hb3; clear hb3 HU))
    | (go_at_call 11; go_must (refine (rcheck_as (HS.out.below hB3) HP HE).mono ?_); rintro e w4 ⟨rfl, hb4⟩; go_must (have hB4 := hB3.trans (hb4.mono hB3.size); have HU4 : Hid (SeesI w4 (.slice au xs.length cu) xs) := HU3.out.below hb4; clear hb4 HU3)))
  obtain ⟨au', cu', ev, hcu, hmu, _, hsu⟩ := HU4.out
  injection ev with e1 e2 e3
  subst e1 e3
  have HU5 : Hid (xs ≠ [] → ∃ b off, au = some ⟨b, off, none⟩ ∧ b < w4.heap.size ∧ ∀ k, k < xs.length → At w4 b (off + k * 5) (xs.getD k In.nil)) := hsu
  clear hsu HU4 e2
  go_loopw [8] (fun i wq => ∃ j m : Nat, j ≤ xs.length ∧ i = .int .i64 j ∧ wq = w4.drewN m) (fun i _ => xs.length - (intOf i).toNat)
  case atStart => exact ⟨0, 0, by omega, rfl, rfl⟩
  case round =>
    obtain ⟨j, m, hj, rfl, rfl⟩ := hrel
    by_cases hjk : j < xs.length
    · obtain ⟨bv, ofv, rfl, hbv, hav⟩ := HU5.out (fun e => by rw [e] at hjk; simp at hjk)
      obtain ⟨bk, off, rfl, hbk, hat⟩ := HC.out (fun e => by rw [e] at hjk; simp at hjk)
      obtain ⟨op, d, a, b, imm, HI⟩ : ∃ op d a b imm, Hid (xs.getD j In.nil = ⟨op, d, a, b, imm⟩) := ⟨_, _, _, _, _, rfl⟩
      have hcell := (hat j hjk).below hB4 hbk
      have hcell' := hav j hjk
      rw [HI.out] at hcell hcell'
      obtain ⟨h0, h1, h2, h3, h4⟩ := hcell
      obtain ⟨g0, g1, g2, g3, g4⟩ := hcell'
      simp only at h0 h1 h2 h3 h4 g0 g1 g2 g3 g4
      have hz4 := hB4.size
      clear hav hat HI
      go_wp2
      go_region_held3 (fun w' => (w'.cell? ⟨bk, off + j * 5, none⟩ = some (.int .i64 op) ∧ w'.cell? ⟨bk, off + j * 5 + 1, none⟩ = some (.int .i64 d) ∧ w'.cell? ⟨bk, off + j * 5 + 2, none⟩ = some (.int .i64 a) ∧ w'.cell? ⟨bk, off + j * 5 + 3, none⟩ = some (.int .i64 b) ∧ w'.cell? ⟨bk, off + j * 5 + 4, none⟩ = some (.int .i64 imm)) ∧ w'.cell? ⟨bv, ofv + j * 5, none⟩ = some (.int .i64 op) ∧ w'.cell? ⟨bv, ofv + j * 5 + 1, none⟩ = some (.int .i64 d) ∧ w'.cell? ⟨bv, ofv + j * 5 + 2, none⟩ = some (.int .i64 a) ∧ w'.cell? ⟨bv, ofv + j * 5 + 3, none⟩ = some (.int .i64 b) ∧ w'.cell? ⟨bv, ofv + j * 5 + 4, none⟩ = some (.int .i64 imm)) (exact ⟨⟨h0, h1, h2, h3, h4⟩, g0, g1, g2, g3, g4⟩) (fail)
      go_wp2
      go_roundw
      case rel => exact ⟨j + 1, _, by omega, by go_num, rfl⟩
      case measure => simp [intOf]; omega
    · go_wp2
      go_ret
      exact ⟨rfl, below_drewN hB4 m⟩
end Go.Proofs.Ytfmibjgihicedaa
