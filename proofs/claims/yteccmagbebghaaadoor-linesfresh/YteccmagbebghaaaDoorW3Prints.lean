/-
  The law LinesPrints, walked: it answers true. Conditions: the listed variables read as they are laid; as many instructions as a slice may hold.
-/
import Derived.Test.YteccmagbebghaaaDoorL3Print
import Derived.Test.YteccmagbebghaaaDoorL3Parse
namespace Go.Proofs.YteccmagbebghaaaDoor
open Go.RowKit
set_option linter.unusedVariables false
set_option linter.unusedSimpArgs false
set_option maxRecDepth 100000

theorem lawake (w : World) (h : Laid w) : Calls Tryd.prog 9 #[] w fun e w' => e = .returned (.bool true) ∧ Below w.heap.size w w' := lawake_any laid_keeps lprint_any lparse_any w h
/-- Print of one. -/
theorem lprint_one (op d a b imm : Int) (w : World) (n : Nat) (hn : n = w.heap.size) (h : Laid w) (hwf : (⟨op, d, a, b, imm⟩ : In).wf) : Calls Tryd.prog 10 #[.slice (some ⟨n, 0, none⟩) 1 1] (w.alloc (instO op d a b imm)) fun e w' => e = .returned (.tuple #[.string (str (printL [⟨op, d, a, b, imm⟩]).1), .int .i64 (printL [⟨op, d, a, b, imm⟩]).2]) ∧ Below w.heap.size w w' := by
  subst hn
  refine (lprint_any _ [⟨op, d, a, b, imm⟩] _ (laid_keeps _ _ h ((Below.refl _ _).alloc (Nat.le_refl _) _)) (sees_one w _ op d a b imm) (fun i hi => by simp at hi; subst hi; exact hwf) (by simp)).mono ?_
  rintro e w' ⟨he, hb⟩
  exact ⟨he, box_below hb⟩
theorem sees_cut {w : World} {bk off cap k : Nat} {op d a b imm : Int} (hbk : bk < w.heap.size) (hm : cap ≤ 9223372036854775807) (hk : k < cap) (h : At w bk (off + k * 5) ⟨op, d, a, b, imm⟩) : SeesI w (.slice (some ⟨bk, off + k * 5, none⟩) 1 (cap - k)) [⟨op, d, a, b, imm⟩] := by
  refine ⟨_, cap - k, rfl, by simp; omega, by unfold maxLen; omega, fun e => (by cases e), fun _ => ⟨bk, off + k * 5, rfl, hbk, fun j hj => ?_⟩⟩
  obtain rfl : j = 0 := by simpa using hj
  simpa using h

theorem size_Inst (w : World) : (Go.sizeOf 32).run Tryd.prog w = .ok 5 w := by
  obtain ⟨i0, hi, hz0, hz1, hz2⟩ := info_parts Tryd.infoInst3
  simp [Go.sizeOf, typeInfo, hi, hz1]
theorem run_one (bk off n cap k : Nat) (h : k < n) (hc : n ≤ cap) (w : World) : (Instr.slice 22 (.slice (some ⟨bk, off, none⟩) n cap) (some (.int .i64 k)) (some (.int .i64 ((k : Int) + 1))) none).run Tryd.prog w = .ok (.slice (some ⟨bk, off + k * 5, none⟩) 1 (cap - k)) w := by
  have h0 : ((k : Int) + 1) ≤ (cap : Int) := by omega
  have h1 : (0 : Int) ≤ (k : Int) + 1 := by omega
  have h2 : ¬ cap = k := by omega
  have h3 : ((k : Int) + 1).toNat = k + 1 := by omega
  have h4 : (k : Int) ≤ (k : Int) + 1 := by omega
  simp [Instr.slice, run_underlying Tryd.underlying22, Instr.sliceBounds, run_sliceBound, h0, h1, h2, h3, h4, size_Inst, Addr.add_mid]

set_option maxHeartbeats 4000000 in
theorem prints_some (bk off cap : Nat) (xs : List In) (w : World) (h : Laid w) (hc : xs.length ≤ cap) (hm : cap ≤ 9223372036854775807) (hbk : bk < w.heap.size) (hlen : xs.length ≤ 3518437208780) (hwf : ∀ i ∈ xs, i.wf)
    (hat : ∀ k, k < xs.length → At w bk (off + k * 5) (xs.getD k In.nil)) : Calls Tryd.prog 3 #[.slice (some ⟨bk, off, none⟩) xs.length cap] w fun e w' => e = .returned (.bool true) ∧ Below w.heap.size w w' := by
  have HL : Hid (Laid w) := h
  have HS : Hid (SeesI w (.slice (some ⟨bk, off, none⟩) xs.length cap) xs) := ⟨_, cap, rfl, hc, by unfold maxLen; omega, fun e => (by cases e), fun _ => ⟨bk, off, rfl, hbk, hat⟩⟩
  have HA : Hid (∀ k, k < xs.length → At w bk (off + k * 5) (xs.getD k In.nil)) := hat
  have HW : Hid (∀ i ∈ xs, i.wf) := hwf
  obtain ⟨i0, hi, hz0, hz1, hz2⟩ := info_parts Tryd.infoInst3
  clear h hat hwf
  obtain ⟨n, HNE⟩ : ∃ n, Hid (n = xs.length) := ⟨_, rfl⟩
  rw [← HNE.out] at hc hlen ⊢ HS
  obtain ⟨S, E, HPR⟩ : ∃ S E, Hid (printL xs = (S, E)) := ⟨_, _, rfl⟩
  go_enter Tryd.func3, Tryd.ntmps3
  go_wp2_with (first
    | (go_at_call 9; go_must (refine (lawake _ HL.out).mono ?_); rintro e w1 ⟨rfl, hB1⟩)
    | (at_builtin; go_must (refine wpList_append_seesI rfl (.tmp 15) (.tmp 16) 22 rfl w1.heap.size 32 i0 (instV 0 0 0 0 0) Tryd.underlying22 hi hz0 hz1 hz2 rfl _ [] rfl (own_empty w1 32) _ xs rfl (SeesI.below HS.out (hB1.alloc hB1.size _)) (by unfold maxLen; have := HNE.out; simp; omega) (by have := HNE.out; simp; omega) (by simp) ?_); intro v3 w3 hown3 hg3; go_must (have hB3 : Below w.heap.size w w3 := (hB1.alloc hB1.size _).grown hg3 (by have := hB1.size; simp; omega) (fun j hj => by (have hj' : w1.heap.size = j := Option.some.inj hj); have := hB1.size; omega); have HS3 : Hid (SeesI w3 v3 xs) := own_seesI hown3; clear hg3 hown3 hB1))
    | (go_at_call 10; go_must (refine (lprint_any _ xs _ (laid_keeps _ _ HL.out hB3) HS3.out HW.out (by have := HNE.out; omega)).mono ?_); rintro e w4 ⟨rfl, hb4⟩; go_must (rw [HPR.out]; have hB4 := hB3.trans (hb4.mono hB3.size); have HS4 : Hid (SeesI w4 v3 xs) := HS3.out.below hb4; clear hb4 HS3 hB3))
    | (go_at_call 11; go_must (refine (rprint_any _ xs _ (HS.out.below hB4) HW.out (by have := HNE.out; omega)).mono ?_); rintro e w5 ⟨rfl, hb5⟩; go_must (rw [HPR.out]; have hB5 := hB4.trans (hb5.mono hB4.size); have HS5 : Hid (SeesI w5 v3 xs) := HS4.out.below hb5; clear hb5 HS4 hB4))
    | (go_at_call 12; go_must (refine (alike_any _ _ xs xs _ HS5.out (HS.out.below hB5)).mono ?_); rintro e w6 ⟨rfl, m6, rfl⟩; rw [sameI_true rfl]))
  clear HS HS5
  go_loopw [8] (fun i wr => ∃ k : Nat, k ≤ n ∧ i = .int .i64 k ∧ Below w.heap.size w wr) (fun i _ => n - (intOf i).toNat)
  case atStart => exact ⟨0, by omega, rfl, below_drewN hB5 m6⟩
  case round =>
    obtain ⟨k, hk, rfl, hbe⟩ := hrel
    have hsz := hbe.size
    clear hB5
    by_cases hlt : k < n
    · obtain ⟨op, d, a, b, imm, HI⟩ : ∃ op d a b imm, Hid (xs.getD k In.nil = ⟨op, d, a, b, imm⟩) := ⟨_, _, _, _, _, rfl⟩
      have hcell := (HA.out k (by have := HNE.out; omega)).below hbe hbk
      rw [HI.out] at hcell
      have HAT : Hid (At wr bk (off + k * 5) ⟨op, d, a, b, imm⟩) := hcell
      obtain ⟨h0, h1, h2, h3, h4⟩ := hcell
      simp only at h0 h1 h2 h3 h4
      have hmem : xs.getD k In.nil ∈ xs := by rw [List.getD_eq_getElem?_getD, List.getElem?_eq_getElem (by have := HNE.out; omega)]; simp
      have HWF : Hid (⟨op, d, a, b, imm⟩ : In).wf := by have := HW.out _ hmem; rw [HI.out] at this; exact this
      have hsl := run_one bk off n cap k hlt hc
      obtain ⟨S1, E1, HP1⟩ : ∃ S1 E1, Hid (printL [⟨op, d, a, b, imm⟩] = (S1, E1)) := ⟨_, _, rfl⟩
      have HLr : Hid (Laid wr) := laid_keeps _ _ HL.out hbe
      clear HI hmem
      go_wp2_with (first
        | (go_at_call 10; go_must (refine (lprint_one op d a b imm wr _ (by simp) HLr.out HWF.out).mono ?_); rintro e w7 ⟨rfl, hb7⟩; go_must (rw [HP1.out]; have hB7 := hbe.trans (hb7.mono hsz); have hz7 := hb7.size; have HAT7 : Hid (At w7 bk (off + k * 5) ⟨op, d, a, b, imm⟩) := HAT.out.below hb7 (by omega); clear hb7 HAT h0 h1 h2 h3 h4 hbe))
        | (go_at_call 11; go_must (refine (rprint_any _ [⟨op, d, a, b, imm⟩] _ (sees_cut (by omega) hm (by omega) HAT7.out) (fun i hi => by simp at hi; subst hi; exact HWF.out) (by simp)).mono ?_); rintro e w8 ⟨rfl, hb8⟩; go_must (rw [HP1.out]; have hB8 := hB7.trans (hb8.mono hB7.size); clear hb8 HAT7 hB7)))
      go_roundw
      case rel => exact ⟨k + 1, by omega, by go_num, hB8⟩
      case measure => simp [intOf]; omega
    · go_wp2
      go_ret
      exact ⟨rfl, hbe⟩

theorem prints_none (a : Option Addr) (cap : Nat) (w : World) (h : Laid w) (hs : SeesI w (.slice a 0 cap) []) : Calls Tryd.prog 3 #[.slice a 0 cap] w fun e w' => e = .returned (.bool true) ∧ Below w.heap.size w w' := by
  have HL : Hid (Laid w) := h
  have HS : Hid (SeesI w (.slice a 0 cap) []) := hs
  obtain ⟨i0, hi, hz0, hz1, hz2⟩ := info_parts Tryd.infoInst3
  clear h hs
  have hpr : printL [] = ([], 0) := rfl
  go_enter Tryd.func3, Tryd.ntmps3
  go_wp2_with (first
    | (go_at_call 9; go_must (refine (lawake _ HL.out).mono ?_); rintro e w1 ⟨rfl, hB1⟩)
    | (at_builtin; go_must (refine wpList_append_seesI rfl (.tmp 15) (.tmp 16) 22 rfl w1.heap.size 32 i0 (instV 0 0 0 0 0) Tryd.underlying22 hi hz0 hz1 hz2 rfl _ [] rfl (own_empty w1 32) _ [] rfl (SeesI.below HS.out (hB1.alloc hB1.size _)) (by simp [maxLen]) (by simp) (by simp) ?_); intro v3 w3 hown3 hg3; go_must (have hB3 : Below w.heap.size w w3 := (hB1.alloc hB1.size _).grown hg3 (by have := hB1.size; simp; omega) (fun j hj => by (have hj' : w1.heap.size = j := Option.some.inj hj); have := hB1.size; omega); have HS3 : Hid (SeesI w3 v3 []) := own_seesI hown3; clear hg3 hown3 hB1))
    | (go_at_call 10; go_must (refine (lprint_any _ [] _ (laid_keeps _ _ HL.out hB3) HS3.out (fun i hi => by cases hi) (by simp)).mono ?_); rintro e w4 ⟨rfl, hb4⟩; go_must (rw [hpr]; have hB4 := hB3.trans (hb4.mono hB3.size); have HS4 : Hid (SeesI w4 v3 []) := HS3.out.below hb4; clear hb4 HS3 hB3))
    | (go_at_call 11; go_must (refine (rprint_any _ [] _ (HS.out.below hB4) (fun i hi => by cases hi) (by simp)).mono ?_); rintro e w5 ⟨rfl, hb5⟩; go_must (rw [hpr]; have hB5 := hB4.trans (hb5.mono hB4.size); have HS5 : Hid (SeesI w5 v3 []) := HS4.out.below hb5; clear hb5 HS4 hB4))
    | (go_at_call 12; go_must (refine (alike_any _ _ [] [] _ HS5.out (HS.out.below hB5)).mono ?_); rintro e w6 ⟨rfl, m6, rfl⟩; rw [sameI_true rfl]))
  go_loopw [8] (fun i wr => i = .int .i64 0 ∧ wr = w5.drewN m6) (fun i _ => 0)
  case atStart => exact ⟨rfl, rfl⟩
  case round =>
    obtain ⟨rfl, rfl⟩ := hrel
    go_wp2
    go_ret
    exact ⟨rfl, below_drewN hB5 m6⟩
theorem prints_walk (v : Value) (xs : List In) (w : World) (hs : SeesI w v xs ∧ ∀ i ∈ xs, i.wf) (hlen : xs.length ≤ 3518437208780) (h : Laid w) : Calls Tryd.prog 3 #[v] w fun e w' => e = .returned (.bool true) ∧ Below w.heap.size w w' := by
  have hs1 := hs.1
  obtain ⟨a, cap, rfl, h1, h2, h3, h4⟩ := hs.1
  by_cases hne : xs = []
  · subst hne
    exact prints_none a cap w h hs1
  · obtain ⟨b, off, rfl, hb, hat⟩ := h4 hne
    exact prints_some b off cap xs w h h1 (by unfold maxLen at h2; omega) hb hlen hs.2 hat
end Go.Proofs.YteccmagbebghaaaDoor
