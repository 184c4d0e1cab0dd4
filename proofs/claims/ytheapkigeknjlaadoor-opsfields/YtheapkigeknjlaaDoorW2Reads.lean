/-
  The law OpsReads, walked: it answers true. Condition: the package-level variable 'names' reads as it is laid.
-/
import Derived.Test.YtheapkigeknjlaaDoorO2Awake
import Derived.Test.YtheapkigeknjlaaDoorO2Open
import Derived.Test.YtheapkigeknjlaaDoorO2Reads
import Derived.Test.YtheapkigeknjlaaDoorO2Ints
namespace Go.Proofs.YtheapkigeknjlaaDoor
open Go.RowKit
set_option linter.unusedVariables false

theorem readsL_len (op d a b imm : Int) : (readsL op d a b imm).length ≤ 8 := by
  unfold readsL
  split
  · simp
  · exact upto8_len _ _ _ _ _
/-- The five cells of an instruction that is boxed. -/
abbrev Box (w : World) (n : Nat) (op d a b imm : Int) : Prop := w.cell? ⟨n, 0, none⟩ = some (.int .i64 op) ∧ w.cell? ⟨n, 1, none⟩ = some (.int .i64 d) ∧ w.cell? ⟨n, 2, none⟩ = some (.int .i64 a) ∧ w.cell? ⟨n, 3, none⟩ = some (.int .i64 b) ∧ w.cell? ⟨n, 4, none⟩ = some (.int .i64 imm)
theorem Box.below {w w' : World} {n B : Nat} {op d a b imm : Int} (h : Box w n op d a b imm) (hb : Below B w w') (hB : n < B) : Box w' n op d a b imm := by
  unfold Box
  rw [hb.cell (p := ⟨n, 0, none⟩) hB, hb.cell (p := ⟨n, 1, none⟩) hB, hb.cell (p := ⟨n, 2, none⟩) hB, hb.cell (p := ⟨n, 3, none⟩) hB, hb.cell (p := ⟨n, 4, none⟩) hB]
  exact h
theorem Box.grown {w w' : World} {n : Nat} {r : Option Nat} {op d a b imm : Int} (h : Box w n op d a b imm) (hg : w.grownBy w' r) (hn : n < w.heap.size) (hr : some n ≠ r) : Box w' n op d a b imm := by
  have e : ∀ j, w'.cell? ⟨n, j, none⟩ = w.cell? ⟨n, j, none⟩ := fun j => World.cell?_of_block (w := w) (hg.block n hn hr)
  unfold Box
  rw [e, e, e, e, e]
  exact h

set_option maxRecDepth 100000 in
set_option maxHeartbeats 2000000 in
theorem reads_walk5 (op d a b imm : Int) (w : World) (h : Named w) : Calls Tryd.prog 5 #[instV op d a b imm] w fun e w' => e = .returned (.bool true) ∧ Below w.heap.size w w' := by
  have HN : Hid (Named (w.alloc (instO op d a b imm))) := h.below ((Below.refl w.heap.size w).alloc (Nat.le_refl _) _) h.1
  clear h
  obtain ⟨R, HR⟩ : ∃ R, Hid (R = readsL op d a b imm) := ⟨_, rfl⟩
  have HW : Hid (∀ x ∈ R, (Lit.int .i64 x).wf = true) := by rw [HR.out]; exact readsL_wf op d a b imm
  have hL8 : R.length ≤ 8 := by rw [HR.out]; exact readsL_len op d a b imm
  go_enter Tryd.func5, Tryd.ntmps5
  go_wp2_with (first
    | (go_at_call 8; go_must (refine (awake_any _ HN.out).mono ?_); rintro e w1 ⟨rfl, hb1⟩; go_must (have hB1 := box_below hb1; have HX : Hid (Box w1 w.heap.size op d a b imm) := box_cell hb1; obtain ⟨c0, c1, c2, c3, c4⟩ := HX.out; have hz1 := box_size hb1; clear hb1))
    | (go_at_call 17; have hq := hB1; clear hq; go_must (refine (oreads_any op d a b imm _).mono ?_); rintro e w2 ⟨va, rfl, hownA, hb2⟩; go_must (rw [← HR.out] at hownA; have hB2 := hB1.trans (hb2.mono hB1.size); have HX2 : Hid (Box w2 w.heap.size op d a b imm) := HX.out.below hb2 hz1; obtain ⟨c0, c1, c2, c3, c4⟩ := HX2.out; have hz2 := hb2.size; clear hb2 hB1 HX))
    | (go_at_call 17; have hq := hB2; clear hq; go_must (refine (oreads_any op d a b imm _).mono ?_); rintro e w3 ⟨vb, rfl, hownB, hb3⟩; go_must (rw [← HR.out] at hownB; have hB3 := hB2.trans (hb3.mono hB2.size); have HX3 : Hid (Box w3 w.heap.size op d a b imm) := HX2.out.below hb3 (by omega); obtain ⟨c0, c1, c2, c3, c4⟩ := HX3.out; have hz3 := hb3.size; have hownA3 := own_below hownA hb3 (Nat.le_refl _); clear hb3 hB2 HX2))
    | (go_at_call 18; go_must (refine (reads_any op d a b imm _).mono ?_); rintro e w4 ⟨vc, rfl, hownC, hb4⟩; go_must (rw [← HR.out] at hownC; have hB4 := hB3.trans (hb4.mono hB3.size); have HX4 : Hid (Box w4 w.heap.size op d a b imm) := HX3.out.below hb4 (by omega); have hz4 := hb4.size; have hownA4 := own_below hownA3 hb4 (Nat.le_refl _); have hownB4 := own_below hownB hb4 (Nat.le_refl _); have hseeA := Sees.own hownA4 HW.out; have hseeB := Sees.own hownB4 HW.out; have hseeC := Sees.own hownC HW.out; have hltA := own_block_lt hownA; clear hb4 hB3 HX3 c0 c1 c2 c3 c4 hownA hownA3))
    | (go_at_call 19; have hq := hseeA; clear hq; go_must (refine (ints_any va vc R R _ hseeA hseeC).mono ?_); rintro e w5 ⟨rfl, n5, rfl⟩; rw [eqB_true (rfl : R = R)]; clear hseeA)
    | (go_at_call 19; go_must (refine (ints_any vb vc R R _ (hseeB.drewN n5) (hseeC.drewN n5)).mono ?_); rintro e w6 ⟨rfl, n6, rfl⟩; rw [eqB_true (rfl : R = R)]; clear hseeB hseeC))
  have HLT : Hid (∀ k, va.ownBlock = some k → w1.heap.size ≤ k ∧ k < w2.heap.size) := hltA
  have hBD : Below w.heap.size w (w4.drewN (n5 + n6)) := below_drewN hB4 (n5 + n6)
  have HXD : Hid (Box (w4.drewN (n5 + n6)) w.heap.size op d a b imm) := HX4.out
  have HA : Hid ((w4.drewN (n5 + n6)).ownsRow w1.heap.size 3 1 va R.length (R.map (Value.int .i64))) := hownA4
  have HB : Hid ((w4.drewN (n5 + n6)).ownsRow w2.heap.size 3 1 vb R.length (R.map (Value.int .i64))) := hownB4
  have HC : Hid ((w4.drewN (n5 + n6)).ownsRow w3.heap.size 3 1 vc R.length (R.map (Value.int .i64))) := hownC
  have hzD : w4.heap.size ≤ (w4.drewN (n5 + n6)).heap.size := Nat.le_refl _
  have hBB : Hid (∀ k, vb.ownBlock = some k → w2.heap.size ≤ k ∧ k < w3.heap.size) := own_block_lt hownB
  clear hltA hB4 HX4 hownA4 hownB4 hownC hownB c0 c1 c2 c3 c4
  generalize w4.drewN (n5 + n6) = W6 at *
  obtain ⟨L, HLE⟩ : ∃ L, Hid (L = R.length) := ⟨_, rfl⟩
  obtain ⟨aL, cL, eL, hL1, hL2, _⟩ := Sees.own HA.out HW.out
  rw [← HLE.out] at eL hL1 hL8
  have hownL := HA.out
  rw [← HLE.out] at hownL
  subst eL
  unfold maxLen at hL2
  go_loopw [6] (fun i wr => ∃ k : Nat, k ≤ L ∧ i = .int .i64 k ∧ (∃ zs, wr.ownsRow w1.heap.size 3 1 (.slice aL L cL) L zs) ∧ W6.grownBy wr (Value.slice aL L cL).ownBlock) (fun i _ => L - (intOf i).toNat)
  case atStart => exact ⟨0, by omega, rfl, ⟨_, hownL⟩, grown_refl _ _⟩
  case round =>
    clear hownL
    obtain ⟨k, hk, rfl, ⟨zs, hown⟩, hgr⟩ := hrel
    by_cases hlt : k < L
    · obtain ⟨g', cap', ev, hg0, hg1, _, _, hcl⟩ := own_open hown (by omega)
      obtain ⟨rfl, rfl⟩ : aL = some ⟨g', 0, none⟩ ∧ cL = cap' := by injection ev with e1 e2 e3; exact ⟨e1, e3⟩
      have hzl : zs.length = L := by have := hown.1; omega
      obtain ⟨z, hcell⟩ : ∃ z, wr.cell? ⟨g', k, none⟩ = some z := ⟨zs[k]'(by omega), hcl k _ (List.getElem?_eq_getElem (by omega))⟩
      have hfz := hown.frozenAt k
      have R0 := hown.stored k (.int .i64 (-7))
      have hgr' := grown_trans hgr (show wr.grownBy _ (Value.slice (some ⟨g', 0, none⟩) L cL).ownBlock from R0.2)
      have R1 := R0.1
      clear hown R0 hgr hcl ev
      go_wp2
      go_roundw
      case rel => exact ⟨k + 1, by omega, by go_num, ⟨_, R1⟩, hgr'⟩
      case measure => simp [intOf]; omega
    · have hBr : Below w.heap.size w wr := hBD.grown hgr (by omega) (fun k hk => by have := HLT.out k hk; omega)
      have hzr := hgr.size
      have hownB := own_apart HB.out hgr (fun k j hk hj => by have h1 := HB.out.lt k hk; have h2 := HLT.out j hj; omega)
      have hownC := own_apart HC.out hgr (fun k j hk hj => by have h1 := HC.out.lt k hk; have h2 := HLT.out j hj; omega)
      have HXr : Hid (Box wr w.heap.size op d a b imm) := HXD.out.grown hgr (by omega) (fun e => by have := HLT.out _ e.symm; omega)
      obtain ⟨c0, c1, c2, c3, c4⟩ := HXr.out
      have hseeB := Sees.own hownB HW.out
      have hseeC := Sees.own hownC HW.out
      clear hgr hown HA HB HC hBD hownB hownC HXD
      go_wp2_with (first
        | (go_at_call 20; go_must (refine (owrites_any op d a b imm _).mono ?_); rintro e w7 ⟨rfl, hb7⟩; go_must (have hB7 := hBr.trans (hb7.mono (by omega)); have HX7 : Hid (Box w7 w.heap.size op d a b imm) := HXr.out.below hb7 (by omega); obtain ⟨c0, c1, c2, c3, c4⟩ := HX7.out; have hseeB7 := hseeB.below hb7 (Nat.le_refl _); have hseeC7 := hseeC.below hb7 (Nat.le_refl _); clear hb7 hBr hseeB hseeC))
        | (go_at_call 21; go_must (refine (writes_any op d a b imm _).mono ?_); rintro e w8 ⟨rfl, hb8⟩; go_must (have hB8 := hB7.trans (hb8.mono hB7.size); have hseeB8 := hseeB7.below hb8 (Nat.le_refl _); have hseeC8 := hseeC7.below hb8 (Nat.le_refl _); clear hb8 hB7 hseeB7 hseeC7))
        | (go_at_call 19; go_must (refine (ints_any vb vc R R _ hseeB8 hseeC8).mono ?_); rintro e w9 ⟨rfl, n9, rfl⟩; rw [eqB_true (rfl : R = R)]; clear hseeB8 hseeC8))
      go_ret
      exact ⟨r2b (by simp), below_drewN hB8 n9⟩
theorem reads_walk (i : In) (w : World) (_ : i.wf) (h : Named w) : Calls Tryd.prog 5 #[i.v] w fun e w' => e = .returned (.bool true) ∧ Below w.heap.size w w' := reads_walk5 i.op i.d i.a i.b i.imm w h
end Go.Proofs.YtheapkigeknjlaaDoor
