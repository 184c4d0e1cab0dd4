/-
  O2One
  F7Goes
  J9Wr
-/
import Derived.Test.YtoahbnkfkjiohaaML25
import Derived.Test.YtoahbnkfkjiohaaML5
/-
  What the project's Right does to no instruction, to one, to any slice of them. No condition beyond the numbers' kinds.
-/
namespace Go.Proofs.Ytoahbnkfkjiohaa
open Go.RowKit
set_option linter.unusedVariables false

theorem box_size {w w1 : World} {o : Obj} (h : Below (w.alloc o).heap.size (w.alloc o) w1) : w.heap.size < w1.heap.size := by
  have h1 := h.size
  rw [World.size_alloc] at h1
  omega
theorem rights_none (a : Option Addr) (cap : Nat) (w : World) : Calls Try.prog 43 #[.slice a 0 cap] w fun e w' => e = .returned (.bool true) ∧ w = w' := by
  go_enter Try.func43, Try.ntmps43
  go_wp2_with fail
  go_loopw [8] (fun i wr => i = .int .i64 0 ∧ w = wr) (fun i _ => 0)
  case atStart => exact ⟨rfl, rfl⟩
  case round =>
    obtain ⟨rfl, rfl⟩ := hrel
    go_wp2
    go_ret
    exact ⟨rfl, rfl⟩
/-- Right of any slice of instructions. -/
theorem rights_any (v : Value) (xs : List In) (w : World) (h : SeesI w v xs) : Calls Try.prog 43 #[v] w fun e w' => e = .returned (.bool (xs.all In.right)) ∧ Below w.heap.size w w' := by
  obtain ⟨a, cap, rfl, hl, hm, hn, hs⟩ := h
  cases xs with
  | nil => exact (rights_none a cap w).mono fun e w' ⟨he, hw⟩ => ⟨he, hw ▸ Below.refl _ _⟩
  | cons x xs =>
    obtain ⟨b, off, rfl, hb, hat⟩ := hs (by simp)
    exact rights_some b off cap (x :: xs) w hl hm hb hat
/-- Right of one instruction, in the slice that the caller makes of it. -/
theorem right_one (op d a b imm : Int) (w : World) (n : Nat) (hn : n = w.heap.size) : Calls Try.prog 43 #[.slice (some ⟨n, 0, none⟩) 1 1] (w.alloc (instO op d a b imm)) fun e w' => e = .returned (.bool (rightB op d a b imm)) ∧ Below w.heap.size w w' := by
  subst hn
  refine (rights_some w.heap.size 0 1 [⟨op, d, a, b, imm⟩] (w.alloc (instO op d a b imm)) (by simp) (by unfold maxLen; omega) (by simp) ?_).mono ?_
  · intro k hk
    obtain rfl : k = 0 := by simp at hk; exact hk
    simp [At]
  · rintro e w' ⟨rfl, hb⟩
    exact ⟨r2b (by simp [In.right]), box_below hb⟩
end Go.Proofs.Ytoahbnkfkjiohaa
/-
  What the document's Goes and the project's Goes do. No condition beyond the numbers' kinds.
-/
namespace Go.Proofs.Ytoahbnkfkjiohaa
open Go.RowKit
set_option linter.unusedVariables false

theorem ret3ibb {a a' : Int} {b b' c c' : Bool} (h1 : a = a') (h2 : b = b') (h3 : c = c') : Ending.returned (.tuple #[.int .i64 a, .bool b, .bool c]) = .returned (.tuple #[.int .i64 a', .bool b', .bool c']) := by rw [h1, h2, h3]

set_option maxHeartbeats 3200000 in
theorem ogoes_any (op d a b imm : Int) (w : World) : Calls Try.prog 36 #[instV op d a b imm] w fun e w' => e = .returned (.tuple #[.int .i64 (goesL op d a b imm).1, .bool (goesL op d a b imm).2.1, .bool (goesL op d a b imm).2.2]) ∧ Below w.heap.size w w' := by
  cases hr : rightB op d a b imm
  · have HE : Hid (goesL op d a b imm = (0, false, false)) := by show _ = _; unfold goesL; rw [if_pos hr]
    go_enter Try.func36, Try.ntmps36
    go_wp2_with (go_at_call 43; go_must (refine (right_one op d a b imm _ _ (by simp)).mono ?_); rintro e w1 ⟨rfl, hb1⟩; go_must (have hB := box_below hb1; obtain ⟨c0, c1, c2, c3, c4⟩ := box_cell hb1; clear hb1))
    go_ret3
    exact ⟨ret3ibb (by rw [HE.out]) (by rw [HE.out]) (by rw [HE.out]), hB⟩
  by_cases h15 : 15 ≤ op ∧ op ≤ 20
  · have hd := right_far hr h15
    have hc : op = 15 ∨ op = 16 ∨ op = 17 ∨ op = 18 ∨ op = 19 ∨ op = 20 := by omega
    clear h15
    rcases hc with rfl | rfl | rfl | rfl | rfl | rfl

    · have HE : Hid (goesL 15 d a b imm = (d + 1, true, false)) := by show _ = _; unfold goesL; rw [hr]; rfl
      go_enter Try.func36, Try.ntmps36
      go_wp2_with (go_at_call 43; go_must (refine (right_one 15 d a b imm _ _ (by simp)).mono ?_); rintro e w1 ⟨rfl, hb1⟩; go_must (have hB := box_below hb1; obtain ⟨c0, c1, c2, c3, c4⟩ := box_cell hb1; clear hb1))
      go_ret3
      exact ⟨ret3ibb (by rw [HE.out]) (by rw [HE.out]) (by rw [HE.out]), hB⟩
    · have HE : Hid (goesL 16 d a b imm = (d + 1, true, true)) := by show _ = _; unfold goesL; rw [hr]; rfl
      go_enter Try.func36, Try.ntmps36
      go_wp2_with (go_at_call 43; go_must (refine (right_one 16 d a b imm _ _ (by simp)).mono ?_); rintro e w1 ⟨rfl, hb1⟩; go_must (have hB := box_below hb1; obtain ⟨c0, c1, c2, c3, c4⟩ := box_cell hb1; clear hb1))
      go_ret3
      exact ⟨ret3ibb (by rw [HE.out]) (by rw [HE.out]) (by rw [HE.out]), hB⟩
    · have HE : Hid (goesL 17 d a b imm = (d + 1, true, true)) := by show _ = _; unfold goesL; rw [hr]; rfl
      go_enter Try.func36, Try.ntmps36
      go_wp2_with (go_at_call 43; go_must (refine (right_one 17 d a b imm _ _ (by simp)).mono ?_); rintro e w1 ⟨rfl, hb1⟩; go_must (have hB := box_below hb1; obtain ⟨c0, c1, c2, c3, c4⟩ := box_cell hb1; clear hb1))
      go_ret3
      exact ⟨ret3ibb (by rw [HE.out]) (by rw [HE.out]) (by rw [HE.out]), hB⟩
    · have HE : Hid (goesL 18 d a b imm = (d + 1, true, true)) := by show _ = _; unfold goesL; rw [hr]; rfl
      go_enter Try.func36, Try.ntmps36
      go_wp2_with (go_at_call 43; go_must (refine (right_one 18 d a b imm _ _ (by simp)).mono ?_); rintro e w1 ⟨rfl, hb1⟩; go_must (have hB := box_below hb1; obtain ⟨c0, c1, c2, c3, c4⟩ := box_cell hb1; clear hb1))
      go_ret3
      exact ⟨ret3ibb (by rw [HE.out]) (by rw [HE.out]) (by rw [HE.out]), hB⟩
    · have HE : Hid (goesL 19 d a b imm = (d + 1, true, true)) := by show _ = _; unfold goesL; rw [hr]; rfl
      go_enter Try.func36, Try.ntmps36
      go_wp2_with (go_at_call 43; go_must (refine (right_one 19 d a b imm _ _ (by simp)).mono ?_); rintro e w1 ⟨rfl, hb1⟩; go_must (have hB := box_below hb1; obtain ⟨c0, c1, c2, c3, c4⟩ := box_cell hb1; clear hb1))
      go_ret3
      exact ⟨ret3ibb (by rw [HE.out]) (by rw [HE.out]) (by rw [HE.out]), hB⟩
    · have HE : Hid (goesL 20 d a b imm = (-d, true, true)) := by show _ = _; unfold goesL; rw [hr]; rfl
      go_enter Try.func36, Try.ntmps36
      go_wp2_with (go_at_call 43; go_must (refine (right_one 20 d a b imm _ _ (by simp)).mono ?_); rintro e w1 ⟨rfl, hb1⟩; go_must (have hB := box_below hb1; obtain ⟨c0, c1, c2, c3, c4⟩ := box_cell hb1; clear hb1))
      go_ret3
      exact ⟨ret3ibb (by rw [HE.out]) (by rw [HE.out]) (by rw [HE.out]), hB⟩
  · have HE : Hid (goesL op d a b imm = (0, false, op != 22)) := by
      show _ = _; unfold goesL; rw [if_neg (by simp [hr]), if_neg (by omega), if_neg (by omega), if_neg (by omega)]
    have h16 : (op == 16) = false := by simp; omega
    have h17 : (op == 17) = false := by simp; omega
    have h18 : (op == 18) = false := by simp; omega
    have h19 : (op == 19) = false := by simp; omega
    have h20 : (op == 20) = false := by simp; omega
    have h15b : (op == 15) = false := by simp; omega
    clear h15
    go_enter Try.func36, Try.ntmps36
    go_wp2_with (go_at_call 43; go_must (refine (right_one op d a b imm _ _ (by simp)).mono ?_); rintro e w1 ⟨rfl, hb1⟩; go_must (have hB := box_below hb1; obtain ⟨c0, c1, c2, c3, c4⟩ := box_cell hb1; clear hb1))
    go_region
    go_wp2
    go_ret3
    exact ⟨ret3ibb (by rw [HE.out]) (by rw [HE.out]) (by rw [HE.out]), hB.drew⟩
end Go.Proofs.Ytoahbnkfkjiohaa
/-
  What the project's Writes does (the text of O2Two's, without R2More). No condition beyond the numbers' kinds.
-/
namespace Go.Proofs.Ytoahbnkfkjiohaa
open Go.RowKit
set_option linter.unusedVariables false

/-- 'shapeOf', its answer laid out. -/
theorem shapeOf_laid (op : Int) (w : World) : Calls Try.prog 48 #[.int .i64 op] w fun e w' => e = .returned (.agg #[.bool (shapeL op).dest, .bool (shapeL op).first, .bool (shapeL op).source, .int .i64 (shapeL op).farL, .int .i64 (shapeL op).farM, .int .i64 (shapeL op).immL, .int .i64 (shapeL op).immM]) ∧ Below w.heap.size w w' := shapeOf_any op w
theorem field_dest (op : Int) : ∀ w : World, (Instr.field 102 (.agg #[.bool (shapeL op).dest, .bool (shapeL op).first, .bool (shapeL op).source, .int .i64 (shapeL op).farL, .int .i64 (shapeL op).farM, .int .i64 (shapeL op).immL, .int .i64 (shapeL op).immM]) 0).run Try.prog w = .ok (.bool (shapeL op).dest) w := fun _ => by kernel_rfl
theorem dest_shape {op : Int} (ho : 0 ≤ op ∧ op ≤ 22) : (shapeL op).dest = (decide (op ≤ 11) || (op == 13 || op == 14)) := by
  rcases cases_op ho with hop | hop | rfl | rfl | rfl | rfl | hop | rfl | rfl | rfl
  · rw [shape_A hop]; simp; omega
  · rw [shape_B hop]; simp; omega
  · rfl
  · rfl
  · rfl
  · rfl
  · rw [shape_G hop]; simp; omega
  · rfl
  · rfl
  · rfl
set_option maxHeartbeats 800000 in
theorem owrites_any (op d a b imm : Int) (w : World) : Calls Try.prog 30 #[instV op d a b imm] w fun e w' => e = .returned (.tuple #[.int .i64 (writesL op d a b imm).1, .bool (writesL op d a b imm).2]) ∧ Below w.heap.size w w' := by
  cases hr : rightB op d a b imm
  · have HE : Hid (writesL op d a b imm = (0, false)) := by show _ = _; unfold writesL; rw [if_pos hr]
    go_enter Try.func30, Try.ntmps30
    go_wp2_with (go_at_call 43; go_must (refine (right_one op d a b imm _ _ (by simp)).mono ?_); rintro e w1 ⟨rfl, hb1⟩; have hB := box_below hb1; clear hb1)
    go_ret2
    exact ⟨ret2ib (by rw [HE.out]) (by rw [HE.out]), hB⟩
  · have ho := right_op hr
    have hds := dest_shape ho
    cases hd : (shapeL op).dest
    · have HE : Hid (writesL op d a b imm = (0, op == 21)) := by
        show _ = _; unfold writesL; rw [hd] at hds; simp at hds; rw [if_neg (by simp [hr]), if_neg (by omega)]
      clear hds
      have hfd := field_dest op
      rw [hd] at hfd
      go_enter Try.func30, Try.ntmps30
      go_wp2_with (first
        | (go_at_call 43; go_must (refine (right_one op d a b imm _ _ (by simp)).mono ?_); rintro e w1 ⟨rfl, hb1⟩; go_must (have hB := box_below hb1; obtain ⟨c0, c1, c2, c3, c4⟩ := box_cell hb1; have hz1 := box_size hb1; clear hb1))
        | (go_at_call 48; go_must (refine (shapeOf_laid op _).mono ?_); rintro e w2 ⟨rfl, hb2⟩; go_must (have hB2 := hB.trans (hb2.mono hB.size); rw [← hb2.cell (by exact hz1)] at c0 c1 c2 c3 c4; clear hb2)))
      go_region
      go_wp2
      go_ret2
      exact ⟨ret2ib (by rw [HE.out]) (by rw [HE.out]), hB2.drew⟩
    · have HE : Hid (writesL op d a b imm = (d, true)) := by
        show _ = _; unfold writesL; rw [hd] at hds; simp at hds; rw [if_neg (by simp [hr]), if_pos (by omega)]
      clear hds
      have hfd := field_dest op
      rw [hd] at hfd
      go_enter Try.func30, Try.ntmps30
      go_wp2_with (first
        | (go_at_call 43; go_must (refine (right_one op d a b imm _ _ (by simp)).mono ?_); rintro e w1 ⟨rfl, hb1⟩; go_must (have hB := box_below hb1; obtain ⟨c0, c1, c2, c3, c4⟩ := box_cell hb1; have hz1 := box_size hb1; clear hb1))
        | (go_at_call 48; go_must (refine (shapeOf_laid op _).mono ?_); rintro e w2 ⟨rfl, hb2⟩; go_must (have hB2 := hB.trans (hb2.mono hB.size); rw [← hb2.cell (by exact hz1)] at c0 c1 c2 c3 c4; clear hb2)))
      go_ret2
      exact ⟨ret2ib (by rw [HE.out]) (by rw [HE.out]), hB2⟩
end Go.Proofs.Ytoahbnkfkjiohaa
