/-
  What the project's Reads does: the registers that are read, rising, each once, in new memory. No condition beyond the numbers' kinds.
-/
import Derived.Test.YtheapkigeknjlaaDoorO2One
import Derived.Test.YtheapkigeknjlaaDoorR2Reads
import Derived.Test.YtheapkigeknjlaaDoorG
namespace Go.Proofs.YtheapkigeknjlaaDoor
open Go.RowKit
set_option linter.unusedVariables false

set_option maxHeartbeats 800000 in
theorem oreads_not (op d a b imm : Int) (w : World) (hr : rightB op d a b imm = false) : Calls Tryd.prog 17 #[instV op d a b imm] w fun e w' => e = .returned (.slice none 0 0) ∧ Below w.heap.size w w' := by
  go_enter Tryd.func17, Tryd.ntmps17
  go_wp2_with (go_at_call 14; go_must (refine (right_one op d a b imm _ _ (by simp)).mono ?_); rintro e w1 ⟨rfl, hb1⟩; have hB := box_below hb1; clear hb1)
  go_ret
  exact ⟨rfl, hB⟩

set_option maxHeartbeats 800000 in
theorem oreads_fst0 (op d a b imm : Int) (w : World) (hr : rightB op d a b imm = true) (hf : (shapeL op).first = true) (hs : (shapeL op).source = false) : Calls Tryd.prog 17 #[instV op d a b imm] w fun e w' => ∃ v, e = .returned v ∧ w'.ownsRow w.heap.size 3 1 v 1 (([a] : List Int).map (Value.int .i64)) ∧ Below w.heap.size w w' := by
  go_enter Tryd.func17, Tryd.ntmps17
  go_wp2_with (first
    | (go_at_call 14; go_must (refine (right_one op d a b imm _ _ (by simp)).mono ?_); rintro e w1 ⟨rfl, hb1⟩; go_must (have hB := box_below hb1; obtain ⟨c0, c1, c2, c3, c4⟩ := box_cell hb1; have hz1 := box_size hb1; clear hb1))
    | (go_at_call 29; go_must (refine (shapeOf_laid op _).mono ?_); rintro e w2 ⟨rfl, hb2⟩; go_must (have hB2 := hB.trans (hb2.mono hB.size); rw [← hb2.cell (by exact hz1)] at c0 c1 c2 c3 c4; have hz2 : w.heap.size < w2.heap.size := Nat.lt_of_lt_of_le hz1 hb2.size; clear hb2)))
  go_ret
  refine ⟨_, rfl, own_lit _ w.heap.size 3 [.int .i64 a] _ ?_ ?_ ?_, ?_⟩
  · rw [World.size_alloc]
  · rw [World.size_alloc]; omega
  · simp [maxLen]
  · go_grown
set_option maxHeartbeats 800000 in
theorem oreads_fst8 (op d a b imm : Int) (w : World) (hr : rightB op d a b imm = true) (hf : (shapeL op).first = true) (hs : (shapeL op).source = true) (h8 : (b != 8) = false) : Calls Tryd.prog 17 #[instV op d a b imm] w fun e w' => ∃ v, e = .returned v ∧ w'.ownsRow w.heap.size 3 1 v 1 (([a] : List Int).map (Value.int .i64)) ∧ Below w.heap.size w w' := by
  go_enter Tryd.func17, Tryd.ntmps17
  go_wp2_with (first
    | (go_at_call 14; go_must (refine (right_one op d a b imm _ _ (by simp)).mono ?_); rintro e w1 ⟨rfl, hb1⟩; go_must (have hB := box_below hb1; obtain ⟨c0, c1, c2, c3, c4⟩ := box_cell hb1; have hz1 := box_size hb1; clear hb1))
    | (go_at_call 29; go_must (refine (shapeOf_laid op _).mono ?_); rintro e w2 ⟨rfl, hb2⟩; go_must (have hB2 := hB.trans (hb2.mono hB.size); rw [← hb2.cell (by exact hz1)] at c0 c1 c2 c3 c4; have hz2 : w.heap.size < w2.heap.size := Nat.lt_of_lt_of_le hz1 hb2.size; clear hb2)))
  go_ret
  refine ⟨_, rfl, own_lit _ w.heap.size 3 [.int .i64 a] _ ?_ ?_ ?_, ?_⟩
  · rw [World.size_alloc]
  · rw [World.size_alloc]; omega
  · simp [maxLen]
  · go_grown
set_option maxHeartbeats 800000 in
theorem oreads_same (op d a b imm : Int) (w : World) (hr : rightB op d a b imm = true) (hf : (shapeL op).first = true) (hs : (shapeL op).source = true) (h8 : (b != 8) = true) (hab : (a != b) = false) : Calls Tryd.prog 17 #[instV op d a b imm] w fun e w' => ∃ v, e = .returned v ∧ w'.ownsRow w.heap.size 3 1 v 1 (([a] : List Int).map (Value.int .i64)) ∧ Below w.heap.size w w' := by
  go_enter Tryd.func17, Tryd.ntmps17
  go_wp2_with (first
    | (go_at_call 14; go_must (refine (right_one op d a b imm _ _ (by simp)).mono ?_); rintro e w1 ⟨rfl, hb1⟩; go_must (have hB := box_below hb1; obtain ⟨c0, c1, c2, c3, c4⟩ := box_cell hb1; have hz1 := box_size hb1; clear hb1))
    | (go_at_call 29; go_must (refine (shapeOf_laid op _).mono ?_); rintro e w2 ⟨rfl, hb2⟩; go_must (have hB2 := hB.trans (hb2.mono hB.size); rw [← hb2.cell (by exact hz1)] at c0 c1 c2 c3 c4; have hz2 : w.heap.size < w2.heap.size := Nat.lt_of_lt_of_le hz1 hb2.size; clear hb2)))
  go_ret
  refine ⟨_, rfl, own_lit _ w.heap.size 3 [.int .i64 a] _ ?_ ?_ ?_, ?_⟩
  · rw [World.size_alloc]
  · rw [World.size_alloc]; omega
  · simp [maxLen]
  · go_grown
set_option maxHeartbeats 800000 in
theorem oreads_less (op d a b imm : Int) (w : World) (hr : rightB op d a b imm = true) (hf : (shapeL op).first = true) (hs : (shapeL op).source = true) (h8 : (b != 8) = true) (hab : (a != b) = true) (hlt : a < b) : Calls Tryd.prog 17 #[instV op d a b imm] w fun e w' => ∃ v, e = .returned v ∧ w'.ownsRow w.heap.size 3 1 v 2 (([a, b] : List Int).map (Value.int .i64)) ∧ Below w.heap.size w w' := by
  go_enter Tryd.func17, Tryd.ntmps17
  go_wp2_with (first
    | (go_at_call 14; go_must (refine (right_one op d a b imm _ _ (by simp)).mono ?_); rintro e w1 ⟨rfl, hb1⟩; go_must (have hB := box_below hb1; obtain ⟨c0, c1, c2, c3, c4⟩ := box_cell hb1; have hz1 := box_size hb1; clear hb1))
    | (go_at_call 29; go_must (refine (shapeOf_laid op _).mono ?_); rintro e w2 ⟨rfl, hb2⟩; go_must (have hB2 := hB.trans (hb2.mono hB.size); rw [← hb2.cell (by exact hz1)] at c0 c1 c2 c3 c4; have hz2 : w.heap.size < w2.heap.size := Nat.lt_of_lt_of_le hz1 hb2.size; clear hb2)))
  go_ret
  refine ⟨_, rfl, own_lit _ w.heap.size 3 [.int .i64 a, .int .i64 b] _ ?_ ?_ ?_, ?_⟩
  · rw [World.size_alloc]
  · rw [World.size_alloc]; omega
  · simp [maxLen]
  · go_grown
set_option maxHeartbeats 800000 in
theorem oreads_more (op d a b imm : Int) (w : World) (hr : rightB op d a b imm = true) (hf : (shapeL op).first = true) (hs : (shapeL op).source = true) (h8 : (b != 8) = true) (hab : (a != b) = true) (hlt : b < a) : Calls Tryd.prog 17 #[instV op d a b imm] w fun e w' => ∃ v, e = .returned v ∧ w'.ownsRow w.heap.size 3 1 v 2 (([b, a] : List Int).map (Value.int .i64)) ∧ Below w.heap.size w w' := by
  go_enter Tryd.func17, Tryd.ntmps17
  go_wp2_with (first
    | (go_at_call 14; go_must (refine (right_one op d a b imm _ _ (by simp)).mono ?_); rintro e w1 ⟨rfl, hb1⟩; go_must (have hB := box_below hb1; obtain ⟨c0, c1, c2, c3, c4⟩ := box_cell hb1; have hz1 := box_size hb1; clear hb1))
    | (go_at_call 29; go_must (refine (shapeOf_laid op _).mono ?_); rintro e w2 ⟨rfl, hb2⟩; go_must (have hB2 := hB.trans (hb2.mono hB.size); rw [← hb2.cell (by exact hz1)] at c0 c1 c2 c3 c4; have hz2 : w.heap.size < w2.heap.size := Nat.lt_of_lt_of_le hz1 hb2.size; clear hb2)))
  go_ret
  refine ⟨_, rfl, own_lit _ w.heap.size 3 [.int .i64 b, .int .i64 a] _ ?_ ?_ ?_, ?_⟩
  · rw [World.size_alloc]
  · rw [World.size_alloc]; omega
  · simp [maxLen]
  · go_grown
set_option maxHeartbeats 800000 in
theorem oreads_snd (op d a b imm : Int) (w : World) (hr : rightB op d a b imm = true) (hf : (shapeL op).first = false) (hs : (shapeL op).source = true) (h8 : (b != 8) = true) : Calls Tryd.prog 17 #[instV op d a b imm] w fun e w' => ∃ v, e = .returned v ∧ w'.ownsRow w.heap.size 3 1 v 1 (([b] : List Int).map (Value.int .i64)) ∧ Below w.heap.size w w' := by
  go_enter Tryd.func17, Tryd.ntmps17
  go_wp2_with (first
    | (go_at_call 14; go_must (refine (right_one op d a b imm _ _ (by simp)).mono ?_); rintro e w1 ⟨rfl, hb1⟩; go_must (have hB := box_below hb1; obtain ⟨c0, c1, c2, c3, c4⟩ := box_cell hb1; have hz1 := box_size hb1; clear hb1))
    | (go_at_call 29; go_must (refine (shapeOf_laid op _).mono ?_); rintro e w2 ⟨rfl, hb2⟩; go_must (have hB2 := hB.trans (hb2.mono hB.size); rw [← hb2.cell (by exact hz1)] at c0 c1 c2 c3 c4; have hz2 : w.heap.size < w2.heap.size := Nat.lt_of_lt_of_le hz1 hb2.size; clear hb2)))
  go_ret
  refine ⟨_, rfl, own_lit _ w.heap.size 3 [.int .i64 b] _ ?_ ?_ ?_, ?_⟩
  · rw [World.size_alloc]
  · rw [World.size_alloc]; omega
  · simp [maxLen]
  · go_grown
set_option maxHeartbeats 800000 in
theorem oreads_none0 (op d a b imm : Int) (w : World) (hr : rightB op d a b imm = true) (hf : (shapeL op).first = false) (hs : (shapeL op).source = false) : Calls Tryd.prog 17 #[instV op d a b imm] w fun e w' => ∃ v, e = .returned v ∧ w'.ownsRow w.heap.size 3 1 v 0 (([] : List Int).map (Value.int .i64)) ∧ Below w.heap.size w w' := by
  go_enter Tryd.func17, Tryd.ntmps17
  go_wp2_with (first
    | (go_at_call 14; go_must (refine (right_one op d a b imm _ _ (by simp)).mono ?_); rintro e w1 ⟨rfl, hb1⟩; go_must (have hB := box_below hb1; obtain ⟨c0, c1, c2, c3, c4⟩ := box_cell hb1; have hz1 := box_size hb1; clear hb1))
    | (go_at_call 29; go_must (refine (shapeOf_laid op _).mono ?_); rintro e w2 ⟨rfl, hb2⟩; go_must (have hB2 := hB.trans (hb2.mono hB.size); rw [← hb2.cell (by exact hz1)] at c0 c1 c2 c3 c4; have hz2 : w.heap.size < w2.heap.size := Nat.lt_of_lt_of_le hz1 hb2.size; clear hb2)))
  go_ret
  exact ⟨_, rfl, World.ownsRow_nil _ _ _ _, by go_grown⟩
set_option maxHeartbeats 800000 in
theorem oreads_none8 (op d a b imm : Int) (w : World) (hr : rightB op d a b imm = true) (hf : (shapeL op).first = false) (hs : (shapeL op).source = true) (h8 : (b != 8) = false) : Calls Tryd.prog 17 #[instV op d a b imm] w fun e w' => ∃ v, e = .returned v ∧ w'.ownsRow w.heap.size 3 1 v 0 (([] : List Int).map (Value.int .i64)) ∧ Below w.heap.size w w' := by
  go_enter Tryd.func17, Tryd.ntmps17
  go_wp2_with (first
    | (go_at_call 14; go_must (refine (right_one op d a b imm _ _ (by simp)).mono ?_); rintro e w1 ⟨rfl, hb1⟩; go_must (have hB := box_below hb1; obtain ⟨c0, c1, c2, c3, c4⟩ := box_cell hb1; have hz1 := box_size hb1; clear hb1))
    | (go_at_call 29; go_must (refine (shapeOf_laid op _).mono ?_); rintro e w2 ⟨rfl, hb2⟩; go_must (have hB2 := hB.trans (hb2.mono hB.size); rw [← hb2.cell (by exact hz1)] at c0 c1 c2 c3 c4; have hz2 : w.heap.size < w2.heap.size := Nat.lt_of_lt_of_le hz1 hb2.size; clear hb2)))
  go_ret
  exact ⟨_, rfl, World.ownsRow_nil _ _ _ _, by go_grown⟩
theorem upto_tt : ∀ m : Fin 8, ∀ n : Fin 8, upto8 true true m.val n.val 8 = if m.val = n.val then [(m.val : Int)] else if m.val < n.val then [(m.val : Int), (n.val : Int)] else [(n.val : Int), (m.val : Int)] := by decide +kernel
theorem upto_tf (n : Nat) : ∀ m : Fin 8, upto8 true false m.val n 8 = [(m.val : Int)] := by simp only [upto8, Bool.false_and, Bool.or_false]; decide +kernel
theorem upto_ft (m : Nat) : ∀ n : Fin 8, upto8 false true m n.val 8 = [(n.val : Int)] := by simp only [upto8, Bool.false_and, Bool.false_or]; decide +kernel
theorem upto_ff (m n : Nat) : upto8 false false m n 8 = [] := by simp [upto8]
/-- The project's Reads. -/
theorem oreads_any (op d a b imm : Int) (w : World) :
    Calls Tryd.prog 17 #[instV op d a b imm] w fun e w' => ∃ v, e = .returned v ∧ w'.ownsRow w.heap.size 3 1 v (readsL op d a b imm).length ((readsL op d a b imm).map (Value.int .i64)) ∧ Below w.heap.size w w' := by
  cases hr : rightB op d a b imm with
  | false =>
    refine (oreads_not op d a b imm w hr).mono ?_
    rintro e w' ⟨rfl, hB⟩
    have e : readsL op d a b imm = [] := by unfold readsL; rw [if_pos hr]
    rw [e]
    exact ⟨_, rfl, World.ownsRow_nil _ _ _ _, hB⟩
  | true =>
    have ho := right_op hr
    have er : readsL op d a b imm = upto8 (readsP op) (sourceB op d a b imm && decide (b < 8)) a.toNat b.toNat 8 := by unfold readsL; rw [if_neg (by simp [hr])]
    rw [er, ← first_shape ho, sourceB_shape hr]
    have hfa : (shapeL op).first = true → 0 ≤ a ∧ a ≤ 7 := fun h => right_a hr (by rw [← first_shape ho]; exact h)
    have hsb : (shapeL op).source = true → (0 ≤ b ∧ b ≤ 7) ∨ b = 8 := fun h => source_b (by rw [sourceB_shape hr]; exact h)
    cases hf : (shapeL op).first with
    | true =>
      obtain ⟨m, hm⟩ : ∃ m : Fin 8, a = (m.val : Int) := ⟨⟨a.toNat, by have := hfa hf; omega⟩, by have := hfa hf; simp; omega⟩
      have hm' : a.toNat = m.val := by omega
      rw [hm']
      cases hs : (shapeL op).source with
      | false =>
        rw [Bool.false_and, upto_tf, ← hm]
        exact oreads_fst0 op d a b imm w hr hf hs
      | true =>
        cases h8 : (b != 8) with
        | false =>
          have : ¬ b < 8 := by simp at h8; omega
          rw [show (true && decide (b < 8)) = false by simp [this], upto_tf, ← hm]
          exact oreads_fst8 op d a b imm w hr hf hs h8
        | true =>
          have hb := hsb hs
          have hb7 : 0 ≤ b ∧ b ≤ 7 := by simp at h8; omega
          obtain ⟨n, hn⟩ : ∃ n : Fin 8, b = (n.val : Int) := ⟨⟨b.toNat, by omega⟩, by simp; omega⟩
          have hn' : b.toNat = n.val := by omega
          rw [show (true && decide (b < 8)) = true by simp; omega, hn', upto_tt]
          by_cases hab : a = b
          · rw [if_pos (by omega), ← hm]
            exact oreads_same op d a b imm w hr hf hs h8 (by simp [hab])
          · rw [if_neg (by omega)]
            by_cases hlt : a < b
            · rw [if_pos (by omega), ← hm, ← hn]
              exact oreads_less op d a b imm w hr hf hs h8 (by simp [hab]) hlt
            · rw [if_neg (by omega), ← hm, ← hn]
              exact oreads_more op d a b imm w hr hf hs h8 (by simp [hab]) (by omega)
    | false =>
      cases hs : (shapeL op).source with
      | false =>
        rw [Bool.false_and, upto_ff]
        exact oreads_none0 op d a b imm w hr hf hs
      | true =>
        cases h8 : (b != 8) with
        | false =>
          have : ¬ b < 8 := by simp at h8; omega
          rw [show (true && decide (b < 8)) = false by simp [this], upto_ff]
          exact oreads_none8 op d a b imm w hr hf hs h8
        | true =>
          have hb := hsb hs
          have hb7 : 0 ≤ b ∧ b ≤ 7 := by simp at h8; omega
          obtain ⟨n, hn⟩ : ∃ n : Fin 8, b = (n.val : Int) := ⟨⟨b.toNat, by omega⟩, by simp; omega⟩
          have hn' : b.toNat = n.val := by omega
          rw [show (true && decide (b < 8)) = true by simp; omega, hn', upto_ft, ← hn]
          exact oreads_snd op d a b imm w hr hf hs h8
theorem readsL_wf (op d a b imm : Int) : ∀ x ∈ readsL op d a b imm, (Lit.int .i64 x).wf = true := by
  intro x hx
  unfold readsL at hx
  split at hx
  · simp at hx
  · unfold upto8 at hx
    simp only [List.mem_map, List.mem_filter] at hx
    obtain ⟨r, ⟨hr, _⟩, rfl⟩ := hx
    have : r < 8 := by simpa using List.mem_of_mem_take hr
    exact WalkArith.wf_i64 (by simp; omega)
end Go.Proofs.YtheapkigeknjlaaDoor
