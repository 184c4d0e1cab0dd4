
/-
  The document's Do, a way a theorem. Condition: the book lies where the pointer says, its row is the call's own.
-/
import Derived.Test.YtpbfgebecgikjaaTk
import Derived.Test.YtpbfgebecgikjaaB13Ref
namespace Go.Proofs.Ytpbfgebecgikjaa
open Go.RowKit
set_option linter.unusedVariables false
set_option linter.unusedSimpArgs false
set_option maxRecDepth 100000

/-- The result's box. -/
theorem boxRG (w : World) : ∃ X, Hid (w.alloc (.cells #[.int .i64 0, .bool false, .int .u64 0, .bool false, .int .u64 0, .int .u64 0] 47) = X) ∧ Hid (Hp X w.heap.size 47 (resCG 0 false 0 false 0 0)) ∧ Below w.heap.size w X ∧ X.heap.size = w.heap.size + 1 :=
  ⟨_, rfl, Hp.new w _ _, (Below.refl _ _).alloc (Nat.le_refl _) _, by simp⟩
section
variable {w : World} {B b cap : Nat} {v : Value} {L : List Pp}
set_option maxHeartbeats 3200000 in
theorem rdo_get_yes (key val : Int) (h : Rb w B b cap v L) (hl : L.length ≤ 1000) (hf : posP key L < L.length) {old : Int} (HO : Hid (valP key L = old)) :
    Calls Try.prog 37 #[.pointer (some ⟨b, 0, none⟩), .int .i64 0, .int .u64 key, .int .u64 val] w fun e w' => e = .returned (resG 0 true old false 0 0) ∧ Below w.heap.size w w' := by
  obtain ⟨X, HX, HrX, hbX, hzX⟩ := boxRG w
  have HB := keepG (h.below hbX)
  obtain ⟨q, HQ⟩ : ∃ q, Hid (posP key L = q) := ⟨_, rfl⟩
  rw [HQ.out] at hf
  have HA : Hid ((q : Int) = atP key L) := by show _ = _; rw [atP, if_pos (by rw [HQ.out]; exact hf), HQ.out]
  have hqI : (q : Int) < L.length := by omega
  have hblt := h.hp.lt
  have hXb : ¬ w.heap.size = b := by omega
  have hXb' : ¬ b = w.heap.size := by omega
  obtain ⟨g, c, rfl, hgB, hgX, hgc, hcm, hat⟩ := own_atG ppC_len Pp.nil HB.out.row (by omega)
  have d1 := (hat q hf 1 (by omega)).1
  have d2 := (hat q hf 1 (by omega)).2
  simp only [List.getElem?_cons_zero, List.getElem?_cons_succ] at d1
  have HV : Hid ((L.getD q Pp.nil).v = old) := by show _ = _; rw [← HO.out, valP, HQ.out]
  rw [HV.out] at d1
  have c0 := HB.out.hp.cell (j := 0) rfl
  have c1 := HB.out.hp.cell (j := 1) rfl
  have x0 := HrX.out.cell (j := 0) rfl
  have f0 := HrX.out.frozen 0
  have x1 := HrX.out.cell (j := 1) rfl
  have f1 := HrX.out.frozen 1
  have x2 := HrX.out.cell (j := 2) rfl
  have f2 := HrX.out.frozen 2
  have x3 := HrX.out.cell (j := 3) rfl
  have f3 := HrX.out.frozen 3
  have x4 := HrX.out.cell (j := 4) rfl
  have f4 := HrX.out.frozen 4
  have x5 := HrX.out.cell (j := 5) rfl
  have f5 := HrX.out.frozen 5
  have hgw : g < w.heap.size := (h.row.lt g rfl).2
  have HH := keepG h
  have HAT := keepG hat
  clear hat h
  go_enter Try.func37, Try.ntmps37
  go_wp2_with (go_at_call 41; rw [HX.out]; go_must (refine (rplace_any key HB.out hl HA).mono ?_); rintro e w1 ⟨rfl, rfl⟩)
  refine wp_region_held_drew (S := fun _ => True) (by kernel_rfl) trivial (fun hHeld => ?_)
  refine tkGo [0, 1, 2] ?_
  repeat (refine tkOne (v := ?_) rfl (by kernel_rfl) (by kernel_rfl) (by kernel_rfl) (fun _ _ _ h => h) (by assumption) (by rfl) ?_ ?_; rotate_left; (intro wy hSw; (try dsimp only at hSw); go_simp; (first | done | with_reducible rfl)); try simp only [Act.put, List.getElem_toArray, List.getElem_cons_zero, List.getElem_cons_succ, List.setIfInBounds_toArray, List.set_cons_zero, List.set_cons_succ])
  refine tkEnd ?_
  refine wpAnyH_take (i := 3) (v := undef) rfl (by kernel_rfl) (by kernel_rfl) (by kernel_rfl) (fun _ _ _ h => h) (Or.inr ⟨by rfl, rfl⟩) (by assumption) ?_
  try simp only [Act.put, List.getElem_toArray, List.getElem_cons_zero, List.getElem_cons_succ, List.setIfInBounds_toArray, List.set_cons_zero, List.set_cons_succ]
  refine wpAnyH_take (i := 4) (v := undef) rfl (by kernel_rfl) (by kernel_rfl) (by kernel_rfl) (fun _ _ _ h => h) (Or.inr ⟨by rfl, rfl⟩) (by assumption) ?_
  try simp only [Act.put, List.getElem_toArray, List.getElem_cons_zero, List.getElem_cons_succ, List.setIfInBounds_toArray, List.set_cons_zero, List.set_cons_succ]
  refine wpAnyH_take (i := 5) (v := undef) rfl (by kernel_rfl) (by kernel_rfl) (by kernel_rfl) (fun _ _ _ h => h) (Or.inr ⟨by rfl, rfl⟩) (by assumption) ?_
  try simp only [Act.put, List.getElem_toArray, List.getElem_cons_zero, List.getElem_cons_succ, List.setIfInBounds_toArray, List.set_cons_zero, List.set_cons_succ]
  refine wpAnyH_take (i := 6) (v := undef) rfl (by kernel_rfl) (by kernel_rfl) (by kernel_rfl) (fun _ _ _ h => h) (Or.inr ⟨by rfl, rfl⟩) (by assumption) ?_
  try simp only [Act.put, List.getElem_toArray, List.getElem_cons_zero, List.getElem_cons_succ, List.setIfInBounds_toArray, List.set_cons_zero, List.set_cons_succ]
  refine wpAnyH_take (i := 7) (v := undef) rfl (by kernel_rfl) (by kernel_rfl) (by kernel_rfl) (fun _ _ _ h => h) (Or.inr ⟨by rfl, rfl⟩) (by assumption) ?_
  try simp only [Act.put, List.getElem_toArray, List.getElem_cons_zero, List.getElem_cons_succ, List.setIfInBounds_toArray, List.set_cons_zero, List.set_cons_succ]
  refine wpAnyH_take (i := 8) (v := undef) rfl (by kernel_rfl) (by kernel_rfl) (by kernel_rfl) (fun _ _ _ h => h) (Or.inr ⟨by rfl, rfl⟩) (by assumption) ?_
  try simp only [Act.put, List.getElem_toArray, List.getElem_cons_zero, List.getElem_cons_succ, List.setIfInBounds_toArray, List.set_cons_zero, List.set_cons_succ]
  refine wpAnyH_take (i := 9) (v := undef) rfl (by kernel_rfl) (by kernel_rfl) (by kernel_rfl) (fun _ _ _ h => h) (Or.inr ⟨by rfl, rfl⟩) (by assumption) ?_
  try simp only [Act.put, List.getElem_toArray, List.getElem_cons_zero, List.getElem_cons_succ, List.setIfInBounds_toArray, List.set_cons_zero, List.set_cons_succ]
  refine wpAnyH_take (i := 10) (v := undef) rfl (by kernel_rfl) (by kernel_rfl) (by kernel_rfl) (fun _ _ _ h => h) (Or.inr ⟨by rfl, rfl⟩) (by assumption) ?_
  try simp only [Act.put, List.getElem_toArray, List.getElem_cons_zero, List.getElem_cons_succ, List.setIfInBounds_toArray, List.set_cons_zero, List.set_cons_succ]
  refine wpAnyH_take (i := 11) (v := undef) rfl (by kernel_rfl) (by kernel_rfl) (by kernel_rfl) (fun _ _ _ h => h) (Or.inr ⟨by rfl, rfl⟩) (by assumption) ?_
  try simp only [Act.put, List.getElem_toArray, List.getElem_cons_zero, List.getElem_cons_succ, List.setIfInBounds_toArray, List.set_cons_zero, List.set_cons_succ]
  refine wpAnyH_take (i := 12) (v := undef) rfl (by kernel_rfl) (by kernel_rfl) (by kernel_rfl) (fun _ _ _ h => h) (Or.inr ⟨by rfl, rfl⟩) (by assumption) ?_
  try simp only [Act.put, List.getElem_toArray, List.getElem_cons_zero, List.getElem_cons_succ, List.setIfInBounds_toArray, List.set_cons_zero, List.set_cons_succ]
  refine tkGo [13, 14] ?_
  repeat (refine tkOne (v := ?_) rfl (by kernel_rfl) (by kernel_rfl) (by kernel_rfl) (fun _ _ _ h => h) (by assumption) (by rfl) ?_ ?_; rotate_left; (intro wy hSw; (try dsimp only at hSw); go_simp; (first | done | with_reducible rfl)); try simp only [Act.put, List.getElem_toArray, List.getElem_cons_zero, List.getElem_cons_succ, List.setIfInBounds_toArray, List.set_cons_zero, List.set_cons_succ])
  refine tkEnd ?_
  refine wpAnyH_done (by kernel_rfl) ?_ _
  go_wp2
  exact res_ret rfl rfl (six_sets HrX.out rfl).1.drew ⟨rfl, below_drG (hbX.trans (grown_to_below (six_sets HrX.out rfl).2 (Nat.le_refl _) (by omega)))⟩
set_option maxHeartbeats 3200000 in
theorem rdo_has_yes (key val : Int) (h : Rb w B b cap v L) (hl : L.length ≤ 1000) (hf : posP key L < L.length) {old : Int} (HO : Hid (valP key L = old)) :
    Calls Try.prog 37 #[.pointer (some ⟨b, 0, none⟩), .int .i64 1, .int .u64 key, .int .u64 val] w fun e w' => e = .returned (resG 0 true 0 false 0 0) ∧ Below w.heap.size w w' := by
  obtain ⟨X, HX, HrX, hbX, hzX⟩ := boxRG w
  have HB := keepG (h.below hbX)
  obtain ⟨q, HQ⟩ : ∃ q, Hid (posP key L = q) := ⟨_, rfl⟩
  rw [HQ.out] at hf
  have HA : Hid ((q : Int) = atP key L) := by show _ = _; rw [atP, if_pos (by rw [HQ.out]; exact hf), HQ.out]
  have hqI : (q : Int) < L.length := by omega
  have hblt := h.hp.lt
  have hXb : ¬ w.heap.size = b := by omega
  have hXb' : ¬ b = w.heap.size := by omega
  obtain ⟨g, c, rfl, hgB, hgX, hgc, hcm, hat⟩ := own_atG ppC_len Pp.nil HB.out.row (by omega)
  have d1 := (hat q hf 1 (by omega)).1
  have d2 := (hat q hf 1 (by omega)).2
  simp only [List.getElem?_cons_zero, List.getElem?_cons_succ] at d1
  have HV : Hid ((L.getD q Pp.nil).v = old) := by show _ = _; rw [← HO.out, valP, HQ.out]
  rw [HV.out] at d1
  have c0 := HB.out.hp.cell (j := 0) rfl
  have c1 := HB.out.hp.cell (j := 1) rfl
  have x0 := HrX.out.cell (j := 0) rfl
  have f0 := HrX.out.frozen 0
  have x1 := HrX.out.cell (j := 1) rfl
  have f1 := HrX.out.frozen 1
  have x2 := HrX.out.cell (j := 2) rfl
  have f2 := HrX.out.frozen 2
  have x3 := HrX.out.cell (j := 3) rfl
  have f3 := HrX.out.frozen 3
  have x4 := HrX.out.cell (j := 4) rfl
  have f4 := HrX.out.frozen 4
  have x5 := HrX.out.cell (j := 5) rfl
  have f5 := HrX.out.frozen 5
  have hgw : g < w.heap.size := (h.row.lt g rfl).2
  have HH := keepG h
  have HAT := keepG hat
  clear hat h
  go_enter Try.func37, Try.ntmps37
  go_wp2_with (go_at_call 41; rw [HX.out]; go_must (refine (rplace_any key HB.out hl HA).mono ?_); rintro e w1 ⟨rfl, rfl⟩)
  refine wp_region_held_drew (S := fun _ => True) (by kernel_rfl) trivial (fun hHeld => ?_)
  refine tkGo [0, 1, 2] ?_
  repeat (refine tkOne (v := ?_) rfl (by kernel_rfl) (by kernel_rfl) (by kernel_rfl) (fun _ _ _ h => h) (by assumption) (by rfl) ?_ ?_; rotate_left; (intro wy hSw; (try dsimp only at hSw); go_simp; (first | done | with_reducible rfl)); try simp only [Act.put, List.getElem_toArray, List.getElem_cons_zero, List.getElem_cons_succ, List.setIfInBounds_toArray, List.set_cons_zero, List.set_cons_succ])
  refine tkEnd ?_
  refine wpAnyH_take (i := 3) (v := undef) rfl (by kernel_rfl) (by kernel_rfl) (by kernel_rfl) (fun _ _ _ h => h) (Or.inr ⟨by rfl, rfl⟩) (by assumption) ?_
  try simp only [Act.put, List.getElem_toArray, List.getElem_cons_zero, List.getElem_cons_succ, List.setIfInBounds_toArray, List.set_cons_zero, List.set_cons_succ]
  refine wpAnyH_take (i := 4) (v := undef) rfl (by kernel_rfl) (by kernel_rfl) (by kernel_rfl) (fun _ _ _ h => h) (Or.inr ⟨by rfl, rfl⟩) (by assumption) ?_
  try simp only [Act.put, List.getElem_toArray, List.getElem_cons_zero, List.getElem_cons_succ, List.setIfInBounds_toArray, List.set_cons_zero, List.set_cons_succ]
  refine wpAnyH_take (i := 5) (v := undef) rfl (by kernel_rfl) (by kernel_rfl) (by kernel_rfl) (fun _ _ _ h => h) (Or.inr ⟨by rfl, rfl⟩) (by assumption) ?_
  try simp only [Act.put, List.getElem_toArray, List.getElem_cons_zero, List.getElem_cons_succ, List.setIfInBounds_toArray, List.set_cons_zero, List.set_cons_succ]
  refine wpAnyH_take (i := 6) (v := undef) rfl (by kernel_rfl) (by kernel_rfl) (by kernel_rfl) (fun _ _ _ h => h) (Or.inr ⟨by rfl, rfl⟩) (by assumption) ?_
  try simp only [Act.put, List.getElem_toArray, List.getElem_cons_zero, List.getElem_cons_succ, List.setIfInBounds_toArray, List.set_cons_zero, List.set_cons_succ]
  refine wpAnyH_take (i := 7) (v := undef) rfl (by kernel_rfl) (by kernel_rfl) (by kernel_rfl) (fun _ _ _ h => h) (Or.inr ⟨by rfl, rfl⟩) (by assumption) ?_
  try simp only [Act.put, List.getElem_toArray, List.getElem_cons_zero, List.getElem_cons_succ, List.setIfInBounds_toArray, List.set_cons_zero, List.set_cons_succ]
  refine wpAnyH_take (i := 8) (v := undef) rfl (by kernel_rfl) (by kernel_rfl) (by kernel_rfl) (fun _ _ _ h => h) (Or.inr ⟨by rfl, rfl⟩) (by assumption) ?_
  try simp only [Act.put, List.getElem_toArray, List.getElem_cons_zero, List.getElem_cons_succ, List.setIfInBounds_toArray, List.set_cons_zero, List.set_cons_succ]
  refine wpAnyH_take (i := 9) (v := undef) rfl (by kernel_rfl) (by kernel_rfl) (by kernel_rfl) (fun _ _ _ h => h) (Or.inr ⟨by rfl, rfl⟩) (by assumption) ?_
  try simp only [Act.put, List.getElem_toArray, List.getElem_cons_zero, List.getElem_cons_succ, List.setIfInBounds_toArray, List.set_cons_zero, List.set_cons_succ]
  refine wpAnyH_take (i := 10) (v := undef) rfl (by kernel_rfl) (by kernel_rfl) (by kernel_rfl) (fun _ _ _ h => h) (Or.inr ⟨by rfl, rfl⟩) (by assumption) ?_
  try simp only [Act.put, List.getElem_toArray, List.getElem_cons_zero, List.getElem_cons_succ, List.setIfInBounds_toArray, List.set_cons_zero, List.set_cons_succ]
  refine wpAnyH_take (i := 11) (v := undef) rfl (by kernel_rfl) (by kernel_rfl) (by kernel_rfl) (fun _ _ _ h => h) (Or.inr ⟨by rfl, rfl⟩) (by assumption) ?_
  try simp only [Act.put, List.getElem_toArray, List.getElem_cons_zero, List.getElem_cons_succ, List.setIfInBounds_toArray, List.set_cons_zero, List.set_cons_succ]
  refine wpAnyH_take (i := 12) (v := undef) rfl (by kernel_rfl) (by kernel_rfl) (by kernel_rfl) (fun _ _ _ h => h) (Or.inr ⟨by rfl, rfl⟩) (by assumption) ?_
  try simp only [Act.put, List.getElem_toArray, List.getElem_cons_zero, List.getElem_cons_succ, List.setIfInBounds_toArray, List.set_cons_zero, List.set_cons_succ]
  refine tkGo [13, 14] ?_
  repeat (refine tkOne (v := ?_) rfl (by kernel_rfl) (by kernel_rfl) (by kernel_rfl) (fun _ _ _ h => h) (by assumption) (by rfl) ?_ ?_; rotate_left; (intro wy hSw; (try dsimp only at hSw); go_simp; (first | done | with_reducible rfl)); try simp only [Act.put, List.getElem_toArray, List.getElem_cons_zero, List.getElem_cons_succ, List.setIfInBounds_toArray, List.set_cons_zero, List.set_cons_succ])
  refine tkEnd ?_
  refine wpAnyH_done (by kernel_rfl) ?_ _
  go_wp2
  exact res_ret rfl rfl (six_sets HrX.out rfl).1.drew ⟨rfl, below_drG (hbX.trans (grown_to_below (six_sets HrX.out rfl).2 (Nat.le_refl _) (by omega)))⟩
set_option maxHeartbeats 3200000 in
theorem rdo_odd_yes (op : Int) (hop : op ≠ 0 ∧ op ≠ 1 ∧ op ≠ 2 ∧ op ≠ 3 ∧ op ≠ 4) (key val : Int) (h : Rb w B b cap v L) (hl : L.length ≤ 1000) (hf : posP key L < L.length) {old : Int} (HO : Hid (valP key L = old)) :
    Calls Try.prog 37 #[.pointer (some ⟨b, 0, none⟩), .int .i64 op, .int .u64 key, .int .u64 val] w fun e w' => e = .returned (resG 2 false 0 false 0 0) ∧ Below w.heap.size w w' := by
  obtain ⟨X, HX, HrX, hbX, hzX⟩ := boxRG w
  have HB := keepG (h.below hbX)
  obtain ⟨q, HQ⟩ : ∃ q, Hid (posP key L = q) := ⟨_, rfl⟩
  rw [HQ.out] at hf
  have HA : Hid ((q : Int) = atP key L) := by show _ = _; rw [atP, if_pos (by rw [HQ.out]; exact hf), HQ.out]
  have hqI : (q : Int) < L.length := by omega
  have hblt := h.hp.lt
  have hXb : ¬ w.heap.size = b := by omega
  have hXb' : ¬ b = w.heap.size := by omega
  obtain ⟨g, c, rfl, hgB, hgX, hgc, hcm, hat⟩ := own_atG ppC_len Pp.nil HB.out.row (by omega)
  have d1 := (hat q hf 1 (by omega)).1
  have d2 := (hat q hf 1 (by omega)).2
  simp only [List.getElem?_cons_zero, List.getElem?_cons_succ] at d1
  have HV : Hid ((L.getD q Pp.nil).v = old) := by show _ = _; rw [← HO.out, valP, HQ.out]
  rw [HV.out] at d1
  have c0 := HB.out.hp.cell (j := 0) rfl
  have c1 := HB.out.hp.cell (j := 1) rfl
  have x0 := HrX.out.cell (j := 0) rfl
  have f0 := HrX.out.frozen 0
  have x1 := HrX.out.cell (j := 1) rfl
  have f1 := HrX.out.frozen 1
  have x2 := HrX.out.cell (j := 2) rfl
  have f2 := HrX.out.frozen 2
  have x3 := HrX.out.cell (j := 3) rfl
  have f3 := HrX.out.frozen 3
  have x4 := HrX.out.cell (j := 4) rfl
  have f4 := HrX.out.frozen 4
  have x5 := HrX.out.cell (j := 5) rfl
  have f5 := HrX.out.frozen 5
  have hgw : g < w.heap.size := (h.row.lt g rfl).2
  have HH := keepG h
  have HAT := keepG hat
  clear hat h
  have o0 : (op == 0) = false := by simp; omega
  have o1 : (op == 1) = false := by simp; omega
  have o2 : (op == 2) = false := by simp; omega
  have o3 : (op == 3) = false := by simp; omega
  have o4 : (op == 4) = false := by simp; omega
  go_enter Try.func37, Try.ntmps37
  go_wp2_with (go_at_call 41; rw [HX.out]; go_must (refine (rplace_any key HB.out hl HA).mono ?_); rintro e w1 ⟨rfl, rfl⟩)
  refine wp_region_held_drew (S := fun _ => True) (by kernel_rfl) trivial (fun hHeld => ?_)
  refine tkGo [0, 1, 2] ?_
  repeat (refine tkOne (v := ?_) rfl (by kernel_rfl) (by kernel_rfl) (by kernel_rfl) (fun _ _ _ h => h) (by assumption) (by rfl) ?_ ?_; rotate_left; (intro wy hSw; (try dsimp only at hSw); go_simp; (first | done | with_reducible rfl)); try simp only [Act.put, List.getElem_toArray, List.getElem_cons_zero, List.getElem_cons_succ, List.setIfInBounds_toArray, List.set_cons_zero, List.set_cons_succ])
  refine tkEnd ?_
  refine wpAnyH_take (i := 3) (v := undef) rfl (by kernel_rfl) (by kernel_rfl) (by kernel_rfl) (fun _ _ _ h => h) (Or.inr ⟨by rfl, rfl⟩) (by assumption) ?_
  try simp only [Act.put, List.getElem_toArray, List.getElem_cons_zero, List.getElem_cons_succ, List.setIfInBounds_toArray, List.set_cons_zero, List.set_cons_succ]
  refine wpAnyH_take (i := 4) (v := undef) rfl (by kernel_rfl) (by kernel_rfl) (by kernel_rfl) (fun _ _ _ h => h) (Or.inr ⟨by rfl, rfl⟩) (by assumption) ?_
  try simp only [Act.put, List.getElem_toArray, List.getElem_cons_zero, List.getElem_cons_succ, List.setIfInBounds_toArray, List.set_cons_zero, List.set_cons_succ]
  refine wpAnyH_take (i := 5) (v := undef) rfl (by kernel_rfl) (by kernel_rfl) (by kernel_rfl) (fun _ _ _ h => h) (Or.inr ⟨by rfl, rfl⟩) (by assumption) ?_
  try simp only [Act.put, List.getElem_toArray, List.getElem_cons_zero, List.getElem_cons_succ, List.setIfInBounds_toArray, List.set_cons_zero, List.set_cons_succ]
  refine wpAnyH_take (i := 6) (v := undef) rfl (by kernel_rfl) (by kernel_rfl) (by kernel_rfl) (fun _ _ _ h => h) (Or.inr ⟨by rfl, rfl⟩) (by assumption) ?_
  try simp only [Act.put, List.getElem_toArray, List.getElem_cons_zero, List.getElem_cons_succ, List.setIfInBounds_toArray, List.set_cons_zero, List.set_cons_succ]
  refine wpAnyH_take (i := 7) (v := undef) rfl (by kernel_rfl) (by kernel_rfl) (by kernel_rfl) (fun _ _ _ h => h) (Or.inr ⟨by rfl, rfl⟩) (by assumption) ?_
  try simp only [Act.put, List.getElem_toArray, List.getElem_cons_zero, List.getElem_cons_succ, List.setIfInBounds_toArray, List.set_cons_zero, List.set_cons_succ]
  refine wpAnyH_take (i := 8) (v := undef) rfl (by kernel_rfl) (by kernel_rfl) (by kernel_rfl) (fun _ _ _ h => h) (Or.inr ⟨by rfl, rfl⟩) (by assumption) ?_
  try simp only [Act.put, List.getElem_toArray, List.getElem_cons_zero, List.getElem_cons_succ, List.setIfInBounds_toArray, List.set_cons_zero, List.set_cons_succ]
  refine wpAnyH_take (i := 9) (v := undef) rfl (by kernel_rfl) (by kernel_rfl) (by kernel_rfl) (fun _ _ _ h => h) (Or.inr ⟨by rfl, rfl⟩) (by assumption) ?_
  try simp only [Act.put, List.getElem_toArray, List.getElem_cons_zero, List.getElem_cons_succ, List.setIfInBounds_toArray, List.set_cons_zero, List.set_cons_succ]
  refine wpAnyH_take (i := 10) (v := undef) rfl (by kernel_rfl) (by kernel_rfl) (by kernel_rfl) (fun _ _ _ h => h) (Or.inr ⟨by rfl, rfl⟩) (by assumption) ?_
  try simp only [Act.put, List.getElem_toArray, List.getElem_cons_zero, List.getElem_cons_succ, List.setIfInBounds_toArray, List.set_cons_zero, List.set_cons_succ]
  refine wpAnyH_take (i := 11) (v := undef) rfl (by kernel_rfl) (by kernel_rfl) (by kernel_rfl) (fun _ _ _ h => h) (Or.inr ⟨by rfl, rfl⟩) (by assumption) ?_
  try simp only [Act.put, List.getElem_toArray, List.getElem_cons_zero, List.getElem_cons_succ, List.setIfInBounds_toArray, List.set_cons_zero, List.set_cons_succ]
  refine wpAnyH_take (i := 12) (v := undef) rfl (by kernel_rfl) (by kernel_rfl) (by kernel_rfl) (fun _ _ _ h => h) (Or.inr ⟨by rfl, rfl⟩) (by assumption) ?_
  try simp only [Act.put, List.getElem_toArray, List.getElem_cons_zero, List.getElem_cons_succ, List.setIfInBounds_toArray, List.set_cons_zero, List.set_cons_succ]
  refine tkGo [13, 14] ?_
  repeat (refine tkOne (v := ?_) rfl (by kernel_rfl) (by kernel_rfl) (by kernel_rfl) (fun _ _ _ h => h) (by assumption) (by rfl) ?_ ?_; rotate_left; (intro wy hSw; (try dsimp only at hSw); go_simp; (first | done | with_reducible rfl)); try simp only [Act.put, List.getElem_toArray, List.getElem_cons_zero, List.getElem_cons_succ, List.setIfInBounds_toArray, List.set_cons_zero, List.set_cons_succ])
  refine tkEnd ?_
  refine wpAnyH_done (by kernel_rfl) ?_ _
  go_wp2
  exact res_ret rfl rfl (six_sets HrX.out rfl).1.drew ⟨rfl, below_drG (hbX.trans (grown_to_below (six_sets HrX.out rfl).2 (Nat.le_refl _) (by omega)))⟩
set_option maxHeartbeats 3200000 in
theorem rdo_get_no_full (key val : Int) (h : Rb w B b cap v L) (hl : L.length ≤ 1000) (hf : ¬ posP key L < L.length) (hc : cap ≤ L.length) :
    Calls Try.prog 37 #[.pointer (some ⟨b, 0, none⟩), .int .i64 0, .int .u64 key, .int .u64 val] w fun e w' => e = .returned (resG 0 false 0 false 0 0) ∧ Below w.heap.size w w' := by
  obtain ⟨X, HX, HrX, hbX, hzX⟩ := boxRG w
  have HB := keepG (h.below hbX)
  have HA : Hid ((-1 : Int) = atP key L) := by show _ = _; rw [atP, if_neg (by omega)]
  have hblt := h.hp.lt
  have hXb : ¬ w.heap.size = b := by omega
  have hXb' : ¬ b = w.heap.size := by omega
  obtain ⟨ga, c, rfl⟩ := own_shape HB.out.row
  have c0 := HB.out.hp.cell (j := 0) rfl
  have c1 := HB.out.hp.cell (j := 1) rfl
  have x0 := HrX.out.cell (j := 0) rfl
  have f0 := HrX.out.frozen 0
  have x1 := HrX.out.cell (j := 1) rfl
  have f1 := HrX.out.frozen 1
  have x2 := HrX.out.cell (j := 2) rfl
  have f2 := HrX.out.frozen 2
  have x3 := HrX.out.cell (j := 3) rfl
  have f3 := HrX.out.frozen 3
  have x4 := HrX.out.cell (j := 4) rfl
  have f4 := HrX.out.frozen 4
  have x5 := HrX.out.cell (j := 5) rfl
  have f5 := HrX.out.frozen 5
  have HH := keepG h
  clear h
  have hcI : (cap : Int) ≤ L.length := by omega
  go_enter Try.func37, Try.ntmps37
  go_wp2_with (go_at_call 41; rw [HX.out]; go_must (refine (rplace_any key HB.out hl HA).mono ?_); rintro e w1 ⟨rfl, rfl⟩)
  refine wp_region_held_drew (S := fun w' => w'.cell? ⟨b, 0, none⟩ = some (.int .i64 cap) ∧ w'.cell? ⟨b, 1, none⟩ = some (.slice ga L.length c)) (by kernel_rfl) ⟨c0, c1⟩ (fun hHeld => ?_)
  refine tkGo [0, 1, 2, 3, 4, 5, 6, 7, 8, 9, 10, 11, 12, 13, 14] ?_
  repeat (refine tkOne (v := ?_) rfl (by kernel_rfl) (by kernel_rfl) (by kernel_rfl) (fun _ _ _ h => h) (by assumption) (by rfl) ?_ ?_; rotate_left; (intro wy hSw; (try dsimp only at hSw); go_simp; (first | done | with_reducible rfl)); try simp only [Act.put, List.getElem_toArray, List.getElem_cons_zero, List.getElem_cons_succ, List.setIfInBounds_toArray, List.set_cons_zero, List.set_cons_succ])
  refine tkEnd ?_
  refine wpAnyH_done (by kernel_rfl) ?_ _
  go_wp2
  exact res_ret rfl rfl (six_sets HrX.out rfl).1.drew ⟨rfl, below_drG (hbX.trans (grown_to_below (six_sets HrX.out rfl).2 (Nat.le_refl _) (by omega)))⟩
set_option maxHeartbeats 3200000 in
theorem rdo_has_no_full (key val : Int) (h : Rb w B b cap v L) (hl : L.length ≤ 1000) (hf : ¬ posP key L < L.length) (hc : cap ≤ L.length) :
    Calls Try.prog 37 #[.pointer (some ⟨b, 0, none⟩), .int .i64 1, .int .u64 key, .int .u64 val] w fun e w' => e = .returned (resG 0 false 0 false 0 0) ∧ Below w.heap.size w w' := by
  obtain ⟨X, HX, HrX, hbX, hzX⟩ := boxRG w
  have HB := keepG (h.below hbX)
  have HA : Hid ((-1 : Int) = atP key L) := by show _ = _; rw [atP, if_neg (by omega)]
  have hblt := h.hp.lt
  have hXb : ¬ w.heap.size = b := by omega
  have hXb' : ¬ b = w.heap.size := by omega
  obtain ⟨ga, c, rfl⟩ := own_shape HB.out.row
  have c0 := HB.out.hp.cell (j := 0) rfl
  have c1 := HB.out.hp.cell (j := 1) rfl
  have x0 := HrX.out.cell (j := 0) rfl
  have f0 := HrX.out.frozen 0
  have x1 := HrX.out.cell (j := 1) rfl
  have f1 := HrX.out.frozen 1
  have x2 := HrX.out.cell (j := 2) rfl
  have f2 := HrX.out.frozen 2
  have x3 := HrX.out.cell (j := 3) rfl
  have f3 := HrX.out.frozen 3
  have x4 := HrX.out.cell (j := 4) rfl
  have f4 := HrX.out.frozen 4
  have x5 := HrX.out.cell (j := 5) rfl
  have f5 := HrX.out.frozen 5
  have HH := keepG h
  clear h
  have hcI : (cap : Int) ≤ L.length := by omega
  go_enter Try.func37, Try.ntmps37
  go_wp2_with (go_at_call 41; rw [HX.out]; go_must (refine (rplace_any key HB.out hl HA).mono ?_); rintro e w1 ⟨rfl, rfl⟩)
  refine wp_region_held_drew (S := fun w' => w'.cell? ⟨b, 0, none⟩ = some (.int .i64 cap) ∧ w'.cell? ⟨b, 1, none⟩ = some (.slice ga L.length c)) (by kernel_rfl) ⟨c0, c1⟩ (fun hHeld => ?_)
  refine tkGo [0, 1, 2, 3, 4, 5, 6, 7, 8, 9, 10, 11, 12, 13, 14] ?_
  repeat (refine tkOne (v := ?_) rfl (by kernel_rfl) (by kernel_rfl) (by kernel_rfl) (fun _ _ _ h => h) (by assumption) (by rfl) ?_ ?_; rotate_left; (intro wy hSw; (try dsimp only at hSw); go_simp; (first | done | with_reducible rfl)); try simp only [Act.put, List.getElem_toArray, List.getElem_cons_zero, List.getElem_cons_succ, List.setIfInBounds_toArray, List.set_cons_zero, List.set_cons_succ])
  refine tkEnd ?_
  refine wpAnyH_done (by kernel_rfl) ?_ _
  go_wp2
  exact res_ret rfl rfl (six_sets HrX.out rfl).1.drew ⟨rfl, below_drG (hbX.trans (grown_to_below (six_sets HrX.out rfl).2 (Nat.le_refl _) (by omega)))⟩
set_option maxHeartbeats 3200000 in
theorem rdo_odd_no_full (op : Int) (hop : op ≠ 0 ∧ op ≠ 1 ∧ op ≠ 2 ∧ op ≠ 3 ∧ op ≠ 4) (key val : Int) (h : Rb w B b cap v L) (hl : L.length ≤ 1000) (hf : ¬ posP key L < L.length) (hc : cap ≤ L.length) :
    Calls Try.prog 37 #[.pointer (some ⟨b, 0, none⟩), .int .i64 op, .int .u64 key, .int .u64 val] w fun e w' => e = .returned (resG 2 false 0 false 0 0) ∧ Below w.heap.size w w' := by
  obtain ⟨X, HX, HrX, hbX, hzX⟩ := boxRG w
  have HB := keepG (h.below hbX)
  have HA : Hid ((-1 : Int) = atP key L) := by show _ = _; rw [atP, if_neg (by omega)]
  have hblt := h.hp.lt
  have hXb : ¬ w.heap.size = b := by omega
  have hXb' : ¬ b = w.heap.size := by omega
  obtain ⟨ga, c, rfl⟩ := own_shape HB.out.row
  have c0 := HB.out.hp.cell (j := 0) rfl
  have c1 := HB.out.hp.cell (j := 1) rfl
  have x0 := HrX.out.cell (j := 0) rfl
  have f0 := HrX.out.frozen 0
  have x1 := HrX.out.cell (j := 1) rfl
  have f1 := HrX.out.frozen 1
  have x2 := HrX.out.cell (j := 2) rfl
  have f2 := HrX.out.frozen 2
  have x3 := HrX.out.cell (j := 3) rfl
  have f3 := HrX.out.frozen 3
  have x4 := HrX.out.cell (j := 4) rfl
  have f4 := HrX.out.frozen 4
  have x5 := HrX.out.cell (j := 5) rfl
  have f5 := HrX.out.frozen 5
  have HH := keepG h
  clear h
  have hcI : (cap : Int) ≤ L.length := by omega
  have o0 : (op == 0) = false := by simp; omega
  have o1 : (op == 1) = false := by simp; omega
  have o2 : (op == 2) = false := by simp; omega
  have o3 : (op == 3) = false := by simp; omega
  have o4 : (op == 4) = false := by simp; omega
  go_enter Try.func37, Try.ntmps37
  go_wp2_with (go_at_call 41; rw [HX.out]; go_must (refine (rplace_any key HB.out hl HA).mono ?_); rintro e w1 ⟨rfl, rfl⟩)
  refine wp_region_held_drew (S := fun w' => w'.cell? ⟨b, 0, none⟩ = some (.int .i64 cap) ∧ w'.cell? ⟨b, 1, none⟩ = some (.slice ga L.length c)) (by kernel_rfl) ⟨c0, c1⟩ (fun hHeld => ?_)
  refine tkGo [0, 1, 2, 3, 4, 5, 6, 7, 8, 9, 10, 11, 12, 13, 14] ?_
  repeat (refine tkOne (v := ?_) rfl (by kernel_rfl) (by kernel_rfl) (by kernel_rfl) (fun _ _ _ h => h) (by assumption) (by rfl) ?_ ?_; rotate_left; (intro wy hSw; (try dsimp only at hSw); go_simp; (first | done | with_reducible rfl)); try simp only [Act.put, List.getElem_toArray, List.getElem_cons_zero, List.getElem_cons_succ, List.setIfInBounds_toArray, List.set_cons_zero, List.set_cons_succ])
  refine tkEnd ?_
  refine wpAnyH_done (by kernel_rfl) ?_ _
  go_wp2
  exact res_ret rfl rfl (six_sets HrX.out rfl).1.drew ⟨rfl, below_drG (hbX.trans (grown_to_below (six_sets HrX.out rfl).2 (Nat.le_refl _) (by omega)))⟩
set_option maxHeartbeats 3200000 in
theorem rdo_get_no_room (key val : Int) (h : Rb w B b cap v L) (hl : L.length ≤ 1000) (hf : ¬ posP key L < L.length) (hc : ¬ cap ≤ L.length) :
    Calls Try.prog 37 #[.pointer (some ⟨b, 0, none⟩), .int .i64 0, .int .u64 key, .int .u64 val] w fun e w' => e = .returned (resG 0 false 0 false 0 0) ∧ Below w.heap.size w w' := by
  obtain ⟨X, HX, HrX, hbX, hzX⟩ := boxRG w
  have HB := keepG (h.below hbX)
  have HA : Hid ((-1 : Int) = atP key L) := by show _ = _; rw [atP, if_neg (by omega)]
  have hblt := h.hp.lt
  have hXb : ¬ w.heap.size = b := by omega
  have hXb' : ¬ b = w.heap.size := by omega
  obtain ⟨ga, c, rfl⟩ := own_shape HB.out.row
  have c0 := HB.out.hp.cell (j := 0) rfl
  have c1 := HB.out.hp.cell (j := 1) rfl
  have x0 := HrX.out.cell (j := 0) rfl
  have f0 := HrX.out.frozen 0
  have x1 := HrX.out.cell (j := 1) rfl
  have f1 := HrX.out.frozen 1
  have x2 := HrX.out.cell (j := 2) rfl
  have f2 := HrX.out.frozen 2
  have x3 := HrX.out.cell (j := 3) rfl
  have f3 := HrX.out.frozen 3
  have x4 := HrX.out.cell (j := 4) rfl
  have f4 := HrX.out.frozen 4
  have x5 := HrX.out.cell (j := 5) rfl
  have f5 := HrX.out.frozen 5
  have HH := keepG h
  clear h
  have hcI : ¬ (cap : Int) ≤ L.length := by omega
  go_enter Try.func37, Try.ntmps37
  go_wp2_with (go_at_call 41; rw [HX.out]; go_must (refine (rplace_any key HB.out hl HA).mono ?_); rintro e w1 ⟨rfl, rfl⟩)
  refine wp_region_held_drew (S := fun w' => w'.cell? ⟨b, 0, none⟩ = some (.int .i64 cap) ∧ w'.cell? ⟨b, 1, none⟩ = some (.slice ga L.length c)) (by kernel_rfl) ⟨c0, c1⟩ (fun hHeld => ?_)
  refine tkGo [0, 1, 2, 3, 4, 5, 6, 7, 8, 9, 10, 11, 12, 13, 14] ?_
  repeat (refine tkOne (v := ?_) rfl (by kernel_rfl) (by kernel_rfl) (by kernel_rfl) (fun _ _ _ h => h) (by assumption) (by rfl) ?_ ?_; rotate_left; (intro wy hSw; (try dsimp only at hSw); go_simp; (first | done | with_reducible rfl)); try simp only [Act.put, List.getElem_toArray, List.getElem_cons_zero, List.getElem_cons_succ, List.setIfInBounds_toArray, List.set_cons_zero, List.set_cons_succ])
  refine tkEnd ?_
  refine wpAnyH_done (by kernel_rfl) ?_ _
  go_wp2
  exact res_ret rfl rfl (six_sets HrX.out rfl).1.drew ⟨rfl, below_drG (hbX.trans (grown_to_below (six_sets HrX.out rfl).2 (Nat.le_refl _) (by omega)))⟩
set_option maxHeartbeats 3200000 in
theorem rdo_has_no_room (key val : Int) (h : Rb w B b cap v L) (hl : L.length ≤ 1000) (hf : ¬ posP key L < L.length) (hc : ¬ cap ≤ L.length) :
    Calls Try.prog 37 #[.pointer (some ⟨b, 0, none⟩), .int .i64 1, .int .u64 key, .int .u64 val] w fun e w' => e = .returned (resG 0 false 0 false 0 0) ∧ Below w.heap.size w w' := by
  obtain ⟨X, HX, HrX, hbX, hzX⟩ := boxRG w
  have HB := keepG (h.below hbX)
  have HA : Hid ((-1 : Int) = atP key L) := by show _ = _; rw [atP, if_neg (by omega)]
  have hblt := h.hp.lt
  have hXb : ¬ w.heap.size = b := by omega
  have hXb' : ¬ b = w.heap.size := by omega
  obtain ⟨ga, c, rfl⟩ := own_shape HB.out.row
  have c0 := HB.out.hp.cell (j := 0) rfl
  have c1 := HB.out.hp.cell (j := 1) rfl
  have x0 := HrX.out.cell (j := 0) rfl
  have f0 := HrX.out.frozen 0
  have x1 := HrX.out.cell (j := 1) rfl
  have f1 := HrX.out.frozen 1
  have x2 := HrX.out.cell (j := 2) rfl
  have f2 := HrX.out.frozen 2
  have x3 := HrX.out.cell (j := 3) rfl
  have f3 := HrX.out.frozen 3
  have x4 := HrX.out.cell (j := 4) rfl
  have f4 := HrX.out.frozen 4
  have x5 := HrX.out.cell (j := 5) rfl
  have f5 := HrX.out.frozen 5
  have HH := keepG h
  clear h
  have hcI : ¬ (cap : Int) ≤ L.length := by omega
  go_enter Try.func37, Try.ntmps37
  go_wp2_with (go_at_call 41; rw [HX.out]; go_must (refine (rplace_any key HB.out hl HA).mono ?_); rintro e w1 ⟨rfl, rfl⟩)
  refine wp_region_held_drew (S := fun w' => w'.cell? ⟨b, 0, none⟩ = some (.int .i64 cap) ∧ w'.cell? ⟨b, 1, none⟩ = some (.slice ga L.length c)) (by kernel_rfl) ⟨c0, c1⟩ (fun hHeld => ?_)
  refine tkGo [0, 1, 2, 3, 4, 5, 6, 7, 8, 9, 10, 11, 12, 13, 14] ?_
  repeat (refine tkOne (v := ?_) rfl (by kernel_rfl) (by kernel_rfl) (by kernel_rfl) (fun _ _ _ h => h) (by assumption) (by rfl) ?_ ?_; rotate_left; (intro wy hSw; (try dsimp only at hSw); go_simp; (first | done | with_reducible rfl)); try simp only [Act.put, List.getElem_toArray, List.getElem_cons_zero, List.getElem_cons_succ, List.setIfInBounds_toArray, List.set_cons_zero, List.set_cons_succ])
  refine tkEnd ?_
  refine wpAnyH_done (by kernel_rfl) ?_ _
  go_wp2
  exact res_ret rfl rfl (six_sets HrX.out rfl).1.drew ⟨rfl, below_drG (hbX.trans (grown_to_below (six_sets HrX.out rfl).2 (Nat.le_refl _) (by omega)))⟩
set_option maxHeartbeats 3200000 in
theorem rdo_odd_no_room (op : Int) (hop : op ≠ 0 ∧ op ≠ 1 ∧ op ≠ 2 ∧ op ≠ 3 ∧ op ≠ 4) (key val : Int) (h : Rb w B b cap v L) (hl : L.length ≤ 1000) (hf : ¬ posP key L < L.length) (hc : ¬ cap ≤ L.length) :
    Calls Try.prog 37 #[.pointer (some ⟨b, 0, none⟩), .int .i64 op, .int .u64 key, .int .u64 val] w fun e w' => e = .returned (resG 2 false 0 false 0 0) ∧ Below w.heap.size w w' := by
  obtain ⟨X, HX, HrX, hbX, hzX⟩ := boxRG w
  have HB := keepG (h.below hbX)
  have HA : Hid ((-1 : Int) = atP key L) := by show _ = _; rw [atP, if_neg (by omega)]
  have hblt := h.hp.lt
  have hXb : ¬ w.heap.size = b := by omega
  have hXb' : ¬ b = w.heap.size := by omega
  obtain ⟨ga, c, rfl⟩ := own_shape HB.out.row
  have c0 := HB.out.hp.cell (j := 0) rfl
  have c1 := HB.out.hp.cell (j := 1) rfl
  have x0 := HrX.out.cell (j := 0) rfl
  have f0 := HrX.out.frozen 0
  have x1 := HrX.out.cell (j := 1) rfl
  have f1 := HrX.out.frozen 1
  have x2 := HrX.out.cell (j := 2) rfl
  have f2 := HrX.out.frozen 2
  have x3 := HrX.out.cell (j := 3) rfl
  have f3 := HrX.out.frozen 3
  have x4 := HrX.out.cell (j := 4) rfl
  have f4 := HrX.out.frozen 4
  have x5 := HrX.out.cell (j := 5) rfl
  have f5 := HrX.out.frozen 5
  have HH := keepG h
  clear h
  have hcI : ¬ (cap : Int) ≤ L.length := by omega
  have o0 : (op == 0) = false := by simp; omega
  have o1 : (op == 1) = false := by simp; omega
  have o2 : (op == 2) = false := by simp; omega
  have o3 : (op == 3) = false := by simp; omega
  have o4 : (op == 4) = false := by simp; omega
  go_enter Try.func37, Try.ntmps37
  go_wp2_with (go_at_call 41; rw [HX.out]; go_must (refine (rplace_any key HB.out hl HA).mono ?_); rintro e w1 ⟨rfl, rfl⟩)
  refine wp_region_held_drew (S := fun w' => w'.cell? ⟨b, 0, none⟩ = some (.int .i64 cap) ∧ w'.cell? ⟨b, 1, none⟩ = some (.slice ga L.length c)) (by kernel_rfl) ⟨c0, c1⟩ (fun hHeld => ?_)
  refine tkGo [0, 1, 2, 3, 4, 5, 6, 7, 8, 9, 10, 11, 12, 13, 14] ?_
  repeat (refine tkOne (v := ?_) rfl (by kernel_rfl) (by kernel_rfl) (by kernel_rfl) (fun _ _ _ h => h) (by assumption) (by rfl) ?_ ?_; rotate_left; (intro wy hSw; (try dsimp only at hSw); go_simp; (first | done | with_reducible rfl)); try simp only [Act.put, List.getElem_toArray, List.getElem_cons_zero, List.getElem_cons_succ, List.setIfInBounds_toArray, List.set_cons_zero, List.set_cons_succ])
  refine tkEnd ?_
  refine wpAnyH_done (by kernel_rfl) ?_ _
  go_wp2
  exact res_ret rfl rfl (six_sets HrX.out rfl).1.drew ⟨rfl, below_drG (hbX.trans (grown_to_below (six_sets HrX.out rfl).2 (Nat.le_refl _) (by omega)))⟩
set_option maxHeartbeats 3200000 in
theorem rdo_put_full (key val : Int) (h : Rb w B b cap v L) (hl : L.length ≤ 1000) (hf : ¬ posP key L < L.length) (hc : cap ≤ L.length) :
    Calls Try.prog 37 #[.pointer (some ⟨b, 0, none⟩), .int .i64 2, .int .u64 key, .int .u64 val] w fun e w' => e = .returned (resG 40 false 0 false 0 0) ∧ Below w.heap.size w w' := by
  obtain ⟨X, HX, HrX, hbX, hzX⟩ := boxRG w
  have HB := keepG (h.below hbX)
  have HA : Hid ((-1 : Int) = atP key L) := by show _ = _; rw [atP, if_neg (by omega)]
  have hblt := h.hp.lt
  have hXb : ¬ w.heap.size = b := by omega
  have hXb' : ¬ b = w.heap.size := by omega
  obtain ⟨ga, c, rfl⟩ := own_shape HB.out.row
  have c0 := HB.out.hp.cell (j := 0) rfl
  have c1 := HB.out.hp.cell (j := 1) rfl
  have x0 := HrX.out.cell (j := 0) rfl
  have f0 := HrX.out.frozen 0
  have x1 := HrX.out.cell (j := 1) rfl
  have f1 := HrX.out.frozen 1
  have x2 := HrX.out.cell (j := 2) rfl
  have f2 := HrX.out.frozen 2
  have x3 := HrX.out.cell (j := 3) rfl
  have f3 := HrX.out.frozen 3
  have x4 := HrX.out.cell (j := 4) rfl
  have f4 := HrX.out.frozen 4
  have x5 := HrX.out.cell (j := 5) rfl
  have f5 := HrX.out.frozen 5
  have HH := keepG h
  clear h
  have hcI : (cap : Int) ≤ L.length := by omega
  go_enter Try.func37, Try.ntmps37
  go_wp2_with (go_at_call 41; rw [HX.out]; go_must (refine (rplace_any key HB.out hl HA).mono ?_); rintro e w1 ⟨rfl, rfl⟩)
  refine wp_region_held_drew (S := fun w' => w'.cell? ⟨b, 0, none⟩ = some (.int .i64 cap) ∧ w'.cell? ⟨b, 1, none⟩ = some (.slice ga L.length c)) (by kernel_rfl) ⟨c0, c1⟩ (fun hHeld => ?_)
  refine tkGo [0, 1, 2, 3, 4, 5, 6, 7, 8, 9, 10, 11, 12, 13, 14] ?_
  repeat (refine tkOne (v := ?_) rfl (by kernel_rfl) (by kernel_rfl) (by kernel_rfl) (fun _ _ _ h => h) (by assumption) (by rfl) ?_ ?_; rotate_left; (intro wy hSw; (try dsimp only at hSw); go_simp; (first | done | with_reducible rfl)); try simp only [Act.put, List.getElem_toArray, List.getElem_cons_zero, List.getElem_cons_succ, List.setIfInBounds_toArray, List.set_cons_zero, List.set_cons_succ])
  refine tkEnd ?_
  refine wpAnyH_done (by kernel_rfl) ?_ _
  go_wp2
  exact res_ret rfl rfl (six_sets HrX.out rfl).1.drew ⟨rfl, below_drG (hbX.trans (grown_to_below (six_sets HrX.out rfl).2 (Nat.le_refl _) (by omega)))⟩
set_option maxHeartbeats 3200000 in
theorem rdo_add_full (key val : Int) (h : Rb w B b cap v L) (hl : L.length ≤ 1000) (hf : ¬ posP key L < L.length) (hc : cap ≤ L.length) :
    Calls Try.prog 37 #[.pointer (some ⟨b, 0, none⟩), .int .i64 4, .int .u64 key, .int .u64 val] w fun e w' => e = .returned (resG 40 false 0 false 0 0) ∧ Below w.heap.size w w' := by
  obtain ⟨X, HX, HrX, hbX, hzX⟩ := boxRG w
  have HB := keepG (h.below hbX)
  have HA : Hid ((-1 : Int) = atP key L) := by show _ = _; rw [atP, if_neg (by omega)]
  have hblt := h.hp.lt
  have hXb : ¬ w.heap.size = b := by omega
  have hXb' : ¬ b = w.heap.size := by omega
  obtain ⟨ga, c, rfl⟩ := own_shape HB.out.row
  have c0 := HB.out.hp.cell (j := 0) rfl
  have c1 := HB.out.hp.cell (j := 1) rfl
  have x0 := HrX.out.cell (j := 0) rfl
  have f0 := HrX.out.frozen 0
  have x1 := HrX.out.cell (j := 1) rfl
  have f1 := HrX.out.frozen 1
  have x2 := HrX.out.cell (j := 2) rfl
  have f2 := HrX.out.frozen 2
  have x3 := HrX.out.cell (j := 3) rfl
  have f3 := HrX.out.frozen 3
  have x4 := HrX.out.cell (j := 4) rfl
  have f4 := HrX.out.frozen 4
  have x5 := HrX.out.cell (j := 5) rfl
  have f5 := HrX.out.frozen 5
  have HH := keepG h
  clear h
  have hcI : (cap : Int) ≤ L.length := by omega
  go_enter Try.func37, Try.ntmps37
  go_wp2_with (go_at_call 41; rw [HX.out]; go_must (refine (rplace_any key HB.out hl HA).mono ?_); rintro e w1 ⟨rfl, rfl⟩)
  refine wp_region_held_drew (S := fun w' => w'.cell? ⟨b, 0, none⟩ = some (.int .i64 cap) ∧ w'.cell? ⟨b, 1, none⟩ = some (.slice ga L.length c)) (by kernel_rfl) ⟨c0, c1⟩ (fun hHeld => ?_)
  refine tkGo [0, 1, 2, 3, 4, 5, 6, 7, 8, 9, 10, 11, 12, 13, 14] ?_
  repeat (refine tkOne (v := ?_) rfl (by kernel_rfl) (by kernel_rfl) (by kernel_rfl) (fun _ _ _ h => h) (by assumption) (by rfl) ?_ ?_; rotate_left; (intro wy hSw; (try dsimp only at hSw); go_simp; (first | done | with_reducible rfl)); try simp only [Act.put, List.getElem_toArray, List.getElem_cons_zero, List.getElem_cons_succ, List.setIfInBounds_toArray, List.set_cons_zero, List.set_cons_succ])
  refine tkEnd ?_
  refine wpAnyH_done (by kernel_rfl) ?_ _
  go_wp2
  exact res_ret rfl rfl (six_sets HrX.out rfl).1.drew ⟨rfl, below_drG (hbX.trans (grown_to_below (six_sets HrX.out rfl).2 (Nat.le_refl _) (by omega)))⟩
end
end Go.Proofs.Ytpbfgebecgikjaa
