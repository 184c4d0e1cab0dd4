
/-
  The document's Do, the ways that put. Condition: the book lies where the pointer says, its row is the call's own.
-/
import Derived.Test.YtpbfgebecgikjaaTk
import Derived.Test.YtpbfgebecgikjaaB13RDo
import Derived.Test.YtpbfgebecgikjaaB13Lib
namespace Go.Proofs.Ytpbfgebecgikjaa
open Go.RowKit
set_option linter.unusedVariables false
set_option linter.unusedSimpArgs false
set_option maxRecDepth 100000

theorem Rb.drew {w : World} {B b cap : Nat} {v : Value} {L : List Pp} (h : Rb w B b cap v L) : Rb w.drew B b cap v L := ⟨h.hp.drew, h.row⟩
theorem Rb.apart {w : World} {B b cap : Nat} {v : Value} {L : List Pp} (h : Rb w B b cap v L) : v.ownBlock ≠ some b := own_type10 h.row h.hp (by decide)
section
variable {w : World} {B b cap : Nat} {v : Value} {L : List Pp}
/-- Behind an append in new memory, one draw later. -/
theorem chg_appendD {w w' : World} {o : Obj} {v : Value} (hg : (w.alloc o).drew.grownBy w' v.ownBlock) : Chg w w' (fun k => v.ownBlock = some k) := chg_append (o := o) ⟨hg.os, hg.tape, hg.output, hg.size, hg.block⟩
/-- Where the row lies: where it lay, or in new memory, if anywhere. -/
def RowAt (w : World) (v v' : Value) : Prop := ∀ k, v'.ownBlock = some k → v.ownBlock = some k ∨ w.heap.size ≤ k
/-- The book behind an operation. -/
def RbNext (w : World) (B b cap : Nat) (v : Value) (L' : List Pp) (w' : World) : Prop := ∃ v', Rb w' B b cap v' L' ∧ Chg w w' (bkS b v) ∧ RowAt w v v'
theorem RbNext.same {w' : World} (h : Rb w B b cap v L) (hb : Below w.heap.size w w') : RbNext w B b cap v L w' := ⟨v, h.below hb, Chg.of_below hb, fun k hk => .inl hk⟩
/-- What is left behind a new key. -/
theorem rdo_new_end {X Z w' : World} {v' : Value} {L' : List Pp} {val : Int} {fn : Func} {tmps : Array Value} {pt : Tmp} (HrW : Hp w' w.heap.size 47 (resCG 0 false 0 false 0 0)) (Hb1 : Hp w' b 104 [.int .i64 cap, v]) (hrow : w'.ownsRow B 80 2 v' L'.length (flatG ppC L')) (hch : Chg Z w' (fun k => v.ownBlock = some k)) {n0 : Nat} (hnew : v'.ownBlock = v.ownBlock ∨ v'.ownBlock = some n0) (hn0 : w.heap.size + 2 ≤ n0) (hbZ : Below X.heap.size X Z) (hbX : Below w.heap.size w X) (hblt : b < w.heap.size) (hgw : ∀ k, v.ownBlock = some k → B ≤ k ∧ k < w.heap.size) (hap : v.ownBlock ≠ some b) (hzX : X.heap.size = w.heap.size + 1) (hzZ : Z.heap.size = w.heap.size + 2) (hr : fn.results = #[.cell pt 47] := by rfl) (hp : tmps.getD pt undef = .pointer (some ⟨w.heap.size, 0, none⟩) := by rfl) :
    bodyPost Try.prog fn (fun e w' => e = .returned (resG 0 false val false 0 0) ∧ RbNext w B b cap v L' w') .ret ⟨tmps, []⟩ (((((((w'.setCell ⟨b, 1, none⟩ v').setCell ⟨w.heap.size, 0, none⟩ (.int .i64 0)).setCell ⟨w.heap.size, 1, none⟩ (.bool false)).setCell ⟨w.heap.size, 2, none⟩ (.int .u64 val)).setCell ⟨w.heap.size, 3, none⟩ (.bool false)).setCell ⟨w.heap.size, 4, none⟩ (.int .u64 0)).setCell ⟨w.heap.size, 5, none⟩ (.int .u64 0)) := by
  have hcY := Chg.set w' b 1 v'
  have HbY := Hb1.set 1 v'
  have HrY := HrW.chg hcY (fun e => by omega)
  generalize w'.setCell ⟨b, 1, none⟩ v' = Y at *
  have hg6 := (six_sets (E := 0) (f := false) (v := val) (o := false) (k := 0) (u := 0) HrY rfl).2
  have hc6 := Chg.of_grown (S := fun k => k = w.heap.size) hg6 rfl
  have hne : ∀ k, v'.ownBlock = some k → k ≠ b ∧ k ≠ w.heap.size := by
    intro k hk
    rcases hnew with g | g
    · rw [g] at hk
      have := (hgw k hk).2
      exact ⟨fun e => hap (by rw [hk, e]), by omega⟩
    · rw [g] at hk
      have := Option.some.inj hk
      omega
  have hRb : Rb _ B b cap v' L' := Rb.mk (HbY.chg hc6 (fun e => by omega)) (own_chg (own_chg hrow hcY (fun k hk e => (hne k hk).1 e)) hc6 (fun k hk e => (hne k hk).2 e))
  have hA : Chg w X (bkS b v) := Chg.of_below hbX
  have hB := hA.trans (Chg.of_below (S := fun _ => False) hbZ) (fun _ _ e => e.elim)
  have hC := ((hB.trans hch (fun k _ e => .inr e)).trans hcY (fun k _ e => .inl e)).trans hc6 (fun k hk e => by omega)
  refine res_ret hr hp (six_sets HrY rfl).1 ⟨rfl, _, hRb, hC, fun k hk => ?_⟩
  rcases hnew with g | g
  · exact .inl (by rw [← g]; exact hk)
  · rw [g] at hk
    have := Option.some.inj hk
    exact .inr (by omega)
/-- What is left behind a key that was there. -/
theorem rdo_yes_end {X Z Z2 Y : World} {g c : Nat} {L' : List Pp} {val : Int} {fn : Func} {tmps : Array Value} {pt : Tmp} (HrY : Hp Y w.heap.size 47 (resCG 0 false 0 false 0 0)) (HbY : Hp Y b 104 [.int .i64 cap, .slice (some ⟨g, 0, none⟩) L.length c]) (hrow : Y.ownsRow B 80 2 (.slice (some ⟨g, 0, none⟩) L'.length c) L'.length (flatG ppC L')) (hcY : Chg Z2 Y (fun k => k = g)) (hcZ2 : Chg Z Z2 (fun k => k = w.heap.size + 1)) (hbZ : Below X.heap.size X Z) (hbX : Below w.heap.size w X) (hblt : b < w.heap.size) (hgw : g < w.heap.size) (hzX : X.heap.size = w.heap.size + 1) (hzZ : Z.heap.size = w.heap.size + 2) (hl : L'.length = L.length := by simp) (hr : fn.results = #[.cell pt 47] := by rfl) (hp : tmps.getD pt undef = .pointer (some ⟨w.heap.size, 0, none⟩) := by rfl) :
    bodyPost Try.prog fn (fun e w' => e = .returned (resG 0 true val false 0 0) ∧ RbNext w B b cap (.slice (some ⟨g, 0, none⟩) L.length c) L' w') .ret ⟨tmps, []⟩ ((((((Y.setCell ⟨w.heap.size, 0, none⟩ (.int .i64 0)).setCell ⟨w.heap.size, 1, none⟩ (.bool true)).setCell ⟨w.heap.size, 2, none⟩ (.int .u64 val)).setCell ⟨w.heap.size, 3, none⟩ (.bool false)).setCell ⟨w.heap.size, 4, none⟩ (.int .u64 0)).setCell ⟨w.heap.size, 5, none⟩ (.int .u64 0)).drew := by
  have hg6 := (six_sets (E := 0) (f := true) (v := val) (o := false) (k := 0) (u := 0) HrY rfl).2
  have hc6 := Chg.of_grown (S := fun k => k = w.heap.size) hg6 rfl
  have hrow2 : Y.ownsRow B 80 2 (.slice (some ⟨g, 0, none⟩) L.length c) L'.length (flatG ppC L') := by rw [← hl]; exact hrow
  have hRb := Rb.mk (HbY.chg hc6 (fun e => by omega)) (own_chg hrow2 hc6 (fun k hk e => by have := Option.some.inj hk; simp at this; omega))
  have hA : Chg w X (bkS b (.slice (some ⟨g, 0, none⟩) L.length c)) := Chg.of_below hbX
  have hB := hA.trans (Chg.of_below (S := fun _ => False) hbZ) (fun _ _ e => e.elim)
  have hC := (((hB.trans hcZ2 (fun k hk e => by omega)).trans hcY (fun k hk e => .inr (by rw [e]; rfl))).trans hc6 (fun k hk e => by omega)).drewN 1
  exact res_ret hr hp (six_sets HrY rfl).1.drew ⟨rfl, _, hRb.drew, hC, fun k hk => .inl hk⟩
set_option maxHeartbeats 3200000 in
theorem rdo_put_yes (key val : Int) (h : Rb w B b cap v L) (hl : L.length ≤ 1000) (hf : posP key L < L.length) {old : Int} (HO : Hid (valP key L = old)) :
    Calls Try.prog 37 #[.pointer (some ⟨b, 0, none⟩), .int .i64 2, .int .u64 key, .int .u64 val] w fun e w' => e = .returned (resG 0 true old false 0 0) ∧ RbNext w B b cap v (L.set (posP key L) ⟨key, val⟩) w' := by
  obtain ⟨X, HX, HrX, hbX, hzX⟩ := boxRG w
  have HB := keepG (h.below hbX)
  have hblt := h.hp.lt
  have hgw0 := h.row.lt
  have hap := h.apart
  have hXb : ¬ w.heap.size = b := by omega
  have hXb' : ¬ b = w.heap.size := by omega
  obtain ⟨q, HQ⟩ : ∃ q, Hid (posP key L = q) := ⟨_, rfl⟩
  have HKq := keepG (posP_at hf)
  rw [HQ.out] at hf HKq ⊢
  have HA : Hid ((q : Int) = atP key L) := by show _ = _; rw [atP, if_pos (by rw [HQ.out]; exact hf), HQ.out]
  have hqI : (q : Int) < L.length := by omega
  obtain ⟨g, c, rfl, hgB, hgX, hgc, hcm, hat⟩ := own_atG ppC_len Pp.nil HB.out.row (by omega)
  have d1 := (hat q hf 1 (by omega)).1
  simp only [List.getElem?_cons_zero, List.getElem?_cons_succ] at d1
  have HV : Hid ((L.getD q Pp.nil).v = old) := by show _ = _; rw [← HO.out, valP, HQ.out]
  rw [HV.out] at d1
  have hgw : g < w.heap.size := (hgw0 g rfl).2
  have hgb : ¬ g = b := fun e => hap (by rw [e]; rfl)
  clear hat
  have c0 := HB.out.hp.cell (j := 0) rfl
  have c1 := HB.out.hp.cell (j := 1) rfl
  obtain ⟨Z, HZ, HrZ, HpZ, hbZ, hzZ⟩ : ∃ Z, Hid (X.alloc (.cells #[.int .i64 0, .bool true, .int .u64 old, .bool false, .int .u64 0, .int .u64 0] 47) = Z) ∧ Hid (Hp Z w.heap.size 47 (resCG 0 false 0 false 0 0)) ∧ Hid (Hp Z (w.heap.size + 1) 47 (resCG 0 true old false 0 0)) ∧ Below X.heap.size X Z ∧ Z.heap.size = w.heap.size + 2 :=
    ⟨_, rfl, HrX.out.alloc _, by rw [← hzX]; exact Hp.new X (resCG 0 true old false 0 0) _, below_allocG X _, by simp [hzX]⟩
  have HBZ := keepG (HB.out.below hbZ)
  obtain ⟨Z2, HZ2, HrZ2, HpZ2, hcZ2⟩ : ∃ Z2, Z = Z2 ∧ Hid (Hp Z2 w.heap.size 47 (resCG 0 false 0 false 0 0)) ∧ Hid (Hp Z2 (w.heap.size + 1) 47 (resCG 0 true old false 0 0)) ∧ Chg Z Z2 (fun k => k = w.heap.size + 1) :=
    ⟨_, rfl, HrZ.out, HpZ.out, Chg.refl _ _⟩
  subst HZ2
  have hzZ2 := hcZ2.size
  have HBZ2 := HBZ
  have d1Z : Z.cell? ⟨g, q * 2 + 1, none⟩ = some (.int .u64 old) := by
    obtain ⟨g', c', ev, _, _, _, _, hat⟩ := own_atG ppC_len Pp.nil HBZ2.out.row (by omega)
    simp only [Value.slice.injEq, Option.some.injEq, Addr.mk.injEq, true_and, and_true] at ev
    obtain ⟨rfl, rfl⟩ := ev
    have := (hat q hf 1 (by omega)).1
    simp only [List.getElem?_cons_zero, List.getElem?_cons_succ] at this
    rw [HV.out] at this
    exact this
  have f1Z : Z.frozen? ⟨g, q * 2 + 1, none⟩ = false := by
    obtain ⟨g', c', ev, _, _, _, _, hat⟩ := own_atG ppC_len Pp.nil HBZ2.out.row (by omega)
    simp only [Value.slice.injEq, Option.some.injEq, Addr.mk.injEq, true_and, and_true] at ev
    obtain ⟨rfl, rfl⟩ := ev
    exact (hat q hf 1 (by omega)).2
  have c1Z := HBZ2.out.hp.cell (j := 1) rfl
  obtain ⟨Y, HY, HRY, hcY⟩ : ∃ Y, Hid (Z.setCell ⟨g, q * 2 + 1, none⟩ (.int .u64 val) = Y) ∧ Hid (Y.ownsRow B 80 2 (.slice (some ⟨g, 0, none⟩) (L.set q ⟨key, val⟩).length c) (L.set q ⟨key, val⟩).length (flatG ppC (L.set q ⟨key, val⟩))) ∧ Chg Z Y (fun k => k = g) :=
    ⟨_, rfl, own_setG ppC_len Pp.nil HBZ2.out.row (k := q) (j := 1) (x := ⟨key, val⟩) (u := .int .u64 val) hf (by omega) (by rw [← HKq.out]; rfl), Chg.set _ _ _ _⟩
  have HrY := keepG (HrZ2.out.chg hcY (fun e => by omega))
  have HpY := keepG (HpZ2.out.chg hcY (fun e => by omega))
  have HbY := keepG (HBZ2.out.hp.chg hcY (fun e => hgb e.symm))
  clear h
  go_enter Try.func37, Try.ntmps37
  go_wp2_with (go_at_call 41; rw [HX.out]; go_must (refine (rplace_any key HB.out hl HA).mono ?_); rintro e w1 ⟨rfl, rfl⟩)
  refine wp_region_held_drew (S := fun _ => True) (by kernel_rfl) trivial (fun hHeld => ?_)
  refine tkGo [0, 1, 2] ?_
  repeat (refine tkOne (v := ?_) rfl (by kernel_rfl) (by kernel_rfl) (by kernel_rfl) (fun _ _ _ h => h) (by assumption) (by rfl) ?_ ?_; rotate_left; (intro wy hSw; (try dsimp only at hSw); go_simp; (first | done | with_reducible rfl)); try simp only [Act.put, List.getElem_toArray, List.getElem_cons_zero, List.getElem_cons_succ, List.setIfInBounds_toArray, List.set_cons_zero, List.set_cons_succ])
  refine tkEnd ?_
  refine wpAnyH_take (i := 3) (v := undef) rfl (by kernel_rfl) (by kernel_rfl) (by kernel_rfl) (fun _ _ _ h => h) (Or.inr ⟨by rfl, rfl⟩) (by assumption) ?_
  try simp only [Act.put, List.getElem_toArray, List.getElem_cons_zero, List.getElem_cons_succ, List.setIfInBounds_toArray, List.set_cons_zero, List.set_cons_succ]
  refine wpAnyH_take (i := 4) (v := undef) rfl (by kernel_rfl) (by kernel_rfl) (by kernel_rfl) (fun _ _ _ h => h) (Or.inr ⟨by rfl, rfl⟩) (by assumption) ?_
  try simp only [Act.put, List.getElem_toArray, List.getElem_cons_zero, List.getElem_cons_succ, List.setIfInBounds_toArray, List.set_cons_zero, List.set_cons_succ]
  refine wpAnyH_take (i := 5) (v := undef) rfl (by kernel_rfl) (by kernel_rfl) (by kernel_rfl) (fun _ _ _ h => h) (Or.inr ⟨by rfl, rfl⟩) (by assumption) ?_
  try simp only [Act.put, List.getElem_toArray, List.getElem_cons_zero, List.getElem_cons_succ, List.setIfInBounds_toArray, List.set_cons_zero, List.set_cons_succ]
  refine wpAnyH_take (i := 6) (v := undef) rfl (by kernel_rfl) (by kernel_rfl) (by kernel_rfl) (fun _ _ _ h => h) (Or.inr ⟨by rfl, rfl⟩) (by assumption) ?_
  try simp only [Act.put, List.getElem_toArray, List.getElem_cons_zero, List.getElem_cons_succ, List.setIfInBounds_toArray, List.set_cons_zero, List.set_cons_succ]
  refine wpAnyH_take (i := 7) (v := undef) rfl (by kernel_rfl) (by kernel_rfl) (by kernel_rfl) (fun _ _ _ h => h) (Or.inr ⟨by rfl, rfl⟩) (by assumption) ?_
  try simp only [Act.put, List.getElem_toArray, List.getElem_cons_zero, List.getElem_cons_succ, List.setIfInBounds_toArray, List.set_cons_zero, List.set_cons_succ]
  refine wpAnyH_take (i := 8) (v := undef) rfl (by kernel_rfl) (by kernel_rfl) (by kernel_rfl) (fun _ _ _ h => h) (Or.inr ⟨by rfl, rfl⟩) (by assumption) ?_
  try simp only [Act.put, List.getElem_toArray, List.getElem_cons_zero, List.getElem_cons_succ, List.setIfInBounds_toArray, List.set_cons_zero, List.set_cons_succ]
  refine wpAnyH_take (i := 9) (v := undef) rfl (by kernel_rfl) (by kernel_rfl) (by kernel_rfl) (fun _ _ _ h => h) (Or.inr ⟨by rfl, rfl⟩) (by assumption) ?_
  try simp only [Act.put, List.getElem_toArray, List.getElem_cons_zero, List.getElem_cons_succ, List.setIfInBounds_toArray, List.set_cons_zero, List.set_cons_succ]
  refine wpAnyH_take (i := 10) (v := undef) rfl (by kernel_rfl) (by kernel_rfl) (by kernel_rfl) (fun _ _ _ h => h) (Or.inr ⟨by rfl, rfl⟩) (by assumption) ?_
  try simp only [Act.put, List.getElem_toArray, List.getElem_cons_zero, List.getElem_cons_succ, List.setIfInBounds_toArray, List.set_cons_zero, List.set_cons_succ]
  refine wpAnyH_take (i := 11) (v := undef) rfl (by kernel_rfl) (by kernel_rfl) (by kernel_rfl) (fun _ _ _ h => h) (Or.inr ⟨by rfl, rfl⟩) (by assumption) ?_
  try simp only [Act.put, List.getElem_toArray, List.getElem_cons_zero, List.getElem_cons_succ, List.setIfInBounds_toArray, List.set_cons_zero, List.set_cons_succ]
  refine wpAnyH_take (i := 12) (v := undef) rfl (by kernel_rfl) (by kernel_rfl) (by kernel_rfl) (fun _ _ _ h => h) (Or.inr ⟨by rfl, rfl⟩) (by assumption) ?_
  try simp only [Act.put, List.getElem_toArray, List.getElem_cons_zero, List.getElem_cons_succ, List.setIfInBounds_toArray, List.set_cons_zero, List.set_cons_succ]
  refine tkGo [13, 14] ?_
  repeat (refine tkOne (v := ?_) rfl (by kernel_rfl) (by kernel_rfl) (by kernel_rfl) (fun _ _ _ h => h) (by assumption) (by rfl) ?_ ?_; rotate_left; (intro wy hSw; (try dsimp only at hSw); go_simp; (first | done | with_reducible rfl)); try simp only [Act.put, List.getElem_toArray, List.getElem_cons_zero, List.getElem_cons_succ, List.setIfInBounds_toArray, List.set_cons_zero, List.set_cons_succ])
  refine tkEnd ?_
  refine wpAnyH_done (by kernel_rfl) ?_ _
  go_wp2_with (first
    | (rw [HZ.out])
    | (rw [HY.out]; have x0 := HrY.out.cell (j := 0) rfl; have f0 := HrY.out.frozen 0; have x1 := HrY.out.cell (j := 1) rfl; have f1 := HrY.out.frozen 1; have x2 := HrY.out.cell (j := 2) rfl; have f2 := HrY.out.frozen 2; have x3 := HrY.out.cell (j := 3) rfl; have f3 := HrY.out.frozen 3; have x4 := HrY.out.cell (j := 4) rfl; have f4 := HrY.out.frozen 4; have x5 := HrY.out.cell (j := 5) rfl; have f5 := HrY.out.frozen 5; have y0 := HpY.out.cell (j := 0) rfl; have y1 := HpY.out.cell (j := 1) rfl; have y2 := HpY.out.cell (j := 2) rfl; have y3 := HpY.out.cell (j := 3) rfl; have y4 := HpY.out.cell (j := 4) rfl; have y5 := HpY.out.cell (j := 5) rfl))
  exact rdo_yes_end HrY.out HbY.out HRY.out hcY hcZ2 hbZ hbX hblt hgw hzX hzZ
set_option maxHeartbeats 3200000 in
theorem rdo_add_yes (key val : Int) (h : Rb w B b cap v L) (hl : L.length ≤ 1000) (hf : posP key L < L.length) {old : Int} (HO : Hid (valP key L = old)) {sum : Int} (HS : Hid ((old + val) % 18446744073709551616 = sum)) :
    Calls Try.prog 37 #[.pointer (some ⟨b, 0, none⟩), .int .i64 4, .int .u64 key, .int .u64 val] w fun e w' => e = .returned (resG 0 true sum false 0 0) ∧ RbNext w B b cap v (L.set (posP key L) ⟨key, sum⟩) w' := by
  obtain ⟨X, HX, HrX, hbX, hzX⟩ := boxRG w
  have HB := keepG (h.below hbX)
  have hblt := h.hp.lt
  have hgw0 := h.row.lt
  have hap := h.apart
  have hXb : ¬ w.heap.size = b := by omega
  have hXb' : ¬ b = w.heap.size := by omega
  have hwr : IntKind.u64.wrap (old + val) = sum := by rw [← HS.out, IntKind.wrap_u64]
  obtain ⟨q, HQ⟩ : ∃ q, Hid (posP key L = q) := ⟨_, rfl⟩
  have HKq := keepG (posP_at hf)
  rw [HQ.out] at hf HKq ⊢
  have HA : Hid ((q : Int) = atP key L) := by show _ = _; rw [atP, if_pos (by rw [HQ.out]; exact hf), HQ.out]
  have hqI : (q : Int) < L.length := by omega
  obtain ⟨g, c, rfl, hgB, hgX, hgc, hcm, hat⟩ := own_atG ppC_len Pp.nil HB.out.row (by omega)
  have d1 := (hat q hf 1 (by omega)).1
  simp only [List.getElem?_cons_zero, List.getElem?_cons_succ] at d1
  have HV : Hid ((L.getD q Pp.nil).v = old) := by show _ = _; rw [← HO.out, valP, HQ.out]
  rw [HV.out] at d1
  have hgw : g < w.heap.size := (hgw0 g rfl).2
  have hgb : ¬ g = b := fun e => hap (by rw [e]; rfl)
  clear hat
  have c0 := HB.out.hp.cell (j := 0) rfl
  have c1 := HB.out.hp.cell (j := 1) rfl
  obtain ⟨Z, HZ, HrZ, HpZ, hbZ, hzZ⟩ : ∃ Z, Hid (X.alloc (.cells #[.int .i64 0, .bool true, .int .u64 old, .bool false, .int .u64 0, .int .u64 0] 47) = Z) ∧ Hid (Hp Z w.heap.size 47 (resCG 0 false 0 false 0 0)) ∧ Hid (Hp Z (w.heap.size + 1) 47 (resCG 0 true old false 0 0)) ∧ Below X.heap.size X Z ∧ Z.heap.size = w.heap.size + 2 :=
    ⟨_, rfl, HrX.out.alloc _, by rw [← hzX]; exact Hp.new X (resCG 0 true old false 0 0) _, below_allocG X _, by simp [hzX]⟩
  have HBZ := keepG (HB.out.below hbZ)
  obtain ⟨Z2, HZ2, HrZ2, HpZ2, hcZ2⟩ : ∃ Z2, Hid (Z.setCell ⟨w.heap.size + 1, 2, none⟩ (.int .u64 sum) = Z2) ∧ Hid (Hp Z2 w.heap.size 47 (resCG 0 false 0 false 0 0)) ∧ Hid (Hp Z2 (w.heap.size + 1) 47 (resCG 0 true sum false 0 0)) ∧ Chg Z Z2 (fun k => k = w.heap.size + 1) :=
    ⟨_, rfl, HrZ.out.far (by omega), HpZ.out.set 2 _, Chg.set _ _ _ _⟩
  have hzZ2 := hcZ2.size
  have HBZ2 := keepG (HBZ.out.chg hcZ2 (fun e => by omega) (fun k hk e => by have := (hgw0 k hk).2; omega))
  have d1Z : Z2.cell? ⟨g, q * 2 + 1, none⟩ = some (.int .u64 old) := by
    obtain ⟨g', c', ev, _, _, _, _, hat⟩ := own_atG ppC_len Pp.nil HBZ2.out.row (by omega)
    simp only [Value.slice.injEq, Option.some.injEq, Addr.mk.injEq, true_and, and_true] at ev
    obtain ⟨rfl, rfl⟩ := ev
    have := (hat q hf 1 (by omega)).1
    simp only [List.getElem?_cons_zero, List.getElem?_cons_succ] at this
    rw [HV.out] at this
    exact this
  have f1Z : Z2.frozen? ⟨g, q * 2 + 1, none⟩ = false := by
    obtain ⟨g', c', ev, _, _, _, _, hat⟩ := own_atG ppC_len Pp.nil HBZ2.out.row (by omega)
    simp only [Value.slice.injEq, Option.some.injEq, Addr.mk.injEq, true_and, and_true] at ev
    obtain ⟨rfl, rfl⟩ := ev
    exact (hat q hf 1 (by omega)).2
  have c1Z := HBZ2.out.hp.cell (j := 1) rfl
  obtain ⟨Y, HY, HRY, hcY⟩ : ∃ Y, Hid (Z2.setCell ⟨g, q * 2 + 1, none⟩ (.int .u64 sum) = Y) ∧ Hid (Y.ownsRow B 80 2 (.slice (some ⟨g, 0, none⟩) (L.set q ⟨key, sum⟩).length c) (L.set q ⟨key, sum⟩).length (flatG ppC (L.set q ⟨key, sum⟩))) ∧ Chg Z2 Y (fun k => k = g) :=
    ⟨_, rfl, own_setG ppC_len Pp.nil HBZ2.out.row (k := q) (j := 1) (x := ⟨key, sum⟩) (u := .int .u64 sum) hf (by omega) (by rw [← HKq.out]; rfl), Chg.set _ _ _ _⟩
  have HrY := keepG (HrZ2.out.chg hcY (fun e => by omega))
  have HpY := keepG (HpZ2.out.chg hcY (fun e => by omega))
  have HbY := keepG (HBZ2.out.hp.chg hcY (fun e => hgb e.symm))
  have z2 := HpZ.out.cell (j := 2) rfl
  have fz2 := HpZ.out.frozen 2
  clear h
  go_enter Try.func37, Try.ntmps37
  go_wp2_with (go_at_call 41; rw [HX.out]; go_must (refine (rplace_any key HB.out hl HA).mono ?_); rintro e w1 ⟨rfl, rfl⟩)
  refine wp_region_held_drew (S := fun _ => True) (by kernel_rfl) trivial (fun hHeld => ?_)
  refine tkGo [0, 1, 2] ?_
  repeat (refine tkOne (v := ?_) rfl (by kernel_rfl) (by kernel_rfl) (by kernel_rfl) (fun _ _ _ h => h) (by assumption) (by rfl) ?_ ?_; rotate_left; (intro wy hSw; (try dsimp only at hSw); go_simp; (first | done | with_reducible rfl)); try simp only [Act.put, List.getElem_toArray, List.getElem_cons_zero, List.getElem_cons_succ, List.setIfInBounds_toArray, List.set_cons_zero, List.set_cons_succ])
  refine tkEnd ?_
  refine wpAnyH_take (i := 3) (v := undef) rfl (by kernel_rfl) (by kernel_rfl) (by kernel_rfl) (fun _ _ _ h => h) (Or.inr ⟨by rfl, rfl⟩) (by assumption) ?_
  try simp only [Act.put, List.getElem_toArray, List.getElem_cons_zero, List.getElem_cons_succ, List.setIfInBounds_toArray, List.set_cons_zero, List.set_cons_succ]
  refine wpAnyH_take (i := 4) (v := undef) rfl (by kernel_rfl) (by kernel_rfl) (by kernel_rfl) (fun _ _ _ h => h) (Or.inr ⟨by rfl, rfl⟩) (by assumption) ?_
  try simp only [Act.put, List.getElem_toArray, List.getElem_cons_zero, List.getElem_cons_succ, List.setIfInBounds_toArray, List.set_cons_zero, List.set_cons_succ]
  refine wpAnyH_take (i := 5) (v := undef) rfl (by kernel_rfl) (by kernel_rfl) (by kernel_rfl) (fun _ _ _ h => h) (Or.inr ⟨by rfl, rfl⟩) (by assumption) ?_
  try simp only [Act.put, List.getElem_toArray, List.getElem_cons_zero, List.getElem_cons_succ, List.setIfInBounds_toArray, List.set_cons_zero, List.set_cons_succ]
  refine wpAnyH_take (i := 6) (v := undef) rfl (by kernel_rfl) (by kernel_rfl) (by kernel_rfl) (fun _ _ _ h => h) (Or.inr ⟨by rfl, rfl⟩) (by assumption) ?_
  try simp only [Act.put, List.getElem_toArray, List.getElem_cons_zero, List.getElem_cons_succ, List.setIfInBounds_toArray, List.set_cons_zero, List.set_cons_succ]
  refine wpAnyH_take (i := 7) (v := undef) rfl (by kernel_rfl) (by kernel_rfl) (by kernel_rfl) (fun _ _ _ h => h) (Or.inr ⟨by rfl, rfl⟩) (by assumption) ?_
  try simp only [Act.put, List.getElem_toArray, List.getElem_cons_zero, List.getElem_cons_succ, List.setIfInBounds_toArray, List.set_cons_zero, List.set_cons_succ]
  refine wpAnyH_take (i := 8) (v := undef) rfl (by kernel_rfl) (by kernel_rfl) (by kernel_rfl) (fun _ _ _ h => h) (Or.inr ⟨by rfl, rfl⟩) (by assumption) ?_
  try simp only [Act.put, List.getElem_toArray, List.getElem_cons_zero, List.getElem_cons_succ, List.setIfInBounds_toArray, List.set_cons_zero, List.set_cons_succ]
  refine wpAnyH_take (i := 9) (v := undef) rfl (by kernel_rfl) (by kernel_rfl) (by kernel_rfl) (fun _ _ _ h => h) (Or.inr ⟨by rfl, rfl⟩) (by assumption) ?_
  try simp only [Act.put, List.getElem_toArray, List.getElem_cons_zero, List.getElem_cons_succ, List.setIfInBounds_toArray, List.set_cons_zero, List.set_cons_succ]
  refine wpAnyH_take (i := 10) (v := undef) rfl (by kernel_rfl) (by kernel_rfl) (by kernel_rfl) (fun _ _ _ h => h) (Or.inr ⟨by rfl, rfl⟩) (by assumption) ?_
  try simp only [Act.put, List.getElem_toArray, List.getElem_cons_zero, List.getElem_cons_succ, List.setIfInBounds_toArray, List.set_cons_zero, List.set_cons_succ]
  refine wpAnyH_take (i := 11) (v := undef) rfl (by kernel_rfl) (by kernel_rfl) (by kernel_rfl) (fun _ _ _ h => h) (Or.inr ⟨by rfl, rfl⟩) (by assumption) ?_
  try simp only [Act.put, List.getElem_toArray, List.getElem_cons_zero, List.getElem_cons_succ, List.setIfInBounds_toArray, List.set_cons_zero, List.set_cons_succ]
  refine wpAnyH_take (i := 12) (v := undef) rfl (by kernel_rfl) (by kernel_rfl) (by kernel_rfl) (fun _ _ _ h => h) (Or.inr ⟨by rfl, rfl⟩) (by assumption) ?_
  try simp only [Act.put, List.getElem_toArray, List.getElem_cons_zero, List.getElem_cons_succ, List.setIfInBounds_toArray, List.set_cons_zero, List.set_cons_succ]
  refine tkGo [13, 14] ?_
  repeat (refine tkOne (v := ?_) rfl (by kernel_rfl) (by kernel_rfl) (by kernel_rfl) (fun _ _ _ h => h) (by assumption) (by rfl) ?_ ?_; rotate_left; (intro wy hSw; (try dsimp only at hSw); go_simp; (first | done | with_reducible rfl)); try simp only [Act.put, List.getElem_toArray, List.getElem_cons_zero, List.getElem_cons_succ, List.setIfInBounds_toArray, List.set_cons_zero, List.set_cons_succ])
  refine tkEnd ?_
  refine wpAnyH_done (by kernel_rfl) ?_ _
  go_wp2_with (first
    | (rw [HZ.out])
    | (rw [HZ2.out])
    | (rw [HY.out]; have x0 := HrY.out.cell (j := 0) rfl; have f0 := HrY.out.frozen 0; have x1 := HrY.out.cell (j := 1) rfl; have f1 := HrY.out.frozen 1; have x2 := HrY.out.cell (j := 2) rfl; have f2 := HrY.out.frozen 2; have x3 := HrY.out.cell (j := 3) rfl; have f3 := HrY.out.frozen 3; have x4 := HrY.out.cell (j := 4) rfl; have f4 := HrY.out.frozen 4; have x5 := HrY.out.cell (j := 5) rfl; have f5 := HrY.out.frozen 5; have y0 := HpY.out.cell (j := 0) rfl; have y1 := HpY.out.cell (j := 1) rfl; have y2 := HpY.out.cell (j := 2) rfl; have y3 := HpY.out.cell (j := 3) rfl; have y4 := HpY.out.cell (j := 4) rfl; have y5 := HpY.out.cell (j := 5) rfl))
  exact rdo_yes_end HrY.out HbY.out HRY.out hcY hcZ2 hbZ hbX hblt hgw hzX hzZ
set_option maxHeartbeats 3200000 in
theorem rdo_put_new (key val : Int) (h : Rb w B b cap v L) (hl : L.length ≤ 1000) (hf : ¬ posP key L < L.length) (hc : ¬ cap ≤ L.length) (hB : B ≤ w.heap.size) :
    Calls Try.prog 37 #[.pointer (some ⟨b, 0, none⟩), .int .i64 2, .int .u64 key, .int .u64 val] w fun e w' => e = .returned (resG 0 false 0 false 0 0) ∧ RbNext w B b cap v (L ++ [⟨key, val⟩]) w' := by
  obtain ⟨X, HX, HrX, hbX, hzX⟩ := boxRG w
  have HB := keepG (h.below hbX)
  have hblt := h.hp.lt
  have hgw0 := h.row.lt
  have hap := h.apart
  have hXb : ¬ w.heap.size = b := by omega
  have hXb' : ¬ b = w.heap.size := by omega
  have HA : Hid ((-1 : Int) = atP key L) := by show _ = _; rw [atP, if_neg (by omega)]
  obtain ⟨ga, c, rfl⟩ := own_shape HB.out.row
  have hcI : ¬ (cap : Int) ≤ L.length := by omega
  have hcI2 : (L.length : Int) < cap := by omega
  obtain ⟨i0, hi0, hz0, hzs, hzb⟩ := info_parts infoPr
  have c0 := HB.out.hp.cell (j := 0) rfl
  have c1 := HB.out.hp.cell (j := 1) rfl
  obtain ⟨Z, HZ, HrZ, HpZ, hbZ, hzZ⟩ : ∃ Z, Hid (X.alloc (.cells #[.int .i64 0, .bool false, .int .u64 0, .bool false, .int .u64 0, .int .u64 0] 47) = Z) ∧ Hid (Hp Z w.heap.size 47 (resCG 0 false 0 false 0 0)) ∧ Hid (Hp Z (w.heap.size + 1) 47 (resCG 0 false 0 false 0 0)) ∧ Below X.heap.size X Z ∧ Z.heap.size = w.heap.size + 2 :=
    ⟨_, rfl, HrX.out.alloc _, by rw [← hzX]; exact Hp.new X (resCG 0 false 0 false 0 0) _, below_allocG X _, by simp [hzX]⟩
  have HBZ := keepG (HB.out.below hbZ)
  obtain ⟨Z2, HZ2, HrZ2, HpZ2, hcZ2⟩ : ∃ Z2, Z = Z2 ∧ Hid (Hp Z2 w.heap.size 47 (resCG 0 false 0 false 0 0)) ∧ Hid (Hp Z2 (w.heap.size + 1) 47 (resCG 0 false 0 false 0 0)) ∧ Chg Z Z2 (fun k => k = w.heap.size + 1) :=
    ⟨_, rfl, HrZ.out, HpZ.out, Chg.refl _ _⟩
  subst HZ2
  have hzZ2 := hcZ2.size
  have HBZ2 := HBZ
  have c1Z := HBZ2.out.hp.cell (j := 1) rfl
  clear h
  go_enter Try.func37, Try.ntmps37
  go_wp2_with (go_at_call 41; rw [HX.out]; go_must (refine (rplace_any key HB.out hl HA).mono ?_); rintro e w1 ⟨rfl, rfl⟩)
  refine wp_region_held_drew (S := fun w' => w'.cell? ⟨b, 0, none⟩ = some (.int .i64 cap) ∧ w'.cell? ⟨b, 1, none⟩ = some (.slice ga L.length c)) (by kernel_rfl) ⟨c0, c1⟩ (fun hHeld => ?_)
  refine tkGo [0, 1, 2, 3, 4, 5, 6, 7, 8, 9, 10, 11, 12, 13, 14] ?_
  repeat (refine tkOne (v := ?_) rfl (by kernel_rfl) (by kernel_rfl) (by kernel_rfl) (fun _ _ _ h => h) (by assumption) (by rfl) ?_ ?_; rotate_left; (intro wy hSw; (try dsimp only at hSw); go_simp; (first | done | with_reducible rfl)); try simp only [Act.put, List.getElem_toArray, List.getElem_cons_zero, List.getElem_cons_succ, List.setIfInBounds_toArray, List.set_cons_zero, List.set_cons_succ])
  refine tkEnd ?_
  refine wpAnyH_done (by kernel_rfl) ?_ _
  have nb1 : ¬ b = w.heap.size + 1 := by omega
  have nb2 : ¬ w.heap.size + 1 = b := by omega
  go_wp2_with (first
    | (at_builtin; rw [HZ.out]; go_must (refine wpList_append_own_at _ rfl (.tmp 76) (.tmp 80) 48 rfl B 80 i0 _ 2 16 Try.underlying48 hi0 hz0 hzs hzb rfl (by decide) (.slice ga L.length c) L.length (flatG ppC L) rfl (HBZ2.out.row.alloc _) ⟨_, 0, none⟩ 1 1 (ppC ⟨key, val⟩) rfl rfl (cells_new Z (ppC ⟨key, val⟩) _ _ (by first | rfl | simp [hzZ])) (pp_one ⟨key, val⟩) (by unfold maxLen; omega) (by omega) (by simp; omega) ?_); intro v' w' hown hgr _ hnew; go_must (have HOW : Hid _ := own_moreG hown; have hchA := chg_appendD hgr; have HGR := keepG hchA; obtain ⟨va, vc, rfl⟩ := own_shape HOW.out; have Hb1 := keepG ((HBZ2.out.hp).chg hchA (fun e => hap e)); have HrW := keepG (HrZ2.out.chg hchA (fun e => by have := (hgw0 _ e).2; omega)); have HpW := keepG (HpZ2.out.chg hchA (fun e => by have := (hgw0 _ e).2; omega)); have cW := Hb1.out.cell (j := 1) rfl; have fW := Hb1.out.frozen 1; have HNW := keepG hnew; clear hown hgr hnew hchA; have x0 := HrW.out.cell (j := 0) rfl; have f0 := HrW.out.frozen 0; have x1 := HrW.out.cell (j := 1) rfl; have f1 := HrW.out.frozen 1; have x2 := HrW.out.cell (j := 2) rfl; have f2 := HrW.out.frozen 2; have x3 := HrW.out.cell (j := 3) rfl; have f3 := HrW.out.frozen 3; have x4 := HrW.out.cell (j := 4) rfl; have f4 := HrW.out.frozen 4; have x5 := HrW.out.cell (j := 5) rfl; have f5 := HrW.out.frozen 5; have y0 := HpW.out.cell (j := 0) rfl; have y1 := HpW.out.cell (j := 1) rfl; have y2 := HpW.out.cell (j := 2) rfl; have y3 := HpW.out.cell (j := 3) rfl; have y4 := HpW.out.cell (j := 4) rfl; have y5 := HpW.out.cell (j := 5) rfl)))
  have eM : (L ++ [(⟨key, val⟩ : Pp)]).length = L.length + 1 := by simp
  have HOW2 : Hid (w'.ownsRow B 80 2 (.slice va (L.length + 1) vc) (L ++ [(⟨key, val⟩ : Pp)]).length (flatG ppC (L ++ [(⟨key, val⟩ : Pp)]))) := by have hh := HOW.out; show World.ownsRow _ _ _ _ _ _ _; rw [eM] at hh ⊢; exact hh
  have hnw := HNW.out
  rw [eM] at hnw
  exact rdo_new_end HrW.out Hb1.out HOW2.out HGR.out hnw (by simp [hzZ]) hbZ hbX hblt hgw0 hap hzX hzZ
set_option maxHeartbeats 3200000 in
theorem rdo_add_new (key val : Int) (h : Rb w B b cap v L) (hl : L.length ≤ 1000) (hf : ¬ posP key L < L.length) (hc : ¬ cap ≤ L.length) (hB : B ≤ w.heap.size) {sum : Int} (HS : Hid ((0 + val) % 18446744073709551616 = sum)) :
    Calls Try.prog 37 #[.pointer (some ⟨b, 0, none⟩), .int .i64 4, .int .u64 key, .int .u64 val] w fun e w' => e = .returned (resG 0 false sum false 0 0) ∧ RbNext w B b cap v (L ++ [⟨key, sum⟩]) w' := by
  obtain ⟨X, HX, HrX, hbX, hzX⟩ := boxRG w
  have HB := keepG (h.below hbX)
  have hblt := h.hp.lt
  have hgw0 := h.row.lt
  have hap := h.apart
  have hXb : ¬ w.heap.size = b := by omega
  have hXb' : ¬ b = w.heap.size := by omega
  have hwr : IntKind.u64.wrap (0 + val) = sum := by rw [← HS.out, IntKind.wrap_u64]
  have hwr0 : IntKind.u64.wrap val = sum := by rw [← hwr, Int.zero_add]
  have HA : Hid ((-1 : Int) = atP key L) := by show _ = _; rw [atP, if_neg (by omega)]
  obtain ⟨ga, c, rfl⟩ := own_shape HB.out.row
  have hcI : ¬ (cap : Int) ≤ L.length := by omega
  have hcI2 : (L.length : Int) < cap := by omega
  obtain ⟨i0, hi0, hz0, hzs, hzb⟩ := info_parts infoPr
  have c0 := HB.out.hp.cell (j := 0) rfl
  have c1 := HB.out.hp.cell (j := 1) rfl
  obtain ⟨Z, HZ, HrZ, HpZ, hbZ, hzZ⟩ : ∃ Z, Hid (X.alloc (.cells #[.int .i64 0, .bool false, .int .u64 sum, .bool false, .int .u64 0, .int .u64 0] 47) = Z) ∧ Hid (Hp Z w.heap.size 47 (resCG 0 false 0 false 0 0)) ∧ Hid (Hp Z (w.heap.size + 1) 47 (resCG 0 false sum false 0 0)) ∧ Below X.heap.size X Z ∧ Z.heap.size = w.heap.size + 2 :=
    ⟨_, rfl, HrX.out.alloc _, by rw [← hzX]; exact Hp.new X (resCG 0 false sum false 0 0) _, below_allocG X _, by simp [hzX]⟩
  have HBZ := keepG (HB.out.below hbZ)
  obtain ⟨Z2, HZ2, HrZ2, HpZ2, hcZ2⟩ : ∃ Z2, Z = Z2 ∧ Hid (Hp Z2 w.heap.size 47 (resCG 0 false 0 false 0 0)) ∧ Hid (Hp Z2 (w.heap.size + 1) 47 (resCG 0 false sum false 0 0)) ∧ Chg Z Z2 (fun k => k = w.heap.size + 1) :=
    ⟨_, rfl, HrZ.out, HpZ.out, Chg.refl _ _⟩
  subst HZ2
  have hzZ2 := hcZ2.size
  have HBZ2 := HBZ
  have c1Z := HBZ2.out.hp.cell (j := 1) rfl
  clear h
  go_enter Try.func37, Try.ntmps37
  go_wp2_with (go_at_call 41; rw [HX.out]; go_must (refine (rplace_any key HB.out hl HA).mono ?_); rintro e w1 ⟨rfl, rfl⟩)
  refine wp_region_held_drew (S := fun w' => w'.cell? ⟨b, 0, none⟩ = some (.int .i64 cap) ∧ w'.cell? ⟨b, 1, none⟩ = some (.slice ga L.length c)) (by kernel_rfl) ⟨c0, c1⟩ (fun hHeld => ?_)
  refine tkGo [0, 1, 2, 3, 4, 5, 6, 7, 8, 9, 10, 11, 12, 13, 14] ?_
  repeat (refine tkOne (v := ?_) rfl (by kernel_rfl) (by kernel_rfl) (by kernel_rfl) (fun _ _ _ h => h) (by assumption) (by rfl) ?_ ?_; rotate_left; (intro wy hSw; (try dsimp only at hSw); go_simp; (first | done | with_reducible rfl)); try simp only [Act.put, List.getElem_toArray, List.getElem_cons_zero, List.getElem_cons_succ, List.setIfInBounds_toArray, List.set_cons_zero, List.set_cons_succ])
  refine tkEnd ?_
  refine wpAnyH_done (by kernel_rfl) ?_ _
  have nb1 : ¬ b = w.heap.size + 1 := by omega
  have nb2 : ¬ w.heap.size + 1 = b := by omega
  go_wp2_with (first
    | (at_builtin; rw [HZ.out]; go_must (refine wpList_append_own_at _ rfl (.tmp 76) (.tmp 80) 48 rfl B 80 i0 _ 2 16 Try.underlying48 hi0 hz0 hzs hzb rfl (by decide) (.slice ga L.length c) L.length (flatG ppC L) rfl (HBZ2.out.row.alloc _) ⟨_, 0, none⟩ 1 1 (ppC ⟨key, sum⟩) rfl rfl (cells_new Z (ppC ⟨key, sum⟩) _ _ (by first | rfl | simp [hzZ])) (pp_one ⟨key, sum⟩) (by unfold maxLen; omega) (by omega) (by simp; omega) ?_); intro v' w' hown hgr _ hnew; go_must (have HOW : Hid _ := own_moreG hown; have hchA := chg_appendD hgr; have HGR := keepG hchA; obtain ⟨va, vc, rfl⟩ := own_shape HOW.out; have Hb1 := keepG ((HBZ2.out.hp).chg hchA (fun e => hap e)); have HrW := keepG (HrZ2.out.chg hchA (fun e => by have := (hgw0 _ e).2; omega)); have HpW := keepG (HpZ2.out.chg hchA (fun e => by have := (hgw0 _ e).2; omega)); have cW := Hb1.out.cell (j := 1) rfl; have fW := Hb1.out.frozen 1; have HNW := keepG hnew; clear hown hgr hnew hchA; have x0 := HrW.out.cell (j := 0) rfl; have f0 := HrW.out.frozen 0; have x1 := HrW.out.cell (j := 1) rfl; have f1 := HrW.out.frozen 1; have x2 := HrW.out.cell (j := 2) rfl; have f2 := HrW.out.frozen 2; have x3 := HrW.out.cell (j := 3) rfl; have f3 := HrW.out.frozen 3; have x4 := HrW.out.cell (j := 4) rfl; have f4 := HrW.out.frozen 4; have x5 := HrW.out.cell (j := 5) rfl; have f5 := HrW.out.frozen 5; have y0 := HpW.out.cell (j := 0) rfl; have y1 := HpW.out.cell (j := 1) rfl; have y2 := HpW.out.cell (j := 2) rfl; have y3 := HpW.out.cell (j := 3) rfl; have y4 := HpW.out.cell (j := 4) rfl; have y5 := HpW.out.cell (j := 5) rfl)))
  have eM : (L ++ [(⟨key, sum⟩ : Pp)]).length = L.length + 1 := by simp
  have HOW2 : Hid (w'.ownsRow B 80 2 (.slice va (L.length + 1) vc) (L ++ [(⟨key, sum⟩ : Pp)]).length (flatG ppC (L ++ [(⟨key, sum⟩ : Pp)]))) := by have hh := HOW.out; show World.ownsRow _ _ _ _ _ _ _; rw [eM] at hh ⊢; exact hh
  have hnw := HNW.out
  rw [eM] at hnw
  exact rdo_new_end HrW.out Hb1.out HOW2.out HGR.out hnw (by simp [hzZ]) hbZ hbX hblt hgw0 hap hzX hzZ
end
end Go.Proofs.Ytpbfgebecgikjaa
