
/-
  The document's LRU of layer 14: Do, a way a theorem. Condition: it lies where the pointer says, its rows are the call's own.
-/
import Derived.Test.YtpbfgebecgikjaaTk
import Derived.Test.YtpbfgebecgikjaaL14Touch
namespace Go.Proofs.Ytpbfgebecgikjaa
open Go.RowKit
set_option linter.unusedVariables false
set_option linter.unusedSimpArgs false
set_option maxRecDepth 100000

theorem run_fieldF1 {E : Int} {f : Bool} {x : Int} {o : Bool} {k u : Int} (w : World) : (Instr.field 47 (resG E f x o k u) 1).run Try.prog w = .ok (.bool f) w := by
  simp [Instr.field, run_underlying Try.underlying47, asAgg, part, Try.isAgg4, resG]
theorem run_fieldF2 {E : Int} {f : Bool} {x : Int} {o : Bool} {k u : Int} (w : World) : (Instr.field 47 (resG E f x o k u) 2).run Try.prog w = .ok (.int .u64 x) w := by
  simp [Instr.field, run_underlying Try.underlying47, asAgg, part, Try.isAgg41, resG]
theorem doP1 (cap : Nat) (D : List Pp) (key val : Int) : doP cap D 1 key val = (⟨0, hasP key D, 0⟩, D) := by unfold doP; rw [if_neg (by decide), if_pos rfl]
/-- The box of the answer, and its fields told. -/
theorem boxOut {w2 : World} {n : Nat} {E : Int} {f : Bool} {v : Int} (hn : n = w2.heap.size) (o : Bool) (k u : Int) : ∃ P Q, Hid (w2.alloc (.cells #[.int .i64 E, .bool f, .int .u64 v, .bool false, .int .u64 0, .int .u64 0] 47) = P) ∧ Hid (Hp P n 47 (resCG E f v false 0 0)) ∧ Hid (((P.setCell ⟨n, 3, none⟩ (.bool o)).setCell ⟨n, 4, none⟩ (.int .u64 k)).setCell ⟨n, 5, none⟩ (.int .u64 u) = Q) ∧ Hid (Hp Q n 47 (resCG E f v o k u)) ∧ Below w2.heap.size w2 P ∧ Below w2.heap.size w2 Q := by
  subst hn
  have h1 : Hp (w2.alloc (.cells #[.int .i64 E, .bool f, .int .u64 v, .bool false, .int .u64 0, .int .u64 0] 47)) w2.heap.size 47 (resCG E f v false 0 0) := Hp.new w2 _ _
  have h2 := ((h1.set 3 (.bool o)).set 4 (.int .u64 k)).set 5 (.int .u64 u)
  have hb := below_allocG w2 (.cells #[.int .i64 E, .bool f, .int .u64 v, .bool false, .int .u64 0, .int .u64 0] 47)
  refine ⟨_, _, rfl, h1, rfl, h2, hb, hb.trans ?_⟩
  have hc := ((Chg.set (w2.alloc (.cells #[.int .i64 E, .bool f, .int .u64 v, .bool false, .int .u64 0, .int .u64 0] 47)) w2.heap.size 3 (.bool o)).trans (Chg.set _ w2.heap.size 4 (.int .u64 k)) (fun _ _ e => e)).trans (Chg.set _ w2.heap.size 5 (.int .u64 u)) (fun _ _ e => e)
  exact hc.below (fun k e => by omega) (by simp)
theorem Chg.undrew {w w' : World} {S : Nat → Prop} (h : Chg w.drew w' S) : Chg w w' S := ⟨h.os, h.tape, h.output, h.size, h.block⟩
section
variable {w : World} {B l b cap : Nat} {vd vk vw : Value} {D : List Pp} {kt : List Kp} {c : Int}
theorem Rl.chg {w' : World} {S : Nat → Prop} (h : Rl w B l b cap vd vk vw D kt c) (hc : Chg w w' S) (hS : ∀ k, footR l b vd vk vw k → ¬ S k) : Rl w' B l b cap vd vk vw D kt c :=
  ⟨h.hp.chg hc (hS l (.inl rfl)), h.bk.chg hc (hS b (.inr (.inl rfl))) (fun k hk => hS k (.inr (.inr (.inl hk)))), own_chg h.ks hc (fun k hk => hS k (.inr (.inr (.inr (.inl hk))))), own_chg h.ws hc (fun k hk => hS k (.inr (.inr (.inr (.inr hk)))))⟩
theorem doP3 (cap : Nat) (D : List Pp) (key val : Int) : doP cap D 3 key val = (⟨0, hasP key D, valP key D⟩, D.eraseIdx (posP key D)) := by unfold doP; rw [if_neg (by decide), if_neg (by decide), if_neg (by decide), if_pos rfl]
/-- A box that is new since the beginning is written. -/
theorem StepR.write {w1 w' : World} {n : Nat} {vd1 vk1 vw1 : Value} (h : StepR w w1 l b vd vk vw vd1 vk1 vw1) (hc : Chg w1 w' (fun k => k = n)) (hn : w.heap.size ≤ n) : StepR w w' l b vd vk vw vd1 vk1 vw1 :=
  ⟨h.1.trans hc (fun k hk e => by omega), h.2.1, fun m cs hp => (h.2.2 m cs hp).chg hc (fun e => by have := hp.lt; omega)⟩
/-- The end of Do. -/
theorem rldo_end {X w9 W : World} {D' : List Pp} {kt' : List Kp} {c' : Int} {E : Int} {f : Bool} {v : Int} {o : Bool} {k u : Int} {fn : Func} {tmps : Array Value} {pt : Tmp} (h : Rl w B l b cap vd vk vw D kt c) (Hr : Hp w9 w.heap.size 47 (resCG 0 false 0 false 0 0)) (hbX : Below w.heap.size w X) (hzX : X.heap.size = w.heap.size + 1) (hn : RlNext X B l b cap vd vk vw D' kt' c' w9) (hW : W = ((((((w9.setCell ⟨w.heap.size, 0, none⟩ (.int .i64 E)).setCell ⟨w.heap.size, 1, none⟩ (.bool f)).setCell ⟨w.heap.size, 2, none⟩ (.int .u64 v)).setCell ⟨w.heap.size, 3, none⟩ (.bool o)).setCell ⟨w.heap.size, 4, none⟩ (.int .u64 k)).setCell ⟨w.heap.size, 5, none⟩ (.int .u64 u))) (hr : fn.results = #[.cell pt 47] := by rfl) (hp : tmps.getD pt undef = .pointer (some ⟨w.heap.size, 0, none⟩) := by rfl) :
    bodyPost Try.prog fn (fun e w' => e = .returned (resG E f v o k u) ∧ RlNext w B l b cap vd vk vw D' kt' c' w') .ret ⟨tmps, []⟩ W := by
  subst hW
  have hg6 := (six_sets (E := E) (f := f) (v := v) (o := o) (k := k) (u := u) Hr rfl).2
  have hc6 := Chg.of_grown (S := fun k => k = w.heap.size) hg6 rfl
  obtain ⟨vd', vk', vw', g1, g2, g3⟩ := hn
  have hno : ∀ j, footR l b vd' vk' vw' j → j ≠ w.heap.size := fun j hj e => by
    rcases g3 j hj with q | q
    · have := h.foot q; omega
    · omega
  refine res_ret hr hp (six_sets Hr rfl).1 ⟨rfl, vd', vk', vw', ⟨g1.hp.chg hc6 (fun e => hno l (.inl rfl) e), g1.bk.chg hc6 (fun e => hno b (.inr (.inl rfl)) e) (fun j hj e => hno j (.inr (.inr (.inl hj))) e), own_chg g1.ks hc6 (fun j hj e => hno j (.inr (.inr (.inr (.inl hj)))) e), own_chg g1.ws hc6 (fun j hj e => hno j (.inr (.inr (.inr (.inr hj)))) e)⟩, ((Chg.of_below (S := footR l b vd vk vw) hbX).trans g2 (fun _ _ e => e)).trans hc6 (fun j hj e => by omega), fun j hj => ?_⟩
  rcases g3 j hj with q | q
  · exact .inl q
  · exact .inr (by omega)
set_option maxHeartbeats 6400000 in
theorem rldo_odd (op : Int) (hop : op ≠ 0 ∧ op ≠ 2 ∧ op ≠ 3 ∧ op ≠ 4) (key val : Int) (h : Rl w B l b cap vd vk vw D kt c) (hl : D.length ≤ 1000) (hk : kt.length ≤ 4000) (hc0 : 0 ≤ c ∧ c ≤ 4000) (hB : B ≤ w.heap.size) :
    Calls Try.prog 36 #[.pointer (some ⟨l, 0, none⟩), .int .i64 op, .int .u64 key, .int .u64 val] w fun e w' => e = .returned (resG (doP cap D op key val).1.E (doP cap D op key val).1.f (doP cap D op key val).1.v false 0 0) ∧ RlNext w B l b cap vd vk vw (doP cap D op key val).2 kt c w' := by
  obtain ⟨X, HX, HrX, hbX, hzX⟩ := boxRG w
  have HH := keepG h
  have HL := keepG (h.below hbX)
  have hll := h.hp.lt
  have hbl := h.bk.hp.lt
  have hXs := hbX.size
  have c0 := HL.out.hp.cell (j := 0) rfl
  obtain ⟨hp0, hp2, hp3, hp4⟩ := hop
  have op0 : (op == 0) = false := by simpa using hp0
  have op2 : (op == 2) = false := by simpa using hp2
  have op3 : (op == 3) = false := by simpa using hp3
  have op4 : (op == 4) = false := by simpa using hp4
  obtain ⟨R, HRR⟩ : ∃ R, Hid (doP cap D op key val = R) := ⟨_, rfl⟩
  rw [HRR.out]
  clear h
  go_enter Try.func36, Try.ntmps36
  go_wp2_with (first
    | (rw [HX.out])
    | (go_at_call 37; go_must (refine (HL.out.bdo 1 key 0 hl (by omega)).mono ?_); rintro e w1 ⟨rfl, hn1, hk1⟩; rw [doP1] at hn1 ⊢; go_must (obtain ⟨vd1, vk1, vw1, r1, q1, s1⟩ := hn1; have HR1 := keepG r1; have HT1 : Hid (StepR X w1 l b vd vk vw vd1 vk1 vw1) := ⟨q1, s1, hk1⟩; have HrA := keepG (hk1 _ _ HrX.out); have hz1 := q1.size; clear r1 q1 s1 hk1; obtain ⟨O, HO, hbO, HoO⟩ : ∃ O, Hid (w1.alloc (.cells #[.int .i64 0, .bool false, .int .u64 0, .bool false, .int .u64 0, .int .u64 0] 47) = O) ∧ Below w1.heap.size w1 O ∧ Hid (Hp O w1.heap.size 47 (resCG 0 false 0 false 0 0)) := ⟨_, rfl, below_allocG _ _, Hp.new w1 (resCG 0 false 0 false 0 0) _⟩; have HRO := keepG (HR1.out.below hbO); have HrO := keepG (HrA.out.below hbO HrA.out.lt); have hzO := hbO.size; have b0 := HRO.out.hp.cell (j := 0) rfl; obtain ⟨da, dc, hvd⟩ := own_shape HRO.out.bk.row; have b1 : O.cell? ⟨b, 1, none⟩ = some (.slice da D.length dc) := (by rw [← hvd]; exact HRO.out.bk.hp.cell (j := 1) rfl); have b2 := HRO.out.bk.hp.cell (j := 0) rfl; clear hvd))
    | (rw [run_fieldF1])
    | (rw [HO.out]))
  refine wp_region_held_drew (S := fun w' => w'.cell? ⟨l, 0, none⟩ = some (.pointer (some ⟨b, 0, none⟩)) ∧ w'.cell? ⟨b, 1, none⟩ = some (.slice da D.length dc) ∧ w'.cell? ⟨b, 0, none⟩ = some (.int .i64 cap)) (by kernel_rfl) ⟨b0, b1, b2⟩ (fun hHeld => ?_)
  refine tkGo [0, 1, 2, 3, 4, 5, 6] ?_
  repeat (refine tkOne (v := ?_) rfl (by kernel_rfl) (by kernel_rfl) (by kernel_rfl) (fun _ _ _ h => h) (by assumption) (by rfl) ?_ ?_; rotate_left; (intro wy hSw; (try dsimp only at hSw); go_simp; (first | done | with_reducible rfl)); try simp only [Act.put, List.getElem_toArray, List.getElem_cons_zero, List.getElem_cons_succ, List.setIfInBounds_toArray, List.set_cons_zero, List.set_cons_succ])
  refine tkEnd ?_
  refine wpAnyH_take (i := 7) (v := undef) rfl (by kernel_rfl) (by kernel_rfl) (by kernel_rfl) (fun _ _ _ h => h) (Or.inr ⟨by rfl, rfl⟩) (by assumption) ?_
  try simp only [Act.put, List.getElem_toArray, List.getElem_cons_zero, List.getElem_cons_succ, List.setIfInBounds_toArray, List.set_cons_zero, List.set_cons_succ]
  refine wpAnyH_take (i := 8) (v := undef) rfl (by kernel_rfl) (by kernel_rfl) (by kernel_rfl) (fun _ _ _ h => h) (Or.inr ⟨by rfl, rfl⟩) (by assumption) ?_
  try simp only [Act.put, List.getElem_toArray, List.getElem_cons_zero, List.getElem_cons_succ, List.setIfInBounds_toArray, List.set_cons_zero, List.set_cons_succ]
  refine tkGo [9, 10] ?_
  repeat (refine tkOne (v := ?_) rfl (by kernel_rfl) (by kernel_rfl) (by kernel_rfl) (fun _ _ _ h => h) (by assumption) (by rfl) ?_ ?_; rotate_left; (intro wy hSw; (try dsimp only at hSw); go_simp; (first | done | with_reducible rfl)); try simp only [Act.put, List.getElem_toArray, List.getElem_cons_zero, List.getElem_cons_succ, List.setIfInBounds_toArray, List.set_cons_zero, List.set_cons_succ])
  refine tkEnd ?_
  refine wpAnyH_take (i := 11) (v := undef) rfl (by kernel_rfl) (by kernel_rfl) (by kernel_rfl) (fun _ _ _ h => h) (Or.inr ⟨by rfl, rfl⟩) (by assumption) ?_
  try simp only [Act.put, List.getElem_toArray, List.getElem_cons_zero, List.getElem_cons_succ, List.setIfInBounds_toArray, List.set_cons_zero, List.set_cons_succ]
  refine wpAnyH_take (i := 12) (v := undef) rfl (by kernel_rfl) (by kernel_rfl) (by kernel_rfl) (fun _ _ _ h => h) (Or.inr ⟨by rfl, rfl⟩) (by assumption) ?_
  try simp only [Act.put, List.getElem_toArray, List.getElem_cons_zero, List.getElem_cons_succ, List.setIfInBounds_toArray, List.set_cons_zero, List.set_cons_succ]
  refine wpAnyH_take (i := 13) (v := undef) rfl (by kernel_rfl) (by kernel_rfl) (by kernel_rfl) (fun _ _ _ h => h) (Or.inr ⟨by rfl, rfl⟩) (by assumption) ?_
  try simp only [Act.put, List.getElem_toArray, List.getElem_cons_zero, List.getElem_cons_succ, List.setIfInBounds_toArray, List.set_cons_zero, List.set_cons_succ]
  refine wpAnyH_take (i := 14) (v := undef) rfl (by kernel_rfl) (by kernel_rfl) (by kernel_rfl) (fun _ _ _ h => h) (Or.inr ⟨by rfl, rfl⟩) (by assumption) ?_
  try simp only [Act.put, List.getElem_toArray, List.getElem_cons_zero, List.getElem_cons_succ, List.setIfInBounds_toArray, List.set_cons_zero, List.set_cons_succ]
  refine wpAnyH_take (i := 15) (v := undef) rfl (by kernel_rfl) (by kernel_rfl) (by kernel_rfl) (fun _ _ _ h => h) (Or.inr ⟨by rfl, rfl⟩) (by assumption) ?_
  try simp only [Act.put, List.getElem_toArray, List.getElem_cons_zero, List.getElem_cons_succ, List.setIfInBounds_toArray, List.set_cons_zero, List.set_cons_succ]
  refine wpAnyH_take (i := 16) (v := undef) rfl (by kernel_rfl) (by kernel_rfl) (by kernel_rfl) (fun _ _ _ h => h) (Or.inr ⟨by rfl, rfl⟩) (by assumption) ?_
  try simp only [Act.put, List.getElem_toArray, List.getElem_cons_zero, List.getElem_cons_succ, List.setIfInBounds_toArray, List.set_cons_zero, List.set_cons_succ]
  refine wpAnyH_take (i := 17) (v := undef) rfl (by kernel_rfl) (by kernel_rfl) (by kernel_rfl) (fun _ _ _ h => h) (Or.inr ⟨by rfl, rfl⟩) (by assumption) ?_
  try simp only [Act.put, List.getElem_toArray, List.getElem_cons_zero, List.getElem_cons_succ, List.setIfInBounds_toArray, List.set_cons_zero, List.set_cons_succ]
  refine wpAnyH_take (i := 18) (v := undef) rfl (by kernel_rfl) (by kernel_rfl) (by kernel_rfl) (fun _ _ _ h => h) (Or.inr ⟨by rfl, rfl⟩) (by assumption) ?_
  try simp only [Act.put, List.getElem_toArray, List.getElem_cons_zero, List.getElem_cons_succ, List.setIfInBounds_toArray, List.set_cons_zero, List.set_cons_succ]
  refine wpAnyH_take (i := 19) (v := undef) rfl (by kernel_rfl) (by kernel_rfl) (by kernel_rfl) (fun _ _ _ h => h) (Or.inr ⟨by rfl, rfl⟩) (by assumption) ?_
  try simp only [Act.put, List.getElem_toArray, List.getElem_cons_zero, List.getElem_cons_succ, List.setIfInBounds_toArray, List.set_cons_zero, List.set_cons_succ]
  refine wpAnyH_take (i := 20) (v := undef) rfl (by kernel_rfl) (by kernel_rfl) (by kernel_rfl) (fun _ _ _ h => h) (Or.inr ⟨by rfl, rfl⟩) (by assumption) ?_
  try simp only [Act.put, List.getElem_toArray, List.getElem_cons_zero, List.getElem_cons_succ, List.setIfInBounds_toArray, List.set_cons_zero, List.set_cons_succ]
  refine wpAnyH_take (i := 21) (v := undef) rfl (by kernel_rfl) (by kernel_rfl) (by kernel_rfl) (fun _ _ _ h => h) (Or.inr ⟨by rfl, rfl⟩) (by assumption) ?_
  try simp only [Act.put, List.getElem_toArray, List.getElem_cons_zero, List.getElem_cons_succ, List.setIfInBounds_toArray, List.set_cons_zero, List.set_cons_succ]
  refine wpAnyH_take (i := 22) (v := undef) rfl (by kernel_rfl) (by kernel_rfl) (by kernel_rfl) (fun _ _ _ h => h) (Or.inr ⟨by rfl, rfl⟩) (by assumption) ?_
  try simp only [Act.put, List.getElem_toArray, List.getElem_cons_zero, List.getElem_cons_succ, List.setIfInBounds_toArray, List.set_cons_zero, List.set_cons_succ]
  refine wpAnyH_take (i := 23) (v := undef) rfl (by kernel_rfl) (by kernel_rfl) (by kernel_rfl) (fun _ _ _ h => h) (Or.inr ⟨by rfl, rfl⟩) (by assumption) ?_
  try simp only [Act.put, List.getElem_toArray, List.getElem_cons_zero, List.getElem_cons_succ, List.setIfInBounds_toArray, List.set_cons_zero, List.set_cons_succ]
  refine wpAnyH_take (i := 24) (v := undef) rfl (by kernel_rfl) (by kernel_rfl) (by kernel_rfl) (fun _ _ _ h => h) (Or.inr ⟨by rfl, rfl⟩) (by assumption) ?_
  try simp only [Act.put, List.getElem_toArray, List.getElem_cons_zero, List.getElem_cons_succ, List.setIfInBounds_toArray, List.set_cons_zero, List.set_cons_succ]
  refine wpAnyH_take (i := 25) (v := undef) rfl (by kernel_rfl) (by kernel_rfl) (by kernel_rfl) (fun _ _ _ h => h) (Or.inr ⟨by rfl, rfl⟩) (by assumption) ?_
  try simp only [Act.put, List.getElem_toArray, List.getElem_cons_zero, List.getElem_cons_succ, List.setIfInBounds_toArray, List.set_cons_zero, List.set_cons_succ]
  refine wpAnyH_take (i := 26) (v := undef) rfl (by kernel_rfl) (by kernel_rfl) (by kernel_rfl) (fun _ _ _ h => h) (Or.inr ⟨by rfl, rfl⟩) (by assumption) ?_
  try simp only [Act.put, List.getElem_toArray, List.getElem_cons_zero, List.getElem_cons_succ, List.setIfInBounds_toArray, List.set_cons_zero, List.set_cons_succ]
  refine tkGo [27] ?_
  repeat (refine tkOne (v := ?_) rfl (by kernel_rfl) (by kernel_rfl) (by kernel_rfl) (fun _ _ _ h => h) (by assumption) (by rfl) ?_ ?_; rotate_left; (intro wy hSw; (try dsimp only at hSw); go_simp; (first | done | with_reducible rfl)); try simp only [Act.put, List.getElem_toArray, List.getElem_cons_zero, List.getElem_cons_succ, List.setIfInBounds_toArray, List.set_cons_zero, List.set_cons_succ])
  refine tkEnd ?_
  refine wpAnyH_done (by kernel_rfl) ?_ _
  go_wp2_with (first
    | (go_at_call 37; go_must (refine (HRO.out.drew.bdo op key val hl (show B ≤ O.heap.size by omega)).mono ?_); rintro e w2 ⟨rfl, hn2, hk2⟩; rw [HRR.out] at hn2 ⊢; go_must (obtain ⟨vd2, vk2, vw2, r2, q2, s2⟩ := hn2; have HR2 := keepG r2; have HT2 : Hid (StepR O w2 l b vd1 vk1 vw1 vd2 vk2 vw2) := StepR.undrew ⟨q2, s2, hk2⟩; have HrB := keepG (hk2 _ _ HrO.out.drew); have HoB := keepG (hk2 _ _ HoO.out.drew); have hz2 : O.heap.size ≤ w2.heap.size := q2.size; clear r2 q2 s2 hk2; obtain ⟨P, Q, HP, HpP, HQ, HpQ, hbP, hbQ⟩ := boxOut (w2 := w2) (E := R.1.E) (f := R.1.f) (v := R.1.v) rfl false 0 0; have HoP := HoB.out.below hbP HoB.out.lt; have o3 := HoP.cell (j := 3) rfl; have o4 := HoP.cell (j := 4) rfl; have o5 := HoP.cell (j := 5) rfl; have p3 := HpP.out.cell (j := 3) rfl; have g3 := HpP.out.frozen 3; have p4 := HpP.out.cell (j := 4) rfl; have g4 := HpP.out.frozen 4; have p5 := HpP.out.cell (j := 5) rfl; have g5 := HpP.out.frozen 5; have hzQ := hbQ.size; have HRQ := keepG (HR2.out.below hbQ); have HTQ : Hid (StepR X Q l b vd vk vw vd2 vk2 vw2) := (HT1.out.trans (StepR.below hbO)).trans (HT2.out.trans (StepR.below hbQ)); have HrQ := keepG (HrB.out.below hbQ HrB.out.lt); have hq1 := HoB.out.lt; have nz1 : ¬ w1.heap.size = w2.heap.size := Nat.ne_of_lt hq1; have nz2 : ¬ w2.heap.size = w1.heap.size := (Nat.ne_of_lt hq1).symm; clear HoP))
    | (rw [HP.out])
    | (rw [HQ.out]; have x0 := HrQ.out.cell (j := 0) rfl; have f0 := HrQ.out.frozen 0; have x1 := HrQ.out.cell (j := 1) rfl; have f1 := HrQ.out.frozen 1; have x2 := HrQ.out.cell (j := 2) rfl; have f2 := HrQ.out.frozen 2; have x3 := HrQ.out.cell (j := 3) rfl; have f3 := HrQ.out.frozen 3; have x4 := HrQ.out.cell (j := 4) rfl; have f4 := HrQ.out.frozen 4; have x5 := HrQ.out.cell (j := 5) rfl; have f5 := HrQ.out.frozen 5; have y0 := HpQ.out.cell (j := 0) rfl; have y1 := HpQ.out.cell (j := 1) rfl; have y2 := HpQ.out.cell (j := 2) rfl; have y3 := HpQ.out.cell (j := 3) rfl; have y4 := HpQ.out.cell (j := 4) rfl; have y5 := HpQ.out.cell (j := 5) rfl))
  exact rldo_end HH.out HrQ.out hbX hzX (HTQ.out.next HRQ.out) rfl
set_option maxHeartbeats 6400000 in
theorem rldo_get_no (key val : Int) (h : Rl w B l b cap vd vk vw D kt c) (hl : D.length ≤ 1000) (hk : kt.length ≤ 4000) (hc0 : 0 ≤ c ∧ c ≤ 4000) (hB : B ≤ w.heap.size) (hh : hasP key D = false) :
    Calls Try.prog 36 #[.pointer (some ⟨l, 0, none⟩), .int .i64 0, .int .u64 key, .int .u64 val] w fun e w' => e = .returned (resG (doP cap D 0 key val).1.E (doP cap D 0 key val).1.f (doP cap D 0 key val).1.v false 0 0) ∧ RlNext w B l b cap vd vk vw (doP cap D 0 key val).2 kt c w' := by
  obtain ⟨X, HX, HrX, hbX, hzX⟩ := boxRG w
  have HH := keepG h
  have HL := keepG (h.below hbX)
  have hll := h.hp.lt
  have hbl := h.bk.hp.lt
  have hXs := hbX.size
  have c0 := HL.out.hp.cell (j := 0) rfl
  obtain ⟨R, HRR⟩ : ∃ R, Hid (doP cap D 0 key val = R) := ⟨_, rfl⟩
  rw [HRR.out]
  clear h
  go_enter Try.func36, Try.ntmps36
  go_wp2_with (first
    | (rw [HX.out])
    | (go_at_call 37; go_must (refine (HL.out.bdo 1 key 0 hl (by omega)).mono ?_); rintro e w1 ⟨rfl, hn1, hk1⟩; rw [doP1] at hn1 ⊢; go_must (obtain ⟨vd1, vk1, vw1, r1, q1, s1⟩ := hn1; have HR1 := keepG r1; have HT1 : Hid (StepR X w1 l b vd vk vw vd1 vk1 vw1) := ⟨q1, s1, hk1⟩; have HrA := keepG (hk1 _ _ HrX.out); have hz1 := q1.size; clear r1 q1 s1 hk1; obtain ⟨O, HO, hbO, HoO⟩ : ∃ O, Hid (w1.alloc (.cells #[.int .i64 0, .bool false, .int .u64 0, .bool false, .int .u64 0, .int .u64 0] 47) = O) ∧ Below w1.heap.size w1 O ∧ Hid (Hp O w1.heap.size 47 (resCG 0 false 0 false 0 0)) := ⟨_, rfl, below_allocG _ _, Hp.new w1 (resCG 0 false 0 false 0 0) _⟩; have HRO := keepG (HR1.out.below hbO); have HrO := keepG (HrA.out.below hbO HrA.out.lt); have hzO := hbO.size; have b0 := HRO.out.hp.cell (j := 0) rfl; obtain ⟨da, dc, hvd⟩ := own_shape HRO.out.bk.row; have b1 : O.cell? ⟨b, 1, none⟩ = some (.slice da D.length dc) := (by rw [← hvd]; exact HRO.out.bk.hp.cell (j := 1) rfl); have b2 := HRO.out.bk.hp.cell (j := 0) rfl; clear hvd))
    | (rw [run_fieldF1])
    | (rw [HO.out]))
  refine wp_region_held_drew (S := fun w' => w'.cell? ⟨l, 0, none⟩ = some (.pointer (some ⟨b, 0, none⟩)) ∧ w'.cell? ⟨b, 1, none⟩ = some (.slice da D.length dc) ∧ w'.cell? ⟨b, 0, none⟩ = some (.int .i64 cap)) (by kernel_rfl) ⟨b0, b1, b2⟩ (fun hHeld => ?_)
  refine tkGo [0, 1, 2, 3, 4, 5, 6] ?_
  repeat (refine tkOne (v := ?_) rfl (by kernel_rfl) (by kernel_rfl) (by kernel_rfl) (fun _ _ _ h => h) (by assumption) (by rfl) ?_ ?_; rotate_left; (intro wy hSw; (try dsimp only at hSw); go_simp; (first | done | with_reducible rfl)); try simp only [Act.put, List.getElem_toArray, List.getElem_cons_zero, List.getElem_cons_succ, List.setIfInBounds_toArray, List.set_cons_zero, List.set_cons_succ])
  refine tkEnd ?_
  refine wpAnyH_take (i := 7) (v := undef) rfl (by kernel_rfl) (by kernel_rfl) (by kernel_rfl) (fun _ _ _ h => h) (Or.inr ⟨by rfl, rfl⟩) (by assumption) ?_
  try simp only [Act.put, List.getElem_toArray, List.getElem_cons_zero, List.getElem_cons_succ, List.setIfInBounds_toArray, List.set_cons_zero, List.set_cons_succ]
  refine wpAnyH_take (i := 8) (v := undef) rfl (by kernel_rfl) (by kernel_rfl) (by kernel_rfl) (fun _ _ _ h => h) (Or.inr ⟨by rfl, rfl⟩) (by assumption) ?_
  try simp only [Act.put, List.getElem_toArray, List.getElem_cons_zero, List.getElem_cons_succ, List.setIfInBounds_toArray, List.set_cons_zero, List.set_cons_succ]
  refine tkGo [9, 10] ?_
  repeat (refine tkOne (v := ?_) rfl (by kernel_rfl) (by kernel_rfl) (by kernel_rfl) (fun _ _ _ h => h) (by assumption) (by rfl) ?_ ?_; rotate_left; (intro wy hSw; (try dsimp only at hSw); go_simp; (first | done | with_reducible rfl)); try simp only [Act.put, List.getElem_toArray, List.getElem_cons_zero, List.getElem_cons_succ, List.setIfInBounds_toArray, List.set_cons_zero, List.set_cons_succ])
  refine tkEnd ?_
  refine wpAnyH_take (i := 11) (v := undef) rfl (by kernel_rfl) (by kernel_rfl) (by kernel_rfl) (fun _ _ _ h => h) (Or.inr ⟨by rfl, rfl⟩) (by assumption) ?_
  try simp only [Act.put, List.getElem_toArray, List.getElem_cons_zero, List.getElem_cons_succ, List.setIfInBounds_toArray, List.set_cons_zero, List.set_cons_succ]
  refine wpAnyH_take (i := 12) (v := undef) rfl (by kernel_rfl) (by kernel_rfl) (by kernel_rfl) (fun _ _ _ h => h) (Or.inr ⟨by rfl, rfl⟩) (by assumption) ?_
  try simp only [Act.put, List.getElem_toArray, List.getElem_cons_zero, List.getElem_cons_succ, List.setIfInBounds_toArray, List.set_cons_zero, List.set_cons_succ]
  refine wpAnyH_take (i := 13) (v := undef) rfl (by kernel_rfl) (by kernel_rfl) (by kernel_rfl) (fun _ _ _ h => h) (Or.inr ⟨by rfl, rfl⟩) (by assumption) ?_
  try simp only [Act.put, List.getElem_toArray, List.getElem_cons_zero, List.getElem_cons_succ, List.setIfInBounds_toArray, List.set_cons_zero, List.set_cons_succ]
  refine wpAnyH_take (i := 14) (v := undef) rfl (by kernel_rfl) (by kernel_rfl) (by kernel_rfl) (fun _ _ _ h => h) (Or.inr ⟨by rfl, rfl⟩) (by assumption) ?_
  try simp only [Act.put, List.getElem_toArray, List.getElem_cons_zero, List.getElem_cons_succ, List.setIfInBounds_toArray, List.set_cons_zero, List.set_cons_succ]
  refine wpAnyH_take (i := 15) (v := undef) rfl (by kernel_rfl) (by kernel_rfl) (by kernel_rfl) (fun _ _ _ h => h) (Or.inr ⟨by rfl, rfl⟩) (by assumption) ?_
  try simp only [Act.put, List.getElem_toArray, List.getElem_cons_zero, List.getElem_cons_succ, List.setIfInBounds_toArray, List.set_cons_zero, List.set_cons_succ]
  refine wpAnyH_take (i := 16) (v := undef) rfl (by kernel_rfl) (by kernel_rfl) (by kernel_rfl) (fun _ _ _ h => h) (Or.inr ⟨by rfl, rfl⟩) (by assumption) ?_
  try simp only [Act.put, List.getElem_toArray, List.getElem_cons_zero, List.getElem_cons_succ, List.setIfInBounds_toArray, List.set_cons_zero, List.set_cons_succ]
  refine wpAnyH_take (i := 17) (v := undef) rfl (by kernel_rfl) (by kernel_rfl) (by kernel_rfl) (fun _ _ _ h => h) (Or.inr ⟨by rfl, rfl⟩) (by assumption) ?_
  try simp only [Act.put, List.getElem_toArray, List.getElem_cons_zero, List.getElem_cons_succ, List.setIfInBounds_toArray, List.set_cons_zero, List.set_cons_succ]
  refine wpAnyH_take (i := 18) (v := undef) rfl (by kernel_rfl) (by kernel_rfl) (by kernel_rfl) (fun _ _ _ h => h) (Or.inr ⟨by rfl, rfl⟩) (by assumption) ?_
  try simp only [Act.put, List.getElem_toArray, List.getElem_cons_zero, List.getElem_cons_succ, List.setIfInBounds_toArray, List.set_cons_zero, List.set_cons_succ]
  refine wpAnyH_take (i := 19) (v := undef) rfl (by kernel_rfl) (by kernel_rfl) (by kernel_rfl) (fun _ _ _ h => h) (Or.inr ⟨by rfl, rfl⟩) (by assumption) ?_
  try simp only [Act.put, List.getElem_toArray, List.getElem_cons_zero, List.getElem_cons_succ, List.setIfInBounds_toArray, List.set_cons_zero, List.set_cons_succ]
  refine wpAnyH_take (i := 20) (v := undef) rfl (by kernel_rfl) (by kernel_rfl) (by kernel_rfl) (fun _ _ _ h => h) (Or.inr ⟨by rfl, rfl⟩) (by assumption) ?_
  try simp only [Act.put, List.getElem_toArray, List.getElem_cons_zero, List.getElem_cons_succ, List.setIfInBounds_toArray, List.set_cons_zero, List.set_cons_succ]
  refine wpAnyH_take (i := 21) (v := undef) rfl (by kernel_rfl) (by kernel_rfl) (by kernel_rfl) (fun _ _ _ h => h) (Or.inr ⟨by rfl, rfl⟩) (by assumption) ?_
  try simp only [Act.put, List.getElem_toArray, List.getElem_cons_zero, List.getElem_cons_succ, List.setIfInBounds_toArray, List.set_cons_zero, List.set_cons_succ]
  refine wpAnyH_take (i := 22) (v := undef) rfl (by kernel_rfl) (by kernel_rfl) (by kernel_rfl) (fun _ _ _ h => h) (Or.inr ⟨by rfl, rfl⟩) (by assumption) ?_
  try simp only [Act.put, List.getElem_toArray, List.getElem_cons_zero, List.getElem_cons_succ, List.setIfInBounds_toArray, List.set_cons_zero, List.set_cons_succ]
  refine wpAnyH_take (i := 23) (v := undef) rfl (by kernel_rfl) (by kernel_rfl) (by kernel_rfl) (fun _ _ _ h => h) (Or.inr ⟨by rfl, rfl⟩) (by assumption) ?_
  try simp only [Act.put, List.getElem_toArray, List.getElem_cons_zero, List.getElem_cons_succ, List.setIfInBounds_toArray, List.set_cons_zero, List.set_cons_succ]
  refine wpAnyH_take (i := 24) (v := undef) rfl (by kernel_rfl) (by kernel_rfl) (by kernel_rfl) (fun _ _ _ h => h) (Or.inr ⟨by rfl, rfl⟩) (by assumption) ?_
  try simp only [Act.put, List.getElem_toArray, List.getElem_cons_zero, List.getElem_cons_succ, List.setIfInBounds_toArray, List.set_cons_zero, List.set_cons_succ]
  refine wpAnyH_take (i := 25) (v := undef) rfl (by kernel_rfl) (by kernel_rfl) (by kernel_rfl) (fun _ _ _ h => h) (Or.inr ⟨by rfl, rfl⟩) (by assumption) ?_
  try simp only [Act.put, List.getElem_toArray, List.getElem_cons_zero, List.getElem_cons_succ, List.setIfInBounds_toArray, List.set_cons_zero, List.set_cons_succ]
  refine wpAnyH_take (i := 26) (v := undef) rfl (by kernel_rfl) (by kernel_rfl) (by kernel_rfl) (fun _ _ _ h => h) (Or.inr ⟨by rfl, rfl⟩) (by assumption) ?_
  try simp only [Act.put, List.getElem_toArray, List.getElem_cons_zero, List.getElem_cons_succ, List.setIfInBounds_toArray, List.set_cons_zero, List.set_cons_succ]
  refine tkGo [27] ?_
  repeat (refine tkOne (v := ?_) rfl (by kernel_rfl) (by kernel_rfl) (by kernel_rfl) (fun _ _ _ h => h) (by assumption) (by rfl) ?_ ?_; rotate_left; (intro wy hSw; (try dsimp only at hSw); go_simp; (first | done | with_reducible rfl)); try simp only [Act.put, List.getElem_toArray, List.getElem_cons_zero, List.getElem_cons_succ, List.setIfInBounds_toArray, List.set_cons_zero, List.set_cons_succ])
  refine tkEnd ?_
  refine wpAnyH_done (by kernel_rfl) ?_ _
  go_wp2_with (first
    | (go_at_call 37; go_must (refine (HRO.out.drew.bdo 0 key val hl (show B ≤ O.heap.size by omega)).mono ?_); rintro e w2 ⟨rfl, hn2, hk2⟩; rw [HRR.out] at hn2 ⊢; go_must (obtain ⟨vd2, vk2, vw2, r2, q2, s2⟩ := hn2; have HR2 := keepG r2; have HT2 : Hid (StepR O w2 l b vd1 vk1 vw1 vd2 vk2 vw2) := StepR.undrew ⟨q2, s2, hk2⟩; have HrB := keepG (hk2 _ _ HrO.out.drew); have HoB := keepG (hk2 _ _ HoO.out.drew); have hz2 : O.heap.size ≤ w2.heap.size := q2.size; clear r2 q2 s2 hk2; obtain ⟨P, Q, HP, HpP, HQ, HpQ, hbP, hbQ⟩ := boxOut (w2 := w2) (E := R.1.E) (f := R.1.f) (v := R.1.v) rfl false 0 0; have HoP := HoB.out.below hbP HoB.out.lt; have o3 := HoP.cell (j := 3) rfl; have o4 := HoP.cell (j := 4) rfl; have o5 := HoP.cell (j := 5) rfl; have p3 := HpP.out.cell (j := 3) rfl; have g3 := HpP.out.frozen 3; have p4 := HpP.out.cell (j := 4) rfl; have g4 := HpP.out.frozen 4; have p5 := HpP.out.cell (j := 5) rfl; have g5 := HpP.out.frozen 5; have hzQ := hbQ.size; have HRQ := keepG (HR2.out.below hbQ); have HTQ : Hid (StepR X Q l b vd vk vw vd2 vk2 vw2) := (HT1.out.trans (StepR.below hbO)).trans (HT2.out.trans (StepR.below hbQ)); have HrQ := keepG (HrB.out.below hbQ HrB.out.lt); have hq1 := HoB.out.lt; have nz1 : ¬ w1.heap.size = w2.heap.size := Nat.ne_of_lt hq1; have nz2 : ¬ w2.heap.size = w1.heap.size := (Nat.ne_of_lt hq1).symm; clear HoP))
    | (rw [HP.out])
    | (rw [HQ.out]; have x0 := HrQ.out.cell (j := 0) rfl; have f0 := HrQ.out.frozen 0; have x1 := HrQ.out.cell (j := 1) rfl; have f1 := HrQ.out.frozen 1; have x2 := HrQ.out.cell (j := 2) rfl; have f2 := HrQ.out.frozen 2; have x3 := HrQ.out.cell (j := 3) rfl; have f3 := HrQ.out.frozen 3; have x4 := HrQ.out.cell (j := 4) rfl; have f4 := HrQ.out.frozen 4; have x5 := HrQ.out.cell (j := 5) rfl; have f5 := HrQ.out.frozen 5; have y0 := HpQ.out.cell (j := 0) rfl; have y1 := HpQ.out.cell (j := 1) rfl; have y2 := HpQ.out.cell (j := 2) rfl; have y3 := HpQ.out.cell (j := 3) rfl; have y4 := HpQ.out.cell (j := 4) rfl; have y5 := HpQ.out.cell (j := 5) rfl))
  exact rldo_end HH.out HrQ.out hbX hzX (HTQ.out.next HRQ.out) rfl
set_option maxHeartbeats 6400000 in
theorem rldo_del (key val : Int) (h : Rl w B l b cap vd vk vw D kt c) (hl : D.length ≤ 1000) (hk : kt.length ≤ 4000) (hc0 : 0 ≤ c ∧ c ≤ 4000) (hB : B ≤ w.heap.size) :
    Calls Try.prog 36 #[.pointer (some ⟨l, 0, none⟩), .int .i64 3, .int .u64 key, .int .u64 val] w fun e w' => e = .returned (resG (doP cap D 3 key val).1.E (doP cap D 3 key val).1.f (doP cap D 3 key val).1.v false 0 0) ∧ RlNext w B l b cap vd vk vw (doP cap D 3 key val).2 (forgetT key kt) c w' := by
  obtain ⟨X, HX, HrX, hbX, hzX⟩ := boxRG w
  have HH := keepG h
  have HL := keepG (h.below hbX)
  have hll := h.hp.lt
  have hbl := h.bk.hp.lt
  have hXs := hbX.size
  have c0 := HL.out.hp.cell (j := 0) rfl
  obtain ⟨R, HRR⟩ : ∃ R, Hid (doP cap D 3 key val = R) := ⟨_, rfl⟩
  rw [HRR.out]
  clear h
  go_enter Try.func36, Try.ntmps36
  go_wp2_with (first
    | (rw [HX.out])
    | (go_at_call 37; go_must (refine (HL.out.bdo 1 key 0 hl (by omega)).mono ?_); rintro e w1 ⟨rfl, hn1, hk1⟩; rw [doP1] at hn1 ⊢; go_must (obtain ⟨vd1, vk1, vw1, r1, q1, s1⟩ := hn1; have HR1 := keepG r1; have HT1 : Hid (StepR X w1 l b vd vk vw vd1 vk1 vw1) := ⟨q1, s1, hk1⟩; have HrA := keepG (hk1 _ _ HrX.out); have hz1 := q1.size; clear r1 q1 s1 hk1; obtain ⟨O, HO, hbO, HoO⟩ : ∃ O, Hid (w1.alloc (.cells #[.int .i64 0, .bool false, .int .u64 0, .bool false, .int .u64 0, .int .u64 0] 47) = O) ∧ Below w1.heap.size w1 O ∧ Hid (Hp O w1.heap.size 47 (resCG 0 false 0 false 0 0)) := ⟨_, rfl, below_allocG _ _, Hp.new w1 (resCG 0 false 0 false 0 0) _⟩; have HRO := keepG (HR1.out.below hbO); have HrO := keepG (HrA.out.below hbO HrA.out.lt); have hzO := hbO.size; have b0 := HRO.out.hp.cell (j := 0) rfl; obtain ⟨da, dc, hvd⟩ := own_shape HRO.out.bk.row; have b1 : O.cell? ⟨b, 1, none⟩ = some (.slice da D.length dc) := (by rw [← hvd]; exact HRO.out.bk.hp.cell (j := 1) rfl); have b2 := HRO.out.bk.hp.cell (j := 0) rfl; clear hvd))
    | (rw [run_fieldF1])
    | (rw [HO.out]))
  refine wp_region_held_drew (S := fun w' => w'.cell? ⟨l, 0, none⟩ = some (.pointer (some ⟨b, 0, none⟩)) ∧ w'.cell? ⟨b, 1, none⟩ = some (.slice da D.length dc) ∧ w'.cell? ⟨b, 0, none⟩ = some (.int .i64 cap)) (by kernel_rfl) ⟨b0, b1, b2⟩ (fun hHeld => ?_)
  refine tkGo [0, 1, 2, 3, 4, 5, 6] ?_
  repeat (refine tkOne (v := ?_) rfl (by kernel_rfl) (by kernel_rfl) (by kernel_rfl) (fun _ _ _ h => h) (by assumption) (by rfl) ?_ ?_; rotate_left; (intro wy hSw; (try dsimp only at hSw); go_simp; (first | done | with_reducible rfl)); try simp only [Act.put, List.getElem_toArray, List.getElem_cons_zero, List.getElem_cons_succ, List.setIfInBounds_toArray, List.set_cons_zero, List.set_cons_succ])
  refine tkEnd ?_
  refine wpAnyH_take (i := 7) (v := undef) rfl (by kernel_rfl) (by kernel_rfl) (by kernel_rfl) (fun _ _ _ h => h) (Or.inr ⟨by rfl, rfl⟩) (by assumption) ?_
  try simp only [Act.put, List.getElem_toArray, List.getElem_cons_zero, List.getElem_cons_succ, List.setIfInBounds_toArray, List.set_cons_zero, List.set_cons_succ]
  refine wpAnyH_take (i := 8) (v := undef) rfl (by kernel_rfl) (by kernel_rfl) (by kernel_rfl) (fun _ _ _ h => h) (Or.inr ⟨by rfl, rfl⟩) (by assumption) ?_
  try simp only [Act.put, List.getElem_toArray, List.getElem_cons_zero, List.getElem_cons_succ, List.setIfInBounds_toArray, List.set_cons_zero, List.set_cons_succ]
  refine tkGo [9, 10] ?_
  repeat (refine tkOne (v := ?_) rfl (by kernel_rfl) (by kernel_rfl) (by kernel_rfl) (fun _ _ _ h => h) (by assumption) (by rfl) ?_ ?_; rotate_left; (intro wy hSw; (try dsimp only at hSw); go_simp; (first | done | with_reducible rfl)); try simp only [Act.put, List.getElem_toArray, List.getElem_cons_zero, List.getElem_cons_succ, List.setIfInBounds_toArray, List.set_cons_zero, List.set_cons_succ])
  refine tkEnd ?_
  refine wpAnyH_take (i := 11) (v := undef) rfl (by kernel_rfl) (by kernel_rfl) (by kernel_rfl) (fun _ _ _ h => h) (Or.inr ⟨by rfl, rfl⟩) (by assumption) ?_
  try simp only [Act.put, List.getElem_toArray, List.getElem_cons_zero, List.getElem_cons_succ, List.setIfInBounds_toArray, List.set_cons_zero, List.set_cons_succ]
  refine wpAnyH_take (i := 12) (v := undef) rfl (by kernel_rfl) (by kernel_rfl) (by kernel_rfl) (fun _ _ _ h => h) (Or.inr ⟨by rfl, rfl⟩) (by assumption) ?_
  try simp only [Act.put, List.getElem_toArray, List.getElem_cons_zero, List.getElem_cons_succ, List.setIfInBounds_toArray, List.set_cons_zero, List.set_cons_succ]
  refine wpAnyH_take (i := 13) (v := undef) rfl (by kernel_rfl) (by kernel_rfl) (by kernel_rfl) (fun _ _ _ h => h) (Or.inr ⟨by rfl, rfl⟩) (by assumption) ?_
  try simp only [Act.put, List.getElem_toArray, List.getElem_cons_zero, List.getElem_cons_succ, List.setIfInBounds_toArray, List.set_cons_zero, List.set_cons_succ]
  refine wpAnyH_take (i := 14) (v := undef) rfl (by kernel_rfl) (by kernel_rfl) (by kernel_rfl) (fun _ _ _ h => h) (Or.inr ⟨by rfl, rfl⟩) (by assumption) ?_
  try simp only [Act.put, List.getElem_toArray, List.getElem_cons_zero, List.getElem_cons_succ, List.setIfInBounds_toArray, List.set_cons_zero, List.set_cons_succ]
  refine wpAnyH_take (i := 15) (v := undef) rfl (by kernel_rfl) (by kernel_rfl) (by kernel_rfl) (fun _ _ _ h => h) (Or.inr ⟨by rfl, rfl⟩) (by assumption) ?_
  try simp only [Act.put, List.getElem_toArray, List.getElem_cons_zero, List.getElem_cons_succ, List.setIfInBounds_toArray, List.set_cons_zero, List.set_cons_succ]
  refine wpAnyH_take (i := 16) (v := undef) rfl (by kernel_rfl) (by kernel_rfl) (by kernel_rfl) (fun _ _ _ h => h) (Or.inr ⟨by rfl, rfl⟩) (by assumption) ?_
  try simp only [Act.put, List.getElem_toArray, List.getElem_cons_zero, List.getElem_cons_succ, List.setIfInBounds_toArray, List.set_cons_zero, List.set_cons_succ]
  refine wpAnyH_take (i := 17) (v := undef) rfl (by kernel_rfl) (by kernel_rfl) (by kernel_rfl) (fun _ _ _ h => h) (Or.inr ⟨by rfl, rfl⟩) (by assumption) ?_
  try simp only [Act.put, List.getElem_toArray, List.getElem_cons_zero, List.getElem_cons_succ, List.setIfInBounds_toArray, List.set_cons_zero, List.set_cons_succ]
  refine wpAnyH_take (i := 18) (v := undef) rfl (by kernel_rfl) (by kernel_rfl) (by kernel_rfl) (fun _ _ _ h => h) (Or.inr ⟨by rfl, rfl⟩) (by assumption) ?_
  try simp only [Act.put, List.getElem_toArray, List.getElem_cons_zero, List.getElem_cons_succ, List.setIfInBounds_toArray, List.set_cons_zero, List.set_cons_succ]
  refine wpAnyH_take (i := 19) (v := undef) rfl (by kernel_rfl) (by kernel_rfl) (by kernel_rfl) (fun _ _ _ h => h) (Or.inr ⟨by rfl, rfl⟩) (by assumption) ?_
  try simp only [Act.put, List.getElem_toArray, List.getElem_cons_zero, List.getElem_cons_succ, List.setIfInBounds_toArray, List.set_cons_zero, List.set_cons_succ]
  refine wpAnyH_take (i := 20) (v := undef) rfl (by kernel_rfl) (by kernel_rfl) (by kernel_rfl) (fun _ _ _ h => h) (Or.inr ⟨by rfl, rfl⟩) (by assumption) ?_
  try simp only [Act.put, List.getElem_toArray, List.getElem_cons_zero, List.getElem_cons_succ, List.setIfInBounds_toArray, List.set_cons_zero, List.set_cons_succ]
  refine wpAnyH_take (i := 21) (v := undef) rfl (by kernel_rfl) (by kernel_rfl) (by kernel_rfl) (fun _ _ _ h => h) (Or.inr ⟨by rfl, rfl⟩) (by assumption) ?_
  try simp only [Act.put, List.getElem_toArray, List.getElem_cons_zero, List.getElem_cons_succ, List.setIfInBounds_toArray, List.set_cons_zero, List.set_cons_succ]
  refine wpAnyH_take (i := 22) (v := undef) rfl (by kernel_rfl) (by kernel_rfl) (by kernel_rfl) (fun _ _ _ h => h) (Or.inr ⟨by rfl, rfl⟩) (by assumption) ?_
  try simp only [Act.put, List.getElem_toArray, List.getElem_cons_zero, List.getElem_cons_succ, List.setIfInBounds_toArray, List.set_cons_zero, List.set_cons_succ]
  refine wpAnyH_take (i := 23) (v := undef) rfl (by kernel_rfl) (by kernel_rfl) (by kernel_rfl) (fun _ _ _ h => h) (Or.inr ⟨by rfl, rfl⟩) (by assumption) ?_
  try simp only [Act.put, List.getElem_toArray, List.getElem_cons_zero, List.getElem_cons_succ, List.setIfInBounds_toArray, List.set_cons_zero, List.set_cons_succ]
  refine wpAnyH_take (i := 24) (v := undef) rfl (by kernel_rfl) (by kernel_rfl) (by kernel_rfl) (fun _ _ _ h => h) (Or.inr ⟨by rfl, rfl⟩) (by assumption) ?_
  try simp only [Act.put, List.getElem_toArray, List.getElem_cons_zero, List.getElem_cons_succ, List.setIfInBounds_toArray, List.set_cons_zero, List.set_cons_succ]
  refine wpAnyH_take (i := 25) (v := undef) rfl (by kernel_rfl) (by kernel_rfl) (by kernel_rfl) (fun _ _ _ h => h) (Or.inr ⟨by rfl, rfl⟩) (by assumption) ?_
  try simp only [Act.put, List.getElem_toArray, List.getElem_cons_zero, List.getElem_cons_succ, List.setIfInBounds_toArray, List.set_cons_zero, List.set_cons_succ]
  refine wpAnyH_take (i := 26) (v := undef) rfl (by kernel_rfl) (by kernel_rfl) (by kernel_rfl) (fun _ _ _ h => h) (Or.inr ⟨by rfl, rfl⟩) (by assumption) ?_
  try simp only [Act.put, List.getElem_toArray, List.getElem_cons_zero, List.getElem_cons_succ, List.setIfInBounds_toArray, List.set_cons_zero, List.set_cons_succ]
  refine tkGo [27] ?_
  repeat (refine tkOne (v := ?_) rfl (by kernel_rfl) (by kernel_rfl) (by kernel_rfl) (fun _ _ _ h => h) (by assumption) (by rfl) ?_ ?_; rotate_left; (intro wy hSw; (try dsimp only at hSw); go_simp; (first | done | with_reducible rfl)); try simp only [Act.put, List.getElem_toArray, List.getElem_cons_zero, List.getElem_cons_succ, List.setIfInBounds_toArray, List.set_cons_zero, List.set_cons_succ])
  refine tkEnd ?_
  refine wpAnyH_done (by kernel_rfl) ?_ _
  go_wp2_with (first
    | (go_at_call 37; go_must (refine (HRO.out.drew.bdo 3 key val hl (show B ≤ O.heap.size by omega)).mono ?_); rintro e w2 ⟨rfl, hn2, hk2⟩; rw [HRR.out] at hn2 ⊢; go_must (obtain ⟨vd2, vk2, vw2, r2, q2, s2⟩ := hn2; have HR2 := keepG r2; have HT2 : Hid (StepR O w2 l b vd1 vk1 vw1 vd2 vk2 vw2) := StepR.undrew ⟨q2, s2, hk2⟩; have HrB := keepG (hk2 _ _ HrO.out.drew); have HoB := keepG (hk2 _ _ HoO.out.drew); have hz2 : O.heap.size ≤ w2.heap.size := q2.size; clear r2 q2 s2 hk2; obtain ⟨P, Q, HP, HpP, HQ, HpQ, hbP, hbQ⟩ := boxOut (w2 := w2) (E := R.1.E) (f := R.1.f) (v := R.1.v) rfl false 0 0; have HoP := HoB.out.below hbP HoB.out.lt; have o3 := HoP.cell (j := 3) rfl; have o4 := HoP.cell (j := 4) rfl; have o5 := HoP.cell (j := 5) rfl; have p3 := HpP.out.cell (j := 3) rfl; have g3 := HpP.out.frozen 3; have p4 := HpP.out.cell (j := 4) rfl; have g4 := HpP.out.frozen 4; have p5 := HpP.out.cell (j := 5) rfl; have g5 := HpP.out.frozen 5; have hzQ := hbQ.size; have HRQ := keepG (HR2.out.below hbQ); have HTQ : Hid (StepR X Q l b vd vk vw vd2 vk2 vw2) := (HT1.out.trans (StepR.below hbO)).trans (HT2.out.trans (StepR.below hbQ)); have HrQ := keepG (HrB.out.below hbQ HrB.out.lt); have hq1 := HoB.out.lt; have nz1 : ¬ w1.heap.size = w2.heap.size := Nat.ne_of_lt hq1; have nz2 : ¬ w2.heap.size = w1.heap.size := (Nat.ne_of_lt hq1).symm; clear HoP))
    | (rw [HP.out])
    | (rw [HQ.out]; have x0 := HrQ.out.cell (j := 0) rfl; have f0 := HrQ.out.frozen 0; have x1 := HrQ.out.cell (j := 1) rfl; have f1 := HrQ.out.frozen 1; have x2 := HrQ.out.cell (j := 2) rfl; have f2 := HrQ.out.frozen 2; have x3 := HrQ.out.cell (j := 3) rfl; have f3 := HrQ.out.frozen 3; have x4 := HrQ.out.cell (j := 4) rfl; have f4 := HrQ.out.frozen 4; have x5 := HrQ.out.cell (j := 5) rfl; have f5 := HrQ.out.frozen 5; have y0 := HpQ.out.cell (j := 0) rfl; have y1 := HpQ.out.cell (j := 1) rfl; have y2 := HpQ.out.cell (j := 2) rfl; have y3 := HpQ.out.cell (j := 3) rfl; have y4 := HpQ.out.cell (j := 4) rfl; have y5 := HpQ.out.cell (j := 5) rfl)
    | (go_at_call 40; go_must (refine (rforget_any key HRQ.out (by omega) (by have h9 := hbQ.size; omega)).mono ?_); rintro e w3 ⟨rfl, hn3, hk3⟩; go_must (obtain ⟨vd3, vk3, vw3, r3, q3, s3⟩ := hn3; have HR3 := keepG r3; have HT3 : Hid (StepR Q w3 l b vd2 vk2 vw2 vd3 vk3 vw3) := ⟨q3, s3, hk3⟩; have HrK := keepG (hk3 _ _ HrQ.out); have HpK := keepG (hk3 _ _ HpQ.out); clear r3 q3 s3 hk3 x0 x1 x2 x3 x4 x5 f0 f1 f2 f3 f4 f5 y0 y1 y2 y3 y4 y5; have x0 := HrK.out.cell (j := 0) rfl; have f0 := HrK.out.frozen 0; have x1 := HrK.out.cell (j := 1) rfl; have f1 := HrK.out.frozen 1; have x2 := HrK.out.cell (j := 2) rfl; have f2 := HrK.out.frozen 2; have x3 := HrK.out.cell (j := 3) rfl; have f3 := HrK.out.frozen 3; have x4 := HrK.out.cell (j := 4) rfl; have f4 := HrK.out.frozen 4; have x5 := HrK.out.cell (j := 5) rfl; have f5 := HrK.out.frozen 5; have y0 := HpK.out.cell (j := 0) rfl; have y1 := HpK.out.cell (j := 1) rfl; have y2 := HpK.out.cell (j := 2) rfl; have y3 := HpK.out.cell (j := 3) rfl; have y4 := HpK.out.cell (j := 4) rfl; have y5 := HpK.out.cell (j := 5) rfl)))
  exact rldo_end HH.out HrK.out hbX hzX ((HTQ.out.trans HT3.out).next HR3.out) rfl
end
end Go.Proofs.Ytpbfgebecgikjaa
