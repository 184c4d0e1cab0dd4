
/-
  The landed owner of layer 22: takes, Send. Condition: it lies where the pointer says.
-/
import Derived.Test.YtpbfgebecgikjaaTk
import Derived.Test.YtpbfgebecgikjaaO22LA
namespace Go.Proofs.Ytpbfgebecgikjaa
open Go.RowKit
set_option linter.unusedVariables false
set_option linter.unusedSimpArgs false
set_option maxRecDepth 100000
section
variable {w w' w2 : World} {B b : Nat} {rv lv lv2 : Value} {vs : List Value} {F : Nat → Ft} {o o' : On} {l : List Rt}
set_option maxHeartbeats 12800000 in
theorem ltakes (h : Lwo w B b rv lv vs F o) (hn : 1 ≤ o.n ∧ o.n ≤ 4) (tf tt : Int) (wk : Bool) (tm top tk tz : Int) (hk : 0 ≤ tk ∧ tk < 18446744073709551616) {r : Bool} (HR : Hid (o.takes ⟨tf, tt, wk, tm, top, tk, tz⟩ = r)) : Calls Try.prog 26 #[.pointer (some ⟨b, 0, none⟩), .agg #[.int .i64 tf, .int .i64 tt, .bool wk, .int .i64 tm, .int .i64 top, .int .u64 tk, .int .u64 tz]] w fun e w' => e = .returned (.bool r) ∧ Below w.heap.size w w' := by
  obtain ⟨nq, HNQ⟩ : ∃ nq, Hid (w.heap.size = nq) := ⟨_, rfl⟩
  obtain ⟨Y, HY, HPQ, HPI, HBY⟩ : ∃ Y, Hid ((w.alloc (.cells #[.int .i64 tf, .int .i64 tt, .bool wk, .int .i64 tm, .int .i64 top, .int .u64 tk, .int .u64 tz] 45)).alloc (.cells #[.int .i64 tm, .int .i64 top, .int .u64 tk, .int .u64 tz] 43) = Y) ∧ Hid (Hp Y nq 45 (rtC ⟨tf, tt, wk, tm, top, tk, tz⟩)) ∧ Hid (Hp Y (nq + 1) 43 [.int .i64 tm, .int .i64 top, .int .u64 tk, .int .u64 tz]) ∧ Hid (Below w.heap.size w Y) := ⟨_, rfl, by rw [← HNQ.out]; exact (Hp.new w (rtC ⟨tf, tt, wk, tm, top, tk, tz⟩) _).alloc _, by rw [← HNQ.out]; have := Hp.new (w.alloc (.cells #[.int .i64 tf, .int .i64 tt, .bool wk, .int .i64 tm, .int .i64 top, .int .u64 tk, .int .u64 tz] 45)) [.int .i64 tm, .int .i64 top, .int .u64 tk, .int .u64 tz] 43; rw [show (w.alloc (.cells #[.int .i64 tf, .int .i64 tt, .bool wk, .int .i64 tm, .int .i64 top, .int .u64 tk, .int .u64 tz] 45)).heap.size = w.heap.size + 1 by simp] at this; exact this, (below_allocG w _).alloc (by simp) _⟩
  have HD := keepG (h.below HBY.out)
  have HH := keepG (lhas HD.out tm)
  obtain ⟨c0, c1, -, -, -⟩ := HD.out.low
  have q2 : Y.cell? ⟨nq, 2, none⟩ = some (.bool wk) := HPQ.out.cell (j := 2) rfl
  have i0 : Y.cell? ⟨nq + 1, 0, none⟩ = some (.int .i64 tm) := HPI.out.cell (j := 0) rfl
  have i1 : Y.cell? ⟨nq + 1, 1, none⟩ = some (.int .i64 top) := HPI.out.cell (j := 1) rfl
  have i2 : Y.cell? ⟨nq + 1, 2, none⟩ = some (.int .u64 tk) := HPI.out.cell (j := 2) rfl
  clear h
  cases hm : o.hasM tm with
  | false =>
    have hr := HR.out
    rw [show o.takes ⟨tf, tt, wk, tm, top, tk, tz⟩ = false by simp [On.takes, hm]] at hr
    subst hr
    rw [hm] at HH
    go_enter Try.func26, Try.ntmps26
    go_wp2_with (first | (go_at_call 30; go_must (refine HH.out.mono ?_); rintro e w1 ⟨rfl, rfl⟩) | (rw [HY.out, HNQ.out]))
    go_ret
    exact ⟨rfl, HBY.out⟩
  | true =>
    rw [hm] at HH
    have hnI : (1 : Int) ≤ o.n ∧ (o.n : Int) ≤ 4 := by omega
    have HOF := keepG (lof_any tk o.n Y.drew hk (by omega))
    go_enter Try.func26, Try.ntmps26
    go_wp2_with (first | (go_at_call 30; go_must (refine HH.out.mono ?_); rintro e w1 ⟨rfl, rfl⟩) | (rw [HY.out, HNQ.out]) | (refine wp_region_held_drew (S := fun w' => w'.cell? ⟨nq, 2, none⟩ = some (.bool wk) ∧ w'.cell? ⟨nq + 1, 1, none⟩ = some (.int .i64 top) ∧ w'.cell? ⟨nq + 1, 2, none⟩ = some (.int .u64 tk) ∧ w'.cell? ⟨b, 1, none⟩ = some (.int .i64 o.n) ∧ w'.cell? ⟨b, 0, none⟩ = some (.int .i64 o.sh)) (by kernel_rfl) ⟨q2, i1, i2, c1, c0⟩ (fun hHeld => ?_)))
    cases wk with
    | true =>
      have hr := HR.out
      rw [show o.takes ⟨tf, tt, true, tm, top, tk, tz⟩ = true by simp [On.takes, hm]] at hr
      subst hr
      refine tkGo [0, 1, 2] ?_
      repeat (refine tkOne (v := ?_) rfl (by kernel_rfl) (by kernel_rfl) (by kernel_rfl) (fun _ _ _ h => h) (by assumption) (by rfl) ?_ ?_; rotate_left; (intro wy hSw; (try dsimp only at hSw); go_simp; (first | done | with_reducible rfl)); try simp only [Act.put, List.getElem_toArray, List.getElem_cons_zero, List.getElem_cons_succ, List.setIfInBounds_toArray, List.set_cons_zero, List.set_cons_succ])
      refine tkEnd ?_
      refine wpAnyH_take (i := 3) (v := undef) rfl (by kernel_rfl) (by kernel_rfl) (by kernel_rfl) (fun _ _ _ h => h) (Or.inr ⟨by rfl, rfl⟩) (by assumption) ?_
      try simp only [Act.put, List.getElem_toArray, List.getElem_cons_zero, List.getElem_cons_succ, List.setIfInBounds_toArray, List.set_cons_zero, List.set_cons_succ]
      refine wpAnyH_take (i := 4) (v := undef) rfl (by kernel_rfl) (by kernel_rfl) (by kernel_rfl) (fun _ _ _ h => h) (Or.inr ⟨by rfl, rfl⟩) (by assumption) ?_
      try simp only [Act.put, List.getElem_toArray, List.getElem_cons_zero, List.getElem_cons_succ, List.setIfInBounds_toArray, List.set_cons_zero, List.set_cons_succ]
      refine wpAnyH_take (i := 5) (v := undef) rfl (by kernel_rfl) (by kernel_rfl) (by kernel_rfl) (fun _ _ _ h => h) (Or.inr ⟨by rfl, rfl⟩) (by assumption) ?_
      try simp only [Act.put, List.getElem_toArray, List.getElem_cons_zero, List.getElem_cons_succ, List.setIfInBounds_toArray, List.set_cons_zero, List.set_cons_succ]
      refine wpAnyH_take (i := 6) (v := undef) rfl (by kernel_rfl) (by kernel_rfl) (by kernel_rfl) (fun _ _ _ h => h) (Or.inr ⟨by rfl, rfl⟩) (by assumption) ?_
      try simp only [Act.put, List.getElem_toArray, List.getElem_cons_zero, List.getElem_cons_succ, List.setIfInBounds_toArray, List.set_cons_zero, List.set_cons_succ]
      refine wpAnyH_take (i := 7) (v := undef) rfl (by kernel_rfl) (by kernel_rfl) (by kernel_rfl) (fun _ _ _ h => h) (Or.inr ⟨by rfl, rfl⟩) (by assumption) ?_
      try simp only [Act.put, List.getElem_toArray, List.getElem_cons_zero, List.getElem_cons_succ, List.setIfInBounds_toArray, List.set_cons_zero, List.set_cons_succ]
      refine wpAnyH_take (i := 8) (v := undef) rfl (by kernel_rfl) (by kernel_rfl) (by kernel_rfl) (fun _ _ _ h => h) (Or.inr ⟨by rfl, rfl⟩) (by assumption) ?_
      try simp only [Act.put, List.getElem_toArray, List.getElem_cons_zero, List.getElem_cons_succ, List.setIfInBounds_toArray, List.set_cons_zero, List.set_cons_succ]
      refine wpAnyH_take (i := 9) (v := undef) rfl (by kernel_rfl) (by kernel_rfl) (by kernel_rfl) (fun _ _ _ h => h) (Or.inr ⟨by rfl, rfl⟩) (by assumption) ?_
      try simp only [Act.put, List.getElem_toArray, List.getElem_cons_zero, List.getElem_cons_succ, List.setIfInBounds_toArray, List.set_cons_zero, List.set_cons_succ]
      refine wpAnyH_take (i := 10) (v := undef) rfl (by kernel_rfl) (by kernel_rfl) (by kernel_rfl) (fun _ _ _ h => h) (Or.inr ⟨by rfl, rfl⟩) (by assumption) ?_
      try simp only [Act.put, List.getElem_toArray, List.getElem_cons_zero, List.getElem_cons_succ, List.setIfInBounds_toArray, List.set_cons_zero, List.set_cons_succ]
      refine wpAnyH_take (i := 11) (v := undef) rfl (by kernel_rfl) (by kernel_rfl) (by kernel_rfl) (fun _ _ _ h => h) (Or.inr ⟨by rfl, rfl⟩) (by assumption) ?_
      try simp only [Act.put, List.getElem_toArray, List.getElem_cons_zero, List.getElem_cons_succ, List.setIfInBounds_toArray, List.set_cons_zero, List.set_cons_succ]
      refine wpAnyH_take (i := 12) (v := undef) rfl (by kernel_rfl) (by kernel_rfl) (by kernel_rfl) (fun _ _ _ h => h) (Or.inr ⟨by rfl, rfl⟩) (by assumption) ?_
      try simp only [Act.put, List.getElem_toArray, List.getElem_cons_zero, List.getElem_cons_succ, List.setIfInBounds_toArray, List.set_cons_zero, List.set_cons_succ]
      refine wpAnyH_take (i := 13) (v := undef) rfl (by kernel_rfl) (by kernel_rfl) (by kernel_rfl) (fun _ _ _ h => h) (Or.inr ⟨by rfl, rfl⟩) (by assumption) ?_
      try simp only [Act.put, List.getElem_toArray, List.getElem_cons_zero, List.getElem_cons_succ, List.setIfInBounds_toArray, List.set_cons_zero, List.set_cons_succ]
      refine wpAnyH_take (i := 14) (v := undef) rfl (by kernel_rfl) (by kernel_rfl) (by kernel_rfl) (fun _ _ _ h => h) (Or.inr ⟨by rfl, rfl⟩) (by assumption) ?_
      try simp only [Act.put, List.getElem_toArray, List.getElem_cons_zero, List.getElem_cons_succ, List.setIfInBounds_toArray, List.set_cons_zero, List.set_cons_succ]
      refine wpAnyH_take (i := 15) (v := undef) rfl (by kernel_rfl) (by kernel_rfl) (by kernel_rfl) (fun _ _ _ h => h) (Or.inr ⟨by rfl, rfl⟩) (by assumption) ?_
      try simp only [Act.put, List.getElem_toArray, List.getElem_cons_zero, List.getElem_cons_succ, List.setIfInBounds_toArray, List.set_cons_zero, List.set_cons_succ]
      refine wpAnyH_take (i := 16) (v := undef) rfl (by kernel_rfl) (by kernel_rfl) (by kernel_rfl) (fun _ _ _ h => h) (Or.inr ⟨by rfl, rfl⟩) (by assumption) ?_
      try simp only [Act.put, List.getElem_toArray, List.getElem_cons_zero, List.getElem_cons_succ, List.setIfInBounds_toArray, List.set_cons_zero, List.set_cons_succ]
      refine wpAnyH_take (i := 17) (v := undef) rfl (by kernel_rfl) (by kernel_rfl) (by kernel_rfl) (fun _ _ _ h => h) (Or.inr ⟨by rfl, rfl⟩) (by assumption) ?_
      try simp only [Act.put, List.getElem_toArray, List.getElem_cons_zero, List.getElem_cons_succ, List.setIfInBounds_toArray, List.set_cons_zero, List.set_cons_succ]
      refine wpAnyH_take (i := 18) (v := undef) rfl (by kernel_rfl) (by kernel_rfl) (by kernel_rfl) (fun _ _ _ h => h) (Or.inr ⟨by rfl, rfl⟩) (by assumption) ?_
      try simp only [Act.put, List.getElem_toArray, List.getElem_cons_zero, List.getElem_cons_succ, List.setIfInBounds_toArray, List.set_cons_zero, List.set_cons_succ]
      refine wpAnyH_take (i := 19) (v := undef) rfl (by kernel_rfl) (by kernel_rfl) (by kernel_rfl) (fun _ _ _ h => h) (Or.inr ⟨by rfl, rfl⟩) (by assumption) ?_
      try simp only [Act.put, List.getElem_toArray, List.getElem_cons_zero, List.getElem_cons_succ, List.setIfInBounds_toArray, List.set_cons_zero, List.set_cons_succ]
      refine wpAnyH_take (i := 20) (v := undef) rfl (by kernel_rfl) (by kernel_rfl) (by kernel_rfl) (fun _ _ _ h => h) (Or.inr ⟨by rfl, rfl⟩) (by assumption) ?_
      try simp only [Act.put, List.getElem_toArray, List.getElem_cons_zero, List.getElem_cons_succ, List.setIfInBounds_toArray, List.set_cons_zero, List.set_cons_succ]
      refine wpAnyH_take (i := 21) (v := undef) rfl (by kernel_rfl) (by kernel_rfl) (by kernel_rfl) (fun _ _ _ h => h) (Or.inr ⟨by rfl, rfl⟩) (by assumption) ?_
      try simp only [Act.put, List.getElem_toArray, List.getElem_cons_zero, List.getElem_cons_succ, List.setIfInBounds_toArray, List.set_cons_zero, List.set_cons_succ]
      refine wpAnyH_take (i := 22) (v := undef) rfl (by kernel_rfl) (by kernel_rfl) (by kernel_rfl) (fun _ _ _ h => h) (Or.inr ⟨by rfl, rfl⟩) (by assumption) ?_
      try simp only [Act.put, List.getElem_toArray, List.getElem_cons_zero, List.getElem_cons_succ, List.setIfInBounds_toArray, List.set_cons_zero, List.set_cons_succ]
      refine wpAnyH_take (i := 23) (v := undef) rfl (by kernel_rfl) (by kernel_rfl) (by kernel_rfl) (fun _ _ _ h => h) (Or.inr ⟨by rfl, rfl⟩) (by assumption) ?_
      try simp only [Act.put, List.getElem_toArray, List.getElem_cons_zero, List.getElem_cons_succ, List.setIfInBounds_toArray, List.set_cons_zero, List.set_cons_succ]
      refine wpAnyH_take (i := 24) (v := undef) rfl (by kernel_rfl) (by kernel_rfl) (by kernel_rfl) (fun _ _ _ h => h) (Or.inr ⟨by rfl, rfl⟩) (by assumption) ?_
      try simp only [Act.put, List.getElem_toArray, List.getElem_cons_zero, List.getElem_cons_succ, List.setIfInBounds_toArray, List.set_cons_zero, List.set_cons_succ]
      refine tkGo [25, 26] ?_
      repeat (refine tkOne (v := ?_) rfl (by kernel_rfl) (by kernel_rfl) (by kernel_rfl) (fun _ _ _ h => h) (by assumption) (by rfl) ?_ ?_; rotate_left; (intro wy hSw; (try dsimp only at hSw); go_simp; (first | done | with_reducible rfl)); try simp only [Act.put, List.getElem_toArray, List.getElem_cons_zero, List.getElem_cons_succ, List.setIfInBounds_toArray, List.set_cons_zero, List.set_cons_succ])
      refine tkEnd ?_
      refine wpAnyH_done (by kernel_rfl) ?_ _
      clear hHeld
      go_wp2
      go_ret
      exact ⟨rfl, below_drG HBY.out⟩
    | false =>
      by_cases ho0 : 0 ≤ top
      · have ho0d : decide (0 ≤ top) = true := by simpa using ho0
        by_cases ho5 : top < 5
        · have ho5d : decide (top < 5) = true := by simpa using ho5
          have h4 : top ≤ 4 := by omega
          have hr := HR.out
          rw [show o.takes ⟨tf, tt, false, tm, top, tk, tz⟩ = (ofL tk o.n == (o.sh : Int)) by simp only [On.takes, On.here, hm, ho0, h4, Bool.true_and, Bool.false_or, decide_true]; rfl] at hr
          refine tkGo [0, 1, 2, 3, 4, 5, 6, 7, 8, 9, 10, 11, 12, 13, 14, 15, 16, 17, 19, 20, 21, 22] ?_
          repeat (refine tkOne (v := ?_) rfl (by kernel_rfl) (by kernel_rfl) (by kernel_rfl) (fun _ _ _ h => h) (by assumption) (by rfl) ?_ ?_; rotate_left; (intro wy hSw; (try dsimp only at hSw); go_simp; (first | done | with_reducible rfl)); try simp only [Act.put, List.getElem_toArray, List.getElem_cons_zero, List.getElem_cons_succ, List.setIfInBounds_toArray, List.set_cons_zero, List.set_cons_succ])
          refine tkEnd ?_
          refine wpAnyH_ready (rs := [18]) (by kernel_rfl) (by simp) ?_
          refine AllReadyH.cons rfl (fun KK hK => ?_) AllReadyH.nil
          rw [if_pos (by rfl)]
          go_simp
          go_at_call 24
          refine HOF.out.mono ?_
          rintro e w4 ⟨rfl, rfl⟩
          go_simp
          refine hK.out _ _ ⟨q2, i1, i2, c1, c0⟩ (fun hHeld => ?_)
          clear hK KK
          try simp only [Act.put, List.getElem_toArray, List.getElem_cons_zero, List.getElem_cons_succ, List.setIfInBounds_toArray, List.set_cons_zero, List.set_cons_succ]
          refine tkGo [23, 24, 25, 26] ?_
          repeat (refine tkOne (v := ?_) rfl (by kernel_rfl) (by kernel_rfl) (by kernel_rfl) (fun _ _ _ h => h) (by assumption) (by rfl) ?_ ?_; rotate_left; (intro wy hSw; (try dsimp only at hSw); go_simp; (first | done | with_reducible rfl)); try simp only [Act.put, List.getElem_toArray, List.getElem_cons_zero, List.getElem_cons_succ, List.setIfInBounds_toArray, List.set_cons_zero, List.set_cons_succ])
          refine tkEnd ?_
          refine wpAnyH_done (by kernel_rfl) ?_ _
          clear hHeld
          go_wp2
          go_ret
          exact ⟨rfl, below_drG HBY.out⟩
        · have ho5d : decide (top < 5) = false := by simpa using ho5
          have hr := HR.out
          have h4 : ¬ top ≤ 4 := by omega
          rw [show o.takes ⟨tf, tt, false, tm, top, tk, tz⟩ = false by simp [On.takes, On.here, h4]] at hr
          subst hr
          refine tkGo [0, 1, 2, 3, 4, 5, 6, 7, 8, 9, 10, 11] ?_
          repeat (refine tkOne (v := ?_) rfl (by kernel_rfl) (by kernel_rfl) (by kernel_rfl) (fun _ _ _ h => h) (by assumption) (by rfl) ?_ ?_; rotate_left; (intro wy hSw; (try dsimp only at hSw); go_simp; (first | done | with_reducible rfl)); try simp only [Act.put, List.getElem_toArray, List.getElem_cons_zero, List.getElem_cons_succ, List.setIfInBounds_toArray, List.set_cons_zero, List.set_cons_succ])
          refine tkEnd ?_
          refine wpAnyH_take (i := 12) (v := undef) rfl (by kernel_rfl) (by kernel_rfl) (by kernel_rfl) (fun _ _ _ h => h) (Or.inr ⟨by rfl, rfl⟩) (by assumption) ?_
          try simp only [Act.put, List.getElem_toArray, List.getElem_cons_zero, List.getElem_cons_succ, List.setIfInBounds_toArray, List.set_cons_zero, List.set_cons_succ]
          refine wpAnyH_take (i := 13) (v := undef) rfl (by kernel_rfl) (by kernel_rfl) (by kernel_rfl) (fun _ _ _ h => h) (Or.inr ⟨by rfl, rfl⟩) (by assumption) ?_
          try simp only [Act.put, List.getElem_toArray, List.getElem_cons_zero, List.getElem_cons_succ, List.setIfInBounds_toArray, List.set_cons_zero, List.set_cons_succ]
          refine wpAnyH_take (i := 14) (v := undef) rfl (by kernel_rfl) (by kernel_rfl) (by kernel_rfl) (fun _ _ _ h => h) (Or.inr ⟨by rfl, rfl⟩) (by assumption) ?_
          try simp only [Act.put, List.getElem_toArray, List.getElem_cons_zero, List.getElem_cons_succ, List.setIfInBounds_toArray, List.set_cons_zero, List.set_cons_succ]
          refine wpAnyH_take (i := 15) (v := undef) rfl (by kernel_rfl) (by kernel_rfl) (by kernel_rfl) (fun _ _ _ h => h) (Or.inr ⟨by rfl, rfl⟩) (by assumption) ?_
          try simp only [Act.put, List.getElem_toArray, List.getElem_cons_zero, List.getElem_cons_succ, List.setIfInBounds_toArray, List.set_cons_zero, List.set_cons_succ]
          refine wpAnyH_take (i := 16) (v := undef) rfl (by kernel_rfl) (by kernel_rfl) (by kernel_rfl) (fun _ _ _ h => h) (Or.inr ⟨by rfl, rfl⟩) (by assumption) ?_
          try simp only [Act.put, List.getElem_toArray, List.getElem_cons_zero, List.getElem_cons_succ, List.setIfInBounds_toArray, List.set_cons_zero, List.set_cons_succ]
          refine wpAnyH_take (i := 17) (v := undef) rfl (by kernel_rfl) (by kernel_rfl) (by kernel_rfl) (fun _ _ _ h => h) (Or.inr ⟨by rfl, rfl⟩) (by assumption) ?_
          try simp only [Act.put, List.getElem_toArray, List.getElem_cons_zero, List.getElem_cons_succ, List.setIfInBounds_toArray, List.set_cons_zero, List.set_cons_succ]
          refine wpAnyH_take (i := 18) (v := undef) rfl (by kernel_rfl) (by kernel_rfl) (by kernel_rfl) (fun _ _ _ h => h) (Or.inr ⟨by rfl, rfl⟩) (by assumption) ?_
          try simp only [Act.put, List.getElem_toArray, List.getElem_cons_zero, List.getElem_cons_succ, List.setIfInBounds_toArray, List.set_cons_zero, List.set_cons_succ]
          refine wpAnyH_take (i := 19) (v := undef) rfl (by kernel_rfl) (by kernel_rfl) (by kernel_rfl) (fun _ _ _ h => h) (Or.inr ⟨by rfl, rfl⟩) (by assumption) ?_
          try simp only [Act.put, List.getElem_toArray, List.getElem_cons_zero, List.getElem_cons_succ, List.setIfInBounds_toArray, List.set_cons_zero, List.set_cons_succ]
          refine wpAnyH_take (i := 20) (v := undef) rfl (by kernel_rfl) (by kernel_rfl) (by kernel_rfl) (fun _ _ _ h => h) (Or.inr ⟨by rfl, rfl⟩) (by assumption) ?_
          try simp only [Act.put, List.getElem_toArray, List.getElem_cons_zero, List.getElem_cons_succ, List.setIfInBounds_toArray, List.set_cons_zero, List.set_cons_succ]
          refine wpAnyH_take (i := 21) (v := undef) rfl (by kernel_rfl) (by kernel_rfl) (by kernel_rfl) (fun _ _ _ h => h) (Or.inr ⟨by rfl, rfl⟩) (by assumption) ?_
          try simp only [Act.put, List.getElem_toArray, List.getElem_cons_zero, List.getElem_cons_succ, List.setIfInBounds_toArray, List.set_cons_zero, List.set_cons_succ]
          refine wpAnyH_take (i := 22) (v := undef) rfl (by kernel_rfl) (by kernel_rfl) (by kernel_rfl) (fun _ _ _ h => h) (Or.inr ⟨by rfl, rfl⟩) (by assumption) ?_
          try simp only [Act.put, List.getElem_toArray, List.getElem_cons_zero, List.getElem_cons_succ, List.setIfInBounds_toArray, List.set_cons_zero, List.set_cons_succ]
          refine wpAnyH_take (i := 23) (v := undef) rfl (by kernel_rfl) (by kernel_rfl) (by kernel_rfl) (fun _ _ _ h => h) (Or.inr ⟨by rfl, rfl⟩) (by assumption) ?_
          try simp only [Act.put, List.getElem_toArray, List.getElem_cons_zero, List.getElem_cons_succ, List.setIfInBounds_toArray, List.set_cons_zero, List.set_cons_succ]
          refine tkGo [24, 25, 26] ?_
          repeat (refine tkOne (v := ?_) rfl (by kernel_rfl) (by kernel_rfl) (by kernel_rfl) (fun _ _ _ h => h) (by assumption) (by rfl) ?_ ?_; rotate_left; (intro wy hSw; (try dsimp only at hSw); go_simp; (first | done | with_reducible rfl)); try simp only [Act.put, List.getElem_toArray, List.getElem_cons_zero, List.getElem_cons_succ, List.setIfInBounds_toArray, List.set_cons_zero, List.set_cons_succ])
          refine tkEnd ?_
          refine wpAnyH_done (by kernel_rfl) ?_ _
          clear hHeld
          go_wp2
          go_ret
          exact ⟨rfl, below_drG HBY.out⟩
      · have ho0d : decide (0 ≤ top) = false := by simpa using ho0
        have hr := HR.out
        rw [show o.takes ⟨tf, tt, false, tm, top, tk, tz⟩ = false by simp [On.takes, On.here, ho0]] at hr
        subst hr
        refine tkGo [0, 1, 2, 3, 4, 5, 6] ?_
        repeat (refine tkOne (v := ?_) rfl (by kernel_rfl) (by kernel_rfl) (by kernel_rfl) (fun _ _ _ h => h) (by assumption) (by rfl) ?_ ?_; rotate_left; (intro wy hSw; (try dsimp only at hSw); go_simp; (first | done | with_reducible rfl)); try simp only [Act.put, List.getElem_toArray, List.getElem_cons_zero, List.getElem_cons_succ, List.setIfInBounds_toArray, List.set_cons_zero, List.set_cons_succ])
        refine tkEnd ?_
        refine wpAnyH_take (i := 7) (v := undef) rfl (by kernel_rfl) (by kernel_rfl) (by kernel_rfl) (fun _ _ _ h => h) (Or.inr ⟨by rfl, rfl⟩) (by assumption) ?_
        try simp only [Act.put, List.getElem_toArray, List.getElem_cons_zero, List.getElem_cons_succ, List.setIfInBounds_toArray, List.set_cons_zero, List.set_cons_succ]
        refine wpAnyH_take (i := 8) (v := undef) rfl (by kernel_rfl) (by kernel_rfl) (by kernel_rfl) (fun _ _ _ h => h) (Or.inr ⟨by rfl, rfl⟩) (by assumption) ?_
        try simp only [Act.put, List.getElem_toArray, List.getElem_cons_zero, List.getElem_cons_succ, List.setIfInBounds_toArray, List.set_cons_zero, List.set_cons_succ]
        refine wpAnyH_take (i := 9) (v := undef) rfl (by kernel_rfl) (by kernel_rfl) (by kernel_rfl) (fun _ _ _ h => h) (Or.inr ⟨by rfl, rfl⟩) (by assumption) ?_
        try simp only [Act.put, List.getElem_toArray, List.getElem_cons_zero, List.getElem_cons_succ, List.setIfInBounds_toArray, List.set_cons_zero, List.set_cons_succ]
        refine tkGo [10, 11] ?_
        repeat (refine tkOne (v := ?_) rfl (by kernel_rfl) (by kernel_rfl) (by kernel_rfl) (fun _ _ _ h => h) (by assumption) (by rfl) ?_ ?_; rotate_left; (intro wy hSw; (try dsimp only at hSw); go_simp; (first | done | with_reducible rfl)); try simp only [Act.put, List.getElem_toArray, List.getElem_cons_zero, List.getElem_cons_succ, List.setIfInBounds_toArray, List.set_cons_zero, List.set_cons_succ])
        refine tkEnd ?_
        refine wpAnyH_take (i := 12) (v := undef) rfl (by kernel_rfl) (by kernel_rfl) (by kernel_rfl) (fun _ _ _ h => h) (Or.inr ⟨by rfl, rfl⟩) (by assumption) ?_
        try simp only [Act.put, List.getElem_toArray, List.getElem_cons_zero, List.getElem_cons_succ, List.setIfInBounds_toArray, List.set_cons_zero, List.set_cons_succ]
        refine wpAnyH_take (i := 13) (v := undef) rfl (by kernel_rfl) (by kernel_rfl) (by kernel_rfl) (fun _ _ _ h => h) (Or.inr ⟨by rfl, rfl⟩) (by assumption) ?_
        try simp only [Act.put, List.getElem_toArray, List.getElem_cons_zero, List.getElem_cons_succ, List.setIfInBounds_toArray, List.set_cons_zero, List.set_cons_succ]
        refine wpAnyH_take (i := 14) (v := undef) rfl (by kernel_rfl) (by kernel_rfl) (by kernel_rfl) (fun _ _ _ h => h) (Or.inr ⟨by rfl, rfl⟩) (by assumption) ?_
        try simp only [Act.put, List.getElem_toArray, List.getElem_cons_zero, List.getElem_cons_succ, List.setIfInBounds_toArray, List.set_cons_zero, List.set_cons_succ]
        refine wpAnyH_take (i := 15) (v := undef) rfl (by kernel_rfl) (by kernel_rfl) (by kernel_rfl) (fun _ _ _ h => h) (Or.inr ⟨by rfl, rfl⟩) (by assumption) ?_
        try simp only [Act.put, List.getElem_toArray, List.getElem_cons_zero, List.getElem_cons_succ, List.setIfInBounds_toArray, List.set_cons_zero, List.set_cons_succ]
        refine wpAnyH_take (i := 16) (v := undef) rfl (by kernel_rfl) (by kernel_rfl) (by kernel_rfl) (fun _ _ _ h => h) (Or.inr ⟨by rfl, rfl⟩) (by assumption) ?_
        try simp only [Act.put, List.getElem_toArray, List.getElem_cons_zero, List.getElem_cons_succ, List.setIfInBounds_toArray, List.set_cons_zero, List.set_cons_succ]
        refine wpAnyH_take (i := 17) (v := undef) rfl (by kernel_rfl) (by kernel_rfl) (by kernel_rfl) (fun _ _ _ h => h) (Or.inr ⟨by rfl, rfl⟩) (by assumption) ?_
        try simp only [Act.put, List.getElem_toArray, List.getElem_cons_zero, List.getElem_cons_succ, List.setIfInBounds_toArray, List.set_cons_zero, List.set_cons_succ]
        refine wpAnyH_take (i := 18) (v := undef) rfl (by kernel_rfl) (by kernel_rfl) (by kernel_rfl) (fun _ _ _ h => h) (Or.inr ⟨by rfl, rfl⟩) (by assumption) ?_
        try simp only [Act.put, List.getElem_toArray, List.getElem_cons_zero, List.getElem_cons_succ, List.setIfInBounds_toArray, List.set_cons_zero, List.set_cons_succ]
        refine wpAnyH_take (i := 19) (v := undef) rfl (by kernel_rfl) (by kernel_rfl) (by kernel_rfl) (fun _ _ _ h => h) (Or.inr ⟨by rfl, rfl⟩) (by assumption) ?_
        try simp only [Act.put, List.getElem_toArray, List.getElem_cons_zero, List.getElem_cons_succ, List.setIfInBounds_toArray, List.set_cons_zero, List.set_cons_succ]
        refine wpAnyH_take (i := 20) (v := undef) rfl (by kernel_rfl) (by kernel_rfl) (by kernel_rfl) (fun _ _ _ h => h) (Or.inr ⟨by rfl, rfl⟩) (by assumption) ?_
        try simp only [Act.put, List.getElem_toArray, List.getElem_cons_zero, List.getElem_cons_succ, List.setIfInBounds_toArray, List.set_cons_zero, List.set_cons_succ]
        refine wpAnyH_take (i := 21) (v := undef) rfl (by kernel_rfl) (by kernel_rfl) (by kernel_rfl) (fun _ _ _ h => h) (Or.inr ⟨by rfl, rfl⟩) (by assumption) ?_
        try simp only [Act.put, List.getElem_toArray, List.getElem_cons_zero, List.getElem_cons_succ, List.setIfInBounds_toArray, List.set_cons_zero, List.set_cons_succ]
        refine wpAnyH_take (i := 22) (v := undef) rfl (by kernel_rfl) (by kernel_rfl) (by kernel_rfl) (fun _ _ _ h => h) (Or.inr ⟨by rfl, rfl⟩) (by assumption) ?_
        try simp only [Act.put, List.getElem_toArray, List.getElem_cons_zero, List.getElem_cons_succ, List.setIfInBounds_toArray, List.set_cons_zero, List.set_cons_succ]
        refine wpAnyH_take (i := 23) (v := undef) rfl (by kernel_rfl) (by kernel_rfl) (by kernel_rfl) (fun _ _ _ h => h) (Or.inr ⟨by rfl, rfl⟩) (by assumption) ?_
        try simp only [Act.put, List.getElem_toArray, List.getElem_cons_zero, List.getElem_cons_succ, List.setIfInBounds_toArray, List.set_cons_zero, List.set_cons_succ]
        refine tkGo [24, 25, 26] ?_
        repeat (refine tkOne (v := ?_) rfl (by kernel_rfl) (by kernel_rfl) (by kernel_rfl) (fun _ _ _ h => h) (by assumption) (by rfl) ?_ ?_; rotate_left; (intro wy hSw; (try dsimp only at hSw); go_simp; (first | done | with_reducible rfl)); try simp only [Act.put, List.getElem_toArray, List.getElem_cons_zero, List.getElem_cons_succ, List.setIfInBounds_toArray, List.set_cons_zero, List.set_cons_succ])
        refine tkEnd ?_
        refine wpAnyH_done (by kernel_rfl) ?_ _
        clear hHeld
        go_wp2
        go_ret
        exact ⟨rfl, below_drG HBY.out⟩
set_option maxHeartbeats 12800000 in
theorem lsend (h : Lwo w B b rv lv vs F o) (hn : 1 ≤ o.n ∧ o.n ≤ 4) (hB : B ≤ w.heap.size) {qv : Value} {qs : List Rt} (hz : Hid ((o.ln.length + qs.length) * 56 ≤ 140737488355328)) (hs : SeesG rtC 7 Rt.nil w qv qs) (hwf : ∀ q ∈ qs, q.wf) {E : Int} (HQ : Hid (o.send qs = (E, o'))) : Calls Try.prog 10 #[.pointer (some ⟨b, 0, none⟩), qv] w fun e w' => e = .returned (.int .i64 E) ∧ ∃ lv', Lwo w' B b rv lv' vs F o' ∧ Nx w w' (footO b rv lv vs.length F) (footO b rv lv' vs.length F) := by
  obtain ⟨-, -, -, c3, c4⟩ := h.low
  have HD := keepG h
  have HQV := keepG (fun (wx : World) (hb : Below w.heap.size w wx) => hs.below hb (Nat.le_refl _))
  have HWF := keepG hwf
  have hq := HQ.out
  unfold On.send at hq
  obtain ⟨qa, qc, ev, hql, hqm⟩ := hs.shape
  subst ev
  obtain ⟨i0, hi0, hz0, hzs, hzb⟩ := info_parts infoRt
  have HHB := keepG hB
  clear h hs hwf HQ hB
  go_enter Try.func10, Try.ntmps10
  cases hov : o.over with
  | true =>
    rw [hov] at c4
    rw [if_pos hov] at hq
    injection hq with e1 e2
    subst e1 e2
    clear hov
    go_wp2
    go_ret
    exact ⟨rfl, _, HD.out, Nx.refl _ _⟩
  | false =>
    rw [hov] at c4
    rw [if_neg (by rw [hov]; decide)] at hq
    have HQ2 := keepG hq
    clear hq hov
    go_wp2
    go_loopw [13] (fun i wr => ∃ j : Nat, j ≤ qs.length ∧ i = .int .i64 j ∧ Hid ((qs.take j).all o.takes = true ∧ Below w.heap.size w wr)) (fun i _ => qs.length - (intOf i).toNat)
    case atStart => exact ⟨0, by omega, rfl, rfl, Below.refl _ _⟩
    case round =>
      obtain ⟨j, hj, rfl, HI⟩ := hrel
      rename World => wr
      clear c3 c4
      by_cases hlt : j < qs.length
      · have hltI : (j : Int) < qs.length := by omega
        obtain ⟨p, off, ev, hat⟩ := rtAt (HQV.out wr HI.out.2) hlt
        subst ev
        obtain ⟨q, HQ⟩ : ∃ q, Hid (qs.getD j Rt.nil = q) := ⟨_, rfl⟩
        have hmem := getD_memR2 qs j hlt
        have hqw := HWF.out _ hmem
        have hta := all_takeR (p := o.takes) hlt
        rw [HQ.out] at hmem hqw hta
        rw [HI.out.1, Bool.true_and] at hta
        obtain ⟨tf, tt, wk, tm, top, tk, tz⟩ := q
        obtain ⟨d0, d1, d2, d3, d4, d5, d6⟩ := hat j hlt _ HQ.out
        simp only at d0 d1 d2 d3 d4 d5 d6 hqw
        have HNO : Hid (o.takes ⟨tf, tt, wk, tm, top, tk, tz⟩ = false → E = 2 ∧ o = o') := by
          intro hf
          have hall : qs.all o.takes = false := by
            cases he : qs.all o.takes with
            | false => rfl
            | true => rw [List.all_eq_true.1 he _ hmem] at hf; cases hf
          have hq2 := HQ2.out
          rw [if_neg (by rw [hall]; decide)] at hq2
          injection hq2 with e1 e2
          exact ⟨e1.symm, e2⟩
        have HTA := keepG hta
        obtain ⟨W1, HW1, HP1, HB1⟩ : ∃ W1, Hid (wr.alloc (.cells #[.int .i64 tf, .int .i64 tt, .bool wk, .int .i64 tm, .int .i64 top, .int .u64 tk, .int .u64 tz] 45) = W1) ∧ Hid (Hp W1 wr.heap.size 45 (rtC ⟨tf, tt, wk, tm, top, tk, tz⟩)) ∧ Hid (Below w.heap.size w W1) := ⟨_, rfl, Hp.new wr (rtC ⟨tf, tt, wk, tm, top, tk, tz⟩) _, HI.out.2.trans ((below_allocG wr _).mono HI.out.2.size)⟩
        obtain ⟨r, HR⟩ : ∃ r, Hid (o.takes ⟨tf, tt, wk, tm, top, tk, tz⟩ = r) := ⟨_, rfl⟩
        have HCT := keepG (ltakes (HD.out.below HB1.out) hn tf tt wk tm top tk tz hqw HR)
        rw [HR.out] at HNO HTA
        clear hat hmem hta hqw
        cases r with
        | false =>
          obtain ⟨e1, e2⟩ := HNO.out rfl
          subst e1 e2
          go_wp2_with (go_at_call 26; rw [HW1.out]; go_must (refine HCT.out.mono ?_); rintro e w1 ⟨rfl, hb1⟩; go_must (have HB2 := keepG (HB1.out.trans (hb1.mono HB1.out.size)); clear hb1))
          go_ret
          exact ⟨rfl, _, HD.out.below HB2.out, Nx.below HB2.out⟩
        | true =>
          go_wp2_with (go_at_call 26; rw [HW1.out]; go_must (refine HCT.out.mono ?_); rintro e w1 ⟨rfl, hb1⟩; go_must (have HB2 := keepG (HB1.out.trans (hb1.mono HB1.out.size)); clear hb1))
          go_roundw
          case rel => exact ⟨j + 1, by omega, by go_num, HTA.out, HB2.out⟩
          case measure => simp [intOf]; omega
      · have hltI : ¬ (j : Int) < qs.length := by omega
        have hall : qs.all o.takes = true := by have := HI.out.1; rw [List.take_of_length_le (by omega)] at this; exact this
        have hq2 := HQ2.out
        rw [if_pos hall] at hq2
        injection hq2 with e1 e2
        subst e1 e2
        have HD2 := keepG (HD.out.below HI.out.2)
        obtain ⟨-, -, -, c3, -⟩ := HD2.out.low
        obtain ⟨v2, w2, hr2, ho2, hg2, hn2⟩ := run_append_win (f := rtC) (d := Rt.nil) (P := Try.prog) wr B 34 34 45 i0 _ 7 56 Try.underlying34 hi0 hz0 hzs hzb rfl (by decide) lv o.ln.length (flatG rtC o.ln) HD2.out.ln rtC_len (HQV.out wr HI.out.2) (rt_flat qs) (by have := hz.out; unfold maxLen; omega) hz.out (Nat.le_trans HHB.out HI.out.2.size)
        rw [← flatG_app, ← List.length_append] at ho2
        have hput := HD2.out.put (Chg.of_grown' hg2 (fun b hb => hb)) ho2 (hn2.elim .inl (fun e => .inr ⟨_, e, Nat.le_refl _⟩))
        have HPUT := keepG hput
        have HR2 := keepG hr2
        have z3 : w2.cell? ⟨b, 3, none⟩ = some lv := (HD2.out.hp.grown hg2 (fun e => win_type HD2.out.ln HD2.out.hp (by decide) e.symm)).cell (j := 3) rfl
        have f3 : w2.frozen? ⟨b, 3, none⟩ = false := (HD2.out.hp.grown hg2 (fun e => win_type HD2.out.ln HD2.out.hp (by decide) e.symm)).frozen 3
        obtain ⟨xa, xc, ev, -, -⟩ := HD2.out.ln.shape
        obtain ⟨ya, yc, ev2, -, -⟩ := ho2.shape
        subst ev ev2
        clear ho2 hg2 hn2 hput hr2 hall
        go_wp2_with (at_builtin; go_must (refine wpList_appG _ rfl (.tmp 26) (.tmp 27) 34 34 rfl _ _ rfl rfl HR2.out ?_))
        go_ret
        have hP := HPUT.out
        rw [List.length_append] at hP
        exact ⟨rfl, _, hP.1, (Nx.below HI.out.2).trans hP.2⟩
end
end Go.Proofs.Ytpbfgebecgikjaa
