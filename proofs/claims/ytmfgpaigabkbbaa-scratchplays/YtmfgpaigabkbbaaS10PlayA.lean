
/-
  A call played: Load, and Count. Condition: scratch and book say the same.
-/
import Derived.Test.YtmfgpaigabkbbaaS10Pair
namespace Go.Proofs.Ytmfgpaigabkbbaa
open Go.RowKit
set_option linter.unusedVariables false
set_option linter.unusedSimpArgs false
set_option maxRecDepth 100000

theorem below_drew10 {B : Nat} {a w : World} (h : Below B a w) : Below B a w.drew := ⟨h.os, h.tape, h.output, h.size, h.block⟩
set_option maxHeartbeats 1600000 in
theorem plays0 (on a n : Int) (u : Value) {B s c : Nat} {v : Value} {ks : List Ak} {ws cs : List Int} (w : World) (h : Pr w B s c v ks ws cs) :
    Calls Try.prog 9 #[.pointer (some ⟨s, 0, none⟩), .pointer (some ⟨c, 0, none⟩), opV 0 on a n u] w fun e w' => e = .returned (.bool true) ∧ Played w w' B s c v ks := by
  have HP : Hid (Pr w B s c v ks ws cs) := h
  obtain ⟨x, HX⟩ : ∃ x, Hid ((if inB a then ws.getD a.toNat 0 else 0) = x) := ⟨_, rfl⟩
  obtain ⟨r, HR⟩ : ∃ r, Hid ((if inB a then 0 else 35 : Int) = r) := ⟨_, rfl⟩
  obtain ⟨W, HW, HB, hz, b0, b2, b3, b4⟩ := box_cells w 0 on a n u 35
  have HPW : Hid (Pr W B s c v ks ws cs) := h.below HB.out
  clear h
  have HD : Hid (Calls Try.prog 19 #[.pointer (some ⟨c, 0, none⟩), .int .i64 a] W.drew fun e w' => e = .returned (.tuple #[.int .u64 x, .int .i64 r]) ∧ w' = W.drew) := by
    cases hi : inB a with
    | true =>
      have hr : r = 0 := by rw [← HR.out, hi]; rfl
      subst hr
      exact bword_in a hi _ HPW.out.bk.drew (word_new HPW.out.tie hi HX.out)
    | false =>
      have hr : r = 35 := by rw [← HR.out, hi]; rfl
      have hx : x = 0 := by rw [← HX.out, hi]; rfl
      subst hr
      subst hx
      exact bword_out a hi _
  unfold opV
  go_enter Try.func9, Try.ntmps9
  go_wp2
  rw [← HW.out]
  go_region_held3 (fun w' => w'.cell? ⟨w.heap.size, 2, none⟩ = some (.int .i64 a))
    (exact b2)
    (first | (go_at_call 15; go_must (refine (load_as HX HR _ HPW.out.sc.drew).mono ?_); rintro e w5 ⟨rfl, hw5⟩; go_must (subst hw5)))
  go_wp2_with (go_at_call 19; go_must (refine HD.out.mono ?_); rintro e w6 ⟨rfl, hw6⟩; go_must (subst hw6))
  go_ret
  exact ⟨rfl, HP.out.idle (below_drew10 HB.out)⟩
set_option maxHeartbeats 1600000 in
theorem plays4 (on a n : Int) (u : Value) {B s c : Nat} {v : Value} {ks : List Ak} {ws cs : List Int} (w : World) (h : Pr w B s c v ks ws cs) :
    Calls Try.prog 9 #[.pointer (some ⟨s, 0, none⟩), .pointer (some ⟨c, 0, none⟩), opV 4 on a n u] w fun e w' => e = .returned (.bool true) ∧ Played w w' B s c v ks := by
  have HP : Hid (Pr w B s c v ks ws cs) := h
  obtain ⟨x, HX⟩ : ∃ x, Hid ((if inB a then cs.getD a.toNat 0 else 0) = x) := ⟨_, rfl⟩
  obtain ⟨r, HR⟩ : ∃ r, Hid ((if inB a then 0 else 35 : Int) = r) := ⟨_, rfl⟩
  obtain ⟨W, HW, HB, hz, b0, b2, b3, b4⟩ := box_cells w 4 on a n u 35
  have HPW : Hid (Pr W B s c v ks ws cs) := h.below HB.out
  clear h
  have HD : Hid (Calls Try.prog 23 #[.pointer (some ⟨c, 0, none⟩), .int .i64 a] W.drew fun e w' => e = .returned (.tuple #[.int .u64 x, .int .i64 r]) ∧ w' = W.drew) := by
    cases hi : inB a with
    | true =>
      have hr : r = 0 := by rw [← HR.out, hi]; rfl
      subst hr
      exact bcount_in a hi _ HPW.out.bk.drew (count_new HPW.out.tie hi HX.out)
    | false =>
      have hr : r = 35 := by rw [← HR.out, hi]; rfl
      have hx : x = 0 := by rw [← HX.out, hi]; rfl
      subst hr
      subst hx
      exact bcount_out a hi _
  unfold opV
  go_enter Try.func9, Try.ntmps9
  go_wp2
  rw [← HW.out]
  go_region_held3 (fun w' => w'.cell? ⟨w.heap.size, 2, none⟩ = some (.int .i64 a))
    (exact b2)
    (first | (go_at_call 17; go_must (refine (count_as HX HR _ HPW.out.sc.drew).mono ?_); rintro e w5 ⟨rfl, hw5⟩; go_must (subst hw5)))
  go_wp2_with (go_at_call 23; go_must (refine HD.out.mono ?_); rintro e w6 ⟨rfl, hw6⟩; go_must (subst hw6))
  go_ret
  exact ⟨rfl, HP.out.idle (below_drew10 HB.out)⟩
end Go.Proofs.Ytmfgpaigabkbbaa
