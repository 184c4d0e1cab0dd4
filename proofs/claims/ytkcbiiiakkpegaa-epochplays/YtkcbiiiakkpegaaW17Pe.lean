
/-
  The landed clock of layer 17 and the document's, apart; what is shown of both. No condition.
-/
import Derived.Test.YtkcbiiiakkpegaaE17Aw
import Derived.Test.YtkcbiiiakkpegaaE17DC
namespace Go.Proofs.Ytkcbiiiakkpegaa
open Go.RowKit
set_option linter.unusedVariables false
set_option linter.unusedSimpArgs false
set_option maxRecDepth 100000
/-- A call's box stays. -/
def Bx17 (w w' : World) : Prop := ∀ (k : Nat) (cs : List Value), Hp w k 34 cs → Hp w' k 34 cs
/-- The landed clock and the document's. -/
structure Pe (w0 w : World) (b g d : Nat) (c e : Ck) (m : Nat) : Prop where
  cl : Cl w0 w b g c
  ok : e.Ok
  ex : ∃ B F, B ≤ w.heap.size ∧ Dc w B d F e m ∧ Since w0 F
section
variable {w0 w w' : World} {b g d m : Nat} {c c' e e' : Ck}
theorem Pe.below (h : Pe w0 w b g d c e m) (hb : Below w.heap.size w w') : Pe w0 w' b g d c e m := by
  obtain ⟨B, F, h1, h2, h3⟩ := h.ex
  exact ⟨h.cl.below hb, h.ok, B, F, Nat.le_trans h1 hb.size, h2.below hb, h3⟩
theorem Pe.drewN (h : Pe w0 w b g d c e m) (n : Nat) : Pe w0 (w.drewN n) b g d c e m := h.below ⟨rfl, rfl, rfl, Nat.le_refl _, fun _ _ => rfl⟩
theorem Pe.stepL (h : Pe w0 w b g d c e m) (hc : Cl w0 w' b g c') (hg : Chg w w' (ftE b g)) : Pe w0 w' b g d c' e m := by
  obtain ⟨B, F, h1, h2, h3⟩ := h.ex
  refine ⟨hc, h.ok, B, F, Nat.le_trans h1 hg.size, h2.keeps hg (fun k e1 e2 => ?_), h3⟩
  rcases e1 with e1 | e1
  · rw [e1] at e2; exact h2.other h.cl.ec.hp (by decide) (by decide) e2
  · rw [e1] at e2; exact h2.other h.cl.ec.row (by decide) (by decide) e2
theorem Pe.stepD {B : Nat} {F F' : Ft} {m' : Nat} (h : Pe w0 w b g d c e m) (h1 : B ≤ w.heap.size) (h2 : Dc w B d F e m) (h3 : Since w0 F) (hd : Dc w' B d F' e' m') (hk : e'.Ok) (hn : Nx w w' F F') : Pe w0 w' b g d c e' m' := by
  refine ⟨h.cl.keeps hn.chg (fun k e1 e2 => ?_) h3, hk, B, F', Nat.le_trans h1 hn.chg.size, hd, h3.next h.cl.be.size hn⟩
  rcases e2 with e2 | e2
  · rw [e2] at e1; exact h2.other h.cl.ec.hp (by decide) (by decide) e1
  · rw [e2] at e1; exact h2.other h.cl.ec.row (by decide) (by decide) e1
theorem Pe.boxL (h : Pe w0 w b g d c e m) (hg : Chg w w' (ftE b g)) : Bx17 w w' := fun k cs hp => h.cl.box hp (by decide) (by decide) hg
theorem Pe.boxD {B : Nat} {F F' : Ft} (h2 : Dc w B d F e m) (hn : Nx w w' F F') : Bx17 w w' := fun k cs hp => hp.chg hn.chg (h2.other hp (by decide) (by decide))
theorem Pe.enter (h : Pe w0 w b g d c e m) (x : Int) {n E : Int} (HQ : Hid (c.enter x = (n, E, c'))) : Calls Try.prog 9 #[.pointer (some ⟨b, 0, none⟩), .int .i64 x] w fun r w' => r = .returned (.tuple #[.int .i64 n, .int .i64 E]) ∧ Pe w0 w' b g d c' e m ∧ Bx17 w w' := by
  refine (h.cl.enter x HQ).mono ?_
  rintro r w' ⟨rfl, h1, h2⟩
  exact ⟨rfl, h.stepL h1 h2, h.boxL h2⟩
theorem Pe.enterD (h : Pe w0 w b g d c e m) (hm : m ≤ 10000) (x : Int) {n E : Int} (HQ : Hid (e.enter x = (n, E, e'))) : Calls Try.prog 10 #[.pointer (some ⟨d, 0, none⟩), .int .i64 x] w fun r w' => r = .returned (.tuple #[.int .i64 n, .int .i64 E]) ∧ Pe w0 w' b g d c e' (m + 4) ∧ Bx17 w w' := by
  obtain ⟨B, F, h1, h2, h3⟩ := h.ex
  refine (denter h2 h.ok h1 (by omega) x HQ).mono ?_
  rintro r w' ⟨rfl, F', g1, g2⟩
  have := h.ok.enter x
  rw [HQ.out] at this
  exact ⟨rfl, h.stepD h1 h2 h3 (g1.mono (by omega)) this g2, Pe.boxD h2 g2⟩
theorem Pe.advance (h : Pe w0 w b g d c e m) (hl : c.now ≤ 1000000000000000000) (HD : Hid (c.go = c')) : Calls Try.prog 13 #[.pointer (some ⟨b, 0, none⟩)] w fun r w' => r = .returned (.int .i64 c'.now) ∧ Pe w0 w' b g d c' e m ∧ Bx17 w w' := by
  refine (h.cl.advance hl HD).mono ?_
  rintro r w' ⟨rfl, h1, h2⟩
  exact ⟨by rw [← HD.out]; rfl, h.stepL h1 h2, h.boxL h2⟩
theorem Pe.advanceD (h : Pe w0 w b g d c e m) (hm : m ≤ 10000) (HD : Hid (e.go = e')) : Calls Try.prog 14 #[.pointer (some ⟨d, 0, none⟩)] w fun r w' => r = .returned (.int .i64 e'.now) ∧ Pe w0 w' b g d c e' (m + 4) ∧ Bx17 w w' := by
  obtain ⟨B, F, h1, h2, h3⟩ := h.ex
  refine (dadvance h2 h1 (by omega) HD).mono ?_
  rintro r w' ⟨rfl, F', g1, g2⟩
  exact ⟨rfl, h.stepD h1 h2 h3 (g1.mono (by omega)) (by rw [← HD.out]; exact h.ok.go) g2, Pe.boxD h2 g2⟩
theorem Pe.leave (h : Pe w0 w b g d c e m) {v : Value} {ws : List Int} (hs : Sees .i64 w v ws) (hap : ws ≠ [] → Apt (ftE b g) (ftV v)) {E : Int} (HQ : Hid (c.leave ws = (E, c'))) : Calls Try.prog 11 #[.pointer (some ⟨b, 0, none⟩), v] w fun r w' => r = .returned (.int .i64 E) ∧ Pe w0 w' b g d c' e m ∧ Bx17 w w' := by
  refine (h.cl.leave hs hap HQ).mono ?_
  rintro r w' ⟨rfl, h1, h2⟩
  exact ⟨rfl, h.stepL h1 h2, h.boxL h2⟩
theorem Pe.leaveD (h : Pe w0 w b g d c e m) (hm : m ≤ 10000) {v : Value} {ws : List Int} (hs : Sees .i64 w v ws) (hl : ws ≠ [] → ∀ k, ftV v k → k < w0.heap.size) {E : Int} (HQ : Hid (e.leave ws = (E, e'))) : Calls Try.prog 12 #[.pointer (some ⟨d, 0, none⟩), v] w fun r w' => r = .returned (.int .i64 E) ∧ Pe w0 w' b g d c e' (m + 4) ∧ Bx17 w w' := by
  obtain ⟨B, F, h1, h2, h3⟩ := h.ex
  refine (dleave h2 h.ok h1 hm hs (fun hne k hk e => by have := hl hne k e; have := h3 k hk; omega) HQ).mono ?_
  rintro r w' ⟨rfl, F', g1, g2⟩
  have := h.ok.leave ws
  rw [HQ.out] at this
  exact ⟨rfl, h.stepD h1 h2 h3 g1 this g2, Pe.boxD h2 g2⟩
theorem Pe.safeD (h : Pe w0 w b g d c e m) (hm : m ≤ 10000) (t : Int) {r : Bool} (HR : Hid (e.safe t = r)) : Calls Try.prog 16 #[.pointer (some ⟨d, 0, none⟩), .int .i64 t] w fun x w' => x = .returned (.bool r) ∧ Below w.heap.size w w' := by
  obtain ⟨B, F, h1, h2, h3⟩ := h.ex
  exact dsafe h2 h.ok (by omega) t HR
theorem Pe.oldD (h : Pe w0 w b g d c e m) (hm : m ≤ 10000) {r : Int} (HR : Hid (e.old = r)) : Calls Try.prog 25 #[.pointer (some ⟨d, 0, none⟩)] w fun x w' => x = .returned (.int .i64 r) ∧ Below w.heap.size w w' := by
  obtain ⟨B, F, h1, h2, h3⟩ := h.ex
  exact doldest h2 h.ok (by omega) HR
theorem Pe.nowD (h : Pe w0 w b g d c e m) (hm : m ≤ 10000) {r : Int} (HR : Hid (e.now = r)) : Calls Try.prog 23 #[.pointer (some ⟨d, 0, none⟩)] w fun x w' => x = .returned (.int .i64 r) ∧ w = w' := by
  obtain ⟨B, F, h1, h2, h3⟩ := h.ex
  rw [← HR.out]
  exact h2.now (by omega)
theorem Pe.nowL (h : Pe w0 w b g d c e m) {r : Int} (HR : Hid (c.now = r)) : Calls Try.prog 20 #[.pointer (some ⟨b, 0, none⟩)] w fun x w' => x = .returned (.int .i64 r) ∧ w = w' := by
  rw [← HR.out]
  exact lnow h.cl.ec
theorem Pe.inD (h : Pe w0 w b g d c e m) (hm : m ≤ 10000) (x : Int) (hx : e.has x = true) {y : Int} {r : Bool} (HY : Hid (e.at x = y)) (HR : Hid ((y != 0) = r)) : Calls Try.prog 22 #[.pointer (some ⟨d, 0, none⟩), .int .i64 x] w fun z w' => z = .returned (.tuple #[.int .i64 y, .bool r]) ∧ Below w.heap.size w w' := by
  obtain ⟨B, F, h1, h2, h3⟩ := h.ex
  exact h2.in h.ok (by omega) x hx HY HR
theorem Pe.cellD (h : Pe w0 w b g d c e m) : w.cell? ⟨d, 0, none⟩ = some (.int .i64 e.ins.length) := by
  obtain ⟨B, F, h1, h2, h3⟩ := h.ex
  exact h2.cell
set_option maxHeartbeats 12800000 in
theorem shows17 (h : Pe w0 w b g d c c m) (hm : m ≤ 10000) (hl : c.now ≤ 1000000000000000000) : Calls Try.prog 17 #[.pointer (some ⟨b, 0, none⟩), .pointer (some ⟨d, 0, none⟩)] w fun r w' => r = .returned (.bool true) ∧ Below w.heap.size w w' := by
  have HH := keepG (fun (wr : World) (hb : Below w.heap.size w wr) => h.below hb)
  have hl4 := h.cl.ok.len.2
  have hn1 := h.cl.ok.now
  clear h
  go_enter Try.func17, Try.ntmps17
  go_wp2
  go_loopw [5] (fun i wr => ∃ z : Int, -1 ≤ z ∧ z ≤ 5 ∧ i = .int .i64 z ∧ Hid (Below w.heap.size w wr)) (fun i _ => (5 - intOf i).toNat)
  case atStart => exact ⟨-1, by omega, by omega, rfl, Below.refl _ _⟩
  case round =>
    obtain ⟨z, hz1, hz2, rfl, HB⟩ := hrel
    rename World => wr
    have HP := keepG (HH.out wr HB.out)
    have d0 := HP.out.cellD
    by_cases hz5 : z < 5
    · obtain ⟨y, HY⟩ : ∃ y, Hid (c.at z = y) := ⟨_, rfl⟩
      obtain ⟨r, HR⟩ : ∃ r, Hid ((y != 0) = r) := ⟨_, rfl⟩
      have hw1 : IntKind.i64.wrap (z + 1) = z + 1 := by rw [IntKind.wrap_i64]; omega
      cases hh : c.has z with
      | true =>
        have hz0 := Ck.has_true hh
        have hz0a : 0 ≤ z := hz0.1
        have hz0b : z < c.ins.length := hz0.2
        have HHX := keepG hh
        clear hh hz0
        go_wp2_with (first
          | (go_at_call 18; go_must (refine (lin HP.out.cl.ec z HY HR).mono ?_); rintro e w5 ⟨rfl, rfl⟩)
          | (go_at_call 22; go_must (refine (HP.out.inD hm z HHX.out HY HR).mono ?_); rintro e w5 ⟨rfl, hb5⟩; go_must (have HB5 := keepG (HB.out.trans (hb5.mono HB.out.size)); clear hb5)))
        go_roundw
        case rel => exact ⟨z + 1, by omega, by omega, rfl, HB5.out⟩
        case measure => simp [intOf]; omega
      | false =>
        have hy := Ck.at_no hh
        rw [HY.out] at hy
        subst hy
        have hr : r = false := by rw [← HR.out]; rfl
        subst hr
        by_cases hz0 : 0 ≤ z
        · have hzl : ¬ z < c.ins.length := by
            intro e
            have : c.has z = true := by simp [Ck.has]; omega
            rw [hh] at this
            cases this
          clear hh
          go_wp2_with (go_at_call 18; go_must (refine (lin HP.out.cl.ec z HY HR).mono ?_); rintro e w5 ⟨rfl, rfl⟩)
          go_roundw
          case rel => exact ⟨z + 1, by omega, by omega, rfl, HB.out⟩
          case measure => simp [intOf]; omega
        · clear hh
          go_wp2_with (go_at_call 18; go_must (refine (lin HP.out.cl.ec z HY HR).mono ?_); rintro e w5 ⟨rfl, rfl⟩)
          go_roundw
          case rel => exact ⟨z + 1, by omega, by omega, rfl, HB.out⟩
          case measure => simp [intOf]; omega
    · obtain ⟨nw, HN⟩ : ∃ nw, Hid (c.now = nw) := ⟨_, rfl⟩
      obtain ⟨ol, HO⟩ : ∃ ol, Hid (c.old = ol) := ⟨_, rfl⟩
      obtain ⟨s1, HS1⟩ : ∃ s1, Hid (c.safe nw = s1) := ⟨_, rfl⟩
      obtain ⟨s2, HS2⟩ : ∃ s2, Hid (c.safe (nw + 1) = s2) := ⟨_, rfl⟩
      rw [HN.out] at hn1 hl
      have hw1 : IntKind.i64.wrap (nw + 1) = nw + 1 := by rw [IntKind.wrap_i64]; omega
      go_wp2_with (first
        | (go_at_call 20; go_must (refine (HP.out.nowL HN).mono ?_); rintro e w5 ⟨rfl, rfl⟩)
        | (go_at_call 19; go_must (refine (loldest HP.out.cl.ec hl4 HO).mono ?_); rintro e w5 ⟨rfl, rfl⟩)
        | (go_at_call 25; go_must (refine (HP.out.oldD hm HO).mono ?_); rintro e wa ⟨rfl, hba⟩; go_must (have HB1 := keepG (HB.out.trans (hba.mono HB.out.size)); have HP1 := keepG (HH.out _ HB1.out); clear hba))
        | (go_at_call 23; have hq := HP2; clear hq; go_must (refine (HP2.out.nowD hm HN).mono ?_); rintro e w5 ⟨rfl, rfl⟩)
        | (go_at_call 23; have hq := HP1; clear hq; go_must (refine (HP1.out.nowD hm HN).mono ?_); rintro e w5 ⟨rfl, rfl⟩)
        | (go_at_call 23; go_must (refine (HP.out.nowD hm HN).mono ?_); rintro e w5 ⟨rfl, rfl⟩)
        | (go_at_call 15; have hq := HP2; clear hq; go_must (refine (lsafe HP2.out.cl.ec hl4 (nw + 1) HS2).mono ?_); rintro e w5 ⟨rfl, rfl⟩)
        | (go_at_call 15; go_must (refine (lsafe HP1.out.cl.ec hl4 nw HS1).mono ?_); rintro e w5 ⟨rfl, rfl⟩)
        | (go_at_call 16; have hq := HP2; clear hq; go_must (refine (HP2.out.safeD hm (nw + 1) HS2).mono ?_); rintro e wc ⟨rfl, hbc⟩; go_must (have HB3 := keepG (HB2.out.trans (hbc.mono HB2.out.size)); clear hbc))
        | (go_at_call 16; go_must (refine (HP1.out.safeD hm nw HS1).mono ?_); rintro e wb ⟨rfl, hbb⟩; go_must (have HB2 := keepG (HB1.out.trans (hbb.mono HB1.out.size)); have HP2 := keepG (HH.out _ HB2.out); clear hbb)))
      go_ret
      exact ⟨by simp, HB3.out⟩
end
end Go.Proofs.Ytkcbiiiakkpegaa
