
/-
  Layer 17: a clock in the midst of a law; the calls whose answers the document's examples fix. No condition.
-/
import Derived.Test.YtkcbiiiakkpegaaE17Kit
namespace Go.Proofs.Ytkcbiiiakkpegaa
open Go.RowKit
set_option linter.unusedVariables false
set_option linter.unusedSimpArgs false
set_option maxRecDepth 100000
/-- A clock that was made since a world. -/
structure Cl (w0 w : World) (b g : Nat) (c : Ck) : Prop where
  ec : Ec w b g c
  ok : c.Ok
  since : Since w0 (ftE b g)
  be : Below w0.heap.size w0 w
section
variable {w0 w w' : World} {b g : Nat} {c c' : Ck}
theorem Cl.below (h : Cl w0 w b g c) (hb : Below w.heap.size w w') : Cl w0 w' b g c := ⟨h.ec.below hb, h.ok, h.since, h.be.trans (hb.mono h.be.size)⟩
theorem Cl.drewN (h : Cl w0 w b g c) (m : Nat) : Cl w0 (w.drewN m) b g c := h.below ⟨rfl, rfl, rfl, Nat.le_refl _, fun _ _ => rfl⟩
theorem Cl.step (h : Cl w0 w b g c) (he : Ec w' b g c') (hk : c'.Ok) (hc : Chg w w' (ftE b g)) : Cl w0 w' b g c' := ⟨he, hk, h.since, h.be.trans (hc.below (fun k e => h.since k e) h.be.size)⟩
theorem Cl.keeps {S : Ft} (h : Cl w0 w b g c) (hc : Chg w w' S) (ha : Apt S (ftE b g)) (hs : Since w0 S) : Cl w0 w' b g c := ⟨h.ec.chg hc ha, h.ok, h.since, h.be.trans (hc.below (fun k e => hs k e) h.be.size)⟩
theorem Cl.box (h : Cl w0 w b g c) {m : Nat} {t : TypeId} {cs : List Value} (hp : Hp w m t cs) (h1 : t ≠ 50) (h2 : t ≠ 3) (hc : Chg w w' (ftE b g)) : Hp w' m t cs := hp.chg hc (fun e => by rcases e with e | e; exact hp_type hp h.ec.hp h1 e; exact hp_type hp h.ec.row h2 e)
theorem Cl.enter (h : Cl w0 w b g c) (x : Int) {n E : Int} (HQ : Hid (c.enter x = (n, E, c'))) : Calls Try.prog 9 #[.pointer (some ⟨b, 0, none⟩), .int .i64 x] w fun e w' => e = .returned (.tuple #[.int .i64 n, .int .i64 E]) ∧ Cl w0 w' b g c' ∧ Chg w w' (ftE b g) := by
  refine (lenter h.ec x HQ).mono ?_
  rintro e w' ⟨rfl, h1, h2⟩
  have := h.ok.enter x
  rw [HQ.out] at this
  exact ⟨rfl, h.step h1 this h2, h2⟩
theorem Cl.leave (h : Cl w0 w b g c) {v : Value} {ws : List Int} (hs : Sees .i64 w v ws) (hap : ws ≠ [] → Apt (ftE b g) (ftV v)) {E : Int} (HQ : Hid (c.leave ws = (E, c'))) : Calls Try.prog 11 #[.pointer (some ⟨b, 0, none⟩), v] w fun e w' => e = .returned (.int .i64 E) ∧ Cl w0 w' b g c' ∧ Chg w w' (ftE b g) := by
  refine (lleave h.ec h.ok hs hap HQ).mono ?_
  rintro e w' ⟨rfl, h1, h2⟩
  have := h.ok.leave ws
  rw [HQ.out] at this
  exact ⟨rfl, h.step h1 this h2, h2⟩
/-- What was there ahead of the clock is apart from it. -/
theorem Cl.apt (h : Cl w0 w b g c) {v : Value} {ws : List Int} (hl : ws ≠ [] → ∀ k, ftV v k → k < w0.heap.size) : ws ≠ [] → Apt (ftE b g) (ftV v) := fun hne k hk e => by
  have := hl hne k e
  have := h.since k hk
  omega
theorem Cl.advance (h : Cl w0 w b g c) (hl : c.now ≤ 1000000000000000000) {d : Ck} (HD : Hid (c.go = d)) : Calls Try.prog 13 #[.pointer (some ⟨b, 0, none⟩)] w fun e w' => e = .returned (.int .i64 (c.now + 1)) ∧ Cl w0 w' b g d ∧ Chg w w' (ftE b g) := by
  refine (ladvance h.ec (by have := h.ok.now; omega) hl).mono ?_
  rintro e w' ⟨rfl, h1, h2⟩
  rw [← HD.out]
  exact ⟨rfl, h.step h1 h.ok.go h2, h2⟩
end
set_option maxHeartbeats 4000000 in
theorem awake17_any (w : World) : Calls Try.prog 7 #[] w fun e w' => e = .returned (.bool true) ∧ Below w.heap.size w w' := by
  have HQ1 : Hid ((Ck.new 2).enter 0 = (1, 0, ⟨1, [1, 0]⟩)) := by show _ = _; rfl
  have HD : Hid ((⟨1, [1, 0]⟩ : Ck).go = ⟨2, [1, 0]⟩) := by show _ = _; rfl
  have HS2 : Hid ((⟨2, [1, 0]⟩ : Ck).safe 2 = false) := by show _ = _; rfl
  have HS1 : Hid ((⟨2, [1, 0]⟩ : Ck).safe 1 = true) := by show _ = _; rfl
  have HNW := keepG (lnew_ok 2 (by omega) (by omega) w)
  go_enter Try.func7, Try.ntmps7
  go_wp2_with (first
    | (go_at_call 8; go_must (refine HNW.out.mono ?_); rintro e w1 ⟨rfl, hE, hS, hb⟩; go_must (have HC0 : Hid (Cl w w1 (w.heap.size + 1) w.heap.size (Ck.new 2)) := ⟨hE, Ck.Ok.new (by omega) (by omega), hS, hb⟩; clear hE hS hb))
    | (go_at_call 9; go_must (refine (HC0.out.enter 0 HQ1).mono ?_); rintro e w2 ⟨rfl, hC1, _⟩; go_must (have HC1 := keepG hC1; clear hC1))
    | (go_at_call 13; go_must (refine (HC1.out.advance (by decide) HD).mono ?_); rintro e w3 ⟨rfl, hC2, _⟩; go_must (have HC2 := keepG hC2; clear hC2))
    | (go_at_call 15; have hq := HS2; clear hq; go_must (refine (lsafe HC2.out.ec (by decide) 2 HS2).mono ?_); rintro e w4 ⟨rfl, rfl⟩; clear HS2)
    | (go_at_call 15; go_must (refine (lsafe HC2.out.ec (by decide) 1 HS1).mono ?_); rintro e w4 ⟨rfl, rfl⟩))
  go_ret
  exact ⟨rfl, HC2.out.be⟩
end Go.Proofs.Ytkcbiiiakkpegaa
