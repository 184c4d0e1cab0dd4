
/-
  Layer 18: refs in the midst of a law; the calls whose answers the document's examples fix. No condition.
-/
import Derived.Test.YtonbaklbbmmljaaW18Kit
namespace Go.Proofs.Ytonbaklbbmmljaa
open Go.RowKit
set_option linter.unusedVariables false
set_option linter.unusedSimpArgs false
set_option maxRecDepth 100000
/-- Refs that were made since a world, and their blocks. -/
structure Lz (w0 w : World) (b : Nat) (F : Ft) (n : Nat) (P : Rs) (m : Nat) : Prop where
  ex : ∃ B, B ≤ w.heap.size ∧ Lq w B b F n P
  since : Since w0 F
  ok : Rs.Ok n P
  n4 : n ≤ 4
  len : P.length ≤ m
  be : Below w0.heap.size w0 w
section
variable {w0 w w' : World} {b n m : Nat} {F F' G : Ft} {P P' : Rs}
theorem Lz.lies (h : Lz w0 w b F n P m) : Lies w F := by
  obtain ⟨B, _, h1⟩ := h.ex
  exact h1.lies
theorem Lz.keeps (h : Lz w0 w b F n P m) (hc : Chg w w' G) (ha : Apt G F) (hs : Since w0 G) : Lz w0 w' b F n P m := by
  obtain ⟨B, h0, h1⟩ := h.ex
  exact ⟨⟨B, Nat.le_trans h0 hc.size, h1.keeps hc ha⟩, h.since, h.ok, h.n4, h.len, h.be.trans (hc.below (fun k e => hs k e) h.be.size)⟩
theorem Lz.below (h : Lz w0 w b F n P m) (hb : Below w.heap.size w w') : Lz w0 w' b F n P m := h.keeps (Chg.of_below (S := fun _ => False) hb) (fun _ e => e.elim) (fun _ e => e.elim)
theorem Lz.drewN (h : Lz w0 w b F n P m) (k : Nat) : Lz w0 (w.drewN k) b F n P m := h.below ⟨rfl, rfl, rfl, Nat.le_refl _, fun _ _ => rfl⟩
theorem Lz.mono (h : Lz w0 w b F n P m) {m' : Nat} (hm : m ≤ m') : Lz w0 w b F n P m' := ⟨h.ex, h.since, h.ok, h.n4, Nat.le_trans h.len hm, h.be⟩
theorem Lz.apt (h : Lz w0 w b F n P m) {v : Value} {ws : List Int} (hl : ws ≠ [] → ∀ k, ftV v k → k < w0.heap.size) : ws ≠ [] → Apt F (ftV v) := fun hne k hk e => by
  have := hl hne k e
  have := h.since k hk
  omega
/-- What lies where nothing of the refs lies. -/
theorem Lz.aptN (h : Lz w0 w b F n P m) {v : Value} {ws : List Int} (hl : ∀ k, ftV v k → w.heap.size ≤ k) : ws ≠ [] → Apt F (ftV v) := fun _ k hk e => by
  have := hl k e
  have := h.lies k hk
  omega
theorem Lz.hold (h : Lz w0 w b F n P m) (hm : m ≤ 9000) (p : Int) {u : Value} {ws : List Int} (hs : Sees .i64 w u ws) (hap : ws ≠ [] → Apt F (ftV u)) {E : Int} (HQ : Hid (Rs.hold n P p ws = (E, P'))) (hp : Hid ((Lit.int .i64 p).wf = true) := by first | assumption | exact (show (Lit.int .i64 _).wf = true from rfl)) (hz : Hid (ws.length * 8 ≤ 140737488355328) := by first | assumption | (show _ ≤ _; simp)) : Calls Try.prog 8 #[.pointer (some ⟨b, 0, none⟩), .int .i64 p, u] w fun e w' => e = .returned (.int .i64 E) ∧ ∃ F', Lz w0 w' b F' n P' (m + 1) ∧ Nx w w' F F' := by
  obtain ⟨B, h0, h1⟩ := h.ex
  have hl := h.len
  refine (h1.hold h.ok h.n4 (by omega) h0 p hp hz hs hap HQ).mono ?_
  rintro e w' ⟨rfl, F', g1, g2⟩
  have h5 := Rs.hold_len HQ.out
  exact ⟨rfl, F', ⟨⟨B, Nat.le_trans h0 g2.chg.size, g1⟩, h.since.next h.be.size g2, h.ok.hold HQ.out, h.n4, by omega, h.since.be h.be g2⟩, g2⟩
theorem Lz.drop (h : Lz w0 w b F n P m) (hm : m ≤ 9000) {u : Value} {ps : List Int} (hs : Sees .i64 w u ps) (hap : ps ≠ [] → Apt F (ftV u)) {E : Int} (HQ : Hid (Rs.drop P ps = (E, P'))) (hz : Hid (ps.length * 8 ≤ 140737488355328) := by first | assumption | (show _ ≤ _; simp)) : Calls Try.prog 10 #[.pointer (some ⟨b, 0, none⟩), u] w fun e w' => e = .returned (.int .i64 E) ∧ ∃ F', Lz w0 w' b F' n P' m ∧ Nx w w' F F' := by
  obtain ⟨B, h0, h1⟩ := h.ex
  have hl := h.len
  refine (h1.drop h.ok h.n4 (by omega) h0 hz hs hap HQ).mono ?_
  rintro e w' ⟨rfl, F', g1, g2⟩
  have h5 := Rs.drop_len HQ.out
  exact ⟨rfl, F', ⟨⟨B, Nat.le_trans h0 g2.chg.size, g1⟩, h.since.next h.be.size g2, h.ok.drop HQ.out, h.n4, by omega, h.since.be h.be g2⟩, g2⟩
theorem Lz.count (h : Lz w0 w b F n P m) (hm : m ≤ 9000) (x : Int) {c E : Int} (HC : Hid (cntH n P x = (c, E))) : Calls Try.prog 15 #[.pointer (some ⟨b, 0, none⟩), .int .i64 x] w fun e w' => e = .returned (.tuple #[.int .i64 c, .int .i64 E]) ∧ Below w.heap.size w w' := by
  obtain ⟨B, h0, h1⟩ := h.ex
  have hl := h.len
  exact h1.count h.ok h.n4 (by omega) x HC
theorem Lz.holders (h : Lz w0 w b F n P m) (hm : m ≤ 9000) (x : Int) {A : List Int} (HA : Hid (P.holders x = A)) : Calls Try.prog 16 #[.pointer (some ⟨b, 0, none⟩), .int .i64 x] w fun e w' => ∃ u, e = .returned u ∧ RoI w' w.heap.size u A ∧ Below w.heap.size w w' := by
  obtain ⟨B, h0, h1⟩ := h.ex
  have hl := h.len
  exact h1.holders h.ok h.n4 (by omega) x HA
theorem Lz.held (h : Lz w0 w b F n P m) (hm : m ≤ 9000) (p : Int) {A : List Int} {r : Bool} (HA : Hid (heldL P p = (A, r))) (hp : Hid (r = true ∨ (Lit.int .i64 p).wf = true) := by first | exact Or.inl rfl | exact Or.inr (by assumption) | exact Or.inr rfl) : Calls Try.prog 14 #[.pointer (some ⟨b, 0, none⟩), .int .i64 p] w fun e w' => ∃ u, e = .returned (.tuple #[u, .bool r]) ∧ RoI w' w.heap.size u A ∧ Below w.heap.size w w' := by
  obtain ⟨B, h0, h1⟩ := h.ex
  have hl := h.len
  have hw : Hid ((Lit.int .i64 p).wf = true) := by
    rcases hp.out with e | e
    · refine h1.wf ?_
      have hq := HA.out
      unfold heldL at hq
      cases hh : P.held p with
      | none => rw [hh, e] at hq; injection hq with _ e2; cases e2
      | some ms => exact Rs.held_has hh
    · exact e
  exact h1.held h.ok h.n4 (by omega) p hw HA
theorem lznew_ok (n : Nat) (hn : n ≤ 4) {w1 : World} (hb : Below w0.heap.size w0 w1) : Calls Try.prog 7 #[.int .i64 n] w1 fun e w' => ∃ b F, e = .returned (.tuple #[.pointer (some ⟨b, 0, none⟩), .int .i64 0]) ∧ Lz w0 w' b F n [] 0 ∧ Since w1 F ∧ Below w1.heap.size w1 w' := by
  refine (lqnew_ok n hn w1).mono ?_
  rintro e w' ⟨b, F, rfl, h1, h2, h3⟩
  exact ⟨b, F, rfl, ⟨⟨_, h3.size, h1⟩, fun k hk => Nat.le_trans hb.size (h2 k hk), Rs.Ok.nil n, hn, by simp, hb.trans (h3.mono hb.size)⟩, h2, h3⟩
/-- A list of one number, written out. -/
theorem lit_one (w : World) (x : Int) (hx : (Lit.int .i64 x).wf = true) : ∃ Z, Hid (w.alloc (.cells #[.int .i64 x] 3) = Z) ∧ Below w.heap.size w Z ∧ Hid (Sees .i64 Z (.slice (some ⟨w.heap.size, 0, none⟩) 1 1) [x]) := ⟨_, rfl, below_allocG _ _, Sees.lit w .i64 _ [x] _ 1 rfl rfl (by simp) (by intro y hy; simp at hy; subst hy; exact hx)⟩
theorem lit_two (w : World) (x y : Int) (hx : (Lit.int .i64 x).wf = true) (hy : (Lit.int .i64 y).wf = true) : ∃ Z, Hid (w.alloc (.cells #[.int .i64 x, .int .i64 y] 3) = Z) ∧ Below w.heap.size w Z ∧ Hid (Sees .i64 Z (.slice (some ⟨w.heap.size, 0, none⟩) 2 2) [x, y]) := ⟨_, rfl, below_allocG _ _, Sees.lit w .i64 _ [x, y] _ 2 rfl rfl (by simp) (by intro z hz; simp at hz; rcases hz with e | e <;> subst e <;> assumption)⟩
theorem ft_lit {w : World} {k l c : Nat} : ftV (.slice (some ⟨w.heap.size, 0, none⟩) l c) k → w.heap.size ≤ k := fun e => by
  have : w.heap.size = k := Option.some.inj e
  omega
end
set_option maxHeartbeats 4000000 in
theorem awake18_any (w : World) : Calls Try.prog 6 #[] w fun e w' => e = .returned (.bool true) ∧ Below w.heap.size w w' := by
  have HQ1 : Hid (Rs.hold 3 [] 7 [2, 0] = (0, [⟨7, [2, 0]⟩])) := by show _ = _; rfl
  have HC1 : Hid (cntH 3 [⟨7, [2, 0]⟩] 2 = (1, 0)) := by show _ = _; rfl
  have HL1 : Hid (heldL [⟨7, [2, 0]⟩] 7 = ([2, 0], true)) := by show _ = _; rfl
  have HQ2 : Hid (Rs.hold 3 [⟨7, [2, 0]⟩] 7 [] = (42, [⟨7, [2, 0]⟩])) := by show _ = _; rfl
  go_enter Try.func6, Try.ntmps6
  go_wp2_with (first
    | (go_at_call 7; go_must (refine (lznew_ok (w0 := w) 3 (by omega) (Below.refl _ _)).mono ?_); rintro e w1 ⟨b, F, rfl, hL, _, _⟩; go_must (have HL := keepG hL; obtain ⟨Z, HZ, hbZ, HSZ⟩ := lit_two w1 2 0 rfl rfl; have HLZ := keepG (hL.below hbZ); clear hL))
    | (go_at_call 8; have hq := HQ1; clear hq; rw [HZ.out]; go_must (refine (HLZ.out.hold (by omega) 7 HSZ.out (fun _ k hk e => by have h5 := HL.out.lies k hk; have h6 := ft_lit e; omega) HQ1).mono ?_); rintro e w2 ⟨rfl, F2, hL2, _⟩; go_must (have HL2 := keepG hL2; clear hL2 HQ1))
    | (go_at_call 15; go_must (refine (HL2.out.count (by omega) 2 HC1).mono ?_); rintro e w3 ⟨rfl, hb3⟩; go_must (have HL3 := keepG (HL2.out.below hb3); clear hb3))
    | (go_at_call 14; go_must (refine (HL3.out.held (by omega) 7 HL1).mono ?_); rintro e w4 ⟨u, rfl, hu, hb4⟩; go_must (have HL4 := keepG (HL3.out.below hb4); obtain ⟨up, uc, rfl, _, _, _, _, hcl, _⟩ := hu.cells (by decide); have u0 := (hcl 0 (by decide)).1; clear hb4 hcl hu))
    | (go_at_call 8; go_must (refine (HL4.out.hold (by omega) 7 (Sees.nil _ _) (fun hne => absurd rfl hne) HQ2).mono ?_); rintro e w5 ⟨rfl, F5, hL5, _⟩; go_must (have HL5 := keepG hL5; clear hL5)))
  go_ret
  exact ⟨rfl, HL5.out.be⟩
end Go.Proofs.Ytonbaklbbmmljaa
