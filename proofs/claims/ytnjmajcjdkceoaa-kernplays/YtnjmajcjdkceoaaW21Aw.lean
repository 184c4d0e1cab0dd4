
/-
  Layer 21: a kern in the midst of a law; the calls whose answers the document's examples fix. No condition.
-/
import Derived.Test.YtnjmajcjdkceoaaW21Kit
namespace Go.Proofs.Ytnjmajcjdkceoaa
open Go.RowKit
set_option linter.unusedVariables false
set_option linter.unusedSimpArgs false
set_option maxRecDepth 100000
/-- A kern that was made since a world, and its blocks. -/
structure Lz (w0 w : World) (b : Nat) (F : Ft) (K : Kn) : Prop where
  ex : ∃ B, B ≤ w.heap.size ∧ Lk w B b F K
  since : Since w0 F
  ok : K.Ok
  be : Below w0.heap.size w0 w
section
variable {w0 w w' : World} {b : Nat} {F F' G : Ft} {K K' : Kn}
theorem Lz.lies (h : Lz w0 w b F K) : Lies w F := by
  obtain ⟨B, _, h1⟩ := h.ex
  exact h1.lies
theorem Lz.keeps (h : Lz w0 w b F K) (hc : Chg w w' G) (ha : Apt G F) (hs : Since w0 G) : Lz w0 w' b F K := by
  obtain ⟨B, h0, h1⟩ := h.ex
  exact ⟨⟨B, Nat.le_trans h0 hc.size, h1.keeps hc ha⟩, h.since, h.ok, h.be.trans (hc.below (fun k e => hs k e) h.be.size)⟩
theorem Lz.below (h : Lz w0 w b F K) (hb : Below w.heap.size w w') : Lz w0 w' b F K := h.keeps (Chg.of_below (S := fun _ => False) hb) (fun _ e => e.elim) (fun _ e => e.elim)
theorem Lz.apt (h : Lz w0 w b F K) {v : Value} {α : Type} {ws : List α} (hl : ws ≠ [] → ∀ k, ftV v k → k < w0.heap.size) : ws ≠ [] → Apt F (ftV v) := fun hne k hk e => by
  have := hl hne k e
  have := h.since k hk
  omega
/-- What lies where nothing of the kern lies. -/
theorem Lz.aptN (h : Lz w0 w b F K) {v : Value} {α : Type} {ws : List α} (hl : ∀ k, ftV v k → w.heap.size ≤ k) : ws ≠ [] → Apt F (ftV v) := fun _ k hk e => by
  have := hl k e
  have := h.lies k hk
  omega
theorem Lz.step (h : Lz w0 w b F K) (hx : ∃ B, B ≤ w.heap.size ∧ Lk w' B b F' K') (hk : K'.Ok) (hn : Nx w w' F F') : Lz w0 w' b F' K' := by
  obtain ⟨B, h0, h1⟩ := hx
  exact ⟨⟨B, Nat.le_trans h0 hn.chg.size, h1⟩, h.since.next h.be.size hn, hk, h.since.be h.be hn⟩
theorem Lz.wake (h : Lz w0 w b F K) {u : Value} {xs : List Int} (hs : Sees .i64 w u xs) (hap : xs ≠ [] → Apt F (ftV u)) {E : Int} (HQ : Hid (K.turn 1 xs = (E, K'))) (hz : Hid (xs.length * 8 ≤ 140737488355328) := by first | assumption | (show _ ≤ _; simp)) : Calls Try.prog 9 #[.pointer (some ⟨b, 0, none⟩), u] w fun e w' => e = .returned (.int .i64 E) ∧ ∃ F', Lz w0 w' b F' K' ∧ Nx w w' F F' := by
  obtain ⟨B, h0, h1⟩ := h.ex
  refine (h1.wake h.ok h0 hz hs hap HQ).mono ?_
  rintro e w' ⟨rfl, F', g1, g2⟩
  exact ⟨rfl, F', h.step ⟨B, h0, g1⟩ (h.ok.turn (.inr (.inl rfl)) HQ.out) g2, g2⟩
theorem Lz.sleep (h : Lz w0 w b F K) {u : Value} {xs : List Int} (hs : Sees .i64 w u xs) (hap : xs ≠ [] → Apt F (ftV u)) {E : Int} (HQ : Hid (K.turn 0 xs = (E, K'))) (hz : Hid (xs.length * 8 ≤ 140737488355328) := by first | assumption | (show _ ≤ _; simp)) : Calls Try.prog 11 #[.pointer (some ⟨b, 0, none⟩), u] w fun e w' => e = .returned (.int .i64 E) ∧ ∃ F', Lz w0 w' b F' K' ∧ Nx w w' F F' := by
  obtain ⟨B, h0, h1⟩ := h.ex
  refine (h1.sleep h.ok h0 hz hs hap HQ).mono ?_
  rintro e w' ⟨rfl, F', g1, g2⟩
  exact ⟨rfl, F', h.step ⟨B, h0, g1⟩ (h.ok.turn (.inl rfl) HQ.out) g2, g2⟩
theorem Lz.done (h : Lz w0 w b F K) {u : Value} {xs : List Int} (hs : Sees .i64 w u xs) (hap : xs ≠ [] → Apt F (ftV u)) {E : Int} (HQ : Hid (K.turn 2 xs = (E, K'))) (hz : Hid (xs.length * 8 ≤ 140737488355328) := by first | assumption | (show _ ≤ _; simp)) : Calls Try.prog 12 #[.pointer (some ⟨b, 0, none⟩), u] w fun e w' => e = .returned (.int .i64 E) ∧ ∃ F', Lz w0 w' b F' K' ∧ Nx w w' F F' := by
  obtain ⟨B, h0, h1⟩ := h.ex
  refine (h1.done h.ok h0 hz hs hap HQ).mono ?_
  rintro e w' ⟨rfl, F', g1, g2⟩
  exact ⟨rfl, F', h.step ⟨B, h0, g1⟩ (h.ok.turn (.inr (.inr rfl)) HQ.out) g2, g2⟩
theorem Lz.set (h : Lz w0 w b F K) {u : Value} {rs : List Bool} (hs : SeesG bK 1 false w u rs) (hap : rs ≠ [] → Apt F (ftV u)) {E : Int} (HQ : Hid (K.set rs = (E, K'))) (hz : Hid (rs.length ≤ 140737488355328) := by first | assumption | (show _ ≤ _; simp)) : Calls Try.prog 13 #[.pointer (some ⟨b, 0, none⟩), u] w fun e w' => e = .returned (.int .i64 E) ∧ ∃ F', Lz w0 w' b F' K' ∧ Nx w w' F F' := by
  obtain ⟨B, h0, h1⟩ := h.ex
  refine (h1.set h.ok h0 hz hs hap HQ).mono ?_
  rintro e w' ⟨rfl, F', g1, g2⟩
  exact ⟨rfl, F', h.step ⟨B, h0, g1⟩ (h.ok.set HQ.out) g2, g2⟩
theorem Lz.pick (h : Lz w0 w b F K) (hla : K.p.length ≤ 1000000000000000) (c : Int) {t : Int} {r : Bool} (HQ : Hid (K.pick c = (t, r, K'))) : Calls Try.prog 15 #[.pointer (some ⟨b, 0, none⟩), .int .i64 c] w fun e w' => e = .returned (.tuple #[.int .i64 t, .bool r]) ∧ ∃ F', Lz w0 w' b F' K' ∧ Nx w w' F F' := by
  obtain ⟨B, h0, h1⟩ := h.ex
  refine (h1.pick h.ok h0 hla c HQ).mono ?_
  rintro e w' ⟨rfl, F', g1, g2⟩
  exact ⟨rfl, F', h.step ⟨B, h0, g1⟩ (h.ok.pick' HQ.out) g2, g2⟩
theorem Lz.fair (h : Lz w0 w b F K) (hla : K.p.length ≤ 1000000000000000) {t : Int} {r : Bool} (HQ : Hid (K.fair = (t, r, K'))) : Calls Try.prog 17 #[.pointer (some ⟨b, 0, none⟩)] w fun e w' => e = .returned (.tuple #[.int .i64 t, .bool r]) ∧ ∃ F', Lz w0 w' b F' K' ∧ Nx w w' F F' := by
  obtain ⟨B, h0, h1⟩ := h.ex
  refine (h1.fair h.ok h0 hla HQ).mono ?_
  rintro e w' ⟨rfl, F', g1, g2⟩
  exact ⟨rfl, F', h.step ⟨B, h0, g1⟩ (h.ok.fair HQ.out) g2, g2⟩
theorem Lz.turns (h : Lz w0 w b F K) : Calls Try.prog 23 #[.pointer (some ⟨b, 0, none⟩)] w fun e w' => e = .returned (.int .i64 K.p.length) ∧ w = w' := by
  obtain ⟨B, h0, h1⟩ := h.ex
  exact h1.turns
theorem Lz.ready (h : Lz w0 w b F K) {A : List Int} (HA : Hid (K.inM 1 = A)) : Calls Try.prog 20 #[.pointer (some ⟨b, 0, none⟩)] w fun e w' => ∃ v, e = .returned v ∧ RoN w' w.heap.size v A ∧ Below w.heap.size w w' := by
  obtain ⟨B, h0, h1⟩ := h.ex
  exact h1.ready h.ok HA
theorem Lz.ended (h : Lz w0 w b F K) {A : List Int} (HA : Hid (K.inM 2 = A)) : Calls Try.prog 22 #[.pointer (some ⟨b, 0, none⟩)] w fun e w' => ∃ v, e = .returned v ∧ RoN w' w.heap.size v A ∧ Below w.heap.size w w' := by
  obtain ⟨B, h0, h1⟩ := h.ex
  exact h1.ended h.ok HA
theorem lznew_ok (n : Nat) (hn1 : 1 ≤ n) (hn : n ≤ 64) {w1 : World} (hb : Below w0.heap.size w0 w1) : Calls Try.prog 8 #[.int .i64 n] w1 fun e w' => ∃ b F, e = .returned (.tuple #[.pointer (some ⟨b, 0, none⟩), .int .i64 0]) ∧ Lz w0 w' b F (Kn.new n) ∧ Since w1 F ∧ Below w1.heap.size w1 w' := by
  refine (lknew_ok n hn1 hn w1).mono ?_
  rintro e w' ⟨b, F, rfl, h1, h2, h3⟩
  exact ⟨b, F, rfl, ⟨⟨_, h3.size, h1⟩, fun k hk => Nat.le_trans hb.size (h2 k hk), Kn.Ok.new hn1 hn, hb.trans (h3.mono hb.size)⟩, h2, h3⟩
theorem lit_one (w : World) (x : Int) (hx : (Lit.int .i64 x).wf = true) : ∃ Z, Hid (w.alloc (.cells #[.int .i64 x] 3) = Z) ∧ Below w.heap.size w Z ∧ Hid (Sees .i64 Z (.slice (some ⟨w.heap.size, 0, none⟩) 1 1) [x]) := ⟨_, rfl, below_allocG _ _, Sees.lit w .i64 _ [x] _ 1 rfl rfl (by simp) (by intro y hy; simp at hy; subst hy; exact hx)⟩
theorem lit_two (w : World) (x y : Int) (hx : (Lit.int .i64 x).wf = true) (hy : (Lit.int .i64 y).wf = true) : ∃ Z, Hid (w.alloc (.cells #[.int .i64 x, .int .i64 y] 3) = Z) ∧ Below w.heap.size w Z ∧ Hid (Sees .i64 Z (.slice (some ⟨w.heap.size, 0, none⟩) 2 2) [x, y]) := ⟨_, rfl, below_allocG _ _, Sees.lit w .i64 _ [x, y] _ 2 rfl rfl (by simp) (by intro z hz; simp at hz; rcases hz with e | e <;> subst e <;> assumption)⟩
theorem ft_lit {w : World} {k l c : Nat} : ftV (.slice (some ⟨w.heap.size, 0, none⟩) l c) k → w.heap.size ≤ k := fun e => by
  have : w.heap.size = k := Option.some.inj e
  omega
end
set_option maxHeartbeats 4000000 in
theorem awake21_any (w : World) : Calls Try.prog 7 #[] w fun e w' => e = .returned (.bool true) ∧ Below w.heap.size w w' := by
  have HQ1 : Hid ((Kn.new 3).turn 1 [2, 0] = (0, ⟨[1, 0, 1], []⟩)) := by show _ = _; rfl
  have HQ2 : Hid ((⟨[1, 0, 1], []⟩ : Kn).pick 5 = (2, true, ⟨[1, 0, 1], [2]⟩)) := by show _ = _; rfl
  have HQ3 : Hid ((⟨[1, 0, 1], [2]⟩ : Kn).fair = (0, true, ⟨[1, 0, 1], [2, 0]⟩)) := by show _ = _; rfl
  go_enter Try.func7, Try.ntmps7
  go_wp2_with (first
    | (go_at_call 8; go_must (refine (lznew_ok (w0 := w) 3 (by omega) (by omega) (Below.refl _ _)).mono ?_); rintro e w1 ⟨b, F, rfl, hL, _, _⟩; go_must (have HL := keepG hL; clear hL; obtain ⟨Z, HZ, hbZ, HSZ⟩ := lit_two w1 2 0 rfl rfl; have HLZ := keepG (HL.out.below hbZ); have HAZ := keepG (HL.out.aptN (α := Int) (ws := [2, 0]) (v := .slice (some ⟨w1.heap.size, 0, none⟩) 2 2) (fun k e => ft_lit e)); clear hbZ))
    | (rw [HZ.out]; go_at_call 9; go_must (refine (HLZ.out.wake HSZ.out HAZ.out HQ1).mono ?_); rintro e w2 ⟨rfl, F2, hL2, _⟩; go_must (have HL2 := keepG hL2; clear hL2))
    | (go_at_call 15; go_must (refine (HL2.out.pick (by simp) 5 HQ2).mono ?_); rintro e w3 ⟨rfl, F3, hL3, _⟩; go_must (have HL3 := keepG hL3; clear hL3))
    | (go_at_call 17; go_must (refine (HL3.out.fair (by simp) HQ3).mono ?_); rintro e w4 ⟨rfl, F4, hL4, _⟩; go_must (have HL4 := keepG hL4; clear hL4))
    | (go_at_call 23; go_must (refine HL4.out.turns.mono ?_); rintro e w5 ⟨rfl, rfl⟩))
  go_ret
  exact ⟨rfl, HL4.out.be⟩
end Go.Proofs.Ytnjmajcjdkceoaa
