
/-
  Layer 19: a table in the midst of a law; the calls whose answers the document's examples fix. No condition.
-/
import Derived.Test.YtknijloificpmaaW19Kit
namespace Go.Proofs.Ytknijloificpmaa
open Go.RowKit
set_option linter.unusedVariables false
set_option linter.unusedSimpArgs false
set_option maxRecDepth 100000
/-- A table that was made since a world, and its blocks. -/
structure Lz (w0 w : World) (b : Nat) (F : Ft) (t : Tb) : Prop where
  ex : ∃ B, B ≤ w.heap.size ∧ Lt w B b F t
  since : Since w0 F
  ok : t.Ok
  be : Below w0.heap.size w0 w
section
variable {w0 w w' : World} {b : Nat} {F F' G : Ft} {t t' : Tb}
theorem Lz.lies (h : Lz w0 w b F t) : Lies w F := by
  obtain ⟨B, _, h1⟩ := h.ex
  exact h1.lies
theorem Lz.keeps (h : Lz w0 w b F t) (hc : Chg w w' G) (ha : Apt G F) (hs : Since w0 G) : Lz w0 w' b F t := by
  obtain ⟨B, h0, h1⟩ := h.ex
  exact ⟨⟨B, Nat.le_trans h0 hc.size, h1.keeps hc ha⟩, h.since, h.ok, h.be.trans (hc.below (fun k e => hs k e) h.be.size)⟩
theorem Lz.below (h : Lz w0 w b F t) (hb : Below w.heap.size w w') : Lz w0 w' b F t := h.keeps (Chg.of_below (S := fun _ => False) hb) (fun _ e => e.elim) (fun _ e => e.elim)
theorem Lz.drewN (h : Lz w0 w b F t) (k : Nat) : Lz w0 (w.drewN k) b F t := h.below ⟨rfl, rfl, rfl, Nat.le_refl _, fun _ _ => rfl⟩
theorem Lz.apt (h : Lz w0 w b F t) {v : Value} {ws : List Int} (hl : ws ≠ [] → ∀ k, ftV v k → k < w0.heap.size) : ws ≠ [] → Apt F (ftV v) := fun hne k hk e => by
  have := hl hne k e
  have := h.since k hk
  omega
/-- What lies where nothing of the table lies. -/
theorem Lz.aptN (h : Lz w0 w b F t) {v : Value} {ws : List Int} (hl : ∀ k, ftV v k → w.heap.size ≤ k) : ws ≠ [] → Apt F (ftV v) := fun _ k hk e => by
  have := hl k e
  have := h.lies k hk
  omega
theorem Lz.attach (h : Lz w0 w b F t) (hla : t.last ≤ 1000000000000000) (x p : Int) {v E : Int} (HQ : Hid (t.put false x p = (v, E, t'))) : Calls Try.prog 13 #[.pointer (some ⟨b, 0, none⟩), .int .i64 x, .int .i64 p] w fun e w' => e = .returned (.tuple #[.int .i64 v, .int .i64 E]) ∧ ∃ F', Lz w0 w' b F' t' ∧ Nx w w' F F' := by
  obtain ⟨B, h0, h1⟩ := h.ex
  refine (h1.attach h.ok h0 hla x p HQ).mono ?_
  rintro e w' ⟨rfl, F', g1, g2⟩
  exact ⟨rfl, F', ⟨⟨B, Nat.le_trans h0 g2.chg.size, g1⟩, h.since.next h.be.size g2, h.ok.put HQ.out, h.since.be h.be g2⟩, g2⟩
theorem Lz.swap (h : Lz w0 w b F t) (hla : t.last ≤ 1000000000000000) (x p : Int) {v E : Int} (HQ : Hid (t.put true x p = (v, E, t'))) : Calls Try.prog 14 #[.pointer (some ⟨b, 0, none⟩), .int .i64 x, .int .i64 p] w fun e w' => e = .returned (.tuple #[.int .i64 v, .int .i64 E]) ∧ ∃ F', Lz w0 w' b F' t' ∧ Nx w w' F F' := by
  obtain ⟨B, h0, h1⟩ := h.ex
  refine (h1.swap h.ok h0 hla x p HQ).mono ?_
  rintro e w' ⟨rfl, F', g1, g2⟩
  exact ⟨rfl, F', ⟨⟨B, Nat.le_trans h0 g2.chg.size, g1⟩, h.since.next h.be.size g2, h.ok.put HQ.out, h.since.be h.be g2⟩, g2⟩
theorem Lz.detach (h : Lz w0 w b F t) {u : Value} {xs : List Int} (hs : Sees .i64 w u xs) (hap : xs ≠ [] → Apt F (ftV u)) {E : Int} (HQ : Hid (t.det xs = (E, t'))) (hz : Hid (xs.length * 8 ≤ 140737488355328) := by first | assumption | (show _ ≤ _; simp)) : Calls Try.prog 15 #[.pointer (some ⟨b, 0, none⟩), u] w fun e w' => e = .returned (.int .i64 E) ∧ ∃ F', Lz w0 w' b F' t' ∧ Nx w w' F F' := by
  obtain ⟨B, h0, h1⟩ := h.ex
  refine (h1.detach h.ok h0 hz hs hap HQ).mono ?_
  rintro e w' ⟨rfl, F', g1, g2⟩
  exact ⟨rfl, F', ⟨⟨B, Nat.le_trans h0 g2.chg.size, g1⟩, h.since.next h.be.size g2, h.ok.det HQ.out, h.since.be h.be g2⟩, g2⟩
theorem Lz.fresh (h : Lz w0 w b F t) (hla : t.last ≤ 1000000000000000) (HQ : Hid (t.fresh = t')) : Calls Try.prog 20 #[.pointer (some ⟨b, 0, none⟩)] w fun e w' => e = .returned (.int .i64 t'.last) ∧ ∃ F', Lz w0 w' b F' t' ∧ Nx w w' F F' := by
  obtain ⟨B, h0, h1⟩ := h.ex
  refine (h1.fresh h.ok hla HQ).mono ?_
  rintro e w' ⟨rfl, F', g1, g2⟩
  exact ⟨rfl, F', ⟨⟨B, Nat.le_trans h0 g2.chg.size, g1⟩, h.since.next h.be.size g2, by rw [← HQ.out]; exact h.ok.fresh, h.since.be h.be g2⟩, g2⟩
theorem Lz.last (h : Lz w0 w b F t) : Calls Try.prog 10 #[.pointer (some ⟨b, 0, none⟩)] w fun e w' => e = .returned (.int .i64 t.last) ∧ w = w' := by
  obtain ⟨B, h0, h1⟩ := h.ex
  exact h1.last
theorem Lz.current (h : Lz w0 w b F t) (x : Int) {cv cp : Int} {r : Bool} (HC : Hid (t.cur x = (cv, cp, r))) : Calls Try.prog 11 #[.pointer (some ⟨b, 0, none⟩), .int .i64 x] w fun e w' => e = .returned (.tuple #[.int .i64 cv, .int .i64 cp, .bool r]) ∧ Below w.heap.size w w' := by
  obtain ⟨B, h0, h1⟩ := h.ex
  exact h1.current h.ok x HC
theorem Lz.wher (h : Lz w0 w b F t) {u : Value} {ps : List Int} (hs : Sees .i64 w u ps) {A : List Int} (HA : Hid (t.wh ps = A)) (hz : Hid (ps.length * 8 ≤ 140737488355328) := by first | assumption | (show _ ≤ _; simp)) : Calls Try.prog 16 #[.pointer (some ⟨b, 0, none⟩), u] w fun e w' => ∃ v, e = .returned v ∧ RoN w' w.heap.size v A ∧ Below w.heap.size w w' := by
  obtain ⟨B, h0, h1⟩ := h.ex
  exact h1.wher h.ok hz hs HA
theorem lznew_ok (n : Nat) (hn1 : 1 ≤ n) (hn : n ≤ 4) {w1 : World} (hb : Below w0.heap.size w0 w1) : Calls Try.prog 8 #[.int .i64 n] w1 fun e w' => ∃ b F, e = .returned (.tuple #[.pointer (some ⟨b, 0, none⟩), .int .i64 0]) ∧ Lz w0 w' b F (Tb.new n) ∧ Since w1 F ∧ Below w1.heap.size w1 w' := by
  refine (ltnew_ok n hn1 hn w1).mono ?_
  rintro e w' ⟨b, F, rfl, h1, h2, h3⟩
  exact ⟨b, F, rfl, ⟨⟨_, h3.size, h1⟩, fun k hk => Nat.le_trans hb.size (h2 k hk), Tb.Ok.new hn1 hn, hb.trans (h3.mono hb.size)⟩, h2, h3⟩
/-- A list of one number, written out. -/
theorem lit_one (w : World) (x : Int) (hx : (Lit.int .i64 x).wf = true) : ∃ Z, Hid (w.alloc (.cells #[.int .i64 x] 3) = Z) ∧ Below w.heap.size w Z ∧ Hid (Sees .i64 Z (.slice (some ⟨w.heap.size, 0, none⟩) 1 1) [x]) := ⟨_, rfl, below_allocG _ _, Sees.lit w .i64 _ [x] _ 1 rfl rfl (by simp) (by intro y hy; simp at hy; subst hy; exact hx)⟩
theorem lit_two (w : World) (x y : Int) (hx : (Lit.int .i64 x).wf = true) (hy : (Lit.int .i64 y).wf = true) : ∃ Z, Hid (w.alloc (.cells #[.int .i64 x, .int .i64 y] 3) = Z) ∧ Below w.heap.size w Z ∧ Hid (Sees .i64 Z (.slice (some ⟨w.heap.size, 0, none⟩) 2 2) [x, y]) := ⟨_, rfl, below_allocG _ _, Sees.lit w .i64 _ [x, y] _ 2 rfl rfl (by simp) (by intro z hz; simp at hz; rcases hz with e | e <;> subst e <;> assumption)⟩
theorem ft_lit {w : World} {k l c : Nat} : ftV (.slice (some ⟨w.heap.size, 0, none⟩) l c) k → w.heap.size ≤ k := fun e => by
  have : w.heap.size = k := Option.some.inj e
  omega
end
set_option maxHeartbeats 4000000 in
theorem awake19_any (w : World) : Calls Try.prog 7 #[] w fun e w' => e = .returned (.bool true) ∧ Below w.heap.size w w' := by
  obtain ⟨t1, HQ1⟩ : ∃ t1, Hid ((Tb.new 3).put false 1 70 = (1, 0, t1)) := ⟨_, rfl⟩
  obtain ⟨t2, HQ2⟩ : ∃ t2, Hid (t1.put true 1 71 = (2, 0, t2)) := ⟨(t1.put true 1 71).2.2, by
    show _ = _
    have := HQ1.out
    injection this with _ this
    injection this with _ this
    rw [← this]; rfl⟩
  have HC : Hid (t2.cur 1 = (2, 71, true)) := by
    show _ = _
    have h1 := HQ1.out
    injection h1 with _ h1
    injection h1 with _ h1
    have h2 := HQ2.out
    rw [← h1] at h2
    injection h2 with _ h2
    injection h2 with _ h2
    rw [← h2]; rfl
  have HL1 : Hid (t1.last ≤ 1000000000000000) := by
    have h1 := HQ1.out
    injection h1 with _ h1
    injection h1 with _ h1
    rw [← h1]
    show (1 : Int) ≤ _
    decide
  go_enter Try.func7, Try.ntmps7
  go_wp2_with (first
    | (go_at_call 8; go_must (refine (lznew_ok (w0 := w) 3 (by omega) (by omega) (Below.refl _ _)).mono ?_); rintro e w1 ⟨b, F, rfl, hL, _, _⟩; go_must (have HL := keepG hL; clear hL))
    | (go_at_call 13; go_must (refine (HL.out.attach (by decide) 1 70 HQ1).mono ?_); rintro e w2 ⟨rfl, F2, hL2, _⟩; go_must (have HL2 := keepG hL2; clear hL2))
    | (go_at_call 14; go_must (refine (HL2.out.swap HL1.out 1 71 HQ2).mono ?_); rintro e w3 ⟨rfl, F3, hL3, _⟩; go_must (have HL3 := keepG hL3; clear hL3))
    | (go_at_call 11; go_must (refine (HL3.out.current 1 HC).mono ?_); rintro e w4 ⟨rfl, hb4⟩; go_must (have HL4 := keepG (HL3.out.below hb4); clear hb4)))
  go_ret
  exact ⟨rfl, HL4.out.be⟩
end Go.Proofs.Ytknijloificpmaa
