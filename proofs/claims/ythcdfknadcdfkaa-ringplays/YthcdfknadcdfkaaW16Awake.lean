
/-
  Layer 16: the calls whose answers the document's examples fix. No condition.
-/
import Derived.Test.YthcdfknadcdfkaaR16LE
namespace Go.Proofs.Ythcdfknadcdfkaa
open Go.RowKit
set_option linter.unusedVariables false
set_option linter.unusedSimpArgs false
set_option maxRecDepth 100000
/-- A ring with Numbers of its own. -/
structure Lr (w : World) (B b : Nat) (r : Rg) (last : Int) (F : Ft) : Prop where
  ex : ∃ nb F0, Lo w B b nb r F0 ∧ Nm w nb last ∧ F = FN F0 nb
section
variable {w w' : World} {B b : Nat} {r : Rg} {F G : Ft} {last : Int}
theorem Lr.lies (h : Lr w B b r last F) : Lies w F := by
  obtain ⟨nb, F0, h1, h2, rfl⟩ := h.ex
  intro k hk
  rcases hk with e | e
  · exact h1.lies k e
  · rw [e]; exact Hp.lt h2
theorem Lr.keeps (h : Lr w B b r last F) (hc : Chg w w' G) (ha : Apt G F) : Lr w' B b r last F := by
  obtain ⟨nb, F0, h1, h2, rfl⟩ := h.ex
  exact ⟨⟨nb, F0, h1.keeps hc (fun k g e => ha k g (.inl e)), Hp.chg h2 hc (fun e => ha nb e (.inr rfl)), rfl⟩⟩
theorem Lr.below (h : Lr w B b r last F) (hb : Below w.heap.size w w') : Lr w' B b r last F := h.keeps (Chg.of_below (S := fun _ => False) hb) (fun _ e => e.elim)
theorem Lr.other (h : Lr w B b r last F) {m : Nat} {t : TypeId} {cs : List Value} (hp : Hp w m t cs) (h1 : t ≠ 62) (h2 : t ≠ 46) (h3 : t ≠ 26) : ¬ F m := by
  obtain ⟨nb, F0, g1, g2, rfl⟩ := h.ex
  rintro (e | e)
  · exact g1.other hp h1 h2 e
  · exact hp_type hp g2 h3 e
theorem lrnew_any (n : Nat) (h1 : 1 ≤ n) (h2 : n ≤ 16) (w : World) : Calls Try.prog 8 #[.int .i64 n, .pointer (some ⟨w.heap.size, 0, none⟩)] (w.alloc (.cells #[.int .i64 0] 26)) fun e w' => ∃ b F, e = .returned (.tuple #[.pointer (some ⟨b, 0, none⟩), .int .i64 0]) ∧ Lr w' w.heap.size b (Rg.new n) 0 F ∧ Since w F ∧ Below w.heap.size w w' := by
  refine (lonew_ok n h1 h2 _).mono ?_
  rintro e w' ⟨b, F, rfl, hL, hs, hb⟩
  have hz : (w.alloc (.cells #[.int .i64 0] 26)).heap.size = w.heap.size + 1 := by simp
  have hn : Nm (w.alloc (.cells #[.int .i64 0] 26)) w.heap.size 0 := Hp.new w [.int .i64 0] _
  refine ⟨b, FN F w.heap.size, rfl, ⟨⟨w.heap.size, F, ?_, Hp.below hn hb (by omega), rfl⟩⟩, fun k hk => ?_, (below_allocG w _).trans (hb.mono (by omega))⟩
  · obtain ⟨v, hv, hF⟩ := hL
    exact ⟨v, ⟨hv.hp, own_lowG hv.row (by omega)⟩, hF⟩
  · rcases hk with e | e
    · have := hs k e; omega
    · omega
theorem Lr.accept (ea eb : Int) (h : Lr w B b r last F) (hk : r.Ok) (hB : B ≤ w.heap.size) (h0 : 0 ≤ last) (hla : last ≤ 1000000000000000000) (hr : r.refused ≤ 1000000000000000000) {q E last' : Int} {r' : Rg} (HQ : Hid (r.accept ea eb (last + 1) = (q, E, r'))) (HL : Hid ((if E = 0 then last + 1 else last) = last')) :
    Calls Try.prog 10 #[.pointer (some ⟨b, 0, none⟩), .agg #[.int .u64 ea, .int .u64 eb]] w fun e w' => e = .returned (.tuple #[.int .i64 q, .int .i64 E]) ∧ ∃ F', Lr w' B b r' last' F' ∧ Nx w w' F F' := by
  obtain ⟨nb, F0, h1, h2, rfl⟩ := h.ex
  refine (h1.accept ea eb hk h2 hB h0 hla hr HQ HL).mono ?_
  rintro e w' ⟨rfl, F', g1, g2, g3⟩
  exact ⟨rfl, _, ⟨⟨nb, F', g1, g2, rfl⟩⟩, g3⟩
theorem Lr.take (h : Lr w B b r last F) (hk : r.Ok) (hm : r.all.length ≤ 1000000000000000) {q : Qe} {o : Bool} {r' : Rg} (HQ : Hid (r.take = (q, o, r'))) :
    Calls Try.prog 12 #[.pointer (some ⟨b, 0, none⟩)] w fun e w' => e = .returned (.tuple #[qeV q, .bool o]) ∧ Lr w' B b r' last F ∧ Nx w w' F F := by
  obtain ⟨nb, F0, h1, h2, rfl⟩ := h.ex
  have hn : ¬ F0 nb := h1.other h2 (by decide) (by decide)
  refine (h1.take hk hm HQ).mono ?_
  rintro e w' ⟨rfl, g1, g2⟩
  exact ⟨rfl, ⟨⟨nb, F0, g1, Hp.chg h2 g2.chg hn, rfl⟩⟩, g2.fn nb⟩
theorem Lr.waits (h : Lr w B b r last F) (hk : r.Ok) {A : List Qe} (HA : Hid (r.waits = A)) : Calls Try.prog 17 #[.pointer (some ⟨b, 0, none⟩)] w fun e w' => ∃ u, e = .returned u ∧ w'.ownsRow w.heap.size 46 3 u A.length (flatG qeC A) ∧ Below w.heap.size w w' := by
  obtain ⟨nb, F0, h1, h2, rfl⟩ := h.ex
  rw [← HA.out]
  exact h1.waits hk
theorem Lr.shut (h : Lr w B b r last F) (hk : r.Ok) (hm : r.all.length ≤ 1000000000000000) (hB : B ≤ w.heap.size) {A : List Qe} (HA : Hid (r.waits = A)) : Calls Try.prog 15 #[.pointer (some ⟨b, 0, none⟩)] w fun e w' => ∃ u F', e = .returned u ∧ w'.ownsRow w.heap.size 46 3 u A.length (flatG qeC A) ∧ Lr w' B b r.shut.2 last F' ∧ Nx w w' F F' ∧ Lies w F' := by
  obtain ⟨nb, F0, h1, h2, rfl⟩ := h.ex
  have hn : ¬ F0 nb := h1.other h2 (by decide) (by decide)
  have hl := Hp.lt h2
  rw [← HA.out]
  refine (h1.shut hk hm hB).mono ?_
  rintro e w' ⟨u, F', rfl, g1, g2, g3, g4⟩
  refine ⟨u, _, rfl, g1, ⟨⟨nb, F', g2, Hp.chg h2 g3.chg hn, rfl⟩⟩, g3.fn nb, fun k hk => ?_⟩
  rcases hk with e | e
  · exact g4 k e
  · omega
theorem Lr.counts (h : Lr w B b r last F) (hk : r.Ok) (hm : r.all.length ≤ 1000000000000000) {a rf t d q : Int} (HQ : Hid (r.counts = (a, rf, t, d, q))) : Calls Try.prog 19 #[.pointer (some ⟨b, 0, none⟩)] w fun e w' => e = .returned (cntV a rf t d q) ∧ Below w.heap.size w w' := by
  obtain ⟨nb, F0, h1, h2, rfl⟩ := h.ex
  exact h1.counts hk hm HQ
end
set_option maxHeartbeats 4000000 in
theorem awake16_any (w : World) : Calls Try.prog 7 #[] w fun e w' => e = .returned (.bool true) ∧ Below w.heap.size w w' := by
  have HQ1 : Hid ((Rg.new 2).accept 1 1 (0 + 1) = (1, 0, ⟨2, 0, 0, false, [⟨1, 1, 1⟩]⟩)) := by show _ = _; rfl
  have HQ2 : Hid ((⟨2, 0, 0, false, [⟨1, 1, 1⟩]⟩ : Rg).take = (⟨1, 1, 1⟩, true, ⟨2, 1, 0, false, [⟨1, 1, 1⟩]⟩)) := by show _ = _; unfold Rg.take Rg.waits; simp
  have hk0 : (Rg.new 2).Ok := Rg.Ok.new (by omega) (by omega)
  have hk1 : (⟨2, 0, 0, false, [⟨1, 1, 1⟩]⟩ : Rg).Ok := by have := hk0.accept 1 1 (0 + 1); rw [HQ1.out] at this; exact this
  have HNW := keepG (lrnew_any 2 (by omega) (by omega) w)
  go_enter Try.func7, Try.ntmps7
  go_wp2_with (first
    | (go_at_call 8; go_must (refine HNW.out.mono ?_); rintro e w0 ⟨b, F0, rfl, hL0, hs0, hb0⟩; go_must (have HL0 := keepG hL0; have HS0 := keepG hs0; have HB0 := keepG hb0; have hz0 := hb0.size; clear hL0 hs0 hb0))
    | (go_at_call 10; go_must (refine (HL0.out.accept 1 1 hk0 (by omega) (by omega) (by omega) (Nat.zero_le _) HQ1 (show Hid _ from rfl)).mono ?_); rintro e w1 ⟨rfl, F1, hL1, hn1⟩; go_must (have HL1 := keepG hL1; have HS1 := keepG (HS0.out.next hz0 hn1); have HB1 := keepG (HS0.out.be HB0.out hn1); have hz1 := HB1.out.size; clear hL1 hn1))
    | (go_at_call 12; go_must (refine (HL1.out.take hk1 (by decide) HQ2).mono ?_); rintro e w2 ⟨rfl, hL2, hn2⟩; go_must (have HB2 := keepG (HS1.out.be HB1.out hn2); have hz2 := HB2.out.size; clear hL2 hn2)))
  go_ret
  exact ⟨rfl, HB2.out.trans (below_allocG _ _ |>.mono hz2)⟩
end Go.Proofs.Ythcdfknadcdfkaa
