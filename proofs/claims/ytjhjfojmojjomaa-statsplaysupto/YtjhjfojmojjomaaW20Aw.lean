
/-
  Layer 20: the calls whose answers the document's examples fix. No condition.
-/
import Derived.Test.YtjhjfojmojjomaaS20LE
namespace Go.Proofs.Ytjhjfojmojjomaa
open Go.RowKit
set_option linter.unusedVariables false
set_option linter.unusedSimpArgs false
set_option maxRecDepth 100000
/-- Stats that were made since a world. -/
structure Lz (w0 w : World) (b : Nat) (F : Ft) (l : List To) : Prop where
  ex : ∃ B, B ≤ w.heap.size ∧ Lx w B b F l
  since : Since w0 F
  be : Below w0.heap.size w0 w
section
variable {w0 w w' : World} {b : Nat} {F F' G : Ft} {l L : List To}
theorem Lz.lies (h : Lz w0 w b F l) : Lies w F := by
  obtain ⟨B, _, h1⟩ := h.ex
  exact h1.lies
theorem Lz.keeps (h : Lz w0 w b F l) (hc : Chg w w' G) (ha : Apt G F) (hs : Since w0 G) : Lz w0 w' b F l := by
  obtain ⟨B, h0, h1⟩ := h.ex
  exact ⟨⟨B, Nat.le_trans h0 hc.size, h1.keeps hc ha⟩, h.since, h.be.trans (hc.below (fun k e => hs k e) h.be.size)⟩
theorem Lz.below (h : Lz w0 w b F l) (hb : Below w.heap.size w w') : Lz w0 w' b F l := h.keeps (Chg.of_below (S := fun _ => False) hb) (fun _ e => e.elim) (fun _ e => e.elim)
theorem Lz.drewN (h : Lz w0 w b F l) (k : Nat) : Lz w0 (w.drewN k) b F l := h.below ⟨rfl, rfl, rfl, Nat.le_refl _, fun _ _ => rfl⟩
theorem Lz.ran (h : Lz w0 w b F l) (x s c u : Int) {E : Int} (HQ : Hid (ranL l x s c u = (E, L))) : Calls Try.prog 16 #[.pointer (some ⟨b, 0, none⟩), .int .i64 x, .int .u64 s, .int .u64 c, .int .u64 u] w fun e w' => e = .returned (.int .i64 E) ∧ ∃ F', Lz w0 w' b F' L ∧ Nx w w' F F' := by
  obtain ⟨B, h0, h1⟩ := h.ex
  refine (h1.ran h0 x s c u HQ).mono ?_
  rintro e w' ⟨rfl, F', g1, g2⟩
  exact ⟨rfl, F', ⟨⟨B, Nat.le_trans h0 g2.chg.size, g1⟩, h.since.next h.be.size g2, h.since.be h.be g2⟩, g2⟩
theorem Lz.missed (h : Lz w0 w b F l) {v : Value} {hs : List Int} (hse : Sees .i64 w v hs) (hap : hs ≠ [] → Apt F (ftV v)) {E : Int} (HQ : Hid (missedL l hs = (E, L))) (hz : Hid (hs.length * 8 ≤ 140737488355328) := by first | assumption | (show _ ≤ _; simp)) : Calls Try.prog 17 #[.pointer (some ⟨b, 0, none⟩), v] w fun e w' => e = .returned (.int .i64 E) ∧ ∃ F', Lz w0 w' b F' L ∧ Nx w w' F F' := by
  obtain ⟨B, h0, h1⟩ := h.ex
  refine (h1.missed h0 hz hse hap HQ).mono ?_
  rintro e w' ⟨rfl, F', g1, g2⟩
  exact ⟨rfl, F', ⟨⟨B, Nat.le_trans h0 g2.chg.size, g1⟩, h.since.next h.be.size g2, h.since.be h.be g2⟩, g2⟩
theorem Lz.of (h : Lz w0 w b F l) (x : Int) {E : Int} {T : Ta} (HQ : Hid ((if isH x = true then (ofL x l, (0 : Int)) else (Ta.nil, 2)) = (T, E))) : Calls Try.prog 11 #[.pointer (some ⟨b, 0, none⟩), .int .i64 x] w fun e w' => e = .returned (.tuple #[taV T, .int .i64 E]) ∧ Below w.heap.size w w' := by
  obtain ⟨B, h0, h1⟩ := h.ex
  exact h1.of x HQ
theorem lznew {w1 : World} (hb : Below w0.heap.size w0 w1) : Calls Try.prog 7 #[] w1 fun e w' => ∃ b F, e = .returned (.pointer (some ⟨b, 0, none⟩)) ∧ Lz w0 w' b F [] ∧ Since w1 F ∧ Below w1.heap.size w1 w' := by
  refine (lxnew w1).mono ?_
  rintro e w' ⟨b, F, rfl, h1, h2, h3⟩
  exact ⟨b, F, rfl, ⟨⟨_, h3.size, h1⟩, fun k hk => Nat.le_trans hb.size (h2 k hk), hb.trans (h3.mono hb.size)⟩, h2, h3⟩
end
/-- A list of pointers, written out. -/
theorem lit_pt (w : World) (qs : List (Option Nat)) (hq : qs ≠ []) (hl : qs.length ≤ 100) : SeesG ptC 1 none (w.alloc (.cells (qs.map (fun q => Value.pointer (q.map (fun b => (⟨b, 0, none⟩ : Addr))))).toArray 24)) (.slice (some ⟨w.heap.size, 0, none⟩) qs.length qs.length) qs := by
  refine ⟨_, _, rfl, Nat.le_refl _, by unfold maxLen; omega, (fun e => by cases e), fun _ => ⟨_, _, rfl, by simp, fun k hk j hj => ?_⟩⟩
  obtain rfl : j = 0 := by omega
  have h5 := (Hp.new w (qs.map (fun q => Value.pointer (q.map (fun b => (⟨b, 0, none⟩ : Addr))))) 24).cell (j := k) (v := Value.pointer ((qs.getD k none).map (fun b => (⟨b, 0, none⟩ : Addr)))) (by simp [List.getD, hk])
  simp only [Nat.zero_add, Nat.mul_one, Nat.add_zero]
  exact h5
set_option maxHeartbeats 4000000 in
theorem awake20_any (w : World) : Calls Try.prog 6 #[] w fun e w' => e = .returned (.bool true) ∧ Below w.heap.size w w' := by
  have HQ1 : Hid (ranL [] 1 10 2 5 = (0, [⟨1, false, 10, 2, 5⟩])) := by show _ = _; rfl
  have HO : Hid ((if isH 1 = true then (ofL 1 [⟨1, false, 10, 2, 5⟩], (0 : Int)) else (Ta.nil, 2)) = (⟨1, 0, 10, 2, 5⟩, 0)) := by show _ = _; rfl
  go_enter Try.func6, Try.ntmps6
  go_wp2_with (first
    | (go_at_call 7; go_must (refine (lznew (w0 := w) (Below.refl _ _)).mono ?_); rintro e w1 ⟨b, F, rfl, hL, _, _⟩; go_must (have HL := keepG hL; clear hL))
    | (go_at_call 16; go_must (refine (HL.out.ran 1 10 2 5 HQ1).mono ?_); rintro e w2 ⟨rfl, F2, hL2, _⟩; go_must (have HL2 := keepG hL2; clear hL2))
    | (go_at_call 11; go_must (refine (HL2.out.of 1 HO).mono ?_); rintro e w3 ⟨rfl, hb3⟩; go_must (have HL3 := keepG (HL2.out.below hb3); clear hb3; unfold taV; obtain ⟨X, HX, hbX, HPX⟩ : ∃ X, Hid (w3.alloc (.cells #[.int .u64 1, .int .u64 0, .int .u64 10, .int .u64 2, .int .u64 5] 40) = X) ∧ Below w3.heap.size w3 X ∧ Hid (Hp X w3.heap.size 40 (taC ⟨1, 0, 10, 2, 5⟩)) := ⟨_, rfl, below_allocG _ _, Hp.new w3 _ _⟩; obtain ⟨⟨x0, x1, x2, x3, x4⟩, -⟩ := ta_cells HPX.out; have HLX := keepG (HL3.out.below hbX); obtain ⟨Y, HY, hbY, HSY⟩ : ∃ Y, Hid (X.alloc (.cells #[.pointer (some ⟨b, 0, none⟩), .pointer none] 24) = Y) ∧ Below X.heap.size X Y ∧ Hid (SeesG ptC 1 none Y (.slice (some ⟨X.heap.size, 0, none⟩) 2 2) [some b, none]) := ⟨_, rfl, below_allocG _ _, lit_pt X [some b, none] (by simp) (by simp)⟩; have HLY := keepG (HLX.out.below hbY)))
    | (go_at_call 14; (try rw [HX.out]); (try rw [HY.out]); go_must (refine (lmerge (ls := fun _ => [⟨1, false, 10, 2, 5⟩]) HSY.out (by simp) (fun b' hb' => by simp at hb'; subst hb'; obtain ⟨B, _, h1⟩ := HLY.out.ex; exact ⟨B, _, h1⟩) rfl).mono ?_); rintro e w4 ⟨u, rfl, hu, hb4⟩; go_must (have HL4 := keepG (HLY.out.below hb4); obtain ⟨ua, uc, ev⟩ := own_shape hu; subst ev; clear hu hb4))
    | (rw [HX.out]))
  go_ret
  exact ⟨rfl, HL4.out.be⟩
end Go.Proofs.Ytjhjfojmojjomaa
