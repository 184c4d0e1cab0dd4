
/-
  The landed clock of layer 17: its calls. Condition: it lies where the pointer says.
-/
import Derived.Test.YtkcbiiiakkpegaaE17Plain
import Derived.Test.YtkcbiiiakkpegaaGObj
import Derived.Deep.RegionHeld3
import Derived.Deep.RegionHeldLaw
namespace Go.Proofs.Ytkcbiiiakkpegaa
open Go.RowKit
set_option linter.unusedVariables false
set_option linter.unusedSimpArgs false
set_option maxRecDepth 100000

abbrev iC (xs : List Int) : List Value := xs.map (Value.int .i64)
/-- The landed clock, at a block; its row at another. -/
structure Ec (w : World) (b g : Nat) (c : Ck) : Prop where
  hp : Hp w b 50 [.int .i64 c.now, .slice (some ⟨g, 0, none⟩) c.ins.length c.ins.length]
  row : Hp w g 3 (iC c.ins)
def ftE (b g : Nat) : Ft := fun k => k = b ∨ k = g
section
variable {w w' : World} {b g : Nat} {c : Ck}
theorem Ec.below (h : Ec w b g c) (hb : Below w.heap.size w w') : Ec w' b g c := ⟨h.hp.below hb h.hp.lt, h.row.below hb h.row.lt⟩
theorem Ec.chg {S : Nat → Prop} (h : Ec w b g c) (hc : Chg w w' S) (ha : Apt S (ftE b g)) : Ec w' b g c := ⟨h.hp.chg hc (fun e => ha b e (.inl rfl)), h.row.chg hc (fun e => ha g e (.inr rfl))⟩
theorem Ec.apart (h : Ec w b g c) : b ≠ g := hp_type h.hp h.row (by decide)
theorem Ec.lies (h : Ec w b g c) : Lies w (ftE b g) := fun k hk => by rcases hk with e | e <;> rw [e]; exact h.hp.lt; exact h.row.lt
theorem Ec.low (h : Ec w b g c) : w.cell? ⟨b, 0, none⟩ = some (.int .i64 c.now) ∧ w.cell? ⟨b, 1, none⟩ = some (.slice (some ⟨g, 0, none⟩) c.ins.length c.ins.length) := ⟨h.hp.cell rfl, h.hp.cell rfl⟩
theorem Ec.at (h : Ec w b g c) {k : Nat} (hk : k < c.ins.length) : w.cell? ⟨g, k, none⟩ = some (.int .i64 (c.ins.getD k 0)) := h.row.cell (by simp [iC, List.getD, hk])
theorem Ec.put (h : Ec w b g c) (k : Nat) (y : Int) : Ec (w.setCell ⟨g, k, none⟩ (.int .i64 y)) b g ⟨c.now, c.ins.set k y⟩ := by
  refine ⟨?_, ?_⟩
  · have := h.hp.far (i := k) (v := .int .i64 y) h.apart
    simp only [List.length_set]
    exact this
  · have := h.row.set k (.int .i64 y)
    rw [← List.map_set] at this
    exact this
theorem madeE (n : Nat) (hn : n ≤ 4) : madeCells (Value.int .i64 0).cells (Int.toNat n * 1) = (iC (List.replicate n 0)).toArray := by
  have e0 : madeCells (Value.int .i64 0).cells (Int.toNat 0 * 1) = (iC (List.replicate 0 0)).toArray := by kernel_rfl
  have e1 : madeCells (Value.int .i64 0).cells (Int.toNat 1 * 1) = (iC (List.replicate 1 0)).toArray := by kernel_rfl
  have e2 : madeCells (Value.int .i64 0).cells (Int.toNat 2 * 1) = (iC (List.replicate 2 0)).toArray := by kernel_rfl
  have e3 : madeCells (Value.int .i64 0).cells (Int.toNat 3 * 1) = (iC (List.replicate 3 0)).toArray := by kernel_rfl
  have e4 : madeCells (Value.int .i64 0).cells (Int.toNat 4 * 1) = (iC (List.replicate 4 0)).toArray := by kernel_rfl
  have h5 : n = 0 ∨ n = 1 ∨ n = 2 ∨ n = 3 ∨ n = 4 := by omega
  rcases h5 with rfl | rfl | rfl | rfl | rfl
  · exact e0
  · exact e1
  · exact e2
  · exact e3
  · exact e4
theorem run_makeE (n : Nat) (hn : n ≤ 4) (w : World) : (Instr.makeSlice 32 (.int .i64 n) (.int .i64 n)).run Try.prog w = .ok (.slice (some ⟨w.heap.size, 0, none⟩) n n) (w.alloc (.cells (iC (List.replicate n 0)).toArray 3)) := by
  have hi : ∃ i, Try.prog.info? 3 = some i ∧ i.size = 1 ∧ i.zero = some (.int .i64 0) ∧ i.bytes = 8 := ⟨_, rfl, rfl, rfl, rfl⟩
  obtain ⟨i, h1, h2, h3, h4⟩ := hi
  have := run_make (P := Try.prog) w 32 3 i _ Try.underlying32 h1 h3 .i64 .i64 n n (by omega) (Int.le_refl _) (by rw [h4]; omega) (by omega)
  rw [h2] at this
  have e := madeE n hn
  rw [e] at this
  exact this
theorem lnew_ok (n : Nat) (h1 : 1 ≤ n) (h2 : n ≤ 4) (w : World) : Calls Try.prog 8 #[.int .i64 n] w fun e w' => e = .returned (.tuple #[.pointer (some ⟨w.heap.size + 1, 0, none⟩), .int .i64 0]) ∧ Ec w' (w.heap.size + 1) w.heap.size (Ck.new n) ∧ Since w (ftE (w.heap.size + 1) w.heap.size) ∧ Below w.heap.size w w' := by
  have h1I : ¬ (n : Int) < 1 := by omega
  have h2I : ¬ (4 : Int) < n := by omega
  have hmk := run_makeE n h2 w
  obtain ⟨W1, HW1, HP1, HB1, HZ1⟩ : ∃ W1, Hid (w.alloc (.cells (iC (List.replicate n 0)).toArray 3) = W1) ∧ Hid (Hp W1 w.heap.size 3 (iC (List.replicate n 0))) ∧ Below w.heap.size w W1 ∧ Hid (W1.heap.size = w.heap.size + 1) := ⟨_, rfl, Hp.new w _ _, below_allocG _ _, by show _ = _; simp⟩
  rw [HW1.out] at hmk
  go_enter Try.func8, Try.ntmps8
  go_wp2
  go_ret2
  refine ⟨by simp only [HZ1.out]; rfl, ⟨by have := Hp.new W1 [.int .i64 1, .slice (some ⟨w.heap.size, 0, none⟩) n n] 50; rw [HZ1.out] at this; simp only [Ck.new, List.length_replicate]; exact this, HP1.out.alloc _⟩, fun k hk => ?_, HB1.alloc HB1.size _⟩
  rcases hk with e | e <;> omega
theorem lnew_no (n : Int) (h : n < 1 ∨ 4 < n) (w : World) : Calls Try.prog 8 #[.int .i64 n] w fun e w' => e = .returned (.tuple #[.pointer none, .int .i64 2]) ∧ w = w' := by
  rcases h with h | h
  · go_enter Try.func8, Try.ntmps8
    go_wp2
    go_ret2
    exact ⟨rfl, rfl⟩
  · have h1 : ¬ n < 1 := by omega
    go_enter Try.func8, Try.ntmps8
    go_wp2
    go_ret2
    exact ⟨rfl, rfl⟩
theorem lhas (h : Ec w b g c) (x : Int) {r : Bool} (HR : Hid (c.has x = r)) : Calls Try.prog 21 #[.pointer (some ⟨b, 0, none⟩), .int .i64 x] w fun e w' => e = .returned (.bool r) ∧ w = w' := by
  obtain ⟨c0, c1⟩ := h.low
  have hr := HR.out
  clear h
  by_cases h0 : 0 ≤ x
  · have h0d : decide (0 ≤ x) = true := by simpa using h0
    have : r = decide (x < c.ins.length) := by rw [← hr]; simp [Ck.has, h0]
    subst this
    clear HR hr
    go_enter Try.func21, Try.ntmps21
    go_wp2
    go_ret
    exact ⟨rfl, rfl⟩
  · have h0d : decide (0 ≤ x) = false := by simpa using h0
    have : r = false := by rw [← hr]; simp [Ck.has, h0]
    subst this
    clear HR hr
    go_enter Try.func21, Try.ntmps21
    go_wp2
    go_ret
    exact ⟨rfl, rfl⟩
theorem lnow (h : Ec w b g c) : Calls Try.prog 20 #[.pointer (some ⟨b, 0, none⟩)] w fun e w' => e = .returned (.int .i64 c.now) ∧ w = w' := by
  obtain ⟨c0, c1⟩ := h.low
  clear h
  go_enter Try.func20, Try.ntmps20
  go_wp2
  go_ret
  exact ⟨rfl, rfl⟩
theorem ladvance (h : Ec w b g c) (h0 : 0 ≤ c.now) (hl : c.now ≤ 1000000000000000000) : Calls Try.prog 13 #[.pointer (some ⟨b, 0, none⟩)] w fun e w' => e = .returned (.int .i64 (c.now + 1)) ∧ Ec w' b g c.go ∧ Chg w w' (ftE b g) := by
  obtain ⟨c0, c1⟩ := h.low
  have f0 := h.hp.frozen 0
  have hw1 : IntKind.i64.wrap (c.now + 1) = c.now + 1 := by rw [IntKind.wrap_i64]; omega
  have HE := keepG h
  clear h
  obtain ⟨nw, ins⟩ := c
  simp only at *
  go_enter Try.func13, Try.ntmps13
  go_wp2
  go_ret
  exact ⟨rfl, ⟨HE.out.hp.set 0 _, HE.out.row.far (fun e => HE.out.apart e.symm)⟩, (Chg.set w b 0 _).mono (fun k e => .inl e)⟩
theorem lin (h : Ec w b g c) (x : Int) {y : Int} {r : Bool} (HY : Hid (c.at x = y)) (HR : Hid ((y != 0) = r)) : Calls Try.prog 18 #[.pointer (some ⟨b, 0, none⟩), .int .i64 x] w fun e w' => e = .returned (.tuple #[.int .i64 y, .bool r]) ∧ w = w' := by
  obtain ⟨c0, c1⟩ := h.low
  have HE := keepG h
  cases hh : c.has x with
  | false =>
    have hy := Ck.at_no hh
    rw [HY.out] at hy
    subst hy
    have hr : r = false := by rw [← HR.out]; rfl
    subst hr
    have HH := keepG hh
    clear h hh HY HR
    go_enter Try.func18, Try.ntmps18
    go_wp2_with (go_at_call 21; go_must (refine (lhas HE.out x HH).mono ?_); rintro e w1 ⟨rfl, rfl⟩)
    go_ret2
    exact ⟨rfl, rfl⟩
  | true =>
    obtain ⟨k, rfl, hk⟩ := Ck.has_nat hh
    have ck := h.at hk
    rw [← Ck.at_nat, HY.out] at ck
    have HH := keepG hh
    have hkI : (k : Int) < c.ins.length := by omega
    clear h hh HY
    by_cases hy : y = 0
    · subst hy
      have hr : r = false := by rw [← HR.out]; rfl
      subst hr
      clear HR
      go_enter Try.func18, Try.ntmps18
      go_wp2_with (go_at_call 21; go_must (refine (lhas HE.out _ HH).mono ?_); rintro e w1 ⟨rfl, rfl⟩)
      go_ret2
      exact ⟨rfl, rfl⟩
    · have hr : r = true := by rw [← HR.out]; simpa using hy
      subst hr
      have hyb : (y == 0) = false := by simpa using hy
      clear HR
      go_enter Try.func18, Try.ntmps18
      go_wp2_with (go_at_call 21; go_must (refine (lhas HE.out _ HH).mono ?_); rintro e w1 ⟨rfl, rfl⟩)
      go_ret2
      exact ⟨rfl, rfl⟩
end
end Go.Proofs.Ytkcbiiiakkpegaa
