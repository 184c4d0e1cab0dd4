/-
  What the reader's method instruction does: the five fields of one, and whether they fit each other; or the first error is kept. Condition: the bytes lie where the reader says, apart from the reader.
-/
import Derived.Test.YtbpjcppgnndaaaaW4Maps
import Derived.Test.YtbpjcppgnndaaaaO2One
namespace Go.Proofs.Ytbpjcppgnndaaaa
open Go.RowKit
set_option linter.unusedVariables false
set_option maxRecDepth 100000

/-- The block of an instruction. -/
def InC (w : World) (n : Nat) (op d a b imm : Int) : Prop := w.heap[n]? = some (.cells #[.int .i64 op, .int .i64 d, .int .i64 a, .int .i64 b, .int .i64 imm] 45 (0, 0))
theorem InC.cells {w : World} {n : Nat} {op d a b imm : Int} (h : InC w n op d a b imm) : w.cell? ⟨n, 0, none⟩ = some (.int .i64 op) ∧ w.cell? ⟨n, 1, none⟩ = some (.int .i64 d) ∧ w.cell? ⟨n, 2, none⟩ = some (.int .i64 a) ∧ w.cell? ⟨n, 3, none⟩ = some (.int .i64 b) ∧ w.cell? ⟨n, 4, none⟩ = some (.int .i64 imm) :=
  ⟨cell_of_row w n 0 _ _ _ h, cell_of_row w n 1 _ _ _ h, cell_of_row w n 2 _ _ _ h, cell_of_row w n 3 _ _ _ h, cell_of_row w n 4 _ _ _ h⟩
theorem InC.frozen {w : World} {n : Nat} {op d a b imm : Int} (h : InC w n op d a b imm) (j : Nat) : w.frozen? ⟨n, j, none⟩ = false := frozen_of_row w n j _ _ h
theorem InC.lt {w : World} {n : Nat} {op d a b imm : Int} (h : InC w n op d a b imm) : n < w.heap.size := (Array.getElem?_eq_some_iff.1 h).1
theorem InC.kept {w w' : World} {n : Nat} {op d a b imm : Int} {row : Option Nat} (h : InC w n op d a b imm) (hg : w.grownBy w' row) (hr : row ≠ some n) : InC w' n op d a b imm := by
  unfold InC
  rw [hg.block n h.lt (fun e => hr e.symm)]; exact h
theorem InC.set0 {w : World} {n : Nat} {op d a b imm : Int} (h : InC w n op d a b imm) (z : Int) : InC (w.setCell ⟨n, 0, none⟩ (.int .i64 z)) n z d a b imm := heap_setCell_same w n 0 _ _ _ h
theorem InC.set1 {w : World} {n : Nat} {op d a b imm : Int} (h : InC w n op d a b imm) (z : Int) : InC (w.setCell ⟨n, 1, none⟩ (.int .i64 z)) n op z a b imm := heap_setCell_same w n 1 _ _ _ h
theorem InC.set2 {w : World} {n : Nat} {op d a b imm : Int} (h : InC w n op d a b imm) (z : Int) : InC (w.setCell ⟨n, 2, none⟩ (.int .i64 z)) n op d z b imm := heap_setCell_same w n 2 _ _ _ h
theorem InC.set3 {w : World} {n : Nat} {op d a b imm : Int} (h : InC w n op d a b imm) (z : Int) : InC (w.setCell ⟨n, 3, none⟩ (.int .i64 z)) n op d a z imm := heap_setCell_same w n 3 _ _ _ h
theorem InC.set4 {w : World} {n : Nat} {op d a b imm : Int} (h : InC w n op d a b imm) (z : Int) : InC (w.setCell ⟨n, 4, none⟩ (.int .i64 z)) n op d a b z := heap_setCell_same w n 4 _ _ _ h
theorem InC.new (w : World) (op d a b imm : Int) : InC (w.alloc (.cells #[.int .i64 op, .int .i64 d, .int .i64 a, .int .i64 b, .int .i64 imm] 45)) w.heap.size op d a b imm := heap_alloc_new w _

/-- The five fields, then whether they fit. -/
theorem inst_after {xs : List Int} {s s1 s2 s3 s4 s5 : St} {op d a b imm q : Int} (h1 : After s (numR xs 22 12) s1 op) (h2 : After s1 (numR xs 63 12) s2 d) (h3 : After s2 (numR xs 63 12) s3 a) (h4 : After s3 (numR xs 63 12) s4 b) (h5 : After s4 (sgnR xs) s5 imm)
    (hq : ∀ p, s = .ok p → q = (p : Int)) (r : Bool) (hr : rightB op d a b imm = r) : After s (instR xs) (if r = true then s5 else failS s5 q 12) ⟨op, d, a, b, imm⟩ := by
  have key : ∀ p0 : Nat, s = .ok p0 → After s (fun p => (numR xs 22 12 p).then' fun op p => (numR xs 63 12 p).then' fun d p => (numR xs 63 12 p).then' fun a p => (numR xs 63 12 p).then' fun b p => (sgnR xs p).then' fun imm p =>
      if rightB op d a b imm = true then .ok ((⟨op, d, a, b, imm⟩ : In), p) else .error ((p0 : Int), 12)) (if r = true then s5 else failS s5 q 12) ⟨op, d, a, b, imm⟩ := fun p0 hp => by
    refine After.then' h1 (After.then' h2 (After.then' h3 (After.then' h4 (After.then' h5 ?_))))
    rw [hq p0 hp]
    cases s5 with
    | error x => cases r <;> rfl
    | ok p5 =>
      cases r with
      | true => show (if rightB op d a b imm = true then _ else _) = _; rw [hr]; rfl
      | false => show (if rightB op d a b imm = true then _ else _) = _; rw [hr]; rfl
  cases s with
  | error x =>
    have h1 : s1 = .error x := h1
    subst h1
    have h2 : s2 = .error x := h2
    subst h2
    have h3 : s3 = .error x := h3
    subst h3
    have h4 : s4 = .error x := h4
    subst h4
    have h5 : s5 = .error x := h5
    subst h5
    cases r <;> rfl
  | ok p0 => exact key p0 rfl

/-- Halfway through an instruction: the reader, the result's block, the instruction's block. -/
structure Inn (w wk : World) (br : Nat) (V : Value) (L : Nat) (s : St) (op d a b imm : Int) : Prop where
  g : w.grownBy wk (some br)
  at' : RdAt wk br V L s
  i2 : InC wk w.heap.size 0 0 0 0 0
  i4 : InC wk (w.heap.size + 1) op d a b imm
theorem Inn.new {w : World} {br : Nat} {V : Value} {L : Nat} {s : St} (h : RdAt w br V L s) (hbr : br < w.heap.size) :
    Inn w ((w.alloc (.cells #[.int .i64 0, .int .i64 0, .int .i64 0, .int .i64 0, .int .i64 0] 45)).alloc (.cells #[.int .i64 0, .int .i64 0, .int .i64 0, .int .i64 0, .int .i64 0] 45)) br V L s 0 0 0 0 0 := by
  refine ⟨(grown_alloc _ _ _).trans (grown_alloc _ _ _), (h.kept (grown_alloc _ _ none) (by simp)).kept (grown_alloc _ _ none) (by simp), (InC.new w 0 0 0 0 0).kept (grown_alloc _ _ none) (by simp), ?_⟩
  have := InC.new (w.alloc (.cells #[.int .i64 0, .int .i64 0, .int .i64 0, .int .i64 0, .int .i64 0] 45)) 0 0 0 0 0
  rwa [World.size_alloc] at this
theorem Inn.call {w wk w' : World} {br : Nat} {V : Value} {L : Nat} {s s' : St} {op d a b imm : Int} (h : Inn w wk br V L s op d a b imm) (hbr : br < w.heap.size) (hg : wk.grownBy w' (some br)) (hat : RdAt w' br V L s') : Inn w w' br V L s' op d a b imm :=
  ⟨h.g.trans hg, hat, h.i2.kept hg (by simp; omega), h.i4.kept hg (by simp; omega)⟩
theorem Inn.store {w wk : World} {br : Nat} {V : Value} {L : Nat} {s : St} {op d a b imm op' d' a' b' imm' : Int} {j : Nat} {u : Value} (h : Inn w wk br V L s op d a b imm) (hbr : br < w.heap.size) (hI : InC (wk.setCell ⟨w.heap.size + 1, j, none⟩ u) (w.heap.size + 1) op' d' a' b' imm') : Inn w (wk.setCell ⟨w.heap.size + 1, j, none⟩ u) br V L s op' d' a' b' imm' := by
  have hg := grown_set wk ⟨w.heap.size + 1, j, none⟩ u
  refine ⟨h.g.andThen hg (fun k hk => ?_), h.at'.kept hg (by simp; omega), h.i2.kept hg (by simp), hI⟩
  injection hk with hk
  have hk : w.heap.size + 1 = k := hk
  exact .inl (by omega)
theorem Inn.frozen {w wk : World} {br : Nat} {V : Value} {L : Nat} {s : St} {op d a b imm : Int} (h : Inn w wk br V L s op d a b imm) (j : Nat) : wk.frozen? ⟨w.heap.size + 1, j, none⟩ = false := h.i4.frozen j

/-- The instruction, stored into the result's block. -/
abbrev stored (w : World) (n : Nat) (op d a b imm : Int) : World := ((((w.setCell ⟨n, 0, none⟩ (.int .i64 op)).setCell ⟨n, 1, none⟩ (.int .i64 d)).setCell ⟨n, 2, none⟩ (.int .i64 a)).setCell ⟨n, 3, none⟩ (.int .i64 b)).setCell ⟨n, 4, none⟩ (.int .i64 imm)
theorem stored_grown (w : World) (n : Nat) (op d a b imm : Int) : w.grownBy (stored w n op d a b imm) (some n) :=
  ((((grown_set w ⟨n, 0, none⟩ _).trans (grown_set _ ⟨n, 1, none⟩ _)).trans (grown_set _ ⟨n, 2, none⟩ _)).trans (grown_set _ ⟨n, 3, none⟩ _)).trans (grown_set _ ⟨n, 4, none⟩ _)
theorem InC.stored {w : World} {n : Nat} {o' d' a' b' i' : Int} (h : InC w n o' d' a' b' i') (op d a b imm : Int) : InC (stored w n op d a b imm) n op d a b imm := ((((h.set0 op).set1 d).set2 a).set3 b).set4 imm
theorem inst_wf {op d a b imm : Int} (h1 : 0 ≤ op ∧ op ≤ 22) (h2 : 0 ≤ d ∧ d ≤ 63) (h3 : 0 ≤ a ∧ a ≤ 63) (h4 : 0 ≤ b ∧ b ≤ 63) (h5 : -9223372036854775808 ≤ imm ∧ imm ≤ 9223372036854775807) : (⟨op, d, a, b, imm⟩ : In).wf :=
  have a' : ∀ n : Int, -9223372036854775808 ≤ n → n ≤ 9223372036854775807 → (Lit.int .i64 n).wf = true := fun n _ _ => WalkArith.wf_i64 (by omega)
  ⟨a' op (by omega) (by omega), a' d (by omega) (by omega), a' a (by omega) (by omega), a' b (by omega) (by omega), a' imm (by omega) (by omega)⟩

set_option maxHeartbeats 3200000 in
theorem instruction_any (br : Nat) (a : Option Addr) (cap : Nat) (xs : List Int) (s : St) (w : World) (h : RdAt w br (.slice a xs.length cap) xs.length s) (hsee : Sees .u8 w (.slice a xs.length cap) xs) (hne : xs = [] ∨ (Value.slice a xs.length cap).ownBlock ≠ some br) :
    Calls Try.prog 43 #[rdP br] w fun x w' => ∃ i : In, x = .returned i.v ∧ i.wf ∧ ∃ s', RdAt w' br (.slice a xs.length cap) xs.length s' ∧ After s (instR xs) s' i ∧ w.grownBy w' (some br) := by
  have hbr := h.lt
  have HS : Hid (∀ w', w.grownBy w' (some br) → Sees .u8 w' (.slice a xs.length cap) xs) := fun w' hg => hsee.kept hg hne
  generalize hV : Value.slice a xs.length cap = V at *
  have HN : Hid (∀ (s : St) (most above : Int) (wr : World), w.grownBy wr (some br) → RdAt wr br V xs.length s → 0 ≤ most → most ≤ 4096 → (above = 11 ∨ above = 12) →
      Calls Try.prog 41 #[rdP br, .int .i64 most, .int .i64 above] wr fun x w' => ∃ s' n, x = .returned (.int .i64 n) ∧ 0 ≤ n ∧ n ≤ most ∧ RdAt w' br V xs.length s' ∧ After s (numR xs most above) s' n ∧ wr.grownBy w' (some br)) := fun s most above wr hg hat h0 h1 h2 => by
    subst hV
    exact number_any br a cap xs s most above wr hat (HS.out wr hg) h0 h1 h2
  have HG : Hid (∀ (s : St) (wr : World), w.grownBy wr (some br) → RdAt wr br V xs.length s →
      Calls Try.prog 53 #[rdP br] wr fun x w' => ∃ s' n, x = .returned (.int .i64 n) ∧ -9223372036854775808 ≤ n ∧ n ≤ 9223372036854775807 ∧ RdAt w' br V xs.length s' ∧ After s (sgnR xs) s' n ∧ wr.grownBy w' (some br)) := fun s wr hg hat => by
    subst hV
    exact signed_any br a cap xs s wr hat (HS.out wr hg)
  generalize hL : xs.length = L at *
  obtain ⟨p, q, e, hz⟩ := h.open
  have HP : Hid (∀ k, s = .ok k → p = (k : Int)) := fun k hk => h.place hz k hk
  obtain ⟨c0, c1, c2, c3⟩ := hz.cells
  have H : Hid (RdAt w br V L s) := h
  clear hsee hne h HS hV hz
  go_enter Try.func43, Try.ntmps43
  have H0 := Inn.new H.out hbr
  have I0 : Hid _ := H0
  clear H H0
  go_wp2_with (first
    | (go_at_call 41; have hq := I0; clear hq; go_must (refine (HN.out s 22 12 _ I0.out.g I0.out.at' (by omega) (by omega) (by omega)).mono ?_); rintro e w1 ⟨s1, op, rfl, hop0, hop1, hat, ha, hg⟩; have A1 : Hid (After s (numR xs 22 12) s1 op) := ha; go_must (have I1 := I0.out.call hbr hg hat; have fz := I1.frozen 0; have cz := I1.i4.cells.1; have I1' := I1.store hbr (I1.i4.set0 op); have J1 : Hid _ := I1'; clear I0 I1 I1' hg hat ha))
    | (go_at_call 41; have hq := J1; clear hq; go_must (refine (HN.out s1 63 12 _ J1.out.g J1.out.at' (by omega) (by omega) (by omega)).mono ?_); rintro e w2 ⟨s2, d, rfl, hd0, hd1, hat, ha, hg⟩; have A2 : Hid (After s1 (numR xs 63 12) s2 d) := ha; go_must (have I1 := J1.out.call hbr hg hat; have fz := I1.frozen 1; have cz := I1.i4.cells.2.1; have I1' := I1.store hbr (I1.i4.set1 d); have J2 : Hid _ := I1'; clear J1 I1 I1' hg hat ha))
    | (go_at_call 41; have hq := J2; clear hq; go_must (refine (HN.out s2 63 12 _ J2.out.g J2.out.at' (by omega) (by omega) (by omega)).mono ?_); rintro e w3 ⟨s3, ra, rfl, ha0, ha1, hat, ha, hg⟩; have A3 : Hid (After s2 (numR xs 63 12) s3 ra) := ha; go_must (have I1 := J2.out.call hbr hg hat; have fz := I1.frozen 2; have cz := I1.i4.cells.2.2.1; have I1' := I1.store hbr (I1.i4.set2 ra); have J3 : Hid _ := I1'; clear J2 I1 I1' hg hat ha))
    | (go_at_call 41; have hq := J3; clear hq; go_must (refine (HN.out s3 63 12 _ J3.out.g J3.out.at' (by omega) (by omega) (by omega)).mono ?_); rintro e w4 ⟨s4, rb, rfl, hb0, hb1, hat, ha, hg⟩; have A4 : Hid (After s3 (numR xs 63 12) s4 rb) := ha; go_must (have I1 := J3.out.call hbr hg hat; have fz := I1.frozen 3; have cz := I1.i4.cells.2.2.2.1; have I1' := I1.store hbr (I1.i4.set3 rb); have J4 : Hid _ := I1'; clear J3 I1 I1' hg hat ha))
    | (go_at_call 53; go_must (refine (HG.out s4 _ J4.out.g J4.out.at').mono ?_); rintro e w5 ⟨s5, imm, rfl, hi0, hi1, hat, ha, hg⟩; have A5 : Hid (After s4 (sgnR xs) s5 imm) := ha; go_must (have I1 := J4.out.call hbr hg hat; have fz := I1.frozen 4; have cz := I1.i4.cells.2.2.2.2; have I1' := I1.store hbr (I1.i4.set4 imm); have J5 : Hid _ := I1'; obtain ⟨z0, z1, z2, z3, z4⟩ := I1'.i4.cells; clear J4 I1 I1' hg hat ha))
    | (go_at_call 37; go_must (refine (right_one op d ra rb imm _ _ (by simp)).mono ?_); rintro e w6 ⟨rfl, hb6⟩; go_must (have I6 := J5.out.call hbr (grown_below hb6 _) (J5.out.at'.kept (grown_below hb6 none) (by simp)); obtain ⟨y0, y1, y2, y3, y4⟩ := I6.i4.cells; obtain ⟨g0, g1, g2, g3, g4⟩ := I6.i2.cells; have k0 := I6.i2.frozen 0; have k1 := I6.i2.frozen 1; have k2 := I6.i2.frozen 2; have k3 := I6.i2.frozen 3; have k4 := I6.i2.frozen 4; have J6 : Hid _ := I6; clear I6))
    | (go_at_call 40; go_must (refine (fail_any br V L s5 p 12 _ J6.out.at' (by omega)).mono ?_); rintro e w7 ⟨rfl, hat, hg⟩; go_must (have I7 := J6.out.call hbr hg hat; obtain ⟨x0, x1, x2, x3, x4⟩ := I7.i4.cells; obtain ⟨g0, g1, g2, g3, g4⟩ := I7.i2.cells; have k0 := I7.i2.frozen 0; have k1 := I7.i2.frozen 1; have k2 := I7.i2.frozen 2; have k3 := I7.i2.frozen 3; have k4 := I7.i2.frozen 4; have J7 : Hid _ := I7; clear I7 hat hg)))
  · refine bodyPost_ret (results_cell_row rfl _ _ w.heap.size _ #[.int .i64 op, .int .i64 d, .int .i64 ra, .int .i64 rb, .int .i64 imm] (0, 0) _ rfl (J7.out.i2.stored op d ra rb imm) Try.underlying45 rfl (by kernel_rfl)) rfl ?_
    have hr : rightB op d ra rb imm = false := by simpa using ‹(!rightB op d ra rb imm) = true›
    refine ⟨⟨op, d, ra, rb, imm⟩, rfl, inst_wf ⟨hop0, hop1⟩ ⟨hd0, hd1⟩ ⟨ha0, ha1⟩ ⟨hb0, hb1⟩ ⟨hi0, hi1⟩, _, J7.out.at'.kept (stored_grown _ _ op d ra rb imm) (by simp; omega), inst_after A1.out A2.out A3.out A4.out A5.out HP.out false hr, J7.out.g.andThen (stored_grown _ _ op d ra rb imm) (fun k hk => ?_)⟩
    injection hk with hk
    exact .inl (by omega)
  · refine bodyPost_ret (results_cell_row rfl _ _ w.heap.size _ #[.int .i64 op, .int .i64 d, .int .i64 ra, .int .i64 rb, .int .i64 imm] (0, 0) _ rfl (J6.out.i2.stored op d ra rb imm) Try.underlying45 rfl (by kernel_rfl)) rfl ?_
    have hr : rightB op d ra rb imm = true := by simpa using ‹(!rightB op d ra rb imm) = false›
    refine ⟨⟨op, d, ra, rb, imm⟩, rfl, inst_wf ⟨hop0, hop1⟩ ⟨hd0, hd1⟩ ⟨ha0, ha1⟩ ⟨hb0, hb1⟩ ⟨hi0, hi1⟩, _, J6.out.at'.kept (stored_grown _ _ op d ra rb imm) (by simp; omega), inst_after A1.out A2.out A3.out A4.out A5.out HP.out true hr, J6.out.g.andThen (stored_grown _ _ op d ra rb imm) (fun k hk => ?_)⟩
    injection hk with hk
    exact .inl (by omega)
end Go.Proofs.Ytbpjcppgnndaaaa
