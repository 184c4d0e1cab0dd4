/-
  The project's reader: its cells, and what its method fail does. No condition.
-/
import Derived.Test.YtbpjcppgnndaaaaW4Plain
import Derived.Test.YtbpjcppgnndaaaaW4Lib
import Derived.Test.YtbpjcppgnndaaaaBUnfold
import Derived.Laws.OwnMore
import Derived.Deep.QuietTactic
import Derived.BigQuiet
namespace Go.Proofs.Ytbpjcppgnndaaaa
open Go.RowKit
set_option linter.unusedVariables false
set_option maxRecDepth 100000

/-- The reader's cells: the bytes, the place, the place of the first error, the error. -/
def RdC (w : World) (br : Nat) (v : Value) (p q e : Int) : Prop := w.heap[br]? = some (.cells #[v, .int .i64 p, .int .i64 q, .int .i64 e] 53 (0, 0))
abbrev rdP (br : Nat) : Value := .pointer (some ⟨br, 0, none⟩)
theorem RdC.cells {w : World} {br : Nat} {v : Value} {p q e : Int} (h : RdC w br v p q e) :
    w.cell? ⟨br, 0, none⟩ = some v ∧ w.cell? ⟨br, 1, none⟩ = some (.int .i64 p) ∧ w.cell? ⟨br, 2, none⟩ = some (.int .i64 q) ∧ w.cell? ⟨br, 3, none⟩ = some (.int .i64 e) :=
  ⟨cell_of_row w br 0 _ _ _ h, cell_of_row w br 1 _ _ _ h, cell_of_row w br 2 _ _ _ h, cell_of_row w br 3 _ _ _ h⟩
theorem RdC.frozen {w : World} {br : Nat} {v : Value} {p q e : Int} (h : RdC w br v p q e) (j : Nat) : w.frozen? ⟨br, j, none⟩ = false := frozen_of_row w br j _ _ h
theorem RdC.lt {w : World} {br : Nat} {v : Value} {p q e : Int} (h : RdC w br v p q e) : br < w.heap.size := (Array.getElem?_eq_some_iff.1 h).1
theorem RdC.set1 {w : World} {br : Nat} {v : Value} {p q e : Int} (h : RdC w br v p q e) (z : Int) : RdC (w.setCell ⟨br, 1, none⟩ (.int .i64 z)) br v z q e := heap_setCell_same w br 1 _ _ _ h
theorem RdC.set2 {w : World} {br : Nat} {v : Value} {p q e : Int} (h : RdC w br v p q e) (z : Int) : RdC (w.setCell ⟨br, 2, none⟩ (.int .i64 z)) br v p z e := heap_setCell_same w br 2 _ _ _ h
theorem RdC.set3 {w : World} {br : Nat} {v : Value} {p q e : Int} (h : RdC w br v p q e) (z : Int) : RdC (w.setCell ⟨br, 3, none⟩ (.int .i64 z)) br v p q z := heap_setCell_same w br 3 _ _ _ h
theorem RdC.kept {w w' : World} {br : Nat} {v : Value} {p q e : Int} {row : Option Nat} (h : RdC w br v p q e) (hg : w.grownBy w' row) (hr : row ≠ some br) : RdC w' br v p q e := by
  unfold RdC
  rw [hg.block br h.lt (fun e => hr e.symm)]; exact h
theorem RdC.below {w w' : World} {br : Nat} {v : Value} {p q e : Int} {B : Nat} (h : RdC w br v p q e) (hb : Below B w w') (hB : br < B) : RdC w' br v p q e := by
  unfold RdC
  rw [hb.block br hB]; exact h
theorem grown_set (w : World) (a : Addr) (u : Value) : w.grownBy (w.setCell a u) (some a.block) :=
  ⟨rfl, rfl, rfl, by simp, fun k _ hk => heap_setCell_other w a k u (fun e => hk (by rw [e]))⟩
theorem grown_drewN (w : World) (n : Nat) (r : Option Nat) : w.grownBy (w.drewN n) r := ⟨rfl, rfl, rfl, Nat.le_refl _, fun _ _ _ => rfl⟩
theorem grown_below {w w' : World} (h : Below w.heap.size w w') (r : Option Nat) : w.grownBy w' r := ⟨h.os, h.tape, h.output, h.size, fun i hi _ => h.block i hi⟩
theorem grown_alloc (w : World) (o : Obj) (r : Option Nat) : w.grownBy (w.alloc o) r := grown_below ((Below.refl _ _).alloc (Nat.le_refl _) o) r

/-- Where the reader stands. -/
def RdAt (w : World) (br : Nat) (v : Value) (L : Nat) (s : St) : Prop := match s with
  | .ok p => p ≤ L ∧ RdC w br v p 0 0
  | .error (q, e) => e ≠ 0 ∧ ∃ z, RdC w br v z q e
theorem RdAt.kept {w w' : World} {br : Nat} {v : Value} {L : Nat} {s : St} {row : Option Nat} (h : RdAt w br v L s) (hg : w.grownBy w' row) (hr : row ≠ some br) : RdAt w' br v L s := by
  cases s with
  | ok p => exact ⟨h.1, h.2.kept hg hr⟩
  | error x => exact ⟨h.1, by obtain ⟨z, hz⟩ := h.2; exact ⟨z, hz.kept hg hr⟩⟩
theorem RdAt.lt {w : World} {br : Nat} {v : Value} {L : Nat} {s : St} (h : RdAt w br v L s) : br < w.heap.size := by
  cases s with
  | ok p => exact h.2.lt
  | error x => obtain ⟨z, hz⟩ := h.2; exact hz.lt
/-- What the reader's cells are, wherever it stands. -/
theorem RdAt.open {w : World} {br : Nat} {v : Value} {L : Nat} {s : St} (h : RdAt w br v L s) : ∃ p q e, RdC w br v p q e := by
  cases s with
  | ok p => exact ⟨_, _, _, h.2⟩
  | error x => obtain ⟨z, hz⟩ := h.2; exact ⟨_, _, _, hz⟩
def failS (s : St) (q e : Int) : St := match s with | .ok _ => .error (q, e) | .error x => .error x

theorem fail_ok (br : Nat) (v : Value) (p q e : Int) (w : World) (h : RdC w br v p 0 0) :
    Calls Try.prog 40 #[rdP br, .int .i64 q, .int .i64 e] w fun x w' => x = .returned (.tuple #[]) ∧ RdC w' br v p q e ∧ w.grownBy w' (some br) := by
  have H : Hid (RdC ((w.setCell ⟨br, 2, none⟩ (.int .i64 q)).setCell ⟨br, 3, none⟩ (.int .i64 e)) br v p q e) := (h.set2 q).set3 e
  have HG : Hid (w.grownBy ((w.setCell ⟨br, 2, none⟩ (.int .i64 q)).setCell ⟨br, 3, none⟩ (.int .i64 e)) (some br)) := (grown_set w ⟨br, 2, none⟩ _).trans (grown_set _ ⟨br, 3, none⟩ _)
  obtain ⟨c0, c1, c2, c3⟩ := h.cells
  have f2 := h.frozen 2
  have f3 := h.frozen 3
  clear h
  go_enter Try.func40, Try.ntmps40
  go_wp2
  go_returns
  exact ⟨rfl, H.out, HG.out⟩
theorem fail_bad (br : Nat) (v : Value) (p q e q' e' : Int) (w : World) (h : RdC w br v p q e) (he : e ≠ 0) :
    Calls Try.prog 40 #[rdP br, .int .i64 q', .int .i64 e'] w fun x w' => x = .returned (.tuple #[]) ∧ w = w' := by
  obtain ⟨c0, c1, c2, c3⟩ := h.cells
  have hb : (e == 0) = false := by simpa using he
  clear h he
  go_enter Try.func40, Try.ntmps40
  go_wp2
  go_returns
  exact ⟨rfl, rfl⟩
/-- fail, wherever the reader stands. -/
theorem fail_any (br : Nat) (v : Value) (L : Nat) (s : St) (q e : Int) (w : World) (h : RdAt w br v L s) (he : e ≠ 0) :
    Calls Try.prog 40 #[rdP br, .int .i64 q, .int .i64 e] w fun x w' => x = .returned (.tuple #[]) ∧ RdAt w' br v L (failS s q e) ∧ w.grownBy w' (some br) := by
  cases s with
  | ok p => exact (fail_ok br v p q e w h.2).mono fun x w' ⟨h1, h2, h3⟩ => ⟨h1, ⟨he, _, h2⟩, h3⟩
  | error x =>
    obtain ⟨z, hz⟩ := h.2
    exact (fail_bad br v z x.1 x.2 q e w hz h.1).mono fun x w' ⟨h1, h2⟩ => ⟨h1, by subst h2; exact h, by subst h2; exact grown_refl _ _⟩

/-- What layer 1 tells at a place. -/
theorem get_at {xs : List Int} (hb : ∀ x ∈ xs, 0 ≤ x ∧ x ≤ 255) (p : Nat) (hp : p ≤ xs.length) :
    (∃ e : Int, (e = 10 ∨ e = 12) ∧ getL 0 0 (xs.drop p) = (0, 0, e)) ∨ ∃ (n : Int) (j : Nat), getL 0 0 (xs.drop p) = (n, (j : Int), 0) ∧ 0 ≤ n ∧ n < 18446744073709551616 ∧ 1 ≤ j ∧ p + j ≤ xs.length := by
  rcases getL_tells (xs.drop p) 0 0 (by omega) (by omega) (by simp) (drop_byte hb p) with (h | h) | ⟨n, j, h, h1, h2, h3, h4, h5⟩
  · exact .inl ⟨10, .inl rfl, h⟩
  · exact .inl ⟨12, .inr rfl, h⟩
  · rw [List.length_drop] at h4
    exact .inr ⟨n, j, h, h1, h2, by omega, by omega⟩
theorem numR_err {xs : List Int} {most above : Int} {p : Nat} {e : Int} (h : getL 0 0 (xs.drop p) = (0, 0, e)) (he : e ≠ 0) : numR xs most above p = .error ((p : Int), e) := by
  unfold numR; rw [h, if_pos he]
theorem numR_above {xs : List Int} {most above : Int} {p : Nat} {n : Int} {j : Nat} (h : getL 0 0 (xs.drop p) = (n, (j : Int), 0)) (hn : most < n) : numR xs most above p = .error ((p : Int), above) := by
  unfold numR; rw [h, if_neg (by simp), if_pos hn]
theorem numR_ok {xs : List Int} {most above : Int} {p : Nat} {n : Int} {j : Nat} (h : getL 0 0 (xs.drop p) = (n, (j : Int), 0)) (hn : n ≤ most) : numR xs most above p = .ok (n, p + j) := by
  unfold numR; rw [h, if_neg (by simp), if_neg (by omega)]; simp
theorem sgnR_err {xs : List Int} {p : Nat} {e : Int} (h : getL 0 0 (xs.drop p) = (0, 0, e)) (he : e ≠ 0) : sgnR xs p = .error ((p : Int), e) := by
  unfold sgnR; rw [h, if_pos he]
theorem sgnR_ok {xs : List Int} {p : Nat} {n : Int} {j : Nat} (h : getL 0 0 (xs.drop p) = (n, (j : Int), 0)) : sgnR xs p = .ok (unfoldI n, p + j) := by
  unfold sgnR; rw [h, if_neg (by simp)]; simp
/-- The bytes from a place on. -/
theorem Sees.from' {w : World} {a : Option Addr} {cap : Nat} {xs : List Int} (h : Sees .u8 w (.slice a xs.length cap) xs) (p : Nat) (hp : p ≤ xs.length) (hc : xs.length ≤ cap) : Sees .u8 w (cutV a p xs.length cap) (xs.drop p) := by
  have := h.cut p xs.length cap hp (Nat.le_refl _) hc (Nat.le_refl _)
  rwa [List.take_length] at this

set_option maxHeartbeats 800000 in
theorem number_bad (br : Nat) (v : Value) (z q e most above : Int) (w : World) (h : RdC w br v z q e) (he : e ≠ 0) :
    Calls Try.prog 41 #[rdP br, .int .i64 most, .int .i64 above] w fun x w' => x = .returned (.int .i64 0) ∧ w = w' := by
  obtain ⟨c0, c1, c2, c3⟩ := h.cells
  have hb : (e != 0) = true := by simpa using he
  clear h he
  go_enter Try.func41, Try.ntmps41
  go_wp2
  go_ret
  exact ⟨rfl, rfl⟩
set_option maxHeartbeats 1600000 in
theorem number_err (br : Nat) (a : Option Addr) (cap : Nat) (xs : List Int) (p : Nat) (most above : Int) (w : World) (h : RdC w br (.slice a xs.length cap) p 0 0) (hsee : Sees .u8 w (.slice a xs.length cap) xs) (hp : p ≤ xs.length) (hc : xs.length ≤ cap) (hm : cap ≤ 9223372036854775807)
    (e : Int) (he : e = 10 ∨ e = 12) (hg : getL 0 0 (xs.drop p) = (0, 0, e)) :
    Calls Try.prog 41 #[rdP br, .int .i64 most, .int .i64 above] w fun x w' => x = .returned (.int .i64 0) ∧ RdC w' br (.slice a xs.length cap) p p e ∧ w.grownBy w' (some br) := by
  obtain ⟨c0, c1, c2, c3⟩ := h.cells
  obtain ⟨cv, hs, hsee'⟩ : ∃ cv, (∀ w, (Instr.slice 28 (.slice a xs.length cap) (some (.int .i64 p)) none none).run Try.prog w = .ok cv w) ∧ Sees .u8 w cv (xs.drop p) := ⟨_, fun w => run_from Try.underlying28 size_u8 a xs.length cap p hp w, hsee.from' p hp hc⟩
  have HG : Hid (∀ n, Calls Try.prog 51 #[cv] (w.drewN n) fun x w' => x = .returned (.tuple #[.int .u64 0, .int .i64 0, .int .i64 e]) ∧ w.drewN n = w') := fun n => get_eq (w := w.drewN n) hsee' hg
  have HF : Hid (∀ n, Calls Try.prog 40 #[rdP br, .int .i64 p, .int .i64 e] (w.drewN n) fun x w' => x = .returned (.tuple #[]) ∧ RdC w' br (.slice a xs.length cap) p p e ∧ (w.drewN n).grownBy w' (some br)) := fun n => fail_ok br _ p p e (w.drewN n) h
  have h0 : (e == 0) = false := by simp; omega
  have h1 : (e != 0) = true := by simp; omega
  clear h hg hsee he hsee'
  go_enter Try.func41, Try.ntmps41
  go_wp2_with fail
  go_quiet (first | (go_at_call 51; refine (HG.out _).mono ?_; rintro e w' ⟨rfl, rfl⟩; exact ⟨rfl, _, rfl⟩))
  go_wp2_with (go_at_call 40; go_must (refine (HF.out _).mono ?_); rintro e w' ⟨rfl, hr, hgr⟩)
  go_ret
  exact ⟨rfl, hr, (grown_drewN _ _ _).trans hgr⟩
end Go.Proofs.Ytbpjcppgnndaaaa
