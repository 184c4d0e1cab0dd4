
/-
  The landed table of layer 19 as an object. Condition: it lies where the pointer says; what is handed in lies elsewhere.
-/
import Derived.Test.YtknijloificpmaaH19LB
import Derived.Test.YtknijloificpmaaH19LC
namespace Go.Proofs.Ytknijloificpmaa
open Go.RowKit
set_option linter.unusedVariables false
/-- The landed table, its blocks. -/
def Lt (w : World) (B b : Nat) (F : Ft) (t : Tb) : Prop := ∃ g, F = ftH b g ∧ Lp w b g t
theorem Lt.lies {w : World} {B b : Nat} {F : Ft} {t : Tb} (h : Lt w B b F t) : Lies w F := by
  obtain ⟨g, rfl, h1⟩ := h
  exact h1.lies
theorem Lt.keeps {w w' : World} {B b : Nat} {F G : Ft} {t : Tb} (h : Lt w B b F t) (hc : Chg w w' G) (ha : Apt G F) : Lt w' B b F t := by
  obtain ⟨g, rfl, h1⟩ := h
  exact ⟨g, rfl, h1.chg hc ha⟩
theorem ltnew_ok (n : Nat) (h1 : 1 ≤ n) (h : n ≤ 4) (w : World) : Calls Try.prog 8 #[.int .i64 n] w fun e w' => ∃ b F, e = .returned (.tuple #[.pointer (some ⟨b, 0, none⟩), .int .i64 0]) ∧ Lt w' w.heap.size b F (Tb.new n) ∧ Since w F ∧ Below w.heap.size w w' := by
  refine (lhnew_ok n h1 h w).mono ?_
  rintro e w' ⟨rfl, g1, g2, g3⟩
  exact ⟨_, _, rfl, ⟨_, rfl, g1⟩, g2, g3⟩
theorem ltnew_no (n : Int) (h : n < 1 ∨ 4 < n) (w : World) : Calls Try.prog 8 #[.int .i64 n] w fun e w' => e = .returned (.tuple #[.pointer none, .int .i64 2]) ∧ w = w' := lhnew_no n h w
theorem Lt.attach {w : World} {B b : Nat} {F : Ft} {t t' : Tb} (h : Lt w B b F t) (hk : t.Ok) (hB : B ≤ w.heap.size) (hla : t.last ≤ 1000000000000000) (x p : Int) {v E : Int} (HQ : Hid (t.put false x p = (v, E, t'))) : Calls Try.prog 13 #[.pointer (some ⟨b, 0, none⟩), .int .i64 x, .int .i64 p] w fun e w' => e = .returned (.tuple #[.int .i64 v, .int .i64 E]) ∧ ∃ F', Lt w' B b F' t' ∧ Nx w w' F F' := by
  obtain ⟨g, rfl, h1⟩ := h
  refine (lhattach h1 hk hla x p HQ).mono ?_
  rintro e w' ⟨rfl, g1, g2⟩
  exact ⟨rfl, _, ⟨g, rfl, g1⟩, g2, fun k e => .inl e⟩
theorem Lt.swap {w : World} {B b : Nat} {F : Ft} {t t' : Tb} (h : Lt w B b F t) (hk : t.Ok) (hB : B ≤ w.heap.size) (hla : t.last ≤ 1000000000000000) (x p : Int) {v E : Int} (HQ : Hid (t.put true x p = (v, E, t'))) : Calls Try.prog 14 #[.pointer (some ⟨b, 0, none⟩), .int .i64 x, .int .i64 p] w fun e w' => e = .returned (.tuple #[.int .i64 v, .int .i64 E]) ∧ ∃ F', Lt w' B b F' t' ∧ Nx w w' F F' := by
  obtain ⟨g, rfl, h1⟩ := h
  refine (lhswap h1 hk hla x p HQ).mono ?_
  rintro e w' ⟨rfl, g1, g2⟩
  exact ⟨rfl, _, ⟨g, rfl, g1⟩, g2, fun k e => .inl e⟩
theorem Lt.detach {w : World} {B b : Nat} {F : Ft} {t t' : Tb} (h : Lt w B b F t) (hk : t.Ok) (hB : B ≤ w.heap.size) {u : Value} {xs : List Int} (hz : Hid (xs.length * 8 ≤ 140737488355328)) (hs : Sees .i64 w u xs) (hap : xs ≠ [] → Apt F (ftV u)) {E : Int} (HQ : Hid (t.det xs = (E, t'))) : Calls Try.prog 15 #[.pointer (some ⟨b, 0, none⟩), u] w fun e w' => e = .returned (.int .i64 E) ∧ ∃ F', Lt w' B b F' t' ∧ Nx w w' F F' := by
  obtain ⟨g, rfl, h1⟩ := h
  refine (lhdetach h1 hk hs hap HQ).mono ?_
  rintro e w' ⟨rfl, g1, g2⟩
  exact ⟨rfl, _, ⟨g, rfl, g1⟩, g2, fun k e => .inl e⟩
theorem Lt.fresh {w : World} {B b : Nat} {F : Ft} {t t' : Tb} (h : Lt w B b F t) (hk : t.Ok) (hla : t.last ≤ 1000000000000000) (HQ : Hid (t.fresh = t')) : Calls Try.prog 20 #[.pointer (some ⟨b, 0, none⟩)] w fun e w' => e = .returned (.int .i64 t'.last) ∧ ∃ F', Lt w' B b F' t' ∧ Nx w w' F F' := by
  obtain ⟨g, rfl, h1⟩ := h
  refine (lhfresh h1 hk.last hla).mono ?_
  rintro e w' ⟨rfl, g1, g2⟩
  rw [HQ.out] at g1
  exact ⟨by rw [← HQ.out]; rfl, _, ⟨g, rfl, g1⟩, g2, fun k e => .inl e⟩
theorem Lt.last {w : World} {B b : Nat} {F : Ft} {t : Tb} (h : Lt w B b F t) : Calls Try.prog 10 #[.pointer (some ⟨b, 0, none⟩)] w fun e w' => e = .returned (.int .i64 t.last) ∧ w = w' := by
  obtain ⟨g, rfl, h1⟩ := h
  exact lhlast h1
theorem Lt.current {w : World} {B b : Nat} {F : Ft} {t : Tb} (h : Lt w B b F t) (hk : t.Ok) (x : Int) {cv cp : Int} {r : Bool} (HC : Hid (t.cur x = (cv, cp, r))) : Calls Try.prog 11 #[.pointer (some ⟨b, 0, none⟩), .int .i64 x] w fun e w' => e = .returned (.tuple #[.int .i64 cv, .int .i64 cp, .bool r]) ∧ Below w.heap.size w w' := by
  obtain ⟨g, rfl, h1⟩ := h
  exact lhcurrent h1 hk x HC
theorem Lt.wher {w : World} {B b : Nat} {F : Ft} {t : Tb} (h : Lt w B b F t) (hk : t.Ok) {u : Value} {ps : List Int} (hz : Hid (ps.length * 8 ≤ 140737488355328)) (hs : Sees .i64 w u ps) {A : List Int} (HA : Hid (t.wh ps = A)) : Calls Try.prog 16 #[.pointer (some ⟨b, 0, none⟩), u] w fun e w' => ∃ v, e = .returned v ∧ RoN w' w.heap.size v A ∧ Below w.heap.size w w' := by
  obtain ⟨g, rfl, h1⟩ := h
  exact lhwhere h1 hk hs HA
end Go.Proofs.Ytknijloificpmaa
