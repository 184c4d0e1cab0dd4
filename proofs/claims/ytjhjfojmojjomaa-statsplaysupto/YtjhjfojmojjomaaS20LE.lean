
/-
  The landed stats of layer 20, told by what was told them. Condition: they lie where the pointer says.
-/
import Derived.Test.YtjhjfojmojjomaaS20LM
namespace Go.Proofs.Ytjhjfojmojjomaa
open Go.RowKit
set_option linter.unusedVariables false
set_option linter.unusedSimpArgs false
set_option maxRecDepth 100000
/-- The landed Stats. -/
def Lx (w : World) (B b : Nat) (F : Ft) (l : List To) : Prop := Lq w b l ∧ F = (fun k => k = b)
section
variable {w w' : World} {B b : Nat} {F G : Ft} {l L : List To}
theorem Lx.here (h : Lx w B b F l) : F b := by rw [h.2]
theorem Lx.lies (h : Lx w B b F l) : Lies w F := fun k hk => by
  rw [h.2] at hk
  rw [hk]
  exact Hp.lt h.1
theorem Lx.keeps (h : Lx w B b F l) (hc : Chg w w' G) (ha : Apt G F) : Lx w' B b F l := ⟨Hp.chg h.1 hc (fun e => ha b e h.here), h.2⟩
theorem lxnew (w : World) : Calls Try.prog 7 #[] w fun e w' => ∃ b F, e = .returned (.pointer (some ⟨b, 0, none⟩)) ∧ Lx w' w.heap.size b F [] ∧ Since w F ∧ Below w.heap.size w w' := by
  obtain ⟨X, HX, HPX, HBX⟩ : ∃ X, Hid (w.alloc (.cells (flatG taC zeroF).toArray 54) = X) ∧ Hid (Hp X w.heap.size 54 (flatG taC (four []))) ∧ Hid (Below w.heap.size w X) := ⟨_, rfl, Hp.new w _ _, below_allocG _ _⟩
  go_enter Try.func7, Try.ntmps7
  go_wp2
  go_ret
  have e : w.alloc (.cells #[.int .u64 0, .int .u64 0, .int .u64 0, .int .u64 0, .int .u64 0, .int .u64 0, .int .u64 0, .int .u64 0, .int .u64 0, .int .u64 0, .int .u64 0, .int .u64 0, .int .u64 0, .int .u64 0, .int .u64 0, .int .u64 0, .int .u64 0, .int .u64 0, .int .u64 0, .int .u64 0] 54) = X := HX.out
  rw [e]
  exact ⟨_, _, rfl, ⟨HPX.out, rfl⟩, fun k hk => Nat.le_of_eq hk.symm, HBX.out⟩
theorem Lx.step (h : Lx w B b F l) (g : Lq w' b L) (hc : Chg w w' (fun k => k = b)) : ∃ F', Lx w' B b F' L ∧ Nx w w' F F' := ⟨F, ⟨g, h.2⟩, by rw [h.2]; exact hc, fun k hk => .inl hk⟩
theorem Lx.ran (h : Lx w B b F l) (hB : B ≤ w.heap.size) (x s c u : Int) {E : Int} (HQ : Hid (ranL l x s c u = (E, L))) : Calls Try.prog 16 #[.pointer (some ⟨b, 0, none⟩), .int .i64 x, .int .u64 s, .int .u64 c, .int .u64 u] w fun e w' => e = .returned (.int .i64 E) ∧ ∃ F', Lx w' B b F' L ∧ Nx w w' F F' := by
  refine (h.1.ran x s c u HQ).mono ?_
  rintro e w' ⟨rfl, g1, g2⟩
  exact ⟨rfl, h.step g1 g2⟩
theorem Lx.missed (h : Lx w B b F l) (hB : B ≤ w.heap.size) {v : Value} {hs : List Int} (hz : Hid (hs.length * 8 ≤ 140737488355328)) (hse : Sees .i64 w v hs) (hap : hs ≠ [] → Apt F (ftV v)) {E : Int} (HQ : Hid (missedL l hs = (E, L))) : Calls Try.prog 17 #[.pointer (some ⟨b, 0, none⟩), v] w fun e w' => e = .returned (.int .i64 E) ∧ ∃ F', Lx w' B b F' L ∧ Nx w w' F F' := by
  refine (h.1.missed hse (fun hne => by have := hap hne; rw [h.2] at this; exact this) HQ).mono ?_
  rintro e w' ⟨rfl, g1, g2⟩
  exact ⟨rfl, h.step g1 g2⟩
theorem Lx.of (h : Lx w B b F l) (x : Int) {E : Int} {T : Ta} (HQ : Hid ((if isH x = true then (ofL x l, (0 : Int)) else (Ta.nil, 2)) = (T, E))) : Calls Try.prog 11 #[.pointer (some ⟨b, 0, none⟩), .int .i64 x] w fun e w' => e = .returned (.tuple #[taV T, .int .i64 E]) ∧ Below w.heap.size w w' := h.1.of x HQ
end
theorem lmerge {w : World} {v : Value} {qs : List (Option Nat)} (hs : SeesG ptC 1 none w v qs) (hl : qs.length ≤ 100) {ls : Nat → List To} (hq : ∀ b, some b ∈ qs → ∃ B F, Lx w B b F (ls b)) {A : List Ta} (HA : Hid (four (toldAll ls qs) = A)) : Calls Try.prog 14 #[v] w fun e w' => ∃ u, e = .returned u ∧ RoTa w' w.heap.size u A ∧ Below w.heap.size w w' :=
  lmergeQ hs hl (fun b hb => by obtain ⟨_, _, h⟩ := hq b hb; exact h.1) HA
end Go.Proofs.Ytjhjfojmojjomaa
