/-
  The examples that each law calls first ('awake') come out as the document has them; old memory stays. No condition.
-/
import Derived.Test.YtbhiaclgakhcdaaVSame
namespace Go.Proofs.Ytbhiaclgakhcdaa
open Go.RowKit
set_option linter.unusedVariables false

/-- A row that a literal lays. -/
theorem Sees.lit (w : World) (k : IntKind) (t : TypeId) (xs : List Int) (cs : Array Value) (n : Nat) (hcs : cs = (xs.map (Value.int k)).toArray) (hn : n = xs.length) (hm : xs.length ≤ 17592186044416) (hw : ∀ x ∈ xs, (Lit.int k x).wf = true) :
    Sees k (w.alloc (.cells cs t)) (.slice (some ⟨w.heap.size, 0, none⟩) n n) xs := by
  subst hn
  refine ⟨_, _, rfl, Nat.le_refl _, by unfold maxLen; omega, fun h => by simp at h, hw, fun _ => ⟨w.heap.size, 0, rfl, by simp, fun i hi => ?_⟩⟩
  subst hcs
  have hs : i < ((xs.map (Value.int k)).toArray).size := by simpa using hi
  simp [World.cell?_alloc_at, hi, List.getD]
/-- What is owned, opened. -/
theorem own_open {w : World} {base : Nat} {e : TypeId} {v : Value} {n : Nat} {xs : List Value} (h : w.ownsRow base e 1 v n xs) (hn : 0 < n) :
    ∃ g cap, v = .slice (some ⟨g, 0, none⟩) n cap ∧ base ≤ g ∧ g < w.heap.size ∧ n ≤ cap ∧ cap ≤ maxLen ∧ ∀ j u, xs[j]? = some u → w.cell? ⟨g, j, none⟩ = some u := by
  have h0 := h
  rcases h with ⟨h1, ⟨rfl, h2⟩ | ⟨g, cap, cur, rfl, hb, hh, h3, h4, h5, h6⟩⟩
  · omega
  · exact ⟨g, cap, rfl, hb, (Array.getElem?_eq_some_iff.1 hh).1, h3, h4, fun j u hu => by
      have hj : j < xs.length := (List.getElem?_eq_some_iff.1 hu).1
      rw [h0.cellAt j (by omega)]; exact hu⟩

/-- What Put lays of 127 and 128, opened. -/
theorem awake_put {w w1 : World} {o : Obj} {v : Value} (hown : w1.ownsRow (w.alloc o).heap.size 5 1 v (encs [127, 128]).length ((encs [127, 128]).map (Value.int .u8))) (hbe : Below (w.alloc o).heap.size (w.alloc o) w1) :
    ∃ g cap, v = .slice (some ⟨g, 0, none⟩) 3 cap ∧ g < w1.heap.size ∧ w1.cell? ⟨g, 0, none⟩ = some (.int .u8 127) ∧ w1.cell? ⟨g, 1, none⟩ = some (.int .u8 128) ∧ w1.cell? ⟨g, 2, none⟩ = some (.int .u8 1) ∧ Below w.heap.size w w1 ∧ w.heap.size ≤ w1.heap.size := by
  obtain ⟨g, cap, rfl, _, hlt, _, _, hc⟩ := own_open hown (by decide)
  have hB : Below w.heap.size w w1 := ((Below.refl _ _).alloc (Nat.le_refl _) o).trans (hbe.mono (by simp))
  exact ⟨g, cap, rfl, hlt, hc 0 _ rfl, hc 1 _ rfl, hc 2 _ rfl, hB, hB.size⟩

set_option maxHeartbeats 400000 in
theorem awake_any (w : World) : Calls Try.prog 6 #[] w fun e w' => e = .returned (.bool true) ∧ Below w.heap.size w w' := by
  go_enter Try.func6, Try.ntmps6
  go_wp2_with (first
    | (go_at_call 7; go_must (refine (put_any _ [127, 128] _ (Sees.lit w .u64 _ [127, 128] _ 2 rfl rfl (by decide) (by decide)) (by decide)).mono ?_); rintro e w1 ⟨v, rfl, hown, hbe⟩; obtain ⟨g, cap, rfl, hg, c0, c1, c2, hB, hS⟩ := awake_put hown hbe; clear hown hbe)
    | (go_at_call 15; go_must (refine (get_any _ [128, 1, 85] _ (Sees.lit w1 .u8 _ [128, 1, 85] _ 3 rfl rfl (by decide) (by decide))).mono ?_); rintro e w2 ⟨rfl, rfl⟩))
  go_ret
  exact ⟨rfl, hB.alloc hS _⟩
end Go.Proofs.Ytbhiaclgakhcdaa
