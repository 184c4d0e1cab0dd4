
/-
 The law's small and awake: the document's examples, by the landed judge's contracts. No condition.
-/
import Derived.Test.YtmhdhekcogplhaaGreatMS46
import Derived.Test.YtmhdhekcogplhaaGreatMS34
namespace Go.Proofs.YtmhdhekcogplhaaGreat
open Go.RowKit
set_option linter.unusedVariables false
set_option linter.unusedSimpArgs false
set_option maxRecDepth 100000

theorem seesI_lit (w : World) (t : TypeId) (xs : List In) (cs : Array Value) (n g : Nat) (hg : g = w.heap.size) (hcs : cs = (flat xs).toArray) (hn : n = xs.length) (hm : xs.length <= 1048576) : SeesI (w.alloc (.cells cs t)) (.slice (some ⟨g, 0, none⟩) n n) xs := by
 subst hn hcs hg
 refine own_seesI (base := w.heap.size) (e := t) ⟨flat_len xs, .inr ⟨w.heap.size, xs.length, (flat xs).toArray, rfl, Nat.le_refl _, heap_alloc_new w _, Nat.le_refl _, by unfold maxLen; omega, by rw [List.size_toArray, flat_len], ?_⟩⟩
 rw [<- flat_len]; simp
theorem ljudge_as {vm vc : Value} {ms : List Int} {xs : List In} {w : World} (hm : Sees .i64 w vm ms) (hx : SeesI w vc xs) {P E : Int} (h : Hid (judgeR ms xs = (P, E))) : Calls Tryz.prog 25 #[.agg #[vm, vc]] w fun e w' => e = .returned (.tuple #[.int .i64 P, .int .i64 E]) /\ Below w.heap.size w w' := by
 refine (ljudge_any vm ms vc xs w hm hx).mono ?_
 rintro e w' ⟨P', E', h1, _, _, rfl, hb⟩
 rw [h.out] at h1
 injection h1 with h2 h3
 subst h2 h3
 exact ⟨rfl, hb⟩
theorem ltypes_as {vm vc : Value} {ms : List Int} {xs : List In} {w : World} (hm : Sees .i64 w vm ms) (hx : SeesI w vc xs) {K : Kn} (h : Hid (inqR ms xs = .ok K)) : Calls Tryz.prog 28 #[.agg #[vm, vc]] w fun e w' => ∃ tb vs, e = .returned (.tuple #[.slice (some ⟨tb, 0, none⟩) xs.length xs.length, .int .i64 0]) /\ Rows9 w' tb K xs.length vs /\ K.length = xs.length /\ MadeK ms.length K /\ Below w.heap.size w w' := by
 refine (ltypes_any vm ms vc xs w hm hx).mono ?_
 rintro e w' (⟨P, E, h1, _⟩ | ⟨K', tb, vs, h1, hT, hmf, hr, hl, hM, rfl, hR, _, hb⟩)
 ·rw [h.out] at h1; cases h1
 ·rw [h.out] at h1; injection h1 with h1; subst h1
  exact ⟨tb, vs, rfl, hR, hl, hM, hb⟩
theorem Rows9.open {w : World} {tb : Nat} {K : Kn} {n : Nat} {vs : List Value} (h : Rows9 w tb K n vs) {j : Nat} (hj : j < n) (hn : n <= K.length) (hr : (K.getD j kn0).1 = true) : ∃ g cap, w.cell? ⟨tb, j, none⟩ = some (.slice (some ⟨g, 0, none⟩) 8 cap) /\ 8 <= cap /\ cap <= 9223372036854775807 /\ g < w.heap.size /\ tb < g /\ (K.getD j kn0).2.length = 8 /\ ∀ r, r < 8 -> AtT w g (r * 4) ((K.getD j kn0).2.getD r Ty.nil) := by
 obtain ⟨⟨base, ho⟩, h8, h1, h2⟩ := (h.row j hj).2 hr
 obtain ⟨g, cap, hv, hb, hgz, hc⟩ := own_block ho (by omega)
 have hcell := h.cells.cell (getD_some (show j < vs.length by rw [h.len]; omega))
 have hs := own_seesT ho
 rw [hv] at hcell h1 hs
 rw [h8] at hcell hs hc
 obtain ⟨a', c', hv', h3, h4, h5, h6⟩ := hs
 injection hv' with e1 e2 e3
 subst e1 e3
 obtain ⟨b', off', he, hlt, hat⟩ := h6 (fun e => by rw [e] at h8; simp at h8)
 injection he with he
 injection he with e4 e5
 subst e4 e5
 refine ⟨g, cap, hcell, hc, by unfold maxLen at h4; omega, hgz, h1, h8, fun r hr => ?_⟩
 have := hat r (by omega)
 rw [Nat.zero_add] at this
 exact this
end Go.Proofs.YtmhdhekcogplhaaGreat
