
/-
 The law's small and awake: the document's examples, by the landed judge's contracts. No condition.
-/
import Derived.Test.YtkondcjmhlppiaaGreatMW44
import Derived.Test.YtkondcjmhlppiaaGreatMW33
namespace Go.Proofs.YtkondcjmhlppiaaGreat
open Go.RowKit
set_option linter.unusedVariables false
set_option linter.unusedSimpArgs false
set_option maxRecDepth 100000

theorem seesI_lit (w : World) (t : TypeId) (xs : List In) (cs : Array Value) (n g : Nat) (hg : g = w.heap.size) (hcs : cs = (flat xs).toArray) (hn : n = xs.length) (hm : xs.length <= 1048576) : SeesI (w.alloc (.cells cs t)) (.slice (some ⟨g, 0, none⟩) n n) xs := by
 subst hn hcs hg
 refine own_seesI (base := w.heap.size) (e := t) ⟨flat_len xs, .inr ⟨w.heap.size, xs.length, (flat xs).toArray, rfl, Nat.le_refl _, heap_alloc_new w _, Nat.le_refl _, by unfold maxLen; omega, by rw [List.size_toArray, flat_len], ?_⟩⟩
 rw [<- flat_len]; simp
theorem ljudge_as {vm vc : Value} {ms : List Int} {xs : List In} {w : World} (hm : Sees .i64 w vm ms) (hx : SeesI w vc xs) {P E : Int} (h : Hid (judgeR ms xs = (P, E))) : Calls Tryz.prog 8 #[.agg #[vm, vc]] w fun e w' => e = .returned (.tuple #[.int .i64 P, .int .i64 E]) /\ Below w.heap.size w w' := by
 refine (ljudge_any vm ms vc xs w hm hx).mono ?_
 rintro e w' ⟨P', E', h1, _, _, rfl, hb⟩
 rw [h.out] at h1
 injection h1 with h2 h3
 subst h2 h3
 exact ⟨rfl, hb⟩
end Go.Proofs.YtkondcjmhlppiaaGreat
