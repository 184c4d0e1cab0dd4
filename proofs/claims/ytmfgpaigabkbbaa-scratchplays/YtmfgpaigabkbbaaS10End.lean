
/-
  Two scratches and their books: what the law's end asks. No condition.
-/
import Derived.Test.YtmfgpaigabkbbaaS10Two
namespace Go.Proofs.Ytmfgpaigabkbbaa
open Go.RowKit
set_option linter.unusedVariables false
set_option linter.unusedSimpArgs false
set_option maxRecDepth 100000

theorem PtrB.below {w w' : World} {u : Value} {o : Option (List Int)} (h : PtrB w u o) (hb : Below w.heap.size w w') : PtrB w' u o := by
  rcases h with h | ⟨c, B, v, ks, h1, h2, h3⟩
  · exact .inl h
  · exact .inr ⟨c, B, v, ks, h1, h2, h3.below hb⟩
theorem PtrIs.below {w w' : World} {u : Value} {o : Option (List Int)} (h : PtrIs w u o) (hb : Below w.heap.size w w') : PtrIs w' u o := by
  rcases h with h | ⟨c, ws, cs, h1, h2, h3⟩
  · exact .inl h
  · exact .inr ⟨c, ws, cs, h1, h2, h3.below hb h3.lt⟩
theorem SeesK.below {w w' : World} {v : Value} {ss : List (Option (List Int))} (h : SeesK w v ss) (hb : Below w.heap.size w w') : SeesK w' v ss := by
  obtain ⟨a, cap, hv, h1, h2, h3⟩ := h
  refine ⟨a, cap, hv, h1, h2, fun hn => ?_⟩
  obtain ⟨b, off, ha, hlt, hc⟩ := h3 hn
  refine ⟨b, off, ha, Nat.lt_of_lt_of_le hlt hb.size, fun i hi => ?_⟩
  obtain ⟨u, hu, hp⟩ := hc i hi
  exact ⟨u, (hb.cell (p := ⟨b, off + i, none⟩) hlt).trans hu, hp.below hb⟩
theorem SeesP.below {w w' : World} {v : Value} {ss : List (Option (List Int))} (h : SeesP w v ss) (hb : Below w.heap.size w w') : SeesP w' v ss := by
  obtain ⟨a, cap, hv, h1, h2, h3⟩ := h
  refine ⟨a, cap, hv, h1, h2, fun hn => ?_⟩
  obtain ⟨b, off, ha, hlt, hc⟩ := h3 hn
  refine ⟨b, off, ha, Nat.lt_of_lt_of_le hlt hb.size, fun i hi => ?_⟩
  obtain ⟨u, hu, hp⟩ := hc i hi
  exact ⟨u, (hb.cell (p := ⟨b, off + i, none⟩) hlt).trans hu, hp.below hb⟩
theorem SeesP.drew {w : World} {v : Value} {ss : List (Option (List Int))} (h : SeesP w v ss) : SeesP w.drew v ss := h.below ⟨rfl, rfl, rfl, Nat.le_refl _, fun _ _ => rfl⟩
theorem four_lit {w : World} {T : TypeId} {a b c d : Value} {x y z t : Option (List Int)} {g : Nat} (hg : g = w.heap.size) (h1 : PtrIs (w.alloc (.cells #[a, b, c, d] T)) a x) (h2 : PtrIs (w.alloc (.cells #[a, b, c, d] T)) b y) (h3 : PtrIs (w.alloc (.cells #[a, b, c, d] T)) c z) (h4 : PtrIs (w.alloc (.cells #[a, b, c, d] T)) d t) : SeesP (w.alloc (.cells #[a, b, c, d] T)) (.slice (some ⟨g, 0, none⟩) 4 4) [x, y, z, t] := by
  subst hg
  refine seesP_lit w T [a, b, c, d] [x, y, z, t] 4 rfl rfl (by simp) fun i hi => ?_
  have : i = 0 ∨ i = 1 ∨ i = 2 ∨ i = 3 := by simp at hi; omega
  rcases this with rfl | rfl | rfl | rfl
  · exact h1
  · exact h2
  · exact h3
  · exact h4
theorem fourK_lit {w : World} {T : TypeId} {a b c d : Value} {x y z t : Option (List Int)} {g : Nat} (hg : g = w.heap.size) (h1 : PtrB (w.alloc (.cells #[a, b, c, d] T)) a x) (h2 : PtrB (w.alloc (.cells #[a, b, c, d] T)) b y) (h3 : PtrB (w.alloc (.cells #[a, b, c, d] T)) c z) (h4 : PtrB (w.alloc (.cells #[a, b, c, d] T)) d t) : SeesK (w.alloc (.cells #[a, b, c, d] T)) (.slice (some ⟨g, 0, none⟩) 4 4) [x, y, z, t] := by
  subst hg
  refine seesK_lit w T [a, b, c, d] [x, y, z, t] 4 rfl rfl (by simp) fun i hi => ?_
  have : i = 0 ∨ i = 1 ∨ i = 2 ∨ i = 3 := by simp at hi; omega
  rcases this with rfl | rfl | rfl | rfl
  · exact h1
  · exact h2
  · exact h3
  · exact h4
theorem Two.tot {w wr : World} {s0 s1 c0 c1 ls lb N : Nat} (h : Two w wr s0 s1 c0 c1 ls lb N) : ∃ A0 A1, PtrIs wr (.pointer (some ⟨s0, 0, none⟩)) (some A0) ∧ PtrIs wr (.pointer (some ⟨s1, 0, none⟩)) (some A1) ∧ PtrB wr (.pointer (some ⟨c0, 0, none⟩)) (some A0) ∧ PtrB wr (.pointer (some ⟨c1, 0, none⟩)) (some A1) := by
  obtain ⟨v0, v1, ks0, ks1, ws0, ws1, cs0, cs1, h0, h1, ha, hs, hc, n0, n1, hl, hk, hw⟩ := h
  refine ⟨cs0, cs1, PtrIs.sc h0.sc, PtrIs.sc h1.sc, ?_, ?_⟩
  · rw [h0.tie.cs]; exact PtrB.bk h0.bk
  · rw [h1.tie.cs]; exact PtrB.bk h1.bk
theorem seesP_nil (w : World) : SeesP w (.slice none 0 0) [] := ⟨none, 0, rfl, by simp, by simp [maxLen], fun h => absurd rfl h⟩
theorem make_sees (w : World) : Sees .u64 (w.alloc (.cells (nums nought).toArray 32)) (.slice (some ⟨w.heap.size, 0, none⟩) 16 16) nought := Sees.own (own16 w) W64L.nought.wf
end Go.Proofs.Ytmfgpaigabkbbaa
