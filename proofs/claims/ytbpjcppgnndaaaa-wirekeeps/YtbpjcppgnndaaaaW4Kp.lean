/-
  What a law leaves alone: the blocks between two bounds. Besides: bytes with marks behind them as a string.
-/
import Derived.Test.YtbpjcppgnndaaaaW4RSame
import Derived.Test.YtbpjcppgnndaaaaW4Copied
import Derived.Test.YtbpjcppgnndaaaaW4WDecodes
import Derived.Test.YtbpjcppgnndaaaaW4REncode
namespace Go.Proofs.Ytbpjcppgnndaaaa
open Go.RowKit
set_option linter.unusedVariables false

/-- What is old stays, and the blocks from B to T are those of W. -/
structure Kp (w W : World) (B T : Nat) (wk : World) : Prop where
  g : Below w.heap.size w wk
  t : T ≤ wk.heap.size
  mid : ∀ k, B ≤ k → k < T → wk.heap[k]? = W.heap[k]?
theorem Kp.grown {w W wk w' : World} {B T : Nat} {row : Option Nat} (h : Kp w W B T wk) (hg : wk.grownBy w' row) (hr : ∀ k, row = some k → w.heap.size ≤ k ∧ (k < B ∨ T ≤ k)) : Kp w W B T w' :=
  ⟨h.g.grown hg h.g.size (fun k hk => (hr k hk).1), Nat.le_trans h.t hg.size, fun k h1 h2 => (hg.block k (Nat.lt_of_lt_of_le h2 h.t) (fun e => by have := hr k e.symm; omega)).trans (h.mid k h1 h2)⟩
theorem Kp.below {w W wk w' : World} {B T : Nat} (h : Kp w W B T wk) (hb : Below wk.heap.size wk w') : Kp w W B T w' := h.grown (grown_below hb none) (fun k e => by cases e)
theorem Kp.own {w W wk : World} {B T : Nat} {e : TypeId} {z : Nat} {v : Value} {n : Nat} {xs : List Value} (h : Kp w W B T wk) (hT : W.heap.size ≤ T) (ho : W.ownsRow B e z v n xs) : wk.ownsRow B e z v n xs := by
  rcases ho with ⟨h1, h2 | ⟨g, cap, cur, hv, hg, hh, r⟩⟩
  · exact ⟨h1, .inl h2⟩
  · have hlt : g < W.heap.size := (Array.getElem?_eq_some_iff.1 hh).1
    exact ⟨h1, .inr ⟨g, cap, cur, hv, hg, by rw [h.mid g hg (by omega)]; exact hh, r⟩⟩
theorem Kp.md {w W wk : World} {B T n : Nat} {vm vc : Value} (h : Kp w W B T wk) (hT : W.heap.size ≤ T) (ho : MdC W n vm vc) (hB : B ≤ n) : MdC wk n vm vc := by
  have hlt := ho.lt
  unfold MdC
  rw [h.mid n hB (by omega)]; exact ho
theorem mine_sees {w : World} {base g cap n : Nat} {e : TypeId} {xs ys : List Int} (h : w.ownsRow base e 1 (.slice (some ⟨g, 0, none⟩) n cap) n ((xs ++ ys).map (Value.int .u8))) (hn : n = xs.length + ys.length) (hw : ∀ x ∈ xs, (Lit.int .u8 x).wf = true) (hpos : 0 < n) : Sees .u8 w (.slice (some ⟨g, 0, none⟩) xs.length cap) xs := by
  obtain ⟨g', cap', ev, _, hlt, hc, hm, hcell⟩ := own_open h hpos
  obtain ⟨rfl, rfl⟩ : g = g' ∧ cap = cap' := by injection ev with e1 e2 e3; injection e1 with e1; injection e1 with e1; exact ⟨e1, e3⟩
  refine ⟨_, cap, rfl, by omega, hm, fun h => by simp at h, hw, fun _ => ⟨g, 0, rfl, hlt, fun i hi => ?_⟩⟩
  rw [Nat.zero_add]
  refine hcell i _ ?_
  rw [List.getElem?_map, List.getElem?_append_left hi]
  simp [List.getD, List.getElem?_eq_getElem hi]
theorem strI_app (xs ys : List Int) : strI (xs ++ ys) = strI xs ++ strI ys := by
  apply ByteArray.ext
  simp [strI]
theorem strI_marks (xs : List Int) : strI (xs ++ [71, 72, 73]) = strI xs ++ { data := #[71, 72, 73] } := by
  rw [strI_app]; rfl
theorem strI_size (xs : List Int) : (strI xs).size = xs.length := by simp [strI, ByteArray.size]
theorem two_new (w : World) (x y : Value) (t : TypeId) : ∀ j u, [x, y][j]? = some u → (w.alloc (.cells #[x, y] t)).cell? ((⟨w.heap.size, 0, none⟩ : Addr).add j) = some u := by
  intro j u hj
  rw [add_none, Nat.zero_add, World.cell?_alloc_at _ _ _ _ rfl]
  exact (List.getElem?_toArray (xs := [x, y])).trans hj
theorem five_new (w : World) (x y z a b : Value) (t : TypeId) : ∀ j u, [x, y, z, a, b][j]? = some u → (w.alloc (.cells #[x, y, z, a, b] t)).cell? ((⟨w.heap.size, 0, none⟩ : Addr).add j) = some u := by
  intro j u hj
  rw [add_none, Nat.zero_add, World.cell?_alloc_at _ _ _ _ rfl]
  exact (List.getElem?_toArray (xs := [x, y, z, a, b])).trans hj
theorem two_one (a b : Int) : ∀ u ∈ [Value.int .i64 a, .int .i64 b], u.oneCell' = true := by
  intro u hu
  simp at hu
  rcases hu with rfl | rfl <;> rfl
theorem five_one (a b c d e : Int) : ∀ u ∈ [Value.int .i64 a, .int .i64 b, .int .i64 c, .int .i64 d, .int .i64 e], u.oneCell' = true := by
  intro u hu
  simp at hu
  rcases hu with rfl | rfl | rfl | rfl | rfl <;> rfl
/-- An own row of any elements, opened. -/
theorem own_openN {w : World} {base : Nat} {e : TypeId} {z : Nat} {v : Value} {n : Nat} {xs : List Value} (h : w.ownsRow base e z v n xs) : ∃ a cap, v = .slice a n cap ∧ n ≤ cap ∧ cap ≤ 9223372036854775807 ∧ (0 < n → ∃ g, a = some ⟨g, 0, none⟩) := by
  rcases h with ⟨h1, ⟨rfl, rfl⟩ | ⟨g, cap, cur, rfl, hb, hh, h3, h4, _⟩⟩
  · exact ⟨_, _, rfl, by omega, by omega, fun h => by omega⟩
  · unfold maxLen at h4
    exact ⟨_, _, rfl, h3, by omega, fun _ => ⟨g, rfl⟩⟩
theorem own_unlike2 {w : World} {e : TypeId} {z base : Nat} {v : Value} {n : Nat} {xs : List Value} (h : w.ownsRow base e z v n xs) {r : Option Nat} (hr : ∀ k, v.ownBlock = some k → r ≠ some k) : v.ownBlock = none ∨ v.ownBlock ≠ r := by
  cases hv : v.ownBlock with
  | none => exact .inl rfl
  | some k => exact .inr fun e => hr k hv e.symm
theorem dec_wf2 {ys : List Int} (hy : Bytes ys) : ∃ ms is q e, decL ys = ((ms, is), q, e) ∧ (∀ n ∈ ms, 0 ≤ n ∧ n ≤ 3) ∧ (∀ i ∈ is, i.wf) ∧ ms.length ≤ 4 ∧ is.length ≤ 64 := by
  rcases dec_two hy with ⟨q, e, h, _⟩ | ⟨ms, is, h, hf, hw, _⟩
  · exact ⟨[], [], q, e, h, by simp, by simp, by simp, by simp⟩
  · exact ⟨ms, is, 0, 0, h, fitF_bd ms [] (formed_parts hf).2.2.2.1, hw, (formed_parts hf).1, (formed_parts hf).2.2.1⟩
theorem MdC.set0 {w : World} {n : Nat} {vm vc : Value} (h : MdC w n vm vc) (um : Value) : MdC (w.setCell ⟨n, 0, none⟩ um) n um vc := heap_setCell_same w n 0 _ _ _ h
theorem MdC.set1 {w : World} {n : Nat} {vm vc : Value} (h : MdC w n vm vc) (uc : Value) : MdC (w.setCell ⟨n, 1, none⟩ uc) n vm uc := heap_setCell_same w n 1 _ _ _ h
theorem cutV_zero (g L cap : Nat) : cutV (some ⟨g, 0, none⟩) 0 L cap = .slice (some ⟨g, 0, none⟩) L cap := by
  simp [cutV]
  intro _
  rw [add_none]
end Go.Proofs.Ytbpjcppgnndaaaa
