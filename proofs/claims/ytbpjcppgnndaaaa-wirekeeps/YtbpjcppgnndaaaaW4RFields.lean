/-
  What the document's Fields does: the bytes of a module, field by field. Conditions: the module is well formed; its slices read as numbers and as instructions.
-/
import Derived.Test.YtbpjcppgnndaaaaW4Encode
import Derived.Test.YtbpjcppgnndaaaaW4RSame
import Derived.Test.YtbpjcppgnndaaaaW4RWorld
import Derived.Test.YtbpjcppgnndaaaaBRefPut
import Derived.Deep.RegionHeldLaw
import Derived.Deep.DrawnRows
import Derived.Deep.AppendLies
namespace Go.Proofs.Ytbpjcppgnndaaaa
open Go.RowKit
set_option linter.unusedVariables false
set_option maxRecDepth 100000
attribute [local go_sem ↓] Go.wp_at_zero Go.wp_at_succ

/-- A row of bytes of the call's own. -/
abbrev RowB (w : World) (base : Nat) (u : Value) (f : List Int) : Prop := w.ownsRow base 5 1 u f.length (f.map (Value.int .u8))
/-- A row of rows of bytes, all of the call's own. -/
structure FB (w : World) (base : Nat) (v : Value) (vs : List Value) (fs : List (List Int)) : Prop where
  own : w.ownsRow base 28 1 v vs.length vs
  len : vs.length = fs.length
  rows : ∀ i, i < fs.length → RowB w base (vs.getD i nilV) (fs.getD i [])
theorem FB.below {w w' : World} {base : Nat} {v : Value} {vs : List Value} {fs : List (List Int)} (h : FB w base v vs fs) (hb : Below w.heap.size w w') : FB w' base v vs fs :=
  ⟨own_below h.own hb (Nat.le_refl _), h.len, fun i hi => own_below (h.rows i hi) hb (Nat.le_refl _)⟩
theorem FB.add {w w1 : World} {base : Nat} {v v1 : Value} {vs us : List Value} {fs gs : List (List Int)} (h : FB w base v vs fs) (hu : us.length = gs.length) (hr : ∀ i, i < gs.length → RowB w base (us.getD i nilV) (gs.getD i []))
    (ho : w1.ownsRow base 28 1 v1 (vs.length + us.length) (vs ++ us)) (hg : w.grownBy w1 v.ownBlock) : FB w1 base v1 (vs ++ us) (fs ++ gs) := by
  have kept : ∀ u f, RowB w base u f → RowB w1 base u f := fun u f hh => hh.kept hg (own_unlike h.own hh (by decide))
  refine ⟨by simpa using ho, by simp [h.len, hu], fun i hi => ?_⟩
  have hl := h.len
  by_cases hlt : i < fs.length
  · have e1 : (vs ++ us).getD i nilV = vs.getD i nilV := by simp [List.getD, List.getElem?_append_left (show i < vs.length by omega)]
    have e2 : (fs ++ gs).getD i [] = fs.getD i [] := by simp [List.getD, List.getElem?_append_left hlt]
    rw [e1, e2]
    exact kept _ _ (h.rows i hlt)
  · have e1 : (vs ++ us).getD i nilV = us.getD (i - fs.length) nilV := by simp [List.getD, List.getElem?_append_right (show vs.length ≤ i by omega), hl]
    have e2 : (fs ++ gs).getD i [] = gs.getD (i - fs.length) [] := by simp [List.getD, List.getElem?_append_right (show fs.length ≤ i by omega)]
    rw [e1, e2]
    rw [List.length_append] at hi
    exact kept _ _ (hr _ (by omega))
/-- The five fields of an instruction. -/
def instFs (i : In) : List (List Int) := [enc i.op, enc i.d, enc i.a, enc i.b, enc (foldI i.imm)]
def fieldsL (ms : List Int) (is : List In) : List (List Int) := ([[84], [80], [1], enc ms.length] ++ ms.map enc) ++ [enc is.length] ++ is.flatMap instFs
theorem fields_flat (ms : List Int) (is : List In) : (fieldsL ms is).flatten = modE ms is := by
  have e1 : (ms.map enc).flatten = encs ms := by simp [encs, List.flatMap]
  have e2 : (is.flatMap instFs).flatten = codeE is := by
    induction is with
    | nil => rfl
    | cons i is ih =>
      simp only [List.flatMap_cons, List.flatten_append, ih]
      have : (instFs i).flatten = instE i := by simp [instFs, instE, encs]
      rw [this]; rfl
  simp only [fieldsL, List.flatten_append, e1, e2, modE]
  simp
theorem fields_take (is : List In) (k : Nat) (h : k < is.length) : (is.take (k + 1)).flatMap instFs = (is.take k).flatMap instFs ++ instFs (is.getD k In.nil) := by
  rw [List.take_succ_eq_append_getElem h, List.flatMap_append]
  simp [List.getD, h]
theorem map_take_enc (ms : List Int) (k : Nat) (h : k < ms.length) : (ms.take (k + 1)).map enc = (ms.take k).map enc ++ [enc (ms.getD k 0)] := by
  rw [take_at ms k h]; simp
theorem Try.infoSl : (Try.prog.info? 28).map (fun i => (i.zero, i.size, i.bytes)) = some (some nilV, 1, 24) := by kernel_rfl
theorem one_val (w : World) (e : TypeId) (u : Value) (n : Nat) (hn : n = w.heap.size) : ∀ j x, [u][j]? = some x → (w.alloc (.cells #[u] e)).cell? ((⟨n, 0, none⟩ : Addr).add j) = some x := by
  subst hn
  intro j x hx
  rw [Addr.add_mid, Nat.zero_add, World.cell?_alloc_at _ _ _ _ rfl]
  simpa using hx
theorem own_shape4 {w : World} {base : Nat} {e : TypeId} {z : Nat} {v : Value} {n : Nat} {xs : List Value} (h : w.ownsRow base e z v n xs) : ∃ a cap, v = .slice a n cap := by
  rcases h with ⟨_, ⟨rfl, h2⟩ | ⟨g, cap, cur, rfl, _⟩⟩
  · exact ⟨none, 0, by rw [h2]⟩
  · exact ⟨_, _, rfl⟩
theorem rowB_slice {w : World} {base : Nat} {u : Value} {f : List Int} (h : RowB w base u f) : u.oneCell' = true := by
  obtain ⟨a, cap, rfl⟩ := own_shape4 h
  rfl
theorem lit_row (w : World) (base : Nat) (x : Int) (n : Nat) (hn : n = w.heap.size) (hb : base ≤ w.heap.size) : RowB (w.alloc (.cells #[.int .u8 x] 5)) base (.slice (some ⟨n, 0, none⟩) 1 1) [x] := own_lit w base 5 [.int .u8 x] n hn hb (by simp [maxLen])
/-- As Fields begins. -/
theorem FB.start {W0 w2 : World} {v4 : Value} {f : List Int} (n1 n2 n3 : Nat) (e1 : n1 = W0.heap.size) (e2 : n2 = W0.heap.size + 1) (e3 : n3 = W0.heap.size + 1 + 1) (hb : Below (((W0.alloc (.cells #[.int .u8 84] 5)).alloc (.cells #[.int .u8 80] 5)).alloc (.cells #[.int .u8 1] 5)).heap.size (((W0.alloc (.cells #[.int .u8 84] 5)).alloc (.cells #[.int .u8 80] 5)).alloc (.cells #[.int .u8 1] 5)) w2) (h4 : RowB w2 W0.heap.size v4 f) :
    FB (w2.alloc (.cells #[.slice (some ⟨n1, 0, none⟩) 1 1, .slice (some ⟨n2, 0, none⟩) 1 1, .slice (some ⟨n3, 0, none⟩) 1 1, v4] 28)) W0.heap.size (.slice (some ⟨w2.heap.size, 0, none⟩) 4 4) [.slice (some ⟨n1, 0, none⟩) 1 1, .slice (some ⟨n2, 0, none⟩) 1 1, .slice (some ⟨n3, 0, none⟩) 1 1, v4] ([[84], [80], [1]] ++ [f]) := by
  subst e1 e2 e3
  have hs := hb.size
  simp only [World.size_alloc] at hs
  have r1 : RowB w2 W0.heap.size (.slice (some ⟨W0.heap.size, 0, none⟩) 1 1) [84] := own_below (((lit_row W0 W0.heap.size 84 _ rfl (Nat.le_refl _)).alloc _).alloc _) hb (Nat.le_refl _)
  have r2 : RowB w2 W0.heap.size (.slice (some ⟨W0.heap.size + 1, 0, none⟩) 1 1) [80] := own_below ((lit_row (W0.alloc (.cells #[.int .u8 84] 5)) W0.heap.size 80 _ (by simp) (by simp)).alloc _) hb (Nat.le_refl _)
  have r3 : RowB w2 W0.heap.size (.slice (some ⟨W0.heap.size + 1 + 1, 0, none⟩) 1 1) [1] := own_below (lit_row ((W0.alloc (.cells #[.int .u8 84] 5)).alloc (.cells #[.int .u8 80] 5)) W0.heap.size 1 _ (by simp) (by simp; omega)) hb (Nat.le_refl _)
  refine ⟨own_lit w2 W0.heap.size 28 [_, _, _, v4] w2.heap.size rfl (by omega) (by simp [maxLen]), rfl, fun i hi => ?_⟩
  have hc : i = 0 ∨ i = 1 ∨ i = 2 ∨ i = 3 := by simp at hi; omega
  rcases hc with rfl | rfl | rfl | rfl
  · exact r1.alloc _
  · exact r2.alloc _
  · exact r3.alloc _
  · exact h4.alloc _
end Go.Proofs.Ytbpjcppgnndaaaa
