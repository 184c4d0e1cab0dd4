
/-
  What the laws of layer 21 share: scripts of calls, opened; lists of bools. No condition.
-/
import Derived.Test.YtnjmajcjdkceoaaK21LE
import Derived.Test.YtnjmajcjdkceoaaGOpenW
namespace Go.Proofs.Ytnjmajcjdkceoaa
open Go.ChangeShapes Go.WideShapes Go.ChangeAt Go.RowKit
set_option linter.unusedVariables false
set_option linter.unusedSimpArgs false
set_option maxRecDepth 100000

theorem bool_cells {H : Type} {enc : TypeId × Value → H} {W : World} {fuel : Nat} {cs : List Value} {x : DataW H × List MemPlace}
    (h : DataW.trod enc Try.prog W 0 (fun _ => true) true fuel 4 cs = some x) : ∃ b : Bool, cs = bK b ∧ True ∧ ((x.1.weights Try.prog 4).all (· ≤ reachBytes) = true → True) := by
  obtain ⟨b, e, _⟩ := DataW.trod_bool Try.underlying4 h
  exact ⟨b, e, trivial, fun _ => trivial⟩
/-- Bools that were handed in: a shape is enough. -/
theorem opens_bools {H : Type} {enc : TypeId × Value → H} {W : World} {base : Nat} {v : Value} {d : DataW H} {p : List MemPlace}
    (hok : Value.okWide Try.prog W .any base 32 v) (h : DataW.Trod enc Try.prog W 0 (fun _ => true) true 32 v d p) :
    ∃ xs, SeesG bK 1 false W v xs ∧ (∀ x ∈ xs, True) ∧ ((d.weights Try.prog 32).all (· ≤ reachBytes) = true → xs.length * 1 ≤ 140737488351232 ∧ ∀ x ∈ xs, True) :=
  opensGW false (R := fun _ => True) (Q := fun _ => True) Try.underlying32 (by kernel_rfl) (by decide) bK_len (by kernel_rfl) bool_cells hok h
/-- A call of a script. -/
structure Ow where
  k : Int
  c : Int
  u : Value
  ws : List Int
  v : Value
  rs : List Bool
def Ow.nil : Ow := ⟨0, 0, .slice none 0 0, [], .slice none 0 0, []⟩
abbrev owC (o : Ow) : List Value := [.int .i64 o.k, .int .i64 o.c, o.u, o.v]
theorem owC_len (o : Ow) : (owC o).length = 4 := rfl
theorem op21_cells {H : Type} {enc : TypeId × Value → H} {W : World} {fuel : Nat} {cs : List Value} {x : DataW H × List MemPlace}
    (h : DataW.trod enc Try.prog W 0 (fun _ => true) true fuel 34 cs = some x) : ∃ o : Ow, cs = owC o ∧ (Sees .i64 W o.u o.ws ∧ SeesG bK 1 false W o.v o.rs) ∧ ((x.1.weights Try.prog 34).all (· ≤ reachBytes) = true → o.ws.length * 8 ≤ 140737488351232 ∧ o.rs.length ≤ 140737488351232) := by
  obtain ⟨xs, n, rfl, hx, hl, hlen, hf⟩ := DataW.trod_struct Try.underlying34 h
  have l5 : cs.length = 4 := by rw [hl]; kernel_rfl
  have u2 : Try.prog.cellsOf 3 = 1 := by kernel_rfl
  have u4 : Try.prog.cellsOf 29 = 1 := by kernel_rfl
  have u5 : Try.prog.cellsOf 32 = 1 := by kernel_rfl
  match cs, l5, xs, hlen, hf with
  | [c0, c1, c2, c3], _, [x0, x1, x2, x3], _, hf =>
    have h0 : DataW.trod enc Try.prog W 0 (fun _ => true) true n 3 (([c0, c1, c2, c3].drop 0).take (Try.prog.cellsOf 3)) = some x0 := hf 0 _ rfl
    have h1 : DataW.trod enc Try.prog W 0 (fun _ => true) true n 3 (([c0, c1, c2, c3].drop 1).take (Try.prog.cellsOf 3)) = some x1 := hf 1 _ rfl
    have h2 : DataW.trod enc Try.prog W 0 (fun _ => true) true n 29 (([c0, c1, c2, c3].drop 2).take (Try.prog.cellsOf 29)) = some x2 := hf 2 _ rfl
    have h3 : DataW.trod enc Try.prog W 0 (fun _ => true) true n 32 (([c0, c1, c2, c3].drop 3).take (Try.prog.cellsOf 32)) = some x3 := hf 3 _ rfl
    rw [u2] at h0 h1
    rw [u4] at h2
    rw [u5] at h3
    have h2 : DataW.trod enc Try.prog W 0 (fun _ => true) true n 29 [c2] = some x2 := h2
    have h3 : DataW.trod enc Try.prog W 0 (fun _ => true) true n 32 [c3] = some x3 := h3
    obtain ⟨k, e0, y0, g0⟩ := DataW.trod_int Try.underlying3 h0
    obtain ⟨y, e1, y1, g1⟩ := DataW.trod_int Try.underlying3 h1
    simp at e0 e1
    subst e0 e1 y0 y1
    obtain ⟨ua, ul, uc, rfl⟩ := slice_of_trod Try.underlying29 h2
    obtain ⟨va, vl, vc, rfl⟩ := slice_of_trod Try.underlying32 h3
    obtain ⟨zs, sz, bz⟩ := sees_open_sh (k := .i64) (d := x2.1) (p := x2.2) Try.underlying29 Try.underlying3 (by kernel_rfl) ⟨_, _, _, rfl⟩ ⟨n, h2⟩
    obtain ⟨rs, sr, _, br⟩ := opensGS (f := bK) (z := 1) false (R := fun _ => True) (Q := fun _ => True) (bytes := 1) (d := x3.1) (p := x3.2) Try.underlying32 (by kernel_rfl) (by decide) bK_len (by kernel_rfl) bool_cells ⟨_, _, _, rfl⟩ ⟨n, h3⟩
    refine ⟨⟨k, y, _, zs, _, rs⟩, rfl, ⟨sz, sr⟩, fun hall => ?_⟩
    rw [hx, DataW.weights, Try.underlying34] at hall
    simp only [DataW.weightsEach, List.map_cons, List.map_nil, List.all_append, Bool.and_eq_true] at hall
    have b8 : Try.prog.bytesOf 3 = 8 := by kernel_rfl
    have r0 := bz hall.2.2.1
    have r1 := (br hall.2.2.2.1).1
    rw [b8] at r0
    unfold reachBytes at r0
    exact ⟨by show zs.length * 8 ≤ _; omega, by show rs.length ≤ _; omega⟩
theorem opens_Op21 {H : Type} {enc : TypeId × Value → H} {W : World} {base : Nat} {v : Value} {d : DataW H} {p : List MemPlace}
    (hok : Value.okWide Try.prog W .any base 22 v) (h : DataW.Trod enc Try.prog W 0 (fun _ => true) true 22 v d p) :
    ∃ xs, SeesG owC 4 Ow.nil W v xs ∧ (∀ x ∈ xs, Sees .i64 W x.u x.ws ∧ SeesG bK 1 false W x.v x.rs) ∧ ((d.weights Try.prog 22).all (· ≤ reachBytes) = true → xs.length * 64 ≤ 140737488351232 ∧ ∀ x ∈ xs, x.ws.length * 8 ≤ 140737488351232 ∧ x.rs.length ≤ 140737488351232) :=
  opensGW Ow.nil (R := fun o => Sees .i64 W o.u o.ws ∧ SeesG bK 1 false W o.v o.rs) (Q := fun o => o.ws.length * 8 ≤ 140737488351232 ∧ o.rs.length ≤ 140737488351232) Try.underlying22 (by kernel_rfl) (by decide) owC_len (by kernel_rfl) op21_cells hok h
/-- A script, in a world and in all that leave it as it was. -/
structure Scr (w0 : World) (v : Value) (xs : List Ow) : Prop where
  sees : SeesG owC 4 Ow.nil w0 v xs
  each : ∀ x ∈ xs, Sees .i64 w0 x.u x.ws ∧ SeesG bK 1 false w0 x.v x.rs
theorem getD_memW (xs : List Ow) (k : Nat) (h : k < xs.length) : xs.getD k Ow.nil ∈ xs := by simp [List.getD, h]
theorem SeesG.oldB {w0 : World} {v : Value} {rs : List Bool} (h : SeesG bK 1 false w0 v rs) : rs ≠ [] → ∀ k, ftV v k → k < w0.heap.size := by
  intro hne k hk
  obtain ⟨a, c, rfl, _, _, _, hc⟩ := h
  obtain ⟨b, of, rfl, hlt, _⟩ := hc hne
  have : b = k := Option.some.inj hk
  omega
theorem Sees.oldI {w0 : World} {v : Value} {xs : List Int} (h : Sees .i64 w0 v xs) : xs ≠ [] → ∀ k, ftV v k → k < w0.heap.size := by
  intro hne k hk
  obtain ⟨a, c, rfl, _, _, _, _, hc⟩ := h
  obtain ⟨b, of, rfl, hlt, _⟩ := hc hne
  have : b = k := Option.some.inj hk
  omega
/-- One call of it. -/
theorem Scr.at {w0 w : World} {v : Value} {xs : List Ow} (h : Scr w0 v xs) (hb : Below w0.heap.size w0 w) {j : Nat} (hj : j < xs.length) {o : Ow} (ho : xs.getD j Ow.nil = o) : ∃ p off cap, v = .slice (some ⟨p, off, none⟩) xs.length cap ∧ xs.length ≤ cap ∧ cap ≤ 9223372036854775807 ∧ (w.cell? ⟨p, off + j * 4, none⟩ = some (.int .i64 o.k) ∧ w.cell? ⟨p, off + j * 4 + 1, none⟩ = some (.int .i64 o.c) ∧ w.cell? ⟨p, off + j * 4 + 2, none⟩ = some o.u ∧ w.cell? ⟨p, off + j * 4 + 3, none⟩ = some o.v) ∧ Sees .i64 w o.u o.ws ∧ SeesG bK 1 false w o.v o.rs ∧ (o.ws ≠ [] → ∀ k, ftV o.u k → k < w0.heap.size) ∧ (o.rs ≠ [] → ∀ k, ftV o.v k → k < w0.heap.size) := by
  have hs := h.sees.below hb (Nat.le_refl _)
  have he := h.each _ (getD_memW xs j hj)
  rw [ho] at he
  obtain ⟨he, hr⟩ := he
  obtain ⟨a, cap, rfl, h1, h2, _, h3⟩ := hs
  unfold maxLen at h2
  obtain ⟨p, off, rfl, _, hat⟩ := h3 (fun e => by rw [e] at hj; simp at hj)
  have d0 := hat j hj 0 (by omega)
  have d1 := hat j hj 1 (by omega)
  have d2 := hat j hj 2 (by omega)
  have d3 := hat j hj 3 (by omega)
  rw [ho] at d0 d1 d2 d3
  exact ⟨p, off, cap, rfl, h1, by omega, ⟨d0, d1, d2, d3⟩, he.below hb (Nat.le_refl _), hr.below hb (Nat.le_refl _), he.oldI, hr.oldB⟩
theorem op_box21 (w : World) (o : Ow) : ∃ X, Hid (w.alloc (.cells #[.int .i64 o.k, .int .i64 o.c, o.u, o.v] 34) = X) ∧ Below w.heap.size w X ∧ Hid (Hp X w.heap.size 34 (owC o)) := ⟨_, rfl, below_allocG _ _, Hp.new w (owC o) _⟩
end Go.Proofs.Ytnjmajcjdkceoaa
