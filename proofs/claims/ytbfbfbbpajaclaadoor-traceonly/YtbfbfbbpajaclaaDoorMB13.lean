
/-
  Slices of instructions, whatever the program does with them: their cells one behind the other, an append of one to an own one. No Go text in sight.
-/
import Derived.Test.YtbfbfbbpajaclaaDoorMB12
import Derived.Test.YtbfbfbbpajaclaaDoorMB2
import Derived.Laws.AppendOwn
import Derived.Laws.OwnMore
namespace Go.Proofs.YtbfbfbbpajaclaaDoor
open Go.RowKit
set_option linter.unusedVariables false
set_option maxRecDepth 100000

/-- The cells of instructions, one behind the other. -/
def flat (xs : List In) : List Value := xs.flatMap In.cells
theorem flat_len (xs : List In) : (flat xs).length = xs.length * 5 := by
  induction xs with
  | nil => rfl
  | cons x xs ih =>
    have e : flat (x :: xs) = x.cells ++ flat xs := rfl
    rw [e, List.length_append, ih, List.length_cons]
    simp; omega
theorem flat_at : ∀ (xs : List In) (k j : Nat), k < xs.length → j < 5 → (flat xs)[k * 5 + j]? = (xs.getD k In.nil).cells[j]?
  | [], k, j, hk, _ => by simp at hk
  | x :: xs, 0, j, _, hj => by
    have e : flat (x :: xs) = x.cells ++ flat xs := rfl
    rw [e, List.getElem?_append_left (by simp [In.cells]; omega)]
    simp
  | x :: xs, k + 1, j, hk, hj => by
    have e : flat (x :: xs) = x.cells ++ flat xs := rfl
    have hl : x.cells.length = 5 := rfl
    rw [e, List.getElem?_append_right (by rw [hl]; omega), hl, show (k + 1) * 5 + j - 5 = k * 5 + j by omega, flat_at xs k j (by simpa using hk) hj]
    simp [List.getD]
theorem at_cells {w : World} {b off : Nat} {i : In} (h : At w b off i) (j : Nat) (hj : j < 5) : w.cell? ⟨b, off + j, none⟩ = i.cells[j]? := by
  obtain ⟨h0, h1, h2, h3, h4⟩ := h
  have hc : j = 0 ∨ j = 1 ∨ j = 2 ∨ j = 3 ∨ j = 4 := by omega
  rcases hc with rfl | rfl | rfl | rfl | rfl
  · exact h0
  · exact h1
  · exact h2
  · exact h3
  · exact h4
theorem cells_at {w : World} {b off : Nat} {i : In} (h : ∀ j, j < 5 → w.cell? ⟨b, off + j, none⟩ = i.cells[j]?) : At w b off i := ⟨h 0 (by omega), h 1 (by omega), h 2 (by omega), h 3 (by omega), h 4 (by omega)⟩
theorem flat_cells {w : World} {b off : Nat} {xs : List In} (h : ∀ k, k < xs.length → At w b (off + k * 5) (xs.getD k In.nil)) (j : Nat) (u : Value) (hu : (flat xs)[j]? = some u) : w.cell? ((⟨b, off, none⟩ : Addr).add j) = some u := by
  have hj : j < xs.length * 5 := by rw [← flat_len]; exact (List.getElem?_eq_some_iff.1 hu).1
  have e : j = (j / 5) * 5 + j % 5 := by omega
  rw [e, flat_at xs (j / 5) (j % 5) (by omega) (by omega)] at hu
  rw [Addr.add_mid, ← hu, ← at_cells (h (j / 5) (by omega)) (j % 5) (by omega)]
  congr 2
  omega
theorem flat_one (xs : List In) : ∀ u ∈ flat xs, u.oneCell' = true := by
  intro u hu
  simp only [flat, List.mem_flatMap] at hu
  obtain ⟨i, _, hi⟩ := hu
  simp only [In.cells, List.mem_cons, List.not_mem_nil, or_false] at hi
  rcases hi with rfl | rfl | rfl | rfl | rfl <;> rfl
/-- What is owned reads as its instructions. -/
theorem own_seesI {w : World} {base : Nat} {e : TypeId} {v : Value} {xs : List In} (h : w.ownsRow base e 5 v xs.length (flat xs)) : SeesI w v xs := by
  have h0 := h
  rcases h with ⟨h1, ⟨rfl, h2⟩ | ⟨g, cap, cur, rfl, hb, hh, h3, h4, h5, h6⟩⟩
  · have : xs = [] := List.eq_nil_of_length_eq_zero h2
    subst this
    exact ⟨none, 0, rfl, by simp, by simp [maxLen], fun _ => rfl, fun h => absurd rfl h⟩
  · refine ⟨_, cap, rfl, h3, h4, fun h => by simp at h, fun hne => ⟨g, 0, rfl, (Array.getElem?_eq_some_iff.1 hh).1, fun k hk => cells_at fun j hj => ?_⟩⟩
    rw [Nat.zero_add, h0.cellAt (k * 5 + j) (by omega)]
    exact flat_at xs k j hk hj
/-- An own slice with no place. -/
theorem own_empty (w : World) (e : TypeId) : (w.alloc (.cells #[] e)).ownsRow w.heap.size e 5 (.slice (some ⟨w.heap.size, 0, none⟩) 0 0) 0 (flat []) := by
  refine ⟨rfl, .inr ⟨w.heap.size, 0, #[], rfl, Nat.le_refl _, ?_, Nat.le_refl _, by simp [maxLen], rfl, rfl⟩⟩
  show (w.heap.push _)[w.heap.size]? = _
  simp
/-- 'append(out, src...)', out the call's own, src whatever slice of instructions. -/
theorem wpList_append_seesI {P : Program} {w : World} {ops : Array Oper} {rest : List Oper} {o : Oper} {a : Act} {Q : Exit → Act → World → Prop} (hgd : o.guard = none) (s x : Operand) (t : TypeId)
    (ho : o.op = .call { callee := .builtin .append, args := #[s, x], argTypes := #[t, t] })
    (base : Nat) (e : TypeId) (i : TypeInfo) (z : Value) (ht : P.underlying t = some (.slice e)) (hi : P.info? e = some i) (hz : i.zero = some z)
    (hsize : i.size = 5) (hby : i.bytes = 40) (hzs : z.cells.size = 5)
    (v : Value) (xs : List In) (hs : a.eval s = v) (hown : w.ownsRow base e 5 v xs.length (flat xs))
    (src : Value) (ys : List In) (hx : a.eval x = src) (hsee : SeesI w src ys)
    (h63 : xs.length + ys.length ≤ maxLen) (hbytes : (xs.length + ys.length) * 40 ≤ 140737488355328) (hbase : base ≤ w.heap.size)
    (h : ∀ v' w', w'.ownsRow base e 5 v' (xs ++ ys).length (flat (xs ++ ys)) → w.grownBy w' v.ownBlock → wpList P ops Q rest (a.put o.dst v') w') : wpList P ops Q (o :: rest) a w := by
  have hf : ∀ l m : List In, flat l ++ flat m = flat (l ++ m) := fun l m => by simp [flat]
  refine wpList_plain hgd fun K hK => ?_
  obtain ⟨ad, cap, rfl, hl, hm, hn0, hc⟩ := hsee
  by_cases hne : ys = []
  · subst hne
    cases ad with
    | none =>
      obtain rfl : cap = 0 := hn0 rfl
      have hrun := run_append_owned_none (P := P) (w := w) base t o.type e i 5 ht hi v _ _ hown
      have hx' : a.eval x = .slice none 0 0 := hx
      unfold Oper.wp
      simp [execOp, ho, resolve, invoke, builtin, hs, hx', hrun, Result.andThen]
      exact hK _ _ (h v w (by simpa using hown) ⟨rfl, rfl, rfl, Nat.le_refl _, fun _ _ _ => rfl⟩)
    | some ad =>
      refine wp_append_own w s x t ho base e i z 5 40 ht hi hz hsize hby hzs (by decide) v _ _ hs hown ad 0 cap [] hx rfl (by simp) (by simp) (by simpa using h63) (by simpa using hbytes) hbase ?_
      intro v' w' h1 h2 _
      exact hK _ _ (h v' w' (by simpa using h1) h2)
  · obtain ⟨b, off, rfl, hlt, hat⟩ := hc hne
    refine wp_append_own w s x t ho base e i z 5 40 ht hi hz hsize hby hzs (by decide) v _ _ hs hown ⟨b, off, none⟩ ys.length cap (flat ys) hx (flat_len ys) (flat_cells hat) (flat_one ys) h63 hbytes hbase ?_
    intro v' w' h1 h2 _
    exact hK _ _ (h v' w' (by rw [hf, ← List.length_append] at h1; exact h1) h2)
end Go.Proofs.YtbfbfbbpajaclaaDoor
