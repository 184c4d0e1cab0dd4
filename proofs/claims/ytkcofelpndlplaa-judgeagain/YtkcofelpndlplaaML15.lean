/-
  S6Slices
  S6Box
  S6Ref
  S6RRefA
  S6RRefB
  S6RNo
  S6RRefine
  S6Inside
-/
import Derived.Test.YtkcofelpndlplaaML14
import Derived.Test.YtkcofelpndlplaaML2
import Derived.Deep.MidRow
/-
  Spans as values, and slices of them: what a slice reads as, an append to an own one; an argument that is a span, or a slice of them, opened. No condition.
-/
namespace Go.Proofs.Ytkcofelpndlplaa
open Go.ChangeShapes Go.WideShapes Go.ChangeAt Go.RowKit
set_option linter.unusedVariables false
set_option maxRecDepth 100000

/-- A span is a pair of its ends. -/
abbrev Sp : Type := Int × Int
abbrev spV (p : Sp) : Value := .agg #[.int .u64 p.1, .int .u64 p.2]
abbrev spC (p : Sp) : List Value := [.int .u64 p.1, .int .u64 p.2]
abbrev spD {H : Type} (p : Sp) : DataW H := .agg [.lit (.int .u64 p.1), .lit (.int .u64 p.2)]
def wfS (p : Sp) : Prop := W64 p.1 ∧ W64 p.2
/-- The two cells of a span. -/
def AtS (w : World) (b off : Nat) (p : Sp) : Prop := w.cell? ⟨b, off, none⟩ = some (.int .u64 p.1) ∧ w.cell? ⟨b, off + 1, none⟩ = some (.int .u64 p.2)
theorem AtS.below {w w' : World} {b off B : Nat} {p : Sp} (h : AtS w b off p) (hb : Below B w w') (hB : b < B) : AtS w' b off p := by
  unfold AtS
  rw [hb.cell (p := ⟨b, off, none⟩) hB, hb.cell (p := ⟨b, off + 1, none⟩) hB]
  exact h
/-- A slice that reads, in a world, as these spans. -/
def SeesS (w : World) (v : Value) (xs : List Sp) : Prop :=
  ∃ a cap, v = .slice a xs.length cap ∧ xs.length ≤ cap ∧ cap ≤ maxLen ∧ (a = none → cap = 0) ∧
    (xs ≠ [] → ∃ b off, a = some ⟨b, off, none⟩ ∧ b < w.heap.size ∧ ∀ k, k < xs.length → AtS w b (off + k * 2) (xs.getD k (0, 0)))
theorem SeesS.below {w w' : World} {v : Value} {xs : List Sp} (h : SeesS w v xs) (hb : Below w.heap.size w w') : SeesS w' v xs := by
  obtain ⟨a, cap, rfl, h1, h2, h3, h4⟩ := h
  refine ⟨a, cap, rfl, h1, h2, h3, fun hne => ?_⟩
  obtain ⟨b, off, rfl, hlt, hat⟩ := h4 hne
  exact ⟨b, off, rfl, Nat.lt_of_lt_of_le hlt hb.size, fun k hk => (hat k hk).below hb hlt⟩
/-- The cells of spans, one behind the other. -/
def flatS (xs : List Sp) : List Value := xs.flatMap spC
theorem flatS_app (l m : List Sp) : flatS l ++ flatS m = flatS (l ++ m) := by simp [flatS]
theorem flatS_len (xs : List Sp) : (flatS xs).length = xs.length * 2 := by
  induction xs with
  | nil => rfl
  | cons x xs ih =>
    have e : flatS (x :: xs) = spC x ++ flatS xs := rfl
    rw [e, List.length_append, ih, List.length_cons]
    simp; omega
theorem flatS_at : ∀ (xs : List Sp) (k j : Nat), k < xs.length → j < 2 → (flatS xs)[k * 2 + j]? = (spC (xs.getD k (0, 0)))[j]?
  | [], k, j, hk, _ => by simp at hk
  | x :: xs, 0, j, _, hj => by
    have e : flatS (x :: xs) = spC x ++ flatS xs := rfl
    rw [e, List.getElem?_append_left (by simp [spC]; omega)]
    simp
  | x :: xs, k + 1, j, hk, hj => by
    have e : flatS (x :: xs) = spC x ++ flatS xs := rfl
    have hl : (spC x).length = 2 := rfl
    rw [e, List.getElem?_append_right (by rw [hl]; omega), hl, show (k + 1) * 2 + j - 2 = k * 2 + j by omega, flatS_at xs k j (by simpa using hk) hj]
    simp [List.getD]
theorem atS_cells {w : World} {b off : Nat} {p : Sp} (h : AtS w b off p) (j : Nat) (hj : j < 2) : w.cell? ⟨b, off + j, none⟩ = (spC p)[j]? := by
  obtain ⟨h0, h1⟩ := h
  have hc : j = 0 ∨ j = 1 := by omega
  rcases hc with rfl | rfl
  · exact h0
  · exact h1
theorem cells_atS {w : World} {b off : Nat} {p : Sp} (h : ∀ j, j < 2 → w.cell? ⟨b, off + j, none⟩ = (spC p)[j]?) : AtS w b off p := ⟨h 0 (by omega), h 1 (by omega)⟩
theorem flatS_cells {w : World} {b off : Nat} {xs : List Sp} (h : ∀ k, k < xs.length → AtS w b (off + k * 2) (xs.getD k (0, 0))) (j : Nat) (u : Value) (hu : (flatS xs)[j]? = some u) : w.cell? ((⟨b, off, none⟩ : Addr).add j) = some u := by
  have hj : j < xs.length * 2 := by rw [← flatS_len]; exact (List.getElem?_eq_some_iff.1 hu).1
  have e : j = (j / 2) * 2 + j % 2 := by omega
  rw [e, flatS_at xs (j / 2) (j % 2) (by omega) (by omega)] at hu
  rw [Addr.add_mid, ← hu, ← atS_cells (h (j / 2) (by omega)) (j % 2) (by omega)]
  congr 2
  omega
theorem flatS_one (xs : List Sp) : ∀ u ∈ flatS xs, u.oneCell' = true := by
  intro u hu
  simp only [flatS, List.mem_flatMap] at hu
  obtain ⟨i, _, hi⟩ := hu
  simp only [spC, List.mem_cons, List.not_mem_nil, or_false] at hi
  rcases hi with rfl | rfl <;> rfl
/-- What is owned reads as its spans. -/
theorem own_seesS {w : World} {base : Nat} {e : TypeId} {v : Value} {xs : List Sp} (h : w.ownsRow base e 2 v xs.length (flatS xs)) : SeesS w v xs := by
  have h0 := h
  rcases h with ⟨h1, ⟨rfl, h2⟩ | ⟨g, cap, cur, rfl, hb, hh, h3, h4, h5, h6⟩⟩
  · have : xs = [] := List.eq_nil_of_length_eq_zero h2
    subst this
    exact ⟨none, 0, rfl, by simp, by simp [maxLen], fun _ => rfl, fun h => absurd rfl h⟩
  · refine ⟨_, cap, rfl, h3, h4, fun h => by simp at h, fun hne => ⟨g, 0, rfl, (Array.getElem?_eq_some_iff.1 hh).1, fun k hk => cells_atS fun j hj => ?_⟩⟩
    rw [Nat.zero_add, h0.cellAt (k * 2 + j) (by omega)]
    exact flatS_at xs k j hk hj
/-- An own slice with no place. -/
theorem ownS_empty (w : World) (e : TypeId) : (w.alloc (.cells #[] e)).ownsRow w.heap.size e 2 (.slice (some ⟨w.heap.size, 0, none⟩) 0 0) 0 (flatS []) := by
  refine ⟨rfl, .inr ⟨w.heap.size, 0, #[], rfl, Nat.le_refl _, ?_, Nat.le_refl _, by simp [maxLen], rfl, rfl⟩⟩
  show (w.heap.push _)[w.heap.size]? = _
  simp
/-- A slice of spans that was written out. -/
theorem SeesS.lit (w : World) (t : TypeId) (xs : List Sp) (cs : Array Value) (n : Nat) (hcs : cs = (flatS xs).toArray) (hn : n = xs.length) (hm : xs.length ≤ 1048576) : SeesS (w.alloc (.cells cs t)) (.slice (some ⟨w.heap.size, 0, none⟩) n n) xs := by
  subst hn hcs
  refine own_seesS (base := w.heap.size) (e := t) ⟨flatS_len xs, .inr ⟨w.heap.size, xs.length, (flatS xs).toArray, rfl, Nat.le_refl _, ?_, Nat.le_refl _, by unfold maxLen; omega, ?_, ?_⟩⟩
  · show (w.heap.push _)[w.heap.size]? = _
    simp
  · rw [List.size_toArray, flatS_len]
  · rw [← flatS_len]; simp
/-- 'append(out, src...)', out the call's own, src whatever slice of spans. -/
theorem wpList_append_seesS {P : Program} {w : World} {ops : Array Oper} {rest : List Oper} {o : Oper} {a : Act} {Q : Exit → Act → World → Prop} (hgd : o.guard = none) (s x : Operand) (t : TypeId)
    (ho : o.op = .call { callee := .builtin .append, args := #[s, x], argTypes := #[t, t] })
    (base : Nat) (e : TypeId) (i : TypeInfo) (z : Value) (ht : P.underlying t = some (.slice e)) (hi : P.info? e = some i) (hz : i.zero = some z)
    (hsize : i.size = 2) (hby : i.bytes = 16) (hzs : z.cells.size = 2)
    (v : Value) (xs : List Sp) (hs : a.eval s = v) (hown : w.ownsRow base e 2 v xs.length (flatS xs))
    (src : Value) (ys : List Sp) (hx : a.eval x = src) (hsee : SeesS w src ys)
    (h63 : xs.length + ys.length ≤ maxLen) (hbytes : (xs.length + ys.length) * 16 ≤ 140737488355328) (hbase : base ≤ w.heap.size)
    (h : ∀ v' w', w'.ownsRow base e 2 v' (xs ++ ys).length (flatS (xs ++ ys)) → w.grownBy w' v.ownBlock → wpList P ops Q rest (a.put o.dst v') w') : wpList P ops Q (o :: rest) a w := by
  refine wpList_plain hgd fun K hK => ?_
  obtain ⟨ad, cap, rfl, hl, hm, hn0, hc⟩ := hsee
  by_cases hne : ys = []
  · subst hne
    cases ad with
    | none =>
      obtain rfl : cap = 0 := hn0 rfl
      have hrun := run_append_owned_none (P := P) (w := w) base t o.type e i 2 ht hi v _ _ hown
      have hx' : a.eval x = .slice none 0 0 := hx
      unfold Oper.wp
      simp [execOp, ho, resolve, invoke, builtin, hs, hx', hrun, Result.andThen]
      exact hK _ _ (h v w (by simpa using hown) ⟨rfl, rfl, rfl, Nat.le_refl _, fun _ _ _ => rfl⟩)
    | some ad =>
      refine wp_append_own w s x t ho base e i z 2 16 ht hi hz hsize hby hzs (by decide) v _ _ hs hown ad 0 cap [] hx rfl (by simp) (by simp) (by simpa using h63) (by simpa using hbytes) hbase ?_
      intro v' w' h1 h2 _
      exact hK _ _ (h v' w' (by simpa using h1) h2)
  · obtain ⟨b, off, rfl, hlt, hat⟩ := hc hne
    refine wp_append_own w s x t ho base e i z 2 16 ht hi hz hsize hby hzs (by decide) v _ _ hs hown ⟨b, off, none⟩ ys.length cap (flatS ys) hx (flatS_len ys) (flatS_cells hat) (flatS_one ys) h63 hbytes hbase ?_
    intro v' w' h1 h2 _
    exact hK _ _ (h v' w' (by rw [flatS_app, ← List.length_append] at h1; exact h1) h2)
/-- Two cells that read as a span. -/
theorem span_cells {H : Type} {enc : TypeId × Value → H} {W : World} {base fuel : Nat} {sp : Nat → Bool} {held : Bool} {cs : List Value} {x : DataW H × List MemPlace}
    (h : DataW.trod enc Try.prog W base sp held fuel 36 cs = some x) : ∃ p : Sp, cs = spC p ∧ wfS p ∧ x = (spD p, []) := by
  obtain ⟨xs, n, rfl, hx, hl, hlen, hf⟩ := DataW.trod_struct Try.underlying36 h
  have l2 : cs.length = 2 := by rw [hl]; kernel_rfl
  have u1 : Try.prog.cellsOf 34 = 1 := by kernel_rfl
  match cs, l2, xs, hlen, hf with
  | [c0, c1], _, [x0, x1], _, hf =>
    have h0 : DataW.trod enc Try.prog W base sp held n 34 (([c0, c1].drop 0).take (Try.prog.cellsOf 34)) = some x0 := hf 0 _ rfl
    rw [u1] at h0
    have h1 : DataW.trod enc Try.prog W base sp held n 34 (([c0, c1].drop 1).take (Try.prog.cellsOf 34)) = some x1 := hf 1 _ rfl
    rw [u1] at h1
    obtain ⟨lo, e0, y0, g0⟩ := DataW.trod_int Try.underlying34 h0
    obtain ⟨hi, e1, y1, g1⟩ := DataW.trod_int Try.underlying34 h1
    simp at e0 e1
    subst e0 e1 y0 y1
    exact ⟨(lo, hi), rfl, ⟨bounds_u64 g0, bounds_u64 g1⟩, hx⟩
theorem open_Span {H : Type} {enc : TypeId × Value → H} {W : World} {base : Nat} {v : Value} {d : DataW H} {p : List MemPlace}
    (hok : Value.okWide Try.prog W .any base 36 v) (h : DataW.Trod enc Try.prog W 0 (fun _ => true) true 36 v d p) : ∃ s : Sp, v = spV s ∧ wfS s := by
  obtain ⟨cs, rfl, _⟩ := okWide_struct Try.underlying36 hok
  obtain ⟨fuel, hf⟩ := h
  obtain ⟨s, hi, hw, _⟩ := span_cells hf
  refine ⟨s, ?_, hw⟩
  have : cs = (spC s).toArray := by
    have h2 : cs.toList = spC s := by simpa [Value.cells] using hi
    rw [← h2]
  rw [this]
theorem opens_Span_reach {H : Type} {enc : TypeId × Value → H} {W : World} {base : Nat} {v : Value} {d : DataW H} {p : List MemPlace}
    (hok : Value.okWide Try.prog W .any base 112 v) (h : DataW.Trod enc Try.prog W 0 (fun _ => true) true 112 v d p) :
    ∃ xs, (SeesS W v xs ∧ ∀ i ∈ xs, wfS i) ∧ 3 * xs.length < Rows.uptoBulk d ∧ ((d.weights Try.prog 112).all (· ≤ reachBytes) = true → xs.length * 16 ≤ 140737488351232) := by
  obtain ⟨a, len, cap, rfl⟩ := okWide_slice Try.underlying112 hok
  have c2 : Try.prog.cellsOf 36 = 2 := by kernel_rfl
  obtain ⟨fuel, hf⟩ := h
  rcases DataW.trod_slice Try.underlying112 hf with ⟨hcs, hx⟩ | ⟨x, l, c, elems, rest, n, rfl, hcs, hx, _, hl, hm, hlen, hel, hsp, _⟩
  · simp [Value.cells] at hcs hx
    obtain ⟨rfl, rfl, rfl⟩ := hcs
    obtain ⟨rfl, rfl⟩ := hx
    exact ⟨[], ⟨⟨none, 0, rfl, by simp, by simp [maxLen], fun _ => rfl, fun h => absurd rfl h⟩, by simp⟩, by simp [Rows.uptoBulk], fun _ => by simp⟩
  · simp [Value.cells] at hcs hx
    obtain ⟨rfl, rfl, rfl⟩ := hcs
    obtain ⟨rfl, rfl⟩ := hx
    have hex : ∀ i : Nat, ∃ I : Sp, i < len → wfS I ∧ (∀ j, j < 2 → W.cell? ((x.add (i * 2)).add j) = (spC I)[j]?) ∧ (elems.map (·.1))[i]? = some (spD I) := by
      intro i
      by_cases hi : i < len
      · have h1 := hel i hi
        have hie : i < elems.length := by omega
        rw [c2, List.getElem?_eq_getElem hie, Option.bind_eq_some_iff] at h1
        obtain ⟨cs, hc1, hc2⟩ := h1
        obtain ⟨I, rfl, hw, hx⟩ := span_cells hc2
        refine ⟨I, fun _ => ⟨hw, (World.cells?_some hc1).2.2, ?_⟩⟩
        rw [List.getElem?_map, List.getElem?_eq_getElem hie, hx]
        rfl
      · exact ⟨(0, 0), fun h => absurd h hi⟩
    obtain ⟨g, hg⟩ := Classical.axiomOfChoice hex
    have hxl : ((List.range len).map g).length = len := by simp
    have hgd : ∀ k, k < len → ((List.range len).map g).getD k (0, 0) = g k := fun k hk => by simp [List.getD, hk]
    refine ⟨(List.range len).map g, ⟨⟨some x, cap, by rw [hxl], by omega, hm, fun h => by simp at h, fun hne => ?_⟩, ?_⟩, ?_, ?_⟩
    · have hpos : 0 < len := by
        rcases Nat.eq_zero_or_pos len with h0 | h0
        · subst h0; exact absurd rfl hne
        · exact h0
      obtain ⟨b, off, spot⟩ := x
      have h00 := (hg 0 hpos).2.1 0 (by omega)
      have hspot : spot = none := by
        have := World.cell?_spot (show W.cell? _ = some _ from h00)
        simpa [Addr.add] using this
      subst hspot
      refine ⟨b, off, rfl, ?_, fun k hk => ?_⟩
      · have := World.block_lt_of_cell? W _ (show W.cell? _ = some _ from h00)
        simpa [Addr.add] using this
      · rw [hxl] at hk
        rw [hgd k hk]
        have h5 := (hg k hk).2.1
        simp only [Addr.add_mid] at h5
        exact ⟨h5 0 (by omega), h5 1 (by omega)⟩
    · intro i hi
      simp only [List.mem_map, List.mem_range] at hi
      obtain ⟨k, hk, rfl⟩ := hi
      exact (hg k hk).1
    · have hd : elems.map (·.1) = (List.range len).map fun k => spD (g k) := by
        apply List.ext_getElem?
        intro k
        by_cases hk : k < len
        · rw [(hg k hk).2.2]; simp [hk]
        · rw [List.getElem?_eq_none (by simp; omega), List.getElem?_eq_none (by simp; omega)]
      rw [hd, hxl]
      have hb : ∀ l : List Nat, Rows.uptoBulkAll (H := H) (l.map fun k => spD (g k)) = 3 * l.length := by
        intro l
        induction l with
        | nil => rfl
        | cons k l ih => simp only [List.map_cons, Rows.uptoBulkAll, ih, Rows.uptoBulk, List.length_cons]; omega
      simp only [Rows.uptoBulk, hb, List.length_range]
      omega
    · intro hall
      have b16 : Try.prog.bytesOf 36 = 16 := by kernel_rfl
      rw [DataW.weights, Try.underlying112] at hall
      simp only [List.all_cons, Bool.and_eq_true, decide_eq_true_eq, List.length_map, b16] at hall
      have h1 := hall.1
      unfold reachBytes at h1
      rw [hxl]
      omega
end Go.Proofs.Ytkcofelpndlplaa
/-
  A span that is boxed: its two cells, loaded whole, stored whole. No Go text in sight.
-/
namespace Go.Proofs.Ytkcofelpndlplaa
open Go.RowKit
set_option linter.unusedVariables false

/-- The box of a span. -/
abbrev spO (a A : Int) : Obj := .cells #[.int .u64 a, .int .u64 A] 36
theorem boxS_below {w w1 : World} {o : Obj} (h : Below (w.alloc o).heap.size (w.alloc o) w1) : Below w.heap.size w w1 := ((Below.refl _ _).alloc (Nat.le_refl _) o).trans (h.mono (by simp))
/-- A boxed span, loaded whole. -/
theorem run_boxS {w : World} {n : Nat} {a A : Int} (h0 : w.cell? ⟨n, 0, none⟩ = some (.int .u64 a)) (h1 : w.cell? ⟨n, 1, none⟩ = some (.int .u64 A)) : (loadVar 36 ⟨n, 0, none⟩).run Try.prog w = .ok (.agg #[.int .u64 a, .int .u64 A]) w := by
  refine run_loadVar_mid w n 0 36 [.int .u64 a, .int .u64 A] _ ?_ Try.underlying36 rfl (by kernel_rfl)
  intro j v hv
  rw [Nat.zero_add]
  have hj : j < 2 := (List.getElem?_eq_some_iff.1 hv).1
  have hc : j = 0 ∨ j = 1 := by omega
  rcases hc with rfl | rfl <;> simp at hv <;> subst hv <;> assumption
end Go.Proofs.Ytkcofelpndlplaa
/-
  What the document's Right, Has, Within, great, form and half answer. Condition: numbers of 64 bits.
-/
namespace Go.Proofs.Ytkcofelpndlplaa
open Go.RowKit
set_option linter.unusedVariables false

theorem rb {a b : Bool} (h : a = b) : Ending.returned (.bool a) = .returned (.bool b) := by rw [h]
def hasN (a A n : Int) : Bool := decide (a ≤ A) && decide (a ≤ n) && decide (n ≤ A)
def withinB (a A b B : Int) : Bool := decide (a ≤ A) && decide (b ≤ B) && hasN b B a && hasN b B A
theorem grow2 (w : World) (a b : Obj) : Below w.heap.size w ((w.alloc a).alloc b) := ((Below.refl _ _).alloc (Nat.le_refl _) a).alloc (by simp) b

theorem great_iff {a b : Int} (ha : 0 < a) : decide (18446744073709551615 / a < b) = decide (18446744073709551615 < a * b) := by
  apply decide_eq_decide.2
  rw [Int.ediv_lt_iff_lt_mul ha, Int.mul_comm]
end Go.Proofs.Ytkcofelpndlplaa
/-
  What the document's Refine answers, a theorem a way. Condition: right spans of numbers of 64 bits.
-/
namespace Go.Proofs.Ytkcofelpndlplaa
open Go.RowKit
set_option linter.unusedVariables false
set_option maxRecDepth 20000

end Go.Proofs.Ytkcofelpndlplaa
/-
  What the document's Refine answers, a theorem a way. Condition: right spans of numbers of 64 bits.
-/
namespace Go.Proofs.Ytkcofelpndlplaa
open Go.RowKit
set_option linter.unusedVariables false
set_option maxRecDepth 20000

end Go.Proofs.Ytkcofelpndlplaa
/-
  Where the document's Do and Refine answer no. Condition: right spans of numbers of 64 bits.
-/
namespace Go.Proofs.Ytkcofelpndlplaa
open Go.RowKit
set_option linter.unusedVariables false
set_option maxRecDepth 20000

end Go.Proofs.Ytkcofelpndlplaa
/-
  What the document's Refine answers: the plain function refineL where the operation is a condition and both spans are right, else no. Condition: numbers of 64 bits.
-/
namespace Go.Proofs.Ytkcofelpndlplaa
open Go.RowKit
set_option linter.unusedVariables false

/-- A span and true, or the zero span and false. -/
def optV : Option (Int × Int) → Value
  | none => .tuple #[.agg #[.int .u64 0, .int .u64 0], .bool false]
  | some p => .tuple #[.agg #[.int .u64 p.1, .int .u64 p.2], .bool true]
def refineR (op a A b B : Int) (h : Bool) : Option (Int × Int) := if (16 ≤ op ∧ op ≤ 19) ∧ a ≤ A ∧ b ≤ B then refineL op a A b B h else none
def doR (op a A b B : Int) : Option (Int × Int) := if (1 ≤ op ∧ op ≤ 10) ∧ a ≤ A ∧ b ≤ B then some (spanL op a A b B) else none
theorem wrap_in {x : Int} (h0 : 0 ≤ x) (h : x ≤ 18446744073709551615) : IntKind.u64.wrap x = x := by rw [IntKind.wrap_u64]; omega

end Go.Proofs.Ytkcofelpndlplaa
/-
  What the law's inside answers: a number of the span; an argument of two spans and two numbers, opened. Condition: a right span of numbers of 64 bits.
-/
namespace Go.Proofs.Ytkcofelpndlplaa
open Go.ChangeShapes Go.WideShapes Go.ChangeAt Go.RowKit
set_option linter.unusedVariables false
set_option maxRecDepth 100000

def insideL (a A n : Int) : Int := if A - a = 18446744073709551615 then n else a + n % (A - a + 1)
theorem inside_in {a A n : Int} (ha : 0 ≤ a ∧ a ≤ A ∧ A ≤ 18446744073709551615) (hn : 0 ≤ n ∧ n ≤ 18446744073709551615) : a ≤ insideL a A n ∧ insideL a A n ≤ A := by
  unfold insideL
  split
  · omega
  · have h1 := Int.emod_nonneg n (show A - a + 1 ≠ 0 by omega)
    have h2 := Int.emod_lt_of_pos n (show 0 < A - a + 1 by omega)
    omega
end Go.Proofs.Ytkcofelpndlplaa
