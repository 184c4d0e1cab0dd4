
/-
  Types (of layer 8) as values, and slices of them: what a slice reads as, an append to an own one, a cut; an argument that is a type, or a slice of them, opened. No condition.
-/
import Derived.Test.YtkcofelpndlplaaML15
import Derived.Deep.MidRow
namespace Go.Proofs.Ytkcofelpndlplaa
open Go.ChangeShapes Go.WideShapes Go.ChangeAt Go.RowKit
set_option linter.unusedVariables false
set_option maxRecDepth 100000

/-- A type: its kind, its span's ends, its map. -/
structure Ty where
  k : Int
  lo : Int
  hi : Int
  m : Int
/-- Are they one type? -/
def eqT (a b : Ty) : Bool := decide (a.k = b.k) && decide (a.lo = b.lo) && decide (a.hi = b.hi) && decide (a.m = b.m)
theorem eqT_iff (a b : Ty) : eqT a b = true ↔ a = b := by
  cases a; cases b
  simp [eqT, and_assoc]
def Ty.nil : Ty := ⟨0, 0, 0, 0⟩
abbrev tyC (t : Ty) : List Value := [.int .i64 t.k, .int .u64 t.lo, .int .u64 t.hi, .int .i64 t.m]
abbrev tyV (t : Ty) : Value := .agg #[.int .i64 t.k, .int .u64 t.lo, .int .u64 t.hi, .int .i64 t.m]
abbrev tyD {H : Type} (t : Ty) : DataW H := .agg [.lit (.int .i64 t.k), .agg [.lit (.int .u64 t.lo), .lit (.int .u64 t.hi)], .lit (.int .i64 t.m)]
def wfT (t : Ty) : Prop := (-9223372036854775808 ≤ t.k ∧ t.k ≤ 9223372036854775807) ∧ (0 ≤ t.lo ∧ t.lo ≤ 18446744073709551615) ∧ (0 ≤ t.hi ∧ t.hi ≤ 18446744073709551615) ∧ (-9223372036854775808 ≤ t.m ∧ t.m ≤ 9223372036854775807)
/-- The four cells of a type. -/
def AtT (w : World) (b off : Nat) (t : Ty) : Prop := w.cell? ⟨b, off, none⟩ = some (.int .i64 t.k) ∧ w.cell? ⟨b, off + 1, none⟩ = some (.int .u64 t.lo) ∧ w.cell? ⟨b, off + 2, none⟩ = some (.int .u64 t.hi) ∧ w.cell? ⟨b, off + 3, none⟩ = some (.int .i64 t.m)
theorem AtT.below {w w' : World} {b off B : Nat} {t : Ty} (h : AtT w b off t) (hb : Below B w w') (hB : b < B) : AtT w' b off t := by
  unfold AtT
  rw [hb.cell (p := ⟨b, off, none⟩) hB, hb.cell (p := ⟨b, off + 1, none⟩) hB, hb.cell (p := ⟨b, off + 2, none⟩) hB, hb.cell (p := ⟨b, off + 3, none⟩) hB]
  exact h
/-- A slice that reads, in a world, as these types. -/
def SeesT (w : World) (v : Value) (xs : List Ty) : Prop :=
  ∃ a cap, v = .slice a xs.length cap ∧ xs.length ≤ cap ∧ cap ≤ maxLen ∧ (a = none → cap = 0) ∧
    (xs ≠ [] → ∃ b off, a = some ⟨b, off, none⟩ ∧ b < w.heap.size ∧ ∀ k, k < xs.length → AtT w b (off + k * 4) (xs.getD k Ty.nil))
theorem SeesT.below {w w' : World} {v : Value} {xs : List Ty} (h : SeesT w v xs) (hb : Below w.heap.size w w') : SeesT w' v xs := by
  obtain ⟨a, cap, rfl, h1, h2, h3, h4⟩ := h
  refine ⟨a, cap, rfl, h1, h2, h3, fun hne => ?_⟩
  obtain ⟨b, off, rfl, hlt, hat⟩ := h4 hne
  exact ⟨b, off, rfl, Nat.lt_of_lt_of_le hlt hb.size, fun k hk => (hat k hk).below hb hlt⟩
theorem SeesT.shape {w : World} {v : Value} {xs : List Ty} (h : SeesT w v xs) : ∃ a cap, v = .slice a xs.length cap := by
  obtain ⟨a, cap, rfl, _⟩ := h
  exact ⟨a, cap, rfl⟩
theorem SeesT.drewN {w : World} {v : Value} {xs : List Ty} (h : SeesT w v xs) (n : Nat) : SeesT (w.drewN n) v xs := h
theorem SeesT.nil (w : World) : SeesT w (.slice none 0 0) [] := ⟨none, 0, rfl, by simp, by simp [maxLen], fun _ => rfl, fun h => absurd rfl h⟩
/-- The cells of types, one behind the other. -/
def flatT (xs : List Ty) : List Value := xs.flatMap tyC
theorem flatT_app (l m : List Ty) : flatT l ++ flatT m = flatT (l ++ m) := by simp [flatT]
theorem flatT_len (xs : List Ty) : (flatT xs).length = xs.length * 4 := by
  induction xs with
  | nil => rfl
  | cons x xs ih =>
    have e : flatT (x :: xs) = tyC x ++ flatT xs := rfl
    rw [e, List.length_append, ih, List.length_cons]
    simp; omega
theorem flatT_at : ∀ (xs : List Ty) (k j : Nat), k < xs.length → j < 4 → (flatT xs)[k * 4 + j]? = (tyC (xs.getD k Ty.nil))[j]?
  | [], k, j, hk, _ => by simp at hk
  | x :: xs, 0, j, _, hj => by
    have e : flatT (x :: xs) = tyC x ++ flatT xs := rfl
    rw [e, List.getElem?_append_left (by simp [tyC]; omega)]
    simp
  | x :: xs, k + 1, j, hk, hj => by
    have e : flatT (x :: xs) = tyC x ++ flatT xs := rfl
    have hl : (tyC x).length = 4 := rfl
    rw [e, List.getElem?_append_right (by rw [hl]; omega), hl, show (k + 1) * 4 + j - 4 = k * 4 + j by omega, flatT_at xs k j (by simpa using hk) hj]
    simp [List.getD]
theorem atT_cells {w : World} {b off : Nat} {p : Ty} (h : AtT w b off p) (j : Nat) (hj : j < 4) : w.cell? ⟨b, off + j, none⟩ = (tyC p)[j]? := by
  obtain ⟨h0, h1, h2, h3⟩ := h
  have hc : j = 0 ∨ j = 1 ∨ j = 2 ∨ j = 3 := by omega
  rcases hc with rfl | rfl | rfl | rfl
  · exact h0
  · exact h1
  · exact h2
  · exact h3
theorem cells_atT {w : World} {b off : Nat} {p : Ty} (h : ∀ j, j < 4 → w.cell? ⟨b, off + j, none⟩ = (tyC p)[j]?) : AtT w b off p := ⟨h 0 (by omega), h 1 (by omega), h 2 (by omega), h 3 (by omega)⟩
theorem flatT_cells {w : World} {b off : Nat} {xs : List Ty} (h : ∀ k, k < xs.length → AtT w b (off + k * 4) (xs.getD k Ty.nil)) (j : Nat) (u : Value) (hu : (flatT xs)[j]? = some u) : w.cell? ((⟨b, off, none⟩ : Addr).add j) = some u := by
  have hj : j < xs.length * 4 := by rw [← flatT_len]; exact (List.getElem?_eq_some_iff.1 hu).1
  have e : j = (j / 4) * 4 + j % 4 := by omega
  rw [e, flatT_at xs (j / 4) (j % 4) (by omega) (by omega)] at hu
  rw [Addr.add_mid, ← hu, ← atT_cells (h (j / 4) (by omega)) (j % 4) (by omega)]
  congr 2
  omega
theorem flatT_one (xs : List Ty) : ∀ u ∈ flatT xs, u.oneCell' = true := by
  intro u hu
  simp only [flatT, List.mem_flatMap] at hu
  obtain ⟨i, _, hi⟩ := hu
  simp only [tyC, List.mem_cons, List.not_mem_nil, or_false] at hi
  rcases hi with rfl | rfl | rfl | rfl <;> rfl
/-- What is owned reads as its types. -/
theorem own_seesT {w : World} {base : Nat} {e : TypeId} {v : Value} {xs : List Ty} (h : w.ownsRow base e 4 v xs.length (flatT xs)) : SeesT w v xs := by
  have h0 := h
  rcases h with ⟨h1, ⟨rfl, h2⟩ | ⟨g, cap, cur, rfl, hb, hh, h3, h4, h5, h6⟩⟩
  · have : xs = [] := List.eq_nil_of_length_eq_zero h2
    subst this
    exact SeesT.nil w
  · refine ⟨_, cap, rfl, h3, h4, fun h => by simp at h, fun hne => ⟨g, 0, rfl, (Array.getElem?_eq_some_iff.1 hh).1, fun k hk => cells_atT fun j hj => ?_⟩⟩
    rw [Nat.zero_add, h0.cellAt (k * 4 + j) (by omega)]
    exact flatT_at xs k j hk hj
/-- An own slice with no place. -/
theorem ownT_empty (w : World) (e : TypeId) : (w.alloc (.cells #[] e)).ownsRow w.heap.size e 4 (.slice (some ⟨w.heap.size, 0, none⟩) 0 0) 0 (flatT []) := by
  refine ⟨rfl, .inr ⟨w.heap.size, 0, #[], rfl, Nat.le_refl _, ?_, Nat.le_refl _, by simp [maxLen], rfl, rfl⟩⟩
  show (w.heap.push _)[w.heap.size]? = _
  simp
/-- An own slice that was written out, the call's own from base on. -/
theorem ownT_lit (w : World) (base : Nat) (t : TypeId) (xs : List Ty) (cs : Array Value) (n g : Nat) (hg : g = w.heap.size) (hb : base ≤ w.heap.size) (hcs : cs = (flatT xs).toArray) (hn : n = xs.length) (hm : xs.length ≤ 1048576) : (w.alloc (.cells cs t)).ownsRow base t 4 (.slice (some ⟨g, 0, none⟩) n n) xs.length (flatT xs) := by
  subst hn hcs hg
  refine ⟨flatT_len xs, .inr ⟨w.heap.size, xs.length, (flatT xs).toArray, rfl, hb, ?_, Nat.le_refl _, by unfold maxLen; omega, ?_, ?_⟩⟩
  · show (w.heap.push _)[w.heap.size]? = _
    simp
  · rw [List.size_toArray, flatT_len]
  · rw [← flatT_len]; simp
theorem SeesT.lit (w : World) (t : TypeId) (xs : List Ty) (cs : Array Value) (n : Nat) (hcs : cs = (flatT xs).toArray) (hn : n = xs.length) (hm : xs.length ≤ 1048576) : SeesT (w.alloc (.cells cs t)) (.slice (some ⟨w.heap.size, 0, none⟩) n n) xs :=
  own_seesT (ownT_lit w w.heap.size t xs cs n _ rfl (Nat.le_refl _) hcs hn hm)
/-- 'append(out, src...)', out the call's own, src whatever slice of types. -/
theorem wpList_append_seesT {P : Program} {w : World} {ops : Array Oper} {rest : List Oper} {o : Oper} {a : Act} {Q : Exit → Act → World → Prop} (hgd : o.guard = none) (s x : Operand) (t : TypeId)
    (ho : o.op = .call { callee := .builtin .append, args := #[s, x], argTypes := #[t, t] })
    (base : Nat) (e : TypeId) (i : TypeInfo) (z : Value) (ht : P.underlying t = some (.slice e)) (hi : P.info? e = some i) (hz : i.zero = some z)
    (hsize : i.size = 4) (hby : i.bytes = 32) (hzs : z.cells.size = 4)
    (v : Value) (xs : List Ty) (hs : a.eval s = v) (hown : w.ownsRow base e 4 v xs.length (flatT xs))
    (src : Value) (ys : List Ty) (hx : a.eval x = src) (hsee : SeesT w src ys)
    (h63 : xs.length + ys.length ≤ maxLen) (hbytes : (xs.length + ys.length) * 32 ≤ 140737488355328) (hbase : base ≤ w.heap.size)
    (h : ∀ v' w', w'.ownsRow base e 4 v' (xs ++ ys).length (flatT (xs ++ ys)) → w.grownBy w' v.ownBlock → wpList P ops Q rest (a.put o.dst v') w') : wpList P ops Q (o :: rest) a w := by
  refine wpList_plain hgd fun K hK => ?_
  obtain ⟨ad, cap, rfl, hl, hm, hn0, hc⟩ := hsee
  by_cases hne : ys = []
  · subst hne
    cases ad with
    | none =>
      obtain rfl : cap = 0 := hn0 rfl
      have hrun := run_append_owned_none (P := P) (w := w) base t o.type e i 4 ht hi v _ _ hown
      have hx' : a.eval x = .slice none 0 0 := hx
      unfold Oper.wp
      simp [execOp, ho, resolve, invoke, builtin, hs, hx', hrun, Result.andThen]
      exact hK _ _ (h v w (by simpa using hown) ⟨rfl, rfl, rfl, Nat.le_refl _, fun _ _ _ => rfl⟩)
    | some ad =>
      refine wp_append_own w s x t ho base e i z 4 32 ht hi hz hsize hby hzs (by decide) v _ _ hs hown ad 0 cap [] hx rfl (by simp) (by simp) (by simpa using h63) (by simpa using hbytes) hbase ?_
      intro v' w' h1 h2 _
      exact hK _ _ (h v' w' (by simpa using h1) h2)
  · obtain ⟨b, off, rfl, hlt, hat⟩ := hc hne
    refine wp_append_own w s x t ho base e i z 4 32 ht hi hz hsize hby hzs (by decide) v _ _ hs hown ⟨b, off, none⟩ ys.length cap (flatT ys) hx (flatT_len ys) (flatT_cells hat) (flatT_one ys) h63 hbytes hbase ?_
    intro v' w' h1 h2 _
    exact hK _ _ (h v' w' (by rw [flatT_app, ← List.length_append] at h1; exact h1) h2)
/-- A cut of a slice of types: what its value is, what it reads as. -/
def cutT (a : Option Addr) (l h m : Nat) : Value := .slice (if m = l then a else a.map (·.add (l * 4))) (h - l) (m - l)
theorem SeesT.cut {w : World} {a : Option Addr} {cap : Nat} {xs : List Ty} (h : SeesT w (.slice a xs.length cap) xs) (l h' m : Nat) (hl : l ≤ h') (hh : h' ≤ xs.length) (hm : h' ≤ m) (hc : m ≤ cap) : SeesT w (cutT a l h' m) ((xs.take h').drop l) := by
  obtain ⟨a', cap', hv, h1, h2, h3, h5⟩ := h
  obtain ⟨rfl, _, rfl⟩ : a = a' ∧ xs.length = xs.length ∧ cap = cap' := by injection hv with e1 e2 e3; exact ⟨e1, e2, e3⟩
  have hlen : ((xs.take h').drop l).length = h' - l := by simp; omega
  refine ⟨_, m - l, by rw [hlen]; rfl, by omega, by omega, fun hn => ?_, fun hne => ?_⟩
  · split at hn
    · omega
    · have : a = none := by simpa using hn
      have := h3 this
      omega
  · have hpos : l < h' := by
      rcases Nat.lt_or_ge l h' with h | h
      · exact h
      · exact absurd (List.eq_nil_of_length_eq_zero (by rw [hlen]; omega)) hne
    obtain ⟨b, off, rfl, hlt, hat⟩ := h5 (fun e => by rw [e] at hh; simp at hh; omega)
    refine ⟨b, off + l * 4, by rw [if_neg (by omega)]; simp [Addr.add_mid], hlt, fun k hk => ?_⟩
    rw [hlen] at hk
    have := hat (l + k) (by omega)
    have e1 : ((xs.take h').drop l).getD k Ty.nil = xs.getD (l + k) Ty.nil := by
      simp only [List.getD_eq_getElem?_getD, List.getElem?_drop, List.getElem?_take]
      rw [if_pos (by omega)]
    rw [e1, show off + l * 4 + k * 4 = off + (l + k) * 4 by omega]
    exact this
/-- Four cells that read as a type. -/
theorem type_cells {H : Type} {enc : TypeId × Value → H} {W : World} {base fuel : Nat} {sp : Nat → Bool} {held : Bool} {cs : List Value} {x : DataW H × List MemPlace}
    (h : DataW.trod enc Try.prog W base sp held fuel 38 cs = some x) : ∃ p : Ty, cs = tyC p ∧ wfT p ∧ x = (tyD p, []) := by
  obtain ⟨xs, n, rfl, hx, hl, hlen, hf⟩ := DataW.trod_struct Try.underlying38 h
  have l4 : cs.length = 4 := by rw [hl]; kernel_rfl
  have u0 : Try.prog.cellsOf 33 = 1 := by kernel_rfl
  have u1 : Try.prog.cellsOf 36 = 2 := by kernel_rfl
  have u2 : Try.prog.cellsOf 3 = 1 := by kernel_rfl
  have u3 : Try.prog.cellsOf 34 = 1 := by kernel_rfl
  match cs, l4, xs, hlen, hf with
  | [c0, c1, c2, c3], _, [x0, x1, x2], _, hf =>
    have h0 : DataW.trod enc Try.prog W base sp held n 33 (([c0, c1, c2, c3].drop 0).take (Try.prog.cellsOf 33)) = some x0 := hf 0 _ rfl
    rw [u0] at h0
    have h1 : DataW.trod enc Try.prog W base sp held n 36 (([c0, c1, c2, c3].drop 1).take (Try.prog.cellsOf 36)) = some x1 := hf 1 _ rfl
    rw [u1] at h1
    have h2 : DataW.trod enc Try.prog W base sp held n 3 (([c0, c1, c2, c3].drop 3).take (Try.prog.cellsOf 3)) = some x2 := hf 2 _ rfl
    rw [u2] at h2
    obtain ⟨k, e0, y0, g0⟩ := DataW.trod_int Try.underlying33 h0
    obtain ⟨m, e2, y2, g2⟩ := DataW.trod_int Try.underlying3 h2
    obtain ⟨zs, n', rfl, hz, hzl, hzlen, hzf⟩ := DataW.trod_struct Try.underlying36 h1
    match zs, hzlen, hzf with
    | [z0, z1], _, hzf =>
      have k0 : DataW.trod enc Try.prog W base sp held n' 34 (([c1, c2].drop 0).take (Try.prog.cellsOf 34)) = some z0 := hzf 0 _ rfl
      rw [u3] at k0
      have k1 : DataW.trod enc Try.prog W base sp held n' 34 (([c1, c2].drop 1).take (Try.prog.cellsOf 34)) = some z1 := hzf 1 _ rfl
      rw [u3] at k1
      obtain ⟨lo, f0, v0, q0⟩ := DataW.trod_int Try.underlying34 k0
      obtain ⟨hi, f1, v1, q1⟩ := DataW.trod_int Try.underlying34 k1
      simp at e0 e2 f0 f1
      subst e0 e2 f0 f1 y0 y2 v0 v1
      exact ⟨⟨k, lo, hi, m⟩, rfl, ⟨bounds_i64 g0, bounds_u64 q0, bounds_u64 q1, bounds_i64 g2⟩, by rw [hx, hz]; rfl⟩
theorem open_Type {H : Type} {enc : TypeId × Value → H} {W : World} {base : Nat} {v : Value} {d : DataW H} {p : List MemPlace}
    (hok : Value.okWide Try.prog W .any base 38 v) (h : DataW.Trod enc Try.prog W 0 (fun _ => true) true 38 v d p) : ∃ s : Ty, v = tyV s ∧ wfT s := by
  obtain ⟨cs, rfl, _⟩ := okWide_struct Try.underlying38 hok
  obtain ⟨fuel, hf⟩ := h
  obtain ⟨s, hi, hw, _⟩ := type_cells hf
  refine ⟨s, ?_, hw⟩
  have : cs = (tyC s).toArray := by
    have h2 : cs.toList = tyC s := by simpa [Value.cells] using hi
    rw [← h2]
  rw [this]
theorem opens_Type_reach {H : Type} {enc : TypeId × Value → H} {W : World} {base : Nat} {v : Value} {d : DataW H} {p : List MemPlace}
    (hok : Value.okWide Try.prog W .any base 32 v) (h : DataW.Trod enc Try.prog W 0 (fun _ => true) true 32 v d p) :
    ∃ xs, (SeesT W v xs ∧ ∀ i ∈ xs, wfT i) ∧ ((d.weights Try.prog 32).all (· ≤ reachBytes) = true → xs.length * 32 ≤ 140737488351232) := by
  obtain ⟨a, len, cap, rfl⟩ := okWide_slice Try.underlying32 hok
  have c4 : Try.prog.cellsOf 38 = 4 := by kernel_rfl
  obtain ⟨fuel, hf⟩ := h
  rcases DataW.trod_slice Try.underlying32 hf with ⟨hcs, hx⟩ | ⟨x, l, c, elems, rest, n, rfl, hcs, hx, _, hl, hm, hlen, hel, hsp, _⟩
  · simp [Value.cells] at hcs hx
    obtain ⟨rfl, rfl, rfl⟩ := hcs
    obtain ⟨rfl, rfl⟩ := hx
    exact ⟨[], ⟨SeesT.nil W, by simp⟩, fun _ => by simp⟩
  · simp [Value.cells] at hcs hx
    obtain ⟨rfl, rfl, rfl⟩ := hcs
    obtain ⟨rfl, rfl⟩ := hx
    have hex : ∀ i : Nat, ∃ I : Ty, i < len → wfT I ∧ (∀ j, j < 4 → W.cell? ((x.add (i * 4)).add j) = (tyC I)[j]?) := by
      intro i
      by_cases hi : i < len
      · have h1 := hel i hi
        have hie : i < elems.length := by omega
        rw [c4, List.getElem?_eq_getElem hie, Option.bind_eq_some_iff] at h1
        obtain ⟨cs, hc1, hc2⟩ := h1
        obtain ⟨I, rfl, hw, hx⟩ := type_cells hc2
        exact ⟨I, fun _ => ⟨hw, (World.cells?_some hc1).2.2⟩⟩
      · exact ⟨Ty.nil, fun h => absurd h hi⟩
    obtain ⟨g, hg⟩ := Classical.axiomOfChoice hex
    have hxl : ((List.range len).map g).length = len := by simp
    have hgd : ∀ k, k < len → ((List.range len).map g).getD k Ty.nil = g k := fun k hk => by simp [List.getD, hk]
    refine ⟨(List.range len).map g, ⟨⟨some x, cap, by rw [hxl], by omega, hm, fun h => by simp at h, fun hne => ?_⟩, ?_⟩, ?_⟩
    · have hpos : 0 < len := by
        rcases Nat.eq_zero_or_pos len with h0 | h0
        · subst h0; exact absurd rfl hne
        · exact h0
      obtain ⟨b, off, spot⟩ := x
      have h00 := (hg 0 hpos).2 0 (by omega)
      have hspot : spot = none := by
        have := World.cell?_spot (show W.cell? _ = some _ from h00)
        simpa [Addr.add] using this
      subst hspot
      refine ⟨b, off, rfl, ?_, fun k hk => ?_⟩
      · have := World.block_lt_of_cell? W _ (show W.cell? _ = some _ from h00)
        simpa [Addr.add] using this
      · rw [hxl] at hk
        rw [hgd k hk]
        have h5 := (hg k hk).2
        simp only [Addr.add_mid] at h5
        exact cells_atT h5
    · intro i hi
      simp only [List.mem_map, List.mem_range] at hi
      obtain ⟨k, hk, rfl⟩ := hi
      exact (hg k hk).1
    · intro hall
      have b32 : Try.prog.bytesOf 38 = 32 := by kernel_rfl
      rw [DataW.weights, Try.underlying32] at hall
      simp only [List.all_cons, Bool.and_eq_true, decide_eq_true_eq, List.length_map, b32] at hall
      have h1 := hall.1
      unfold reachBytes at h1
      rw [hxl]
      omega
/-- The box of a type. -/
abbrev tyO (t : Ty) : Obj := .cells #[.int .i64 t.k, .int .u64 t.lo, .int .u64 t.hi, .int .i64 t.m] 38
/-- A boxed type, loaded whole; its span alone. -/
theorem run_boxT {w : World} {n off : Nat} {k lo hi m : Int} (h : AtT w n off ⟨k, lo, hi, m⟩) : (loadVar 38 ⟨n, off, none⟩).run Try.prog w = .ok (.agg #[.int .i64 k, .int .u64 lo, .int .u64 hi, .int .i64 m]) w := by
  refine run_loadVar_mid w n off 38 [.int .i64 k, .int .u64 lo, .int .u64 hi, .int .i64 m] _ ?_ Try.underlying38 rfl (by kernel_rfl)
  intro j v hv
  have hj : j < 4 := (List.getElem?_eq_some_iff.1 hv).1
  exact (atT_cells h j hj).trans hv
end Go.Proofs.Ytkcofelpndlplaa
