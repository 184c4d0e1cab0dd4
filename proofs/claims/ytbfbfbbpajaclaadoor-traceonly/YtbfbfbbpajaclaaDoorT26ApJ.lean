
/-
  Append of a slice of entries that is read, to a row of one's own, behind a guard too. No condition.
-/
import Derived.Test.YtbfbfbbpajaclaaDoorMB31
import Derived.Laws.AppendOwnNone
namespace Go.Proofs.YtbfbfbbpajaclaaDoor
open Go.RowKit
set_option linter.unusedVariables false
set_option linter.unusedSimpArgs false
set_option maxRecDepth 100000
theorem seesG_flat26 {α : Type} {f : α → List Value} {z : Nat} {d : α} {w : World} {ad : Addr} {len cap : Nat} {xs : List α} (h : SeesG f z d w (.slice (some ad) len cap) xs) (hf : ∀ x, (f x).length = z) (hz : 0 < z) : ∀ j u, (flatG f xs)[j]? = some u → w.cell? (ad.add j) = some u := by
  intro j u hj
  have hjl := (List.getElem?_eq_some_iff.1 hj).1
  rw [flatG_len hf] at hjl
  obtain ⟨a, c, ev, _, _, _, hc⟩ := h
  simp only [Value.slice.injEq] at ev
  obtain ⟨rfl, rfl, rfl⟩ := ev
  have hne : xs ≠ [] := fun e => by rw [e] at hjl; simp at hjl
  obtain ⟨b, off, ea, _, hat⟩ := hc hne
  have ea := Option.some.inj ea
  subst ea
  have hk : j / z < xs.length := (Nat.div_lt_iff_lt_mul hz).2 hjl
  have hr : j % z < z := Nat.mod_lt _ hz
  have e : j / z * z + j % z = j := by rw [Nat.mul_comm]; exact Nat.div_add_mod j z
  have h1 := hat (j / z) hk (j % z) hr
  rw [← flatG_at hf d xs hk hr, e, hj, Nat.add_assoc, e] at h1
  rw [Addr.add_mid]
  exact h1
theorem run_append26 {α : Type} {f : α → List Value} {P : Program} (w : World) (base : Nat) (t ty e : TypeId) (i : TypeInfo) (zv : Value) (size bytes : Nat) (ht : P.underlying t = some (.slice e)) (hi : P.info? e = some i) (hz : i.zero = some zv)
    (hsize : i.size = size) (hby : i.bytes = bytes) (hzs : zv.cells.size = size) (hsz : 0 < size) (v : Value) (n : Nat) (xs : List Value) (hown : w.ownsRow base e size v n xs)
    {d : α} {src : Value} {ys : List α} (hf : ∀ x, (f x).length = size) (hsee : SeesG f size d w src ys) (h1 : ∀ u ∈ flatG f ys, u.oneCell' = true) (h63 : n + ys.length ≤ maxLen) (hbytes : (n + ys.length) * bytes ≤ 140737488355328) (hbase : base ≤ w.heap.size) :
    ∃ v' w', (Builtin.append_ #[t, t] ty #[v, src]).run P w = .ok v' w' ∧ w'.ownsRow base e size v' (n + ys.length) (xs ++ flatG f ys) ∧ w.grownBy w' v.ownBlock := by
  have hsee' := hsee
  obtain ⟨a, c, rfl, hc, hm, hn0, _⟩ := hsee
  cases a with
  | none =>
    obtain rfl := hn0 rfl
    obtain rfl : ys = [] := List.eq_nil_of_length_eq_zero (by omega)
    refine ⟨v, w, run_append_owned_none (P := P) (w := w) base t ty e i size ht hi v n xs hown, ?_, ⟨rfl, rfl, rfl, Nat.le_refl _, fun _ _ _ => rfl⟩⟩
    have : xs ++ flatG f [] = xs := by simp [flatG]
    rw [this]
    exact hown
  | some ad =>
    obtain ⟨v', w', r1, r2, r3, _, _⟩ := run_append_own_at (P := P) w base t ty e i zv size bytes ht hi hz hsize hby hzs hsz v n xs hown ad ys.length c (flatG f ys) (flatG_len hf ys) (seesG_flat26 hsee' hf hsz) h1 h63 hbytes hbase
    exact ⟨v', w', r1, r2, r3⟩
theorem wpList_append26 {α : Type} {f : α → List Value} {P : Program} {w : World} {ops : Array Oper} {rest : List Oper} {o : Oper} {a : Act} {Q : Exit → Act → World → Prop} (hgd : Region.wanted o (yielded ops a.tmps) = true) (s x : Operand) (t : TypeId)
    (ho : o.op = .call { callee := .builtin .append, args := #[s, x], argTypes := #[t, t] })
    (base : Nat) (e : TypeId) (i : TypeInfo) (zv : Value) (size bytes : Nat) (ht : P.underlying t = some (.slice e)) (hi : P.info? e = some i) (hz : i.zero = some zv)
    (hsize : i.size = size) (hby : i.bytes = bytes) (hzs : zv.cells.size = size) (hsz : 0 < size)
    (v : Value) (xs : List α) (hs : a.eval s = v) (hown : w.ownsRow base e size v xs.length (flatG f xs))
    {d : α} (src : Value) (ys : List α) (hx : a.eval x = src) (hf : ∀ x, (f x).length = size) (hsee : SeesG f size d w src ys) (h1 : ∀ u ∈ flatG f ys, u.oneCell' = true)
    (h63 : xs.length + ys.length ≤ maxLen) (hbytes : (xs.length + ys.length) * bytes ≤ 140737488355328) (hbase : base ≤ w.heap.size)
    (h : ∀ v' w', w'.ownsRow base e size v' (xs ++ ys).length (flatG f (xs ++ ys)) → w.grownBy w' v.ownBlock → wpList P ops Q rest (a.put o.dst v') w') : wpList P ops Q (o :: rest) a w := by
  have e2 : flatG f xs ++ flatG f ys = flatG f (xs ++ ys) := by simp [flatG]
  refine wpList_step fun K hK => ?_
  rw [if_pos hgd]
  obtain ⟨v', w', hr, h2, h3⟩ := run_append26 (P := P) w base t o.type e i zv size bytes ht hi hz hsize hby hzs hsz v xs.length (flatG f xs) hown hf hsee h1 h63 hbytes hbase
  rw [e2] at h2
  unfold Oper.wp execOp
  simp only [ho, resolve, invoke, builtin, Sem.run_bind, Sem.run_pure, Result.andThen_ok, List.map_toArray, List.map_cons, List.map_nil, hs, hx, hr]
  exact hK _ _ (h v' w' (by rw [List.length_append]; exact h2) h3)
theorem flat_oneE (xs : List En) : ∀ u ∈ flatG enC xs, u.oneCell' = true := by
  intro u hu
  unfold flatG at hu
  obtain ⟨e, _, he⟩ := List.mem_flatMap.1 hu
  have := one_cellE e u
  rw [show flatG enC [e] = enC e by simp [flatG]] at this
  exact this he
/-- A slice of none, of one's own. -/
theorem own_zero26 (w : World) (z : Nat) (t : TypeId) : ∃ X, Hid (w.alloc (.cells #[] t) = X) ∧ Hid (X.ownsRow w.heap.size t z (.slice (some ⟨w.heap.size, 0, none⟩) 0 0) 0 []) ∧ Hid (Below w.heap.size w X) ∧ w.heap.size ≤ X.heap.size :=
  ⟨_, rfl, ⟨by simp, .inr ⟨w.heap.size, 0, #[], rfl, Nat.le_refl _, heap_alloc_new w _, Nat.le_refl _, by simp [maxLen], by simp, by simp⟩⟩, below_allocG _ _, by simp⟩
end Go.Proofs.YtbfbfbbpajaclaaDoor
