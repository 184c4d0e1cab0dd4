
/-
  Append of a slice of records that is read, to a row of one's own. No Go text in sight.
-/
import Derived.Test.YtpbfgebecgikjaaGRow
import Derived.Laws.AppendOwnNone
namespace Go.Proofs.Ytpbfgebecgikjaa
open Go.RowKit
set_option linter.unusedVariables false
set_option linter.unusedSimpArgs false

theorem SeesG.flat {α : Type} {f : α → List Value} {z : Nat} {d : α} {w : World} {ad : Addr} {len cap : Nat} {xs : List α} (h : SeesG f z d w (.slice (some ad) len cap) xs) (hf : ∀ x, (f x).length = z) (hz : 0 < z) : ∀ j u, (flatG f xs)[j]? = some u → w.cell? (ad.add j) = some u := by
  intro j u hj
  have hjl := (List.getElem?_eq_some_iff.1 hj).1
  rw [flatG_len hf] at hjl
  obtain ⟨a, c, ev, _, _, _, hc⟩ := h
  simp only [Value.slice.injEq] at ev
  obtain ⟨rfl, rfl, rfl⟩ := ev
  have hne : xs ≠ [] := fun e => by rw [e] at hjl; simp at hjl
  obtain ⟨b, off, ea, _, hat⟩ := hc hne
  have ea := Option.some.inj ea
  subst ea
  have hk : j / z < xs.length := (Nat.div_lt_iff_lt_mul hz).2 hjl
  have hr : j % z < z := Nat.mod_lt _ hz
  have e : j / z * z + j % z = j := by rw [Nat.mul_comm]; exact Nat.div_add_mod j z
  have h1 := hat (j / z) hk (j % z) hr
  rw [← flatG_at hf d xs hk hr, e, hj, Nat.add_assoc, e] at h1
  rw [Addr.add_lit]
  exact h1
theorem run_append_seesG {α : Type} {f : α → List Value} {P : Program} (w : World) (base : Nat) (t ty e : TypeId) (i : TypeInfo) (zv : Value) (size bytes : Nat) (ht : P.underlying t = some (.slice e)) (hi : P.info? e = some i) (hz : i.zero = some zv)
    (hsize : i.size = size) (hby : i.bytes = bytes) (hzs : zv.cells.size = size) (hsz : 0 < size) (v : Value) (n : Nat) (xs : List Value) (hown : w.ownsRow base e size v n xs)
    {d : α} {src : Value} {ys : List α} (hf : ∀ x, (f x).length = size) (hsee : SeesG f size d w src ys) (h1 : ∀ u ∈ flatG f ys, u.oneCell' = true) (h63 : n + ys.length ≤ maxLen) (hbytes : (n + ys.length) * bytes ≤ 140737488355328) (hbase : base ≤ w.heap.size) :
    ∃ v' w', (Builtin.append_ #[t, t] ty #[v, src]).run P w = .ok v' w' ∧ w'.ownsRow base e size v' (n + ys.length) (xs ++ flatG f ys) ∧ w.grownBy w' v.ownBlock ∧ (v'.ownBlock = v.ownBlock ∨ v'.ownBlock = some w.heap.size) := by
  have hsee' := hsee
  obtain ⟨a, c, rfl, hc, hm, hn0, _⟩ := hsee
  cases a with
  | none =>
    obtain rfl := hn0 rfl
    obtain rfl : ys = [] := List.eq_nil_of_length_eq_zero (by omega)
    refine ⟨v, w, run_append_owned_none (P := P) (w := w) base t ty e i size ht hi v n xs hown, ?_, ⟨rfl, rfl, rfl, Nat.le_refl _, fun _ _ _ => rfl⟩, .inl rfl⟩
    have : xs ++ flatG f [] = xs := by simp [flatG]
    rw [this]
    exact hown
  | some ad =>
    obtain ⟨v', w', r1, r2, r3, _, r5⟩ := run_append_own_at (P := P) w base t ty e i zv size bytes ht hi hz hsize hby hzs hsz v n xs hown ad ys.length c (flatG f ys) (flatG_len hf ys) (hsee'.flat hf hsz) h1 h63 hbytes hbase
    exact ⟨v', w', r1, r2, r3, r5⟩
end Go.Proofs.Ytpbfgebecgikjaa
