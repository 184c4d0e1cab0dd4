/-
  A slice of integers as an argument, opened: its list, how many bytes it takes. No condition.
-/
import Derived.Test.YtbhiaclgakhcdaaVKit
namespace Go.Proofs.Ytbhiaclgakhcdaa
open Go.ChangeShapes Go.WideShapes Go.ChangeAt Go.RowKit
set_option linter.unusedVariables false
set_option maxRecDepth 100000

theorem lits_len {H : Type} (k : IntKind) (zs : List Int) : (lits (H := H) k zs).length = zs.length := by
  induction zs with
  | nil => rfl
  | cons z r ih =>
    show (DataW.lit (.int k z) :: lits k r).length = _
    rw [List.length_cons, ih, List.length_cons]
theorem slice_of_trod {H : Type} {enc : TypeId × Value → H} {W : World} {base fuel : Nat} {sp : Nat → Bool} {held : Bool} {t e : TypeId} {c : Value} {x : DataW H × List MemPlace} (ht : Try.prog.underlying t = some (.slice e)) (h : DataW.trod enc Try.prog W base sp held fuel t [c] = some x) : ∃ a len cap, c = .slice a len cap := by
  rcases DataW.trod_slice ht h with ⟨hcs, _⟩ | ⟨y, l, c', elems, rest, n, _, hcs, _⟩
  · simp at hcs; exact ⟨_, _, _, hcs⟩
  · simp at hcs; exact ⟨_, _, _, hcs⟩
/-- A slice of integers as an argument, with the bytes that it takes. -/
theorem sees_open_sh {H : Type} {enc : TypeId × Value → H} {W : World} {t e : TypeId} {k : IntKind} {v : Value} {d : DataW H} {p : List MemPlace} (ht : Try.prog.underlying t = some (.slice e)) (he : Try.prog.underlying e = some (.int k)) (hc : Try.prog.cellsOf e = 1)
    (hsh : ∃ a len cap, v = .slice a len cap) (h : DataW.Trod enc Try.prog W 0 (fun _ => true) true t v d p) : ∃ xs, Sees k W v xs ∧ ((d.weights Try.prog t).all (· ≤ reachBytes) = true → xs.length * Try.prog.bytesOf e ≤ reachBytes) := by
  obtain ⟨a, len, cap, rfl⟩ := hsh
  have lt : ∀ x ∈ p, x.block < W.heap.size := by obtain ⟨m, hm⟩ := h; exact DataW.trod_lt m _ _ _ hm
  obtain ⟨fuel, hf⟩ := h
  rcases open_ints ht he hc hf with ⟨hcs, hx⟩ | ⟨x, l, c, zs, hcs, _, hl, hm, hz, hx, hcell, hwz⟩
  · simp [Value.cells] at hcs hx
    obtain ⟨rfl, rfl, rfl⟩ := hcs
    obtain ⟨rfl, rfl⟩ := hx
    exact ⟨[], ⟨none, 0, rfl, by simp, by simp [maxLen], fun _ => rfl, by simp, fun h => absurd rfl h⟩, by simp⟩
  · simp [Value.cells] at hcs hx
    obtain ⟨rfl, rfl, rfl⟩ := hcs
    obtain ⟨rfl, rfl⟩ := hx
    have hz : zs.length = cap := by simpa using hz
    have hlen : (zs.take len).length = len := by simp; omega
    refine ⟨zs.take len, ⟨some x, cap, by rw [hlen], by omega, hm, fun h => by simp at h, fun y hy => hwz y (List.mem_of_mem_take hy), fun hne => ?_⟩, ?_⟩
    · have hlt : 0 < len := by
        rcases Nat.eq_zero_or_pos len with h0 | h0
        · subst h0; exact absurd rfl hne
        · exact h0
      have h0 := hcell 0 (by omega)
      obtain ⟨b, off, spot⟩ := x
      have hspot : spot = none := by simpa [Addr.add] using World.cell?_spot h0
      subst hspot
      refine ⟨b, off, rfl, lt (.cell b off) ?_, fun i hi => ?_⟩
      · simp [MemPlace.row]; omega
      · have := hcell i (by omega)
        rw [add_none] at this
        rw [this]
        have : i < zs.length := by omega
        rw [hlen] at hi
        simp [List.getD, hi]
    · intro hall
      rw [DataW.weights, ht] at hall
      simp only [List.all_cons, Bool.and_eq_true, decide_eq_true_eq] at hall
      have h1 := hall.1
      rw [lits_len, lits_len, hlen] at h1
      rw [hlen]
      exact Nat.le_trans (Nat.mul_le_mul_right _ (Nat.le_add_right _ _)) h1
end Go.Proofs.Ytbhiaclgakhcdaa
