
/-
  An argument that is a slice of records, opened, whatever the record. No condition.
-/
import Derived.Test.YtpbfgebecgikjaaGx
import Derived.Deep.MidRow
import Derived.ProofKit
namespace Go.Proofs.Ytpbfgebecgikjaa
open Go.ChangeShapes Go.WideShapes Go.ChangeAt Go.RowKit
set_option linter.unusedVariables false
set_option maxRecDepth 100000

theorem opensG {α : Type} {f : α → List Value} {z : Nat} (nil : α) {R : α → Prop} {t te : TypeId} {bytes : Nat} (hu : Try.prog.underlying t = some (.slice te)) (hz : Try.prog.cellsOf te = z) (hz0 : 0 < z) (hfl : ∀ x, (f x).length = z) (hby : Try.prog.bytesOf te = bytes)
    {H : Type} {enc : TypeId × Value → H} {W : World} {base : Nat} {v : Value} {d : DataW H} {p : List MemPlace}
    (hone : ∀ {fuel : Nat} {cs : List Value} {x : DataW H × List MemPlace}, DataW.trod enc Try.prog W 0 (fun _ => true) true fuel te cs = some x → ∃ a : α, cs = f a ∧ R a)
    (hok : Value.okWide Try.prog W .any base t v) (h : DataW.Trod enc Try.prog W 0 (fun _ => true) true t v d p) :
    ∃ xs, SeesG f z nil W v xs ∧ (∀ x ∈ xs, R x) ∧ ((d.weights Try.prog t).all (· ≤ reachBytes) = true → xs.length * bytes ≤ 140737488351232) := by
  obtain ⟨a, len, cap, rfl⟩ := okWide_slice hu hok
  obtain ⟨fuel, hf⟩ := h
  rcases DataW.trod_slice hu hf with ⟨hcs, hx⟩ | ⟨x, l, c, elems, rest, n, rfl, hcs, hx, _, hl, hm, hlen, hel, hsp, _⟩
  · simp [Value.cells] at hcs hx
    obtain ⟨rfl, rfl, rfl⟩ := hcs
    obtain ⟨rfl, rfl⟩ := hx
    exact ⟨[], SeesG.nil nil W, by simp, fun _ => by simp⟩
  · simp [Value.cells] at hcs hx
    obtain ⟨rfl, rfl, rfl⟩ := hcs
    obtain ⟨rfl, rfl⟩ := hx
    have hex : ∀ i : Nat, ∃ I : α, i < len → R I ∧ (∀ j, j < z → W.cell? ((x.add (i * z)).add j) = (f I)[j]?) := by
      intro i
      by_cases hi : i < len
      · have h1 := hel i hi
        have hie : i < elems.length := by omega
        rw [hz, List.getElem?_eq_getElem hie, Option.bind_eq_some_iff] at h1
        obtain ⟨cs, hc1, hc2⟩ := h1
        obtain ⟨I, rfl, hw⟩ := hone hc2
        exact ⟨I, fun _ => ⟨hw, (World.cells?_some hc1).2.2⟩⟩
      · exact ⟨nil, fun h => absurd h hi⟩
    obtain ⟨g, hg⟩ := Classical.axiomOfChoice hex
    have hxl : ((List.range len).map g).length = len := by simp
    have hgd : ∀ k, k < len → ((List.range len).map g).getD k nil = g k := fun k hk => by simp [List.getD, hk]
    refine ⟨(List.range len).map g, ⟨some x, cap, by rw [hxl], by omega, hm, fun h => by simp at h, fun hne => ?_⟩, ?_, ?_⟩
    · have hpos : 0 < len := by
        rcases Nat.eq_zero_or_pos len with h0 | h0
        · subst h0; exact absurd rfl hne
        · exact h0
      obtain ⟨b, off, spot⟩ := x
      have h00 := (hg 0 hpos).2 0 hz0
      obtain ⟨u, hu0⟩ : ∃ u, (f (g 0))[0]? = some u := ⟨_, List.getElem?_eq_getElem (by rw [hfl]; exact hz0)⟩
      rw [hu0] at h00
      have hspot : spot = none := by
        have := World.cell?_spot h00
        simpa [Addr.add] using this
      subst hspot
      refine ⟨b, off, rfl, ?_, fun k hk j hj => ?_⟩
      · have := World.block_lt_of_cell? W _ h00
        simpa [Addr.add] using this
      · rw [hxl] at hk
        rw [hgd k hk]
        have h5 := (hg k hk).2
        simp only [Addr.add_mid] at h5
        exact h5 j hj
    · intro i hi
      simp only [List.mem_map, List.mem_range] at hi
      obtain ⟨k, hk, rfl⟩ := hi
      exact (hg k hk).1
    · intro hall
      rw [DataW.weights, hu] at hall
      simp only [List.all_cons, Bool.and_eq_true, decide_eq_true_eq, List.length_map, hby] at hall
      have h1 := hall.1
      unfold reachBytes at h1
      rw [hxl, show len = elems.length by omega]
      exact Nat.le_trans (Nat.mul_le_mul_right _ (Nat.le_add_right _ _)) h1
end Go.Proofs.Ytpbfgebecgikjaa
