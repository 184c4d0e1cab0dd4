
/-
  An argument that is a slice of records, opened, whatever the record, with what the sizes say of each. No condition.
-/
import Derived.Test.YtbfbfbbpajaclaaDoorKGx
import Derived.Deep.MidRow
import Derived.ProofKit
namespace Go.Proofs.YtbfbfbbpajaclaaDoor
open Go.ChangeShapes Go.WideShapes Go.ChangeAt Go.RowKit
set_option linter.unusedVariables false
set_option maxRecDepth 100000

theorem weights_eachW {H : Type} {P : Program} {e : TypeId} {f : Nat → Bool} : ∀ (l : List (DataW H)) {i : Nat} {y : DataW H}, l[i]? = some y → (DataW.weightsAll P e l).all f = true → (DataW.weights P e y).all f = true
  | [], i, y, h, _ => by simp at h
  | d :: r, 0, y, h, ha => by
    simp only [List.getElem?_cons_zero, Option.some.injEq] at h
    subst h
    rw [DataW.weightsAll, List.all_append, Bool.and_eq_true] at ha
    exact ha.1
  | d :: r, i + 1, y, h, ha => by
    rw [DataW.weightsAll, List.all_append, Bool.and_eq_true] at ha
    exact weights_eachW r (by simpa using h) ha.2
theorem opensGS {α : Type} {f : α → List Value} {z : Nat} (nil : α) {R Q : α → Prop} {t te : TypeId} {bytes : Nat} (hu : Tryd.prog.underlying t = some (.slice te)) (hz : Tryd.prog.cellsOf te = z) (hz0 : 0 < z) (hfl : ∀ x, (f x).length = z) (hby : Tryd.prog.bytesOf te = bytes)
    {H : Type} {enc : TypeId × Value → H} {W : World} {v : Value} {d : DataW H} {p : List MemPlace}
    (hone : ∀ {fuel : Nat} {cs : List Value} {x : DataW H × List MemPlace}, DataW.trod enc Tryd.prog W 0 (fun _ => true) true fuel te cs = some x → ∃ a : α, cs = f a ∧ R a ∧ ((x.1.weights Tryd.prog te).all (· ≤ reachBytes) = true → Q a))
    (hsh : ∃ a len cap, v = .slice a len cap) (h : DataW.Trod enc Tryd.prog W 0 (fun _ => true) true t v d p) :
    ∃ xs, SeesG f z nil W v xs ∧ (∀ x ∈ xs, R x) ∧ ((d.weights Tryd.prog t).all (· ≤ reachBytes) = true → xs.length * bytes ≤ 140737488351232 ∧ ∀ x ∈ xs, Q x) := by
  obtain ⟨a, len, cap, rfl⟩ := hsh
  obtain ⟨fuel, hf⟩ := h
  rcases DataW.trod_slice hu hf with ⟨hcs, hx⟩ | ⟨x, l, c, elems, rest, n, rfl, hcs, hx, _, hl, hm, hlen, hel, hsp, _⟩
  · simp [Value.cells] at hcs hx
    obtain ⟨rfl, rfl, rfl⟩ := hcs
    obtain ⟨rfl, rfl⟩ := hx
    exact ⟨[], SeesG.nil nil W, by simp, fun _ => ⟨by simp, by simp⟩⟩
  · simp [Value.cells] at hcs hx
    obtain ⟨rfl, rfl, rfl⟩ := hcs
    obtain ⟨rfl, rfl⟩ := hx
    have hex : ∀ i : Nat, ∃ I : α, i < len → (R I ∧ ∃ y, elems[i]? = some y ∧ ((y.1.weights Tryd.prog te).all (· ≤ reachBytes) = true → Q I)) ∧ (∀ j, j < z → W.cell? ((x.add (i * z)).add j) = (f I)[j]?) := by
      intro i
      by_cases hi : i < len
      · have h1 := hel i hi
        have hie : i < elems.length := by omega
        rw [hz, List.getElem?_eq_getElem hie, Option.bind_eq_some_iff] at h1
        obtain ⟨cs, hc1, hc2⟩ := h1
        obtain ⟨I, rfl, hw, hb⟩ := hone hc2
        exact ⟨I, fun _ => ⟨⟨hw, _, List.getElem?_eq_getElem hie, hb⟩, (World.cells?_some hc1).2.2⟩⟩
      · exact ⟨nil, fun h => absurd h hi⟩
    obtain ⟨g, hg⟩ := Classical.axiomOfChoice hex
    have hxl : ((List.range len).map g).length = len := by simp
    have hgd : ∀ k, k < len → ((List.range len).map g).getD k nil = g k := fun k hk => by simp [List.getD, hk]
    refine ⟨(List.range len).map g, ⟨some x, cap, by rw [hxl], by omega, hm, fun h => by simp at h, fun hne => ?_⟩, ?_, ?_⟩
    · have hpos : 0 < len := by
        rcases Nat.eq_zero_or_pos len with h0 | h0
        · subst h0; exact absurd rfl hne
        · exact h0
      obtain ⟨b, off, spot⟩ := x
      have h00 := (hg 0 hpos).2 0 hz0
      obtain ⟨u, hu0⟩ : ∃ u, (f (g 0))[0]? = some u := ⟨_, List.getElem?_eq_getElem (by rw [hfl]; exact hz0)⟩
      rw [hu0] at h00
      have hspot : spot = none := by
        have := World.cell?_spot h00
        simpa [Addr.add] using this
      subst hspot
      refine ⟨b, off, rfl, ?_, fun k hk j hj => ?_⟩
      · have := World.block_lt_of_cell? W _ h00
        simpa [Addr.add] using this
      · rw [hxl] at hk
        rw [hgd k hk]
        have h5 := (hg k hk).2
        simp only [Addr.add_mid] at h5
        exact h5 j hj
    · intro i hi
      simp only [List.mem_map, List.mem_range] at hi
      obtain ⟨k, hk, rfl⟩ := hi
      exact (hg k hk).1.1
    · intro hall
      refine ⟨?_, ?_⟩
      rotate_left
      · intro i hi
        simp only [List.mem_map, List.mem_range] at hi
        obtain ⟨k, hk, rfl⟩ := hi
        obtain ⟨⟨_, y, hy, hb⟩, _⟩ := hg k hk
        refine hb ?_
        rw [DataW.weights, hu] at hall
        simp only [List.all_cons, List.all_append, Bool.and_eq_true] at hall
        exact weights_eachW (elems.map (·.1)) (i := k) (by rw [List.getElem?_map, hy]; rfl) hall.2.1
      rw [DataW.weights, hu] at hall
      simp only [List.all_cons, Bool.and_eq_true, decide_eq_true_eq, List.length_map, hby] at hall
      have h1 := hall.1
      unfold reachBytes at h1
      rw [hxl, show len = elems.length by omega]
      exact Nat.le_trans (Nat.mul_le_mul_right _ (Nat.le_add_right _ _)) h1
theorem opensGW {α : Type} {f : α → List Value} {z : Nat} (nil : α) {R Q : α → Prop} {t te : TypeId} {bytes : Nat} (hu : Tryd.prog.underlying t = some (.slice te)) (hz : Tryd.prog.cellsOf te = z) (hz0 : 0 < z) (hfl : ∀ x, (f x).length = z) (hby : Tryd.prog.bytesOf te = bytes)
    {H : Type} {enc : TypeId × Value → H} {W : World} {base : Nat} {v : Value} {d : DataW H} {p : List MemPlace}
    (hone : ∀ {fuel : Nat} {cs : List Value} {x : DataW H × List MemPlace}, DataW.trod enc Tryd.prog W 0 (fun _ => true) true fuel te cs = some x → ∃ a : α, cs = f a ∧ R a ∧ ((x.1.weights Tryd.prog te).all (· ≤ reachBytes) = true → Q a))
    (hok : Value.okWide Tryd.prog W .any base t v) (h : DataW.Trod enc Tryd.prog W 0 (fun _ => true) true t v d p) :
    ∃ xs, SeesG f z nil W v xs ∧ (∀ x ∈ xs, R x) ∧ ((d.weights Tryd.prog t).all (· ≤ reachBytes) = true → xs.length * bytes ≤ 140737488351232 ∧ ∀ x ∈ xs, Q x) :=
  opensGS nil hu hz hz0 hfl hby hone (okWide_slice hu hok) h
end Go.Proofs.YtbfbfbbpajaclaaDoor
