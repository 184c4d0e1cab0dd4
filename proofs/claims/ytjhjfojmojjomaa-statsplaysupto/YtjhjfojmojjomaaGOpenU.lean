
/-
  An argument that is a slice of records, opened, whatever the record, with what the bulk of the reading says of each. No condition.
-/
import Derived.Test.YtjhjfojmojjomaaGOpenW
import Derived.Test.YtjhjfojmojjomaaGKit
namespace Go.Proofs.Ytjhjfojmojjomaa
open Go.ChangeShapes Go.WideShapes Go.ChangeAt Go.RowKit
set_option linter.unusedVariables false
set_option maxRecDepth 100000

theorem sees_openU {H : Type} {enc : TypeId × Value → H} {W : World} {t e : TypeId} {k : IntKind} {v : Value} {d : DataW H} {p : List MemPlace} (ht : Try.prog.underlying t = some (.slice e)) (he : Try.prog.underlying e = some (.int k)) (hc : Try.prog.cellsOf e = 1)
    (hsh : ∃ a len cap, v = .slice a len cap) (h : DataW.Trod enc Try.prog W 0 (fun _ => true) true t v d p) : ∃ xs, Sees k W v xs ∧ xs.length < Rows.uptoBulk d := by
  obtain ⟨a, len, cap, rfl⟩ := hsh
  have lt : ∀ x ∈ p, x.block < W.heap.size := by obtain ⟨m, hm⟩ := h; exact DataW.trod_lt m _ _ _ hm
  obtain ⟨fuel, hf⟩ := h
  rcases open_ints ht he hc hf with ⟨hcs, hx⟩ | ⟨x, l, c, zs, hcs, _, hl, hm, hz, hx, hcell, hwz⟩
  · simp [Value.cells] at hcs hx
    obtain ⟨rfl, rfl, rfl⟩ := hcs
    obtain ⟨rfl, rfl⟩ := hx
    exact ⟨[], ⟨none, 0, rfl, by simp, by simp [maxLen], fun _ => rfl, by simp, fun h => absurd rfl h⟩, by simp [Rows.uptoBulk]⟩
  · simp [Value.cells] at hcs hx
    obtain ⟨rfl, rfl, rfl⟩ := hcs
    obtain ⟨rfl, rfl⟩ := hx
    have hz : zs.length = cap := by simpa using hz
    have hlen : (zs.take len).length = len := by simp; omega
    refine ⟨zs.take len, ⟨some x, cap, by rw [hlen], by omega, hm, fun h => by simp at h, fun y hy => hwz y (List.mem_of_mem_take hy), fun hne => ?_⟩, ?_⟩
    · have hlt : 0 < len := by
        rcases Nat.eq_zero_or_pos len with h0 | h0
        · subst h0; exact absurd rfl hne
        · exact h0
      have h0 := hcell 0 (by omega)
      obtain ⟨b, off, spot⟩ := x
      have hspot : spot = none := by simpa [Addr.add] using World.cell?_spot h0
      subst hspot
      refine ⟨b, off, rfl, lt (.cell b off) ?_, fun i hi => ?_⟩
      · simp [MemPlace.row]; omega
      · have := hcell i (by omega)
        rw [add_none] at this
        rw [this]
        have : i < zs.length := by omega
        rw [hlen] at hi
        simp [List.getD, hi]
    · simp only [Rows.uptoBulk, bulk_lits, hlen]; omega
theorem bulk_pos {H : Type} (d : DataW H) : 1 ≤ Rows.uptoBulk d := by
  cases d <;> (try simp [Rows.uptoBulk])
  case lit l => cases l <;> simp [Rows.uptoBulk]
theorem bulk_all {H : Type} : ∀ (l : List (DataW H)), l.length ≤ Rows.uptoBulkAll l
  | [] => by simp [Rows.uptoBulkAll]
  | d :: r => by
    have h1 := bulk_pos d
    have h2 := bulk_all r
    simp only [Rows.uptoBulkAll, List.length_cons]
    omega
theorem bulk_each {H : Type} : ∀ (l : List (DataW H)) {i : Nat} {y : DataW H}, l[i]? = some y → Rows.uptoBulk y ≤ Rows.uptoBulkAll l
  | [], i, y, h => by simp at h
  | d :: r, 0, y, h => by
    simp only [List.getElem?_cons_zero, Option.some.injEq] at h
    subst h
    simp only [Rows.uptoBulkAll]
    omega
  | d :: r, i + 1, y, h => by
    have := bulk_each r (i := i) (y := y) (by simpa using h)
    simp only [Rows.uptoBulkAll]
    omega
theorem opensGU {α : Type} {f : α → List Value} {z : Nat} (nil : α) {R : α → Prop} {U : α → Nat} {t te : TypeId} (hu : Try.prog.underlying t = some (.slice te)) (hz : Try.prog.cellsOf te = z) (hz0 : 0 < z) (hfl : ∀ x, (f x).length = z)
    {H : Type} {enc : TypeId × Value → H} {W : World} {base : Nat} {v : Value} {d : DataW H} {p : List MemPlace}
    (hone : ∀ {fuel : Nat} {cs : List Value} {x : DataW H × List MemPlace}, DataW.trod enc Try.prog W 0 (fun _ => true) true fuel te cs = some x → ∃ a : α, cs = f a ∧ R a ∧ U a ≤ Rows.uptoBulk x.1)
    (hok : Value.okWide Try.prog W .any base t v) (h : DataW.Trod enc Try.prog W 0 (fun _ => true) true t v d p) :
    ∃ xs, SeesG f z nil W v xs ∧ (∀ x ∈ xs, R x) ∧ xs.length ≤ Rows.uptoBulk d ∧ ∀ x ∈ xs, U x ≤ Rows.uptoBulk d := by
  obtain ⟨a, len, cap, rfl⟩ := okWide_slice hu hok
  obtain ⟨fuel, hf⟩ := h
  rcases DataW.trod_slice hu hf with ⟨hcs, hx⟩ | ⟨x, l, c, elems, rest, n, rfl, hcs, hx, _, hl, hm, hlen, hel, hsp, _⟩
  · simp [Value.cells] at hcs hx
    obtain ⟨rfl, rfl, rfl⟩ := hcs
    obtain ⟨rfl, rfl⟩ := hx
    exact ⟨[], SeesG.nil nil W, by simp, by simp, by simp⟩
  · simp [Value.cells] at hcs hx
    obtain ⟨rfl, rfl, rfl⟩ := hcs
    obtain ⟨rfl, rfl⟩ := hx
    have hex : ∀ i : Nat, ∃ I : α, i < len → (R I ∧ ∃ y, elems[i]? = some y ∧ U I ≤ Rows.uptoBulk y.1) ∧ (∀ j, j < z → W.cell? ((x.add (i * z)).add j) = (f I)[j]?) := by
      intro i
      by_cases hi : i < len
      · have h1 := hel i hi
        have hie : i < elems.length := by omega
        rw [hz, List.getElem?_eq_getElem hie, Option.bind_eq_some_iff] at h1
        obtain ⟨cs, hc1, hc2⟩ := h1
        obtain ⟨I, rfl, hw, hb⟩ := hone hc2
        exact ⟨I, fun _ => ⟨⟨hw, _, List.getElem?_eq_getElem hie, hb⟩, (World.cells?_some hc1).2.2⟩⟩
      · exact ⟨nil, fun h => absurd h hi⟩
    obtain ⟨g, hg⟩ := Classical.axiomOfChoice hex
    have hxl : ((List.range len).map g).length = len := by simp
    have hgd : ∀ k, k < len → ((List.range len).map g).getD k nil = g k := fun k hk => by simp [List.getD, hk]
    refine ⟨(List.range len).map g, ⟨some x, cap, by rw [hxl], by omega, hm, fun h => by simp at h, fun hne => ?_⟩, ?_, ?_, ?_⟩
    · have hpos : 0 < len := by
        rcases Nat.eq_zero_or_pos len with h0 | h0
        · subst h0; exact absurd rfl hne
        · exact h0
      obtain ⟨b, off, spot⟩ := x
      have h00 := (hg 0 hpos).2 0 hz0
      obtain ⟨u, hu0⟩ : ∃ u, (f (g 0))[0]? = some u := ⟨_, List.getElem?_eq_getElem (by rw [hfl]; exact hz0)⟩
      rw [hu0] at h00
      have hspot : spot = none := by
        have := World.cell?_spot h00
        simpa [Addr.add] using this
      subst hspot
      refine ⟨b, off, rfl, ?_, fun k hk j hj => ?_⟩
      · have := World.block_lt_of_cell? W _ h00
        simpa [Addr.add] using this
      · rw [hxl] at hk
        rw [hgd k hk]
        have h5 := (hg k hk).2
        simp only [Addr.add_mid] at h5
        exact h5 j hj
    · intro i hi
      simp only [List.mem_map, List.mem_range] at hi
      obtain ⟨k, hk, rfl⟩ := hi
      exact (hg k hk).1.1
    · rw [hxl, show len = (elems.map (·.1)).length by simp; omega]
      have := bulk_all (elems.map (·.1))
      simp only [Rows.uptoBulk]
      omega
    · intro i hi
      simp only [List.mem_map, List.mem_range] at hi
      obtain ⟨k, hk, rfl⟩ := hi
      obtain ⟨⟨_, y, hy, hb⟩, _⟩ := hg k hk
      have := bulk_each (elems.map (·.1)) (i := k) (y := y.1) (by rw [List.getElem?_map, hy]; rfl)
      simp only [Rows.uptoBulk]
      omega
end Go.Proofs.Ytjhjfojmojjomaa
