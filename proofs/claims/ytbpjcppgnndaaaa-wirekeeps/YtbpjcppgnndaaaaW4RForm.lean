/-
  What the document's Formed does: is a module well formed, as the plain rule has it. Condition: the module's slices read as numbers and as instructions.
-/
import Derived.Test.YtbpjcppgnndaaaaW4RSame
namespace Go.Proofs.Ytbpjcppgnndaaaa
open Go.RowKit
set_option linter.unusedVariables false
set_option linter.unusedSimpArgs false
set_option maxRecDepth 100000

def seenB (l : List Int) (i : Int) : Bool := decide (i ∈ l)
/-- The array that marks which maps have been met. -/
def SeenC (w : World) (n : Nat) (l : List Int) : Prop := w.heap[n]? = some (.cells #[.bool (seenB l 0), .bool (seenB l 1), .bool (seenB l 2), .bool (seenB l 3)] 69 (0, 0))
theorem SeenC.cells {w : World} {n : Nat} {l : List Int} (h : SeenC w n l) : w.cell? ⟨n, 0, none⟩ = some (.bool (seenB l 0)) ∧ w.cell? ⟨n, 1, none⟩ = some (.bool (seenB l 1)) ∧ w.cell? ⟨n, 2, none⟩ = some (.bool (seenB l 2)) ∧ w.cell? ⟨n, 3, none⟩ = some (.bool (seenB l 3)) :=
  ⟨cell_of_row w n 0 _ _ _ h, cell_of_row w n 1 _ _ _ h, cell_of_row w n 2 _ _ _ h, cell_of_row w n 3 _ _ _ h⟩
theorem SeenC.lt {w : World} {n : Nat} {l : List Int} (h : SeenC w n l) : n < w.heap.size := (Array.getElem?_eq_some_iff.1 h).1
theorem SeenC.frozen {w : World} {n : Nat} {l : List Int} (h : SeenC w n l) (j : Nat) : w.frozen? ⟨n, j, none⟩ = false := frozen_of_row w n j _ _ h
theorem seen_app (l : List Int) (n i : Int) : seenB (l ++ [n]) i = (seenB l i || decide (i = n)) := by simp [seenB]
theorem SeenC.set0 {w : World} {n : Nat} {l : List Int} (h : SeenC w n l) : SeenC (w.setCell ⟨n, 0, none⟩ (.bool true)) n (l ++ [0]) := by
  have h1 := heap_setCell_same w n 0 _ _ (.bool true) h
  unfold SeenC
  rw [h1, seen_app, seen_app, seen_app, seen_app]
  simp
theorem SeenC.set1 {w : World} {n : Nat} {l : List Int} (h : SeenC w n l) : SeenC (w.setCell ⟨n, 1, none⟩ (.bool true)) n (l ++ [1]) := by
  have h1 := heap_setCell_same w n 1 _ _ (.bool true) h
  unfold SeenC
  rw [h1, seen_app, seen_app, seen_app, seen_app]
  simp
theorem SeenC.set2 {w : World} {n : Nat} {l : List Int} (h : SeenC w n l) : SeenC (w.setCell ⟨n, 2, none⟩ (.bool true)) n (l ++ [2]) := by
  have h1 := heap_setCell_same w n 2 _ _ (.bool true) h
  unfold SeenC
  rw [h1, seen_app, seen_app, seen_app, seen_app]
  simp
theorem SeenC.set3 {w : World} {n : Nat} {l : List Int} (h : SeenC w n l) : SeenC (w.setCell ⟨n, 3, none⟩ (.bool true)) n (l ++ [3]) := by
  have h1 := heap_setCell_same w n 3 _ _ (.bool true) h
  unfold SeenC
  rw [h1, seen_app, seen_app, seen_app, seen_app]
  simp
/-- Halfway through Formed. -/
structure Fm (w wr : World) (vm vc : Value) (l : List Int) : Prop where
  g : Below w.heap.size w wr
  md : MdC wr w.heap.size vm vc
  seen : SeenC wr (w.heap.size + 1) l
theorem Fm.store {w wr : World} {vm vc : Value} {l l' : List Int} {j : Nat} {u : Value} (h : Fm w wr vm vc l) (hs : SeenC (wr.setCell ⟨w.heap.size + 1, j, none⟩ u) (w.heap.size + 1) l') : Fm w (wr.setCell ⟨w.heap.size + 1, j, none⟩ u) vm vc l' :=
  ⟨h.g.setCell (p := ⟨w.heap.size + 1, j, none⟩) (by simp) _, h.md.kept (grown_set wr ⟨w.heap.size + 1, j, none⟩ u) (by simp), hs⟩
theorem Fm.start (w : World) (vm vc : Value) : Fm w ((w.alloc (.cells #[vm, vc] 25)).alloc (.cells #[.bool false, .bool false, .bool false, .bool false] 69)) vm vc [] := by
  refine ⟨((Below.refl _ _).alloc (Nat.le_refl _) _).alloc (by simp) _, (MdC.new w vm vc).kept (grown_alloc _ _ none) (by simp), ?_⟩
  have := heap_alloc_new (w.alloc (.cells #[vm, vc] 25)) (.cells #[.bool false, .bool false, .bool false, .bool false] 69)
  rw [World.size_alloc] at this
  exact this
theorem formed_no {ms : List Int} {is : List In} (h : 4 < ms.length ∨ is.length < 1 ∨ 64 < is.length) : formedB ms is = false := by
  rcases h with h | h
  · unfold formedB
    have : decide (ms.length ≤ 4) = false := decide_eq_false (by omega)
    rw [this]; rfl
  · exact formed_false h
theorem formed_unfit {ms : List Int} {is : List In} (h : fitF [] ms = false) : formedB ms is = false := by
  unfold formedB; rw [h]; simp
theorem formed_wrong {ms : List Int} {is : List In} (h : is.all In.right = false) : formedB ms is = false := by
  unfold formedB; rw [h]; simp

set_option maxHeartbeats 12800000 in
theorem rformed_any (vm vc : Value) (ms : List Int) (is : List In) (w : World) (h : SeesM w vm vc ms is) : Calls Try.prog 22 #[modV vm vc] w fun e w' => e = .returned (.bool (formedB ms is)) ∧ Below w.heap.size w w' := by
  obtain ⟨am, km, hvm⟩ := h.maps.shape
  obtain ⟨ac, kc, hvc⟩ := h.code.shape
  have m1 := h.maps.lenMax
  have m2 := h.code.lenMax
  have HM : Hid (∀ wk, Below w.heap.size w wk → SeesM wk vm vc ms is) := fun wk hb => h.below hb
  have HF0 := keepH (Fm.start w vm vc)
  obtain ⟨c0, c1⟩ := (MdC.new w vm vc).cells
  obtain ⟨L, HL⟩ : ∃ L, Hid (L = ms.length) := ⟨_, rfl⟩
  obtain ⟨N, HN⟩ : ∃ N, Hid (N = is.length) := ⟨_, rfl⟩
  rw [← HL.out] at hvm m1
  rw [← HN.out] at hvc m2
  subst hvm hvc
  clear h
  by_cases h1 : 4 < L
  · have HE : Hid (formedB ms is = false) := formed_no (.inl (by rw [← HL.out]; exact h1))
    go_enter Try.func22, Try.ntmps22
    go_wp2_with fail
    go_ret
    exact ⟨retb HE.out.symm, below_alloc _ _⟩
  by_cases h2 : N < 1
  · have HE : Hid (formedB ms is = false) := formed_no (.inr (.inl (by rw [← HN.out]; exact h2)))
    go_enter Try.func22, Try.ntmps22
    go_wp2_with fail
    go_ret
    exact ⟨retb HE.out.symm, below_alloc _ _⟩
  by_cases h3 : 64 < N
  · have HE : Hid (formedB ms is = false) := formed_no (.inr (.inr (by rw [← HN.out]; exact h3)))
    go_enter Try.func22, Try.ntmps22
    go_wp2_with fail
    go_ret
    exact ⟨retb HE.out.symm, below_alloc _ _⟩
  go_enter Try.func22, Try.ntmps22
  go_wp2_with fail
  clear c0 c1
  go_loopw [4] (fun i wr => ∃ k : Nat, k ≤ L ∧ i = .int .i64 k ∧ fitF [] (ms.take k) = true ∧ Fm w wr (.slice am L km) (.slice ac N kc) (ms.take k)) (fun i _ => L - (intOf i).toNat)
  case atStart => exact ⟨0, by omega, rfl, rfl, HF0.out⟩
  case round =>
    obtain ⟨k, hk, rfl, hf, hF⟩ := hrel
    have HFT : Hid (fitF [] (ms.take k) = true) := hf
    have HF := keepH hF
    obtain ⟨c0, c1⟩ := hF.md.cells
    obtain ⟨s0, s1, s2, s3⟩ := hF.seen.cells
    clear hf hF
    by_cases hlt : k < L
    · have hkm : k < ms.length := by rw [← HL.out]; exact hlt
      obtain ⟨bk, off, e1, hcell⟩ := (HM.out wr HF.out.g).maps.cellAt k hkm
      subst e1
      obtain ⟨n, HNN⟩ : ∃ n, Hid (ms.getD k 0 = n) := ⟨_, rfl⟩
      rw [HNN.out] at hcell
      have HBAD : Hid (n < 0 ∨ 3 < n ∨ n ∈ ms.take k → formedB ms is = false) := fun h => formed_unfit (fitF_bad (k := k) hkm (by rw [HNN.out]; exact h))
      have HTK : Hid (ms.take (k + 1) = ms.take k ++ [n]) := by rw [← HNN.out]; exact take_at ms k hkm
      have HOK : Hid (0 ≤ n → n ≤ 3 → seenB (ms.take k) n = false → fitF [] (ms.take (k + 1)) = true) := fun a1 a2 a3 => by
        rw [fitF_take hkm, HFT.out, HNN.out, decide_eq_true a1, decide_eq_true a2, show decide (n ∈ ms.take k) = false from a3]; rfl
      clear hkm
      by_cases hn0 : n < 0
      · have HB : Hid (formedB ms is = false) := HBAD.out (.inl hn0)
        go_wp2_with fail
        go_ret
        exact ⟨retb HB.out.symm, HF.out.g⟩
      by_cases hn4 : 3 < n
      · have HB : Hid (formedB ms is = false) := HBAD.out (.inr (.inl hn4))
        go_wp2_with fail
        go_ret
        exact ⟨retb HB.out.symm, HF.out.g⟩
      obtain e | e | e | e : n = 0 ∨ n = 1 ∨ n = 2 ∨ n = 3 := by omega
      · subst e
        cases hs : seenB (ms.take k) 0 with
        | true =>
          rw [hs] at s0
          have HB : Hid (formedB ms is = false) := HBAD.out (.inr (.inr (of_decide_eq_true hs)))
          go_wp2_with fail
          go_ret
          exact ⟨retb HB.out.symm, HF.out.g⟩
        | false =>
          rw [hs] at s0
          have f0 := HF.out.seen.frozen 0
          have HF1 : Hid (Fm w (wr.setCell ⟨w.heap.size + 1, 0, none⟩ (.bool true)) (.slice (some ⟨bk, off, none⟩) L km) (.slice ac N kc) (ms.take (k + 1))) := by rw [HTK.out]; exact HF.out.store HF.out.seen.set0
          have HT1 := keepH (HOK.out (by omega) (by omega) hs)
          go_wp2_with fail
          go_roundw
          case rel => exact ⟨k + 1, by omega, by go_num, HT1.out, HF1.out⟩
          case measure => simp [intOf]; omega
      · subst e
        cases hs : seenB (ms.take k) 1 with
        | true =>
          rw [hs] at s1
          have HB : Hid (formedB ms is = false) := HBAD.out (.inr (.inr (of_decide_eq_true hs)))
          go_wp2_with fail
          go_ret
          exact ⟨retb HB.out.symm, HF.out.g⟩
        | false =>
          rw [hs] at s1
          have f1 := HF.out.seen.frozen 1
          have HF1 : Hid (Fm w (wr.setCell ⟨w.heap.size + 1, 1, none⟩ (.bool true)) (.slice (some ⟨bk, off, none⟩) L km) (.slice ac N kc) (ms.take (k + 1))) := by rw [HTK.out]; exact HF.out.store HF.out.seen.set1
          have HT1 := keepH (HOK.out (by omega) (by omega) hs)
          go_wp2_with fail
          go_roundw
          case rel => exact ⟨k + 1, by omega, by go_num, HT1.out, HF1.out⟩
          case measure => simp [intOf]; omega
      · subst e
        cases hs : seenB (ms.take k) 2 with
        | true =>
          rw [hs] at s2
          have HB : Hid (formedB ms is = false) := HBAD.out (.inr (.inr (of_decide_eq_true hs)))
          go_wp2_with fail
          go_ret
          exact ⟨retb HB.out.symm, HF.out.g⟩
        | false =>
          rw [hs] at s2
          have f2 := HF.out.seen.frozen 2
          have HF1 : Hid (Fm w (wr.setCell ⟨w.heap.size + 1, 2, none⟩ (.bool true)) (.slice (some ⟨bk, off, none⟩) L km) (.slice ac N kc) (ms.take (k + 1))) := by rw [HTK.out]; exact HF.out.store HF.out.seen.set2
          have HT1 := keepH (HOK.out (by omega) (by omega) hs)
          go_wp2_with fail
          go_roundw
          case rel => exact ⟨k + 1, by omega, by go_num, HT1.out, HF1.out⟩
          case measure => simp [intOf]; omega
      · subst e
        cases hs : seenB (ms.take k) 3 with
        | true =>
          rw [hs] at s3
          have HB : Hid (formedB ms is = false) := HBAD.out (.inr (.inr (of_decide_eq_true hs)))
          go_wp2_with fail
          go_ret
          exact ⟨retb HB.out.symm, HF.out.g⟩
        | false =>
          rw [hs] at s3
          have f3 := HF.out.seen.frozen 3
          have HF1 : Hid (Fm w (wr.setCell ⟨w.heap.size + 1, 3, none⟩ (.bool true)) (.slice (some ⟨bk, off, none⟩) L km) (.slice ac N kc) (ms.take (k + 1))) := by rw [HTK.out]; exact HF.out.store HF.out.seen.set3
          have HT1 := keepH (HOK.out (by omega) (by omega) hs)
          go_wp2_with fail
          go_roundw
          case rel => exact ⟨k + 1, by omega, by go_num, HT1.out, HF1.out⟩
          case measure => simp [intOf]; omega
    · have HFIT : Hid (fitF [] ms = true) := by
        have h1 := HFT.out
        rw [List.take_of_length_le (by rw [← HL.out]; omega)] at h1
        exact h1
      clear s0 s1 s2 s3
      go_wp2_with fail
      go_loopw [6] (fun i wq => ∃ k : Nat, k ≤ N ∧ i = .int .i64 k ∧ (is.take k).all In.right = true ∧ Below wr.heap.size wr wq) (fun i _ => N - (intOf i).toNat)
      case atStart => exact ⟨0, by omega, rfl, rfl, Below.refl _ _⟩
      case round =>
        clear hlt hk HFT c0 c1
        obtain ⟨k, hk, rfl, hall, hbq⟩ := hrel
        have HA : Hid ((is.take k).all In.right = true) := hall
        clear hall
        rename_i wq _
        have hB := HF.out.g.trans (hbq.mono HF.out.g.size)
        obtain ⟨c0, c1⟩ := (HF.out.md.below hbq HF.out.md.lt).cells
        by_cases hlt : k < N
        · have hkn : k < is.length := by rw [← HN.out]; exact hlt
          obtain ⟨bk, off, e1, hat⟩ := (HM.out _ hB).code.cellAt k hkn
          subst e1
          obtain ⟨op, d, a, b, imm, HI⟩ : ∃ op d a b imm, Hid (is.getD k In.nil = ⟨op, d, a, b, imm⟩) := ⟨_, _, _, _, _, rfl⟩
          rw [HI.out] at hat
          obtain ⟨x0, x1, x2, x3, x4⟩ := hat
          simp only at x0 x1 x2 x3 x4
          have HBAD : Hid (rightB op d a b imm = false → formedB ms is = false) := fun h => formed_wrong (all_false (k := k) hkn (by rw [HI.out]; exact h))
          have HOK : Hid (rightB op d a b imm = true → (is.take (k + 1)).all In.right = true) := fun h => by rw [all_take hkn, HA.out, HI.out]; exact h
          clear hkn
          cases hr : rightB op d a b imm with
          | false =>
            have HB := keepH (HBAD.out hr)
            go_wp2_with (go_at_call 31; go_must (refine (right_any op d a b imm _).mono ?_); rintro e w6 ⟨rfl, hb6⟩; rw [hr]; go_must (have hB6 := hB.trans (hb6.mono hB.size); clear hb6))
            go_ret
            exact ⟨retb HB.out.symm, hB6⟩
          | true =>
            have HB := keepH (HOK.out hr)
            go_wp2_with (go_at_call 31; go_must (refine (right_any op d a b imm _).mono ?_); rintro e w6 ⟨rfl, hb6⟩; rw [hr]; go_must (have hB6 := hbq.trans (hb6.mono hbq.size); clear hb6))
            go_roundw
            case rel => exact ⟨k + 1, by omega, by go_num, HB.out, hB6⟩
            case measure => simp [intOf]; omega
        · have HE : Hid (formedB ms is = true) := by
            have h4 := HA.out
            rw [List.take_of_length_le (by rw [← HN.out]; omega)] at h4
            exact formed_mk (by rw [← HL.out]; omega) (by rw [← HN.out]; omega) (by rw [← HN.out]; omega) HFIT.out h4
          go_wp2_with fail
          go_ret
          exact ⟨retb HE.out.symm, hB⟩
end Go.Proofs.Ytbpjcppgnndaaaa
