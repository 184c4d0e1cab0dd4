
/-
  What the landed Plain and Print do: whether all entries are plain; their text, if they are. Conditions: the listed variables read as they are laid; the entries' fields are of their kinds, and their text is no greater than memory.
-/
import Derived.Test.YtbfbfbbpajaclaaDoorT26Rd
namespace Go.Proofs.YtbfbfbbpajaclaaDoor
open Go.RowKit
set_option linter.unusedVariables false
set_option linter.unusedSimpArgs false
set_option maxRecDepth 100000
theorem all_stop {α : Type} {p : α → Bool} {l : List α} {x : α} (hm : x ∈ l) (h : p x = false) : l.all p = false := by
  cases h' : l.all p with
  | false => rfl
  | true => have := List.all_eq_true.1 h' x hm; rw [h] at this; cases this
set_option maxHeartbeats 6400000 in
theorem lPlain26 (v : Value) (xs : List En) (w : World) (h : Laid w) (hs : SeesG enC 22 En.nil w v xs) : Calls Tryd.prog 14 #[v] w fun r w' => r = .returned (.bool (xs.all plainE)) ∧ Below w.heap.size w w' := by
  have HS := keepG hs
  have HL : Hid (Laid w) := h
  obtain ⟨a, cap, rfl, hlc, hmx⟩ := hs.shape
  clear hs h
  go_enter Tryd.func14, Tryd.ntmps14
  go_wp2_with fail
  go_loopw [7] (fun i wr => ∃ k : Nat, k ≤ xs.length ∧ i = .int .i64 k ∧ Hid ((xs.take k).all plainE = true) ∧ Hid (Below w.heap.size w wr)) (fun i _ => xs.length - (intOf i).toNat)
  case atStart => exact ⟨0, by omega, rfl, rfl, Below.refl _ _⟩
  case round =>
    rename World => wr
    obtain ⟨k, hk, rfl, HALL, HBW⟩ := hrel
    by_cases hlt : k < xs.length
    · have hltI : (k : Int) < xs.length := by omega
      obtain ⟨p, off, ea, hat⟩ := enAt26 HS.out hlt
      subst ea
      obtain ⟨e, HE⟩ : ∃ e, Hid (xs.getD k En.nil = e) := ⟨_, rfl⟩
      have HR1 := keepG (hat wr e HBW.out HE.out)
      have hxk : xs[k] = e := by have h := HE.out; rw [List.getD_eq_getElem?_getD, List.getElem?_eq_getElem hlt] at h; exact h
      have HXK := keepG hxk
      have HMM : Hid (e ∈ xs) := by show _; rw [← hxk]; exact List.getElem_mem _
      clear hat hxk
      obtain ⟨A, B, HA, HB, HPA, HPB, HBB⟩ := new_box26 wr e
      have HA := HA.out
      dsimp only [enC, En.nil] at HA
      have HA := keepG HA
      have HBz : Hid (Below w.heap.size w B) := HBW.out.trans (HBB.out.mono HBW.out.size)
      have HLB : Hid (Laid B) := laid_keeps _ _ HL.out HBz.out
      obtain ⟨pb, HPLB⟩ : ∃ pb, Hid (plainE e = pb) := ⟨_, rfl⟩
      cases pb
      · have HNO : Hid (xs.all plainE = false) := all_stop HMM.out HPLB.out
        go_wp2_with (first
          | ((with_reducible refine wpList_load_mid ?_ 36 (.tmp 9) ?_ p (off + k * 22) ?_ (enC e) _ HR1.out Tryd.underlying36 ?_ (sizeEn _) ?_); rfl; rfl; rfl; rfl)
          | (rw [HA.out])
          | ((with_reducible refine wpList_store_mid ?_ 36 (.tmp 4) (.tmp 10) ?_ wr.heap.size 0 (enC e).toArray ?_ ?_ (thereEn HPA.out) (sizeEnA _) (oneEn _) ?_); rfl; rfl; rfl; rfl)
          | (rw [show A.setCells wr.heap.size 0 (enC e) = B from HB.out])
          | (rw [HB.out])
          | ((with_reducible refine wpList_load_mid ?_ 36 (.tmp 4) ?_ wr.heap.size 0 ?_ (enC e) _ (enAt HPB.out) Tryd.underlying36 ?_ (sizeEn _) ?_); rfl; rfl; rfl; rfl)
          | (go_at_call 29; go_must (refine (lplain26 e _ HLB.out).mono ?_); rintro e1 w5 ⟨rfl, hb5⟩; go_must (rw [HPLB.out]; have HW5 : Hid (Below w.heap.size w w5) := HBz.out.trans (hb5.mono HBz.out.size); clear hb5)))
        go_ret
        exact ⟨retb26 HNO.out.symm, HW5.out⟩
      · have HN : Hid ((xs.take (k + 1)).all plainE = true) := all_take_one hlt HXK.out HALL.out HPLB.out
        go_wp2_with (first
          | ((with_reducible refine wpList_load_mid ?_ 36 (.tmp 9) ?_ p (off + k * 22) ?_ (enC e) _ HR1.out Tryd.underlying36 ?_ (sizeEn _) ?_); rfl; rfl; rfl; rfl)
          | (rw [HA.out])
          | ((with_reducible refine wpList_store_mid ?_ 36 (.tmp 4) (.tmp 10) ?_ wr.heap.size 0 (enC e).toArray ?_ ?_ (thereEn HPA.out) (sizeEnA _) (oneEn _) ?_); rfl; rfl; rfl; rfl)
          | (rw [show A.setCells wr.heap.size 0 (enC e) = B from HB.out])
          | (rw [HB.out])
          | ((with_reducible refine wpList_load_mid ?_ 36 (.tmp 4) ?_ wr.heap.size 0 ?_ (enC e) _ (enAt HPB.out) Tryd.underlying36 ?_ (sizeEn _) ?_); rfl; rfl; rfl; rfl)
          | (go_at_call 29; go_must (refine (lplain26 e _ HLB.out).mono ?_); rintro e1 w5 ⟨rfl, hb5⟩; go_must (rw [HPLB.out]; have HW5 : Hid (Below w.heap.size w w5) := HBz.out.trans (hb5.mono HBz.out.size); clear hb5)))
        go_roundw
        case rel => exact ⟨k + 1, by omega, by go_num, HN.out, HW5.out⟩
        case measure => simp [intOf]; omega
    · obtain rfl : k = xs.length := by omega
      have HAL : Hid (xs.all plainE = true) := by have h := HALL.out; rw [List.take_length] at h; exact h
      go_wp2
      go_ret
      exact ⟨retb26 HAL.out.symm, HBW.out⟩
end Go.Proofs.YtbfbfbbpajaclaaDoor
