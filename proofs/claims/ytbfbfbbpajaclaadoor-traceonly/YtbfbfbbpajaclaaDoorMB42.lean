
/-
  What the landed Only and Of do: those entries whose mark, or whose task, is listed. Condition: the slices read as they are said; the entries are no greater than memory.
-/
import Derived.Test.YtbfbfbbpajaclaaDoorMB40
namespace Go.Proofs.YtbfbfbbpajaclaaDoor
open Go.RowKit
set_option linter.unusedVariables false
set_option linter.unusedSimpArgs false
set_option maxRecDepth 100000
/-- A number's cell. -/
abbrev nbC (n : Int) : List Value := [.int .i64 n]
theorem own_lower26 {w : World} {B B' : Nat} {e : TypeId} {z : Nat} {v : Value} {n : Nat} {xs : List Value} (h : w.ownsRow B' e z v n xs) (hb : B ≤ B') : w.ownsRow B e z v n xs := by
  obtain ⟨h1, h2 | ⟨g, cap, cur, h2, h3, h4⟩⟩ := h
  · exact ⟨h1, .inl h2⟩
  · exact ⟨h1, .inr ⟨g, cap, cur, h2, Nat.le_trans hb h3, h4⟩⟩
theorem filter_more26 {p : En → Bool} {A : List En} {j : Nat} (hj : j < A.length) {e : En} (he : A[j] = e) : (A.take (j + 1)).filter p = (A.take j).filter p ++ (if p e = true then [e] else []) := by
  rw [take_more A hj he, List.filter_append]
  congr 1
  by_cases h : p e = true
  · rw [if_pos h, List.filter_cons_of_pos h]; rfl
  · rw [if_neg h, List.filter_cons_of_neg h]; rfl
theorem filter_take_len {p : En → Bool} {A : List En} {j : Nat} : ((A.take j).filter p).length ≤ j := Nat.le_trans (List.length_filter_le _ _) (List.length_take_le _ _)
set_option maxHeartbeats 1600000 in
theorem lidxM {w : World} {va : Value} {A : List Int} (key : Int) (ha : SeesG nbC 1 0 w va A) :
    Calls Tryd.prog 51 #[va, .int .i64 key] w fun e w' => (∃ n : Int, e = .returned (.int .i64 n) ∧ Hid (n ≥ 0 ↔ key ∈ A)) ∧ w = w' := by
  obtain ⟨a1, c1, rfl, hc1, hm1, _, hat1⟩ := ha
  unfold maxLen at hm1
  have HA := keepG hat1
  clear hat1
  go_enter Tryd.func51, Tryd.ntmps51
  go_wp2
  go_loopw [8] (fun i wr => ∃ j : Nat, j ≤ A.length ∧ i = .int .i64 j ∧ Hid (∀ i, i < j → A.getD i 0 ≠ key) ∧ w = wr) (fun i _ => A.length - (intOf i).toNat)
  case atStart => exact ⟨0, by omega, rfl, fun i hi => by omega, rfl⟩
  case round =>
    obtain ⟨j, hj, rfl, HJ, rfl⟩ := hrel
    by_cases hlt : j < A.length
    · have hltI : (j : Int) < A.length := by omega
      obtain ⟨g1, o1, rfl, _, h1⟩ := HA.out (fun e => by rw [e] at hlt; simp at hlt)
      obtain ⟨x, HX⟩ : ∃ x, Hid (A.getD j 0 = x) := ⟨_, rfl⟩
      have d0 := h1 j hlt 0 (by omega)
      rw [HX.out] at d0
      simp only [List.getElem?_cons_zero, Nat.add_zero, Nat.mul_one] at d0
      clear h1
      by_cases hx : x = key
      · have hxb : (key == x) = true := by simpa using hx.symm
        have HR : Hid ((j : Int) ≥ 0 ↔ key ∈ A) := show _ from ⟨fun _ => by
          rw [← hx, ← HX.out, List.getD_eq_getElem?_getD, List.getElem?_eq_getElem hlt]
          exact List.getElem_mem _, fun _ => by omega⟩
        clear hx
        go_wp2
        go_ret
        exact ⟨⟨j, rfl, HR.out⟩, rfl⟩
      · have hxb : (key == x) = false := by simpa using (fun e => hx e.symm)
        have HJ2 : Hid (∀ i, i < j + 1 → A.getD i 0 ≠ key) := fun i hi => by
          rcases Nat.lt_succ_iff_lt_or_eq.1 hi with g | g
          · exact HJ.out i g
          · rw [g, HX.out]; exact hx
        clear hx
        go_wp2
        first
          | (go_roundw
             case rel => exact ⟨j + 1, by omega, by go_num, HJ2.out, trivial⟩
             case measure => simp [intOf]; omega)
          | exact ⟨⟨j + 1, by omega, by go_num, HJ2.out, trivial⟩, by simp [intOf]; omega⟩
          | exact ⟨⟨j + 1, by omega, by go_num, HJ2.out, rfl⟩, by simp [intOf]; omega⟩
    · have hltI : ¬ (j : Int) < A.length := by omega
      have HR : Hid ((-1 : Int) ≥ 0 ↔ key ∈ A) := show _ from ⟨fun h => by omega, fun h => by
        obtain ⟨i, hi, he⟩ := List.getElem_of_mem h
        exact absurd (by rw [List.getD_eq_getElem?_getD, List.getElem?_eq_getElem hi]; exact he) (HJ.out i (by omega))⟩
      go_wp2
      go_ret
      exact ⟨⟨-1, rfl, HR.out⟩, rfl⟩
theorem lhasM {w : World} {va : Value} {A : List Int} (key : Int) (ha : SeesG nbC 1 0 w va A) :
    Calls Tryd.prog 35 #[va, .int .i64 key] w fun e w' => e = .returned (.bool (decide (key ∈ A))) ∧ w = w' := by
  have HI := keepG (lidxM key ha)
  clear ha
  go_enter Tryd.func35, Tryd.ntmps35
  go_wp2_with (go_at_call 51; go_must (refine HI.out.mono ?_); rintro e w1 ⟨⟨n, rfl, HN⟩, rfl⟩)
  go_ret
  exact ⟨retb26 (decide_eq_decide.2 HN.out), rfl⟩
/-- What the rule of Only says of an entry. -/
theorem lruleM (e : En) (B : Nat) (va : Value) (A : List Int) (w : World) (hB : B < w.heap.size) (hc : w.cell? ⟨B, 0, none⟩ = some va) (ha : SeesG nbC 1 0 w va A) :
    Calls Tryd.prog 34 #[enV e, .pointer (some ⟨B, 0, none⟩)] w fun r w' => r = .returned (.bool (decide (e.wh ∈ A))) ∧ Below w.heap.size w w' := by
  obtain ⟨X, HX, HP, HB⟩ := box_en w e
  have HX := HX.out
  dsimp only [enC] at HX
  have HX := keepG HX
  have q0 := HP.out.cell (j := 0) rfl
  have hcX : X.cell? ⟨B, 0, none⟩ = some va := (HB.out.cell (p := ⟨B, 0, none⟩) hB).trans hc
  have HS := keepG (ha.below HB.out (Nat.le_refl _))
  have HC := keepG (lhasM e.wh HS.out)
  clear hc ha
  unfold enV
  go_enter Tryd.func34, Tryd.ntmps34
  go_wp2_with (first
    | (rw [HX.out])
    | (go_at_call 35; go_must (refine HC.out.mono ?_); rintro x w1 ⟨rfl, rfl⟩))
  go_ret
  exact ⟨rfl, HB.out⟩
set_option maxHeartbeats 6400000 in
theorem lkeepM (v va : Value) (xs : List En) (A : List Int) (B : Nat) (w : World) (hB : B < w.heap.size) (hc : w.cell? ⟨B, 0, none⟩ = some va) (ha : SeesG nbC 1 0 w va A) (hs : SeesG enC 22 En.nil w v xs) (hlen : xs.length * 176 ≤ 140737488355328) :
    Calls Tryd.prog 33 #[v, .func (.func 34) #[] #[.pointer (some ⟨B, 0, none⟩)]] w fun r w' => ∃ u, r = .returned u ∧ w'.ownsRow w.heap.size 36 22 u (xs.filter fun e => decide (e.wh ∈ A)).length (flatG enC (xs.filter fun e => decide (e.wh ∈ A))) ∧ Below w.heap.size w w' := by
  obtain ⟨i0, hi, hz0, hz1, hz2⟩ := info_parts infoEn26
  have eg : ∀ args w, (callFunc 34 args).run Tryd.prog w = .ok (.enter 34 args) w := enters_of Tryd.func34 (by kernel_rfl) rfl
  have HS := keepG hs
  have HRU : Hid (∀ (wr : World) (e : En), Below w.heap.size w wr → Calls Tryd.prog 34 #[enV e, .pointer (some ⟨B, 0, none⟩)] wr fun r w' => r = .returned (.bool (decide (e.wh ∈ A))) ∧ Below wr.heap.size wr w') := by
    show ∀ wr e, _
    intro wr e hb
    exact lruleM e B va A wr (Nat.lt_of_lt_of_le hB hb.size) ((hb.cell (p := ⟨B, 0, none⟩) hB).trans hc) (ha.below hb (Nat.le_refl _))
  obtain ⟨a, cap, rfl, hlc, hmx⟩ := hs.shape
  clear hs hc ha hB
  obtain ⟨p, HPF⟩ : ∃ p : En → Bool, Hid ((fun e => decide (e.wh ∈ A)) = p) := ⟨_, rfl⟩
  have HPA : Hid (∀ e, decide (e.wh ∈ A) = p e) := fun e => by rw [← HPF.out]
  rw [HPF.out]
  go_enter Tryd.func33, Tryd.ntmps33
  go_wp2_with fail
  go_loopw [5, 10] (fun u i wr => ∃ k : Nat, k ≤ xs.length ∧ i = .int .i64 k ∧ Hid (wr.ownsRow w.heap.size 36 22 u ((xs.take k).filter p).length (flatG enC ((xs.take k).filter p))) ∧ Hid (Below w.heap.size w wr)) (fun _ i _ => xs.length - (intOf i).toNat)
  case atStart => exact ⟨0, by omega, rfl, World.ownsRow_nil _ _ _ _, Below.refl _ _⟩
  case round =>
    rename World => wr
    obtain ⟨k, hk, rfl, HOW, HBW⟩ := hrel
    by_cases hlt : k < xs.length
    · have hltI : (k : Int) < xs.length := by omega
      obtain ⟨g, off, ea, hat⟩ := enAt26 HS.out hlt
      subst ea
      obtain ⟨e, HE⟩ : ∃ e, Hid (xs.getD k En.nil = e) := ⟨_, rfl⟩
      have HR1 := keepG (hat wr e HBW.out HE.out)
      have hxk : xs[k] = e := by have h := HE.out; rw [List.getD_eq_getElem?_getD, List.getElem?_eq_getElem hlt] at h; exact h
      have HFM : Hid ((xs.take (k + 1)).filter p = (xs.take k).filter p ++ (if p e = true then [e] else [])) := filter_more26 hlt hxk
      clear hat hxk
      obtain ⟨D, HD, hdl⟩ : ∃ D, Hid ((xs.take k).filter p = D) ∧ D.length ≤ k := ⟨_, rfl, filter_take_len⟩
      rw [HD.out] at HOW HFM
      obtain ⟨X, Y, HA, HB, HPX, HPY, HBB⟩ := new_box26 wr e
      have HA := HA.out
      dsimp only [enC, En.nil] at HA
      have HA := keepG HA
      have HBz : Hid (Below w.heap.size w Y) := HBW.out.trans (HBB.out.mono HBW.out.size)
      have HOY := keepG (own_below HOW.out HBB.out (Nat.le_refl _))
      have HCL := keepG (HRU.out Y e HBz.out)
      rw [HPA.out e] at HCL
      obtain ⟨pb, HPB⟩ : ∃ pb, Hid (p e = pb) := ⟨_, rfl⟩
      rw [HPB.out] at HCL HFM
      clear HOW
      cases pb
      · have HN : Hid ((xs.take (k + 1)).filter p = D) := by show _ = _; rw [HFM.out]; simp
        go_wp2_with (first
          | ((with_reducible refine wpList_load_mid ?_ 36 (.tmp 12) ?_ g (off + k * 22) ?_ (enC e) _ HR1.out Tryd.underlying36 ?_ (sizeEn _) ?_); rfl; rfl; rfl; rfl)
          | (rw [HA.out])
          | ((with_reducible refine wpList_store_mid ?_ 36 (.tmp 7) (.tmp 13) ?_ wr.heap.size 0 (enC e).toArray ?_ ?_ (thereEn HPX.out) (sizeEnA _) (oneEn _) ?_); rfl; rfl; rfl; rfl)
          | (rw [show X.setCells wr.heap.size 0 (enC e) = Y from HB.out])
          | (rw [HB.out])
          | ((with_reducible refine wpList_load_mid ?_ 36 (.tmp 7) ?_ wr.heap.size 0 ?_ (enC e) _ (enAt HPY.out) Tryd.underlying36 ?_ (sizeEn _) ?_); rfl; rfl; rfl; rfl)
          | (go_at_fn 34; go_must (refine HCL.out.mono ?_); rintro x w5 ⟨rfl, hb5⟩; go_must (have HW5 : Hid (Below w.heap.size w w5) := HBz.out.trans (hb5.mono HBz.out.size); have HO5 := keepG (own_below HOY.out hb5 (Nat.le_refl _)); clear hb5)))
        go_roundw
        case rel => exact ⟨k + 1, by omega, by go_num, by show World.ownsRow _ _ _ _ _ _ _; rw [HN.out]; exact HO5.out, HW5.out⟩
        case measure => simp [intOf]; omega
      · have HN : Hid ((xs.take (k + 1)).filter p = D ++ [e]) := by show _ = _; rw [HFM.out]; simp
        have hk176 : (k + 1) * 176 ≤ 140737488355328 := Nat.le_trans (Nat.mul_le_mul_right _ hlt) hlen
        go_wp2_with (first
          | ((with_reducible refine wpList_load_mid ?_ 36 (.tmp 12) ?_ g (off + k * 22) ?_ (enC e) _ HR1.out Tryd.underlying36 ?_ (sizeEn _) ?_); rfl; rfl; rfl; rfl)
          | (rw [HA.out])
          | ((with_reducible refine wpList_store_mid ?_ 36 (.tmp 7) (.tmp 13) ?_ wr.heap.size 0 (enC e).toArray ?_ ?_ (thereEn HPX.out) (sizeEnA _) (oneEn _) ?_); rfl; rfl; rfl; rfl)
          | (rw [show X.setCells wr.heap.size 0 (enC e) = Y from HB.out])
          | (rw [HB.out])
          | (go_at_fn 34; go_must (refine HCL.out.mono ?_); rintro x w5 ⟨rfl, hb5⟩; go_must (have HW5 : Hid (Below w.heap.size w w5) := HBz.out.trans (hb5.mono HBz.out.size); have HO5 := keepG (own_below HOY.out hb5 (Nat.le_refl _)); have HP5 : Hid (Hp w5 wr.heap.size 36 (enC e)) := HPY.out.below hb5 HPY.out.lt; have hz5 := HW5.out.size; clear hb5; clear HPX))
          | ((with_reducible refine wpList_load_mid ?_ 36 (.tmp 7) ?_ wr.heap.size 0 ?_ (enC e) _ (enAt HP5.out) Tryd.underlying36 ?_ (sizeEn _) ?_); rfl; rfl; rfl; rfl)
          | ((with_reducible refine wpList_load_mid ?_ 36 (.tmp 7) ?_ wr.heap.size 0 ?_ (enC e) _ (enAt HPY.out) Tryd.underlying36 ?_ (sizeEn _) ?_); rfl; rfl; rfl; rfl)
          | (at_builtin; have hq := HO5; clear hq; go_must (refine wpList_append_own _ rfl (.tmp 17) (.tmp 19) 22 rfl w.heap.size 36 i0 (.agg (enC En.nil).toArray) 22 176 Tryd.underlying22 hi hz0 hz1 hz2 rfl (by decide) _ _ _ rfl (HO5.out.alloc _) ⟨_, 0, none⟩ 1 1 (flatG enC [e]) rfl rfl (one_en _ _ e _ (by simp)) (one_cellE _) (by unfold maxLen; omega) (by omega) (by simp; omega) ?_); intro v6 w6 hown6 hg6 _; go_must (have HW6 : Hid (Below w.heap.size w w6) := (HW5.out.alloc HW5.out.size _).grown hg6 (by simp; omega) (fun j hj => (HO5.out.lt j hj).1); have HO6 := keepG hown6; clear hg6 hown6 HO5)))
        have HO7 : Hid (w6.ownsRow w.heap.size 36 22 v6 (D ++ [e]).length (flatG enC (D ++ [e]))) := by
          refine own_moreG ?_
          have h := HO6.out
          simpa [flatG] using h
        go_roundw
        case rel => exact ⟨k + 1, by omega, by go_num, by show World.ownsRow _ _ _ _ _ _ _; rw [HN.out]; exact HO7.out, HW6.out⟩
        case measure => simp [intOf]; omega
    · obtain rfl : k = xs.length := by omega
      have HO7 : Hid (wr.ownsRow w.heap.size 36 22 u5 (xs.filter p).length (flatG enC (xs.filter p))) := by have h := HOW.out; rw [List.take_length] at h; exact h
      go_wp2
      go_ret
      exact ⟨_, rfl, HO7.out, HBW.out⟩
theorem lOnly26 (v va : Value) (xs : List En) (A : List Int) (w : World) (ha : SeesG nbC 1 0 w va A) (hs : SeesG enC 22 En.nil w v xs) (hlen : xs.length * 176 ≤ 140737488355328) :
    Calls Tryd.prog 18 #[v, va] w fun r w' => ∃ u, r = .returned u ∧ w'.ownsRow w.heap.size 36 22 u (xs.filter fun e => decide (e.wh ∈ A)).length (flatG enC (xs.filter fun e => decide (e.wh ∈ A))) ∧ Below w.heap.size w w' := by
  obtain ⟨av, cv, rfl, _, _⟩ := ha.shape
  have hmf : ∀ (fn : Fn) (first cap : Array Value) (w : World), (Instr.makeFunc fn first cap).run Tryd.prog w = .ok (.func fn first cap) w := fun _ _ _ _ => rfl
  obtain ⟨W1, HW1, HX, HZ, HCC⟩ : ∃ W1, Hid (w.alloc (.cells #[.slice av A.length cv] 51) = W1) ∧ Hid (Below w.heap.size w W1) ∧ Hid (w.heap.size < W1.heap.size) ∧ Hid (W1.cell? ⟨w.heap.size, 0, none⟩ = some (.slice av A.length cv)) := ⟨_, rfl, below_allocG _ _, (show _ < _ by simp), (show _ = _ by simp)⟩
  have HC := keepG (lkeepM v (.slice av A.length cv) xs A w.heap.size W1 HZ.out HCC.out (ha.below HX.out (Nat.le_refl _)) (hs.below HX.out (Nat.le_refl _)) hlen)
  clear ha hs
  go_enter Tryd.func18, Tryd.ntmps18
  go_wp2_with (first | (rw [HW1.out]) | (go_at_call 33; go_must (refine HC.out.mono ?_); rintro x w1 ⟨u, rfl, ho, hb1⟩; go_must (have HO1 := keepG (own_lower26 ho (Nat.le_of_lt HZ.out)); have HB1 := keepG (HX.out.trans (hb1.mono HX.out.size)); clear ho hb1)))
  go_ret
  exact ⟨_, rfl, HO1.out, HB1.out⟩
set_option maxHeartbeats 1600000 in
theorem lidxT {w : World} {va : Value} {A : List Int} (key : Int) (ha : SeesG nbC 1 0 w va A) :
    Calls Tryd.prog 52 #[va, .int .i64 key] w fun e w' => (∃ n : Int, e = .returned (.int .i64 n) ∧ Hid (n ≥ 0 ↔ key ∈ A)) ∧ w = w' := by
  obtain ⟨a1, c1, rfl, hc1, hm1, _, hat1⟩ := ha
  unfold maxLen at hm1
  have HA := keepG hat1
  clear hat1
  go_enter Tryd.func52, Tryd.ntmps52
  go_wp2
  go_loopw [8] (fun i wr => ∃ j : Nat, j ≤ A.length ∧ i = .int .i64 j ∧ Hid (∀ i, i < j → A.getD i 0 ≠ key) ∧ w = wr) (fun i _ => A.length - (intOf i).toNat)
  case atStart => exact ⟨0, by omega, rfl, fun i hi => by omega, rfl⟩
  case round =>
    obtain ⟨j, hj, rfl, HJ, rfl⟩ := hrel
    by_cases hlt : j < A.length
    · have hltI : (j : Int) < A.length := by omega
      obtain ⟨g1, o1, rfl, _, h1⟩ := HA.out (fun e => by rw [e] at hlt; simp at hlt)
      obtain ⟨x, HX⟩ : ∃ x, Hid (A.getD j 0 = x) := ⟨_, rfl⟩
      have d0 := h1 j hlt 0 (by omega)
      rw [HX.out] at d0
      simp only [List.getElem?_cons_zero, Nat.add_zero, Nat.mul_one] at d0
      clear h1
      by_cases hx : x = key
      · have hxb : (key == x) = true := by simpa using hx.symm
        have HR : Hid ((j : Int) ≥ 0 ↔ key ∈ A) := show _ from ⟨fun _ => by
          rw [← hx, ← HX.out, List.getD_eq_getElem?_getD, List.getElem?_eq_getElem hlt]
          exact List.getElem_mem _, fun _ => by omega⟩
        clear hx
        go_wp2
        go_ret
        exact ⟨⟨j, rfl, HR.out⟩, rfl⟩
      · have hxb : (key == x) = false := by simpa using (fun e => hx e.symm)
        have HJ2 : Hid (∀ i, i < j + 1 → A.getD i 0 ≠ key) := fun i hi => by
          rcases Nat.lt_succ_iff_lt_or_eq.1 hi with g | g
          · exact HJ.out i g
          · rw [g, HX.out]; exact hx
        clear hx
        go_wp2
        first
          | (go_roundw
             case rel => exact ⟨j + 1, by omega, by go_num, HJ2.out, trivial⟩
             case measure => simp [intOf]; omega)
          | exact ⟨⟨j + 1, by omega, by go_num, HJ2.out, trivial⟩, by simp [intOf]; omega⟩
          | exact ⟨⟨j + 1, by omega, by go_num, HJ2.out, rfl⟩, by simp [intOf]; omega⟩
    · have hltI : ¬ (j : Int) < A.length := by omega
      have HR : Hid ((-1 : Int) ≥ 0 ↔ key ∈ A) := show _ from ⟨fun h => by omega, fun h => by
        obtain ⟨i, hi, he⟩ := List.getElem_of_mem h
        exact absurd (by rw [List.getD_eq_getElem?_getD, List.getElem?_eq_getElem hi]; exact he) (HJ.out i (by omega))⟩
      go_wp2
      go_ret
      exact ⟨⟨-1, rfl, HR.out⟩, rfl⟩
theorem lhasT {w : World} {va : Value} {A : List Int} (key : Int) (ha : SeesG nbC 1 0 w va A) :
    Calls Tryd.prog 37 #[va, .int .i64 key] w fun e w' => e = .returned (.bool (decide (key ∈ A))) ∧ w = w' := by
  have HI := keepG (lidxT key ha)
  clear ha
  go_enter Tryd.func37, Tryd.ntmps37
  go_wp2_with (go_at_call 52; go_must (refine HI.out.mono ?_); rintro e w1 ⟨⟨n, rfl, HN⟩, rfl⟩)
  go_ret
  exact ⟨retb26 (decide_eq_decide.2 HN.out), rfl⟩
/-- What the rule of Of says of an entry. -/
theorem lruleT (e : En) (B : Nat) (va : Value) (A : List Int) (w : World) (hB : B < w.heap.size) (hc : w.cell? ⟨B, 0, none⟩ = some va) (ha : SeesG nbC 1 0 w va A) :
    Calls Tryd.prog 36 #[enV e, .pointer (some ⟨B, 0, none⟩)] w fun r w' => r = .returned (.bool (decide (e.ta ∈ A))) ∧ Below w.heap.size w w' := by
  obtain ⟨X, HX, HP, HB⟩ := box_en w e
  have HX := HX.out
  dsimp only [enC] at HX
  have HX := keepG HX
  have q0 := HP.out.cell (j := 1) rfl
  have hcX : X.cell? ⟨B, 0, none⟩ = some va := (HB.out.cell (p := ⟨B, 0, none⟩) hB).trans hc
  have HS := keepG (ha.below HB.out (Nat.le_refl _))
  have HC := keepG (lhasT e.ta HS.out)
  clear hc ha
  unfold enV
  go_enter Tryd.func36, Tryd.ntmps36
  go_wp2_with (first
    | (rw [HX.out])
    | (go_at_call 37; go_must (refine HC.out.mono ?_); rintro x w1 ⟨rfl, rfl⟩))
  go_ret
  exact ⟨rfl, HB.out⟩
set_option maxHeartbeats 6400000 in
theorem lkeepT (v va : Value) (xs : List En) (A : List Int) (B : Nat) (w : World) (hB : B < w.heap.size) (hc : w.cell? ⟨B, 0, none⟩ = some va) (ha : SeesG nbC 1 0 w va A) (hs : SeesG enC 22 En.nil w v xs) (hlen : xs.length * 176 ≤ 140737488355328) :
    Calls Tryd.prog 33 #[v, .func (.func 36) #[] #[.pointer (some ⟨B, 0, none⟩)]] w fun r w' => ∃ u, r = .returned u ∧ w'.ownsRow w.heap.size 36 22 u (xs.filter fun e => decide (e.ta ∈ A)).length (flatG enC (xs.filter fun e => decide (e.ta ∈ A))) ∧ Below w.heap.size w w' := by
  obtain ⟨i0, hi, hz0, hz1, hz2⟩ := info_parts infoEn26
  have eg : ∀ args w, (callFunc 36 args).run Tryd.prog w = .ok (.enter 36 args) w := enters_of Tryd.func36 (by kernel_rfl) rfl
  have HS := keepG hs
  have HRU : Hid (∀ (wr : World) (e : En), Below w.heap.size w wr → Calls Tryd.prog 36 #[enV e, .pointer (some ⟨B, 0, none⟩)] wr fun r w' => r = .returned (.bool (decide (e.ta ∈ A))) ∧ Below wr.heap.size wr w') := by
    show ∀ wr e, _
    intro wr e hb
    exact lruleT e B va A wr (Nat.lt_of_lt_of_le hB hb.size) ((hb.cell (p := ⟨B, 0, none⟩) hB).trans hc) (ha.below hb (Nat.le_refl _))
  obtain ⟨a, cap, rfl, hlc, hmx⟩ := hs.shape
  clear hs hc ha hB
  obtain ⟨p, HPF⟩ : ∃ p : En → Bool, Hid ((fun e => decide (e.ta ∈ A)) = p) := ⟨_, rfl⟩
  have HPA : Hid (∀ e, decide (e.ta ∈ A) = p e) := fun e => by rw [← HPF.out]
  rw [HPF.out]
  go_enter Tryd.func33, Tryd.ntmps33
  go_wp2_with fail
  go_loopw [5, 10] (fun u i wr => ∃ k : Nat, k ≤ xs.length ∧ i = .int .i64 k ∧ Hid (wr.ownsRow w.heap.size 36 22 u ((xs.take k).filter p).length (flatG enC ((xs.take k).filter p))) ∧ Hid (Below w.heap.size w wr)) (fun _ i _ => xs.length - (intOf i).toNat)
  case atStart => exact ⟨0, by omega, rfl, World.ownsRow_nil _ _ _ _, Below.refl _ _⟩
  case round =>
    rename World => wr
    obtain ⟨k, hk, rfl, HOW, HBW⟩ := hrel
    by_cases hlt : k < xs.length
    · have hltI : (k : Int) < xs.length := by omega
      obtain ⟨g, off, ea, hat⟩ := enAt26 HS.out hlt
      subst ea
      obtain ⟨e, HE⟩ : ∃ e, Hid (xs.getD k En.nil = e) := ⟨_, rfl⟩
      have HR1 := keepG (hat wr e HBW.out HE.out)
      have hxk : xs[k] = e := by have h := HE.out; rw [List.getD_eq_getElem?_getD, List.getElem?_eq_getElem hlt] at h; exact h
      have HFM : Hid ((xs.take (k + 1)).filter p = (xs.take k).filter p ++ (if p e = true then [e] else [])) := filter_more26 hlt hxk
      clear hat hxk
      obtain ⟨D, HD, hdl⟩ : ∃ D, Hid ((xs.take k).filter p = D) ∧ D.length ≤ k := ⟨_, rfl, filter_take_len⟩
      rw [HD.out] at HOW HFM
      obtain ⟨X, Y, HA, HB, HPX, HPY, HBB⟩ := new_box26 wr e
      have HA := HA.out
      dsimp only [enC, En.nil] at HA
      have HA := keepG HA
      have HBz : Hid (Below w.heap.size w Y) := HBW.out.trans (HBB.out.mono HBW.out.size)
      have HOY := keepG (own_below HOW.out HBB.out (Nat.le_refl _))
      have HCL := keepG (HRU.out Y e HBz.out)
      rw [HPA.out e] at HCL
      obtain ⟨pb, HPB⟩ : ∃ pb, Hid (p e = pb) := ⟨_, rfl⟩
      rw [HPB.out] at HCL HFM
      clear HOW
      cases pb
      · have HN : Hid ((xs.take (k + 1)).filter p = D) := by show _ = _; rw [HFM.out]; simp
        go_wp2_with (first
          | ((with_reducible refine wpList_load_mid ?_ 36 (.tmp 12) ?_ g (off + k * 22) ?_ (enC e) _ HR1.out Tryd.underlying36 ?_ (sizeEn _) ?_); rfl; rfl; rfl; rfl)
          | (rw [HA.out])
          | ((with_reducible refine wpList_store_mid ?_ 36 (.tmp 7) (.tmp 13) ?_ wr.heap.size 0 (enC e).toArray ?_ ?_ (thereEn HPX.out) (sizeEnA _) (oneEn _) ?_); rfl; rfl; rfl; rfl)
          | (rw [show X.setCells wr.heap.size 0 (enC e) = Y from HB.out])
          | (rw [HB.out])
          | ((with_reducible refine wpList_load_mid ?_ 36 (.tmp 7) ?_ wr.heap.size 0 ?_ (enC e) _ (enAt HPY.out) Tryd.underlying36 ?_ (sizeEn _) ?_); rfl; rfl; rfl; rfl)
          | (go_at_fn 36; go_must (refine HCL.out.mono ?_); rintro x w5 ⟨rfl, hb5⟩; go_must (have HW5 : Hid (Below w.heap.size w w5) := HBz.out.trans (hb5.mono HBz.out.size); have HO5 := keepG (own_below HOY.out hb5 (Nat.le_refl _)); clear hb5)))
        go_roundw
        case rel => exact ⟨k + 1, by omega, by go_num, by show World.ownsRow _ _ _ _ _ _ _; rw [HN.out]; exact HO5.out, HW5.out⟩
        case measure => simp [intOf]; omega
      · have HN : Hid ((xs.take (k + 1)).filter p = D ++ [e]) := by show _ = _; rw [HFM.out]; simp
        have hk176 : (k + 1) * 176 ≤ 140737488355328 := Nat.le_trans (Nat.mul_le_mul_right _ hlt) hlen
        go_wp2_with (first
          | ((with_reducible refine wpList_load_mid ?_ 36 (.tmp 12) ?_ g (off + k * 22) ?_ (enC e) _ HR1.out Tryd.underlying36 ?_ (sizeEn _) ?_); rfl; rfl; rfl; rfl)
          | (rw [HA.out])
          | ((with_reducible refine wpList_store_mid ?_ 36 (.tmp 7) (.tmp 13) ?_ wr.heap.size 0 (enC e).toArray ?_ ?_ (thereEn HPX.out) (sizeEnA _) (oneEn _) ?_); rfl; rfl; rfl; rfl)
          | (rw [show X.setCells wr.heap.size 0 (enC e) = Y from HB.out])
          | (rw [HB.out])
          | (go_at_fn 36; go_must (refine HCL.out.mono ?_); rintro x w5 ⟨rfl, hb5⟩; go_must (have HW5 : Hid (Below w.heap.size w w5) := HBz.out.trans (hb5.mono HBz.out.size); have HO5 := keepG (own_below HOY.out hb5 (Nat.le_refl _)); have HP5 : Hid (Hp w5 wr.heap.size 36 (enC e)) := HPY.out.below hb5 HPY.out.lt; have hz5 := HW5.out.size; clear hb5; clear HPX))
          | ((with_reducible refine wpList_load_mid ?_ 36 (.tmp 7) ?_ wr.heap.size 0 ?_ (enC e) _ (enAt HP5.out) Tryd.underlying36 ?_ (sizeEn _) ?_); rfl; rfl; rfl; rfl)
          | ((with_reducible refine wpList_load_mid ?_ 36 (.tmp 7) ?_ wr.heap.size 0 ?_ (enC e) _ (enAt HPY.out) Tryd.underlying36 ?_ (sizeEn _) ?_); rfl; rfl; rfl; rfl)
          | (at_builtin; have hq := HO5; clear hq; go_must (refine wpList_append_own _ rfl (.tmp 17) (.tmp 19) 22 rfl w.heap.size 36 i0 (.agg (enC En.nil).toArray) 22 176 Tryd.underlying22 hi hz0 hz1 hz2 rfl (by decide) _ _ _ rfl (HO5.out.alloc _) ⟨_, 0, none⟩ 1 1 (flatG enC [e]) rfl rfl (one_en _ _ e _ (by simp)) (one_cellE _) (by unfold maxLen; omega) (by omega) (by simp; omega) ?_); intro v6 w6 hown6 hg6 _; go_must (have HW6 : Hid (Below w.heap.size w w6) := (HW5.out.alloc HW5.out.size _).grown hg6 (by simp; omega) (fun j hj => (HO5.out.lt j hj).1); have HO6 := keepG hown6; clear hg6 hown6 HO5)))
        have HO7 : Hid (w6.ownsRow w.heap.size 36 22 v6 (D ++ [e]).length (flatG enC (D ++ [e]))) := by
          refine own_moreG ?_
          have h := HO6.out
          simpa [flatG] using h
        go_roundw
        case rel => exact ⟨k + 1, by omega, by go_num, by show World.ownsRow _ _ _ _ _ _ _; rw [HN.out]; exact HO7.out, HW6.out⟩
        case measure => simp [intOf]; omega
    · obtain rfl : k = xs.length := by omega
      have HO7 : Hid (wr.ownsRow w.heap.size 36 22 u5 (xs.filter p).length (flatG enC (xs.filter p))) := by have h := HOW.out; rw [List.take_length] at h; exact h
      go_wp2
      go_ret
      exact ⟨_, rfl, HO7.out, HBW.out⟩
theorem lOf26 (v va : Value) (xs : List En) (A : List Int) (w : World) (ha : SeesG nbC 1 0 w va A) (hs : SeesG enC 22 En.nil w v xs) (hlen : xs.length * 176 ≤ 140737488355328) :
    Calls Tryd.prog 19 #[v, va] w fun r w' => ∃ u, r = .returned u ∧ w'.ownsRow w.heap.size 36 22 u (xs.filter fun e => decide (e.ta ∈ A)).length (flatG enC (xs.filter fun e => decide (e.ta ∈ A))) ∧ Below w.heap.size w w' := by
  obtain ⟨av, cv, rfl, _, _⟩ := ha.shape
  have hmf : ∀ (fn : Fn) (first cap : Array Value) (w : World), (Instr.makeFunc fn first cap).run Tryd.prog w = .ok (.func fn first cap) w := fun _ _ _ _ => rfl
  obtain ⟨W1, HW1, HX, HZ, HCC⟩ : ∃ W1, Hid (w.alloc (.cells #[.slice av A.length cv] 50) = W1) ∧ Hid (Below w.heap.size w W1) ∧ Hid (w.heap.size < W1.heap.size) ∧ Hid (W1.cell? ⟨w.heap.size, 0, none⟩ = some (.slice av A.length cv)) := ⟨_, rfl, below_allocG _ _, (show _ < _ by simp), (show _ = _ by simp)⟩
  have HC := keepG (lkeepT v (.slice av A.length cv) xs A w.heap.size W1 HZ.out HCC.out (ha.below HX.out (Nat.le_refl _)) (hs.below HX.out (Nat.le_refl _)) hlen)
  clear ha hs
  go_enter Tryd.func19, Tryd.ntmps19
  go_wp2_with (first | (rw [HW1.out]) | (go_at_call 33; go_must (refine HC.out.mono ?_); rintro x w1 ⟨u, rfl, ho, hb1⟩; go_must (have HO1 := keepG (own_lower26 ho (Nat.le_of_lt HZ.out)); have HB1 := keepG (HX.out.trans (hb1.mono HX.out.size)); clear ho hb1)))
  go_ret
  exact ⟨_, rfl, HO1.out, HB1.out⟩
end Go.Proofs.YtbfbfbbpajaclaaDoor
