
/-
  The document's table of layer 19: Detach. Condition: it lies where the pointer says, its row is the call's own; what is handed in lies elsewhere.
-/
import Derived.Test.YtknijloificpmaaTk
import Derived.Test.YtknijloificpmaaH19DB
namespace Go.Proofs.Ytknijloificpmaa
open Go.RowKit
set_option linter.unusedVariables false
set_option linter.unusedSimpArgs false
set_option maxRecDepth 100000
section
variable {w w' : World} {B b m : Nat} {F G : Ft} {c : Tb}
theorem Sees.chg19 {k : IntKind} {w w' : World} {v : Value} {xs : List Int} {S : Nat → Prop} (h : Sees k w v xs) (hc : Chg w w' S) (hS : xs ≠ [] → ∀ j, v.ownBlock = some j → ¬ S j) : Sees k w' v xs := by
  obtain ⟨a, cap, rfl, h1, h2, h3, h4, h5⟩ := h
  refine ⟨a, cap, rfl, h1, h2, h3, h4, fun hne => ?_⟩
  obtain ⟨b, off, rfl, hlt, hat⟩ := h5 hne
  refine ⟨b, off, rfl, Nat.lt_of_lt_of_le hlt hc.size, fun i hi => ?_⟩
  rw [← hat i hi]
  exact World.cell?_of_block (hc.block b hlt (hS hne b rfl))
/-- The cells of a slice of numbers, one by one. -/
theorem Sees.at19 {w : World} {k : IntKind} {a : Option Addr} {n cap : Nat} {xs : List Int} (h : Sees k w (.slice a n cap) xs) {j : Nat} (hj : j < xs.length) : ∃ p off, a = some ⟨p, off, none⟩ ∧ ∀ i, i < xs.length → w.cell? ⟨p, off + i, none⟩ = some (.int k (xs.getD i 0)) := by
  obtain ⟨a', cap', ev, _, _, _, _, hc⟩ := h
  simp only [Value.slice.injEq] at ev
  obtain ⟨rfl, _, rfl⟩ := ev
  obtain ⟨p, off, rfl, _, hat⟩ := hc (fun e => by rw [e] at hj; simp at hj)
  exact ⟨p, off, rfl, hat⟩
theorem not_in_take19 {xs : List Int} {x : Int} {k : Nat} (hk : k < xs.length) (h1 : ¬ x ∈ xs.take k) (h2 : xs.getD k 0 ≠ x) : ¬ x ∈ xs.take (k + 1) := by
  rw [take_at xs k hk, List.mem_append]
  rintro (e | e)
  · exact h1 e
  · exact h2 (List.mem_singleton.1 e).symm
theorem all_take19 {p : Int → Bool} {xs : List Int} {j : Nat} (hj : j < xs.length) : (xs.take (j + 1)).all p = ((xs.take j).all p && p (xs.getD j 0)) := by
  rw [take_at xs j hj, List.all_append]; simp
theorem all_no19 {p : Int → Bool} {xs : List Int} {j : Nat} (h : (xs.take j).all p = false) : xs.all p = false := by
  cases hh : xs.all p with
  | false => rfl
  | true =>
    have : (xs.take j).all p = true := List.all_eq_true.2 fun x hx => List.all_eq_true.1 hh x (List.mem_of_mem_take hx)
    rw [h] at this
    cases this
theorem once_take_le {c : Tb} (hk : c.Ok) {ws : List Int} {j : Nat} (hj : j ≤ ws.length) (h : c.once (ws.take j) = true) : j ≤ 4 := by
  have := hk.once_le h
  rw [List.length_take_of_le hj] at this
  exact this
set_option maxHeartbeats 12800000 in
theorem ddetach (h : Dj w B b F c m) (hk : c.Ok) (hB : B ≤ w.heap.size) (hm : m ≤ 10000) {v : Value} {ws : List Int} (hs : Sees .i64 w v ws) (hap : ws ≠ [] → Apt F (ftV v)) {E : Int} {c' : Tb} (HQ : Hid (c.det ws = (E, c'))) : Calls Try.prog 18 #[.pointer (some ⟨b, 0, none⟩), v] w fun e w' => e = .returned (.int .i64 E) ∧ ∃ F', Dj w' B b F' c' (m + 4) ∧ Nx w w' F F' := by
  obtain ⟨i0, hi0, hz0, hzs, hzb⟩ := info_parts infoS3
  have hl4 := hk.len.2
  have HH := keepG (fun (wr : World) (hb : Below w.heap.size w wr) => h.below hb)
  have HS := keepG (fun (wr : World) (hb : Below w.heap.size w wr) => hs.below hb (Nat.le_refl _))
  have HS2 := keepG (fun (wr : World) (hc : Chg w wr F) => hs.chg19 hc (fun hne j hj e => hap hne j e hj))
  obtain ⟨a, cap, rfl, hlc, hmx, _⟩ := hs
  unfold maxLen at hmx
  have hq := HQ.out
  unfold Tb.det at hq
  have HQ2 := keepG hq
  clear h HQ hap hq
  go_enter Try.func18, Try.ntmps18
  go_wp2
  go_loopw [5] (fun i wr => ∃ j : Nat, j ≤ ws.length ∧ i = .int .i64 j ∧ Hid (c.once (ws.take j) = true) ∧ Hid (Below w.heap.size w wr)) (fun i _ => ws.length - (intOf i).toNat)
  case atStart => exact ⟨0, by omega, rfl, rfl, Below.refl _ _⟩
  case round =>
    obtain ⟨j, hj, rfl, HA, HB⟩ := hrel
    rename World => wr
    have HD := keepG (HH.out wr HB.out)
    have c0 := HD.out.cell0
    by_cases hlt : j < ws.length
    · have hltI : (j : Int) < ws.length := by omega
      obtain ⟨p, off, ev, hat⟩ := (HS.out wr HB.out).at19 hlt
      subst ev
      have d0 := hat j hlt
      have ht := c.once_take hlt
      obtain ⟨x, HX⟩ : ∃ x, Hid (ws.getD j 0 = x) := ⟨_, rfl⟩
      rw [HX.out] at d0 ht
      rw [HA.out, Bool.true_and] at ht
      have HT := keepG ht
      have HAT := keepG hat
      clear ht hat
      have FAIL : Hid (c.once (ws.take (j + 1)) = false → E = 2 ∧ c = c') := by
        intro hf
        have hq := HQ2.out
        rw [if_pos (Tb.once_no hf)] at hq
        injection hq with e1 e2
        exact ⟨e1.symm, e2⟩
      by_cases hx0 : x < 0
      · have hf : c.has x = false := by simp [Tb.has]; omega
        obtain ⟨rfl, rfl⟩ := FAIL.out (by rw [HT.out, hf]; rfl)
        have hx0b : decide (x < 0) = true := by simpa using hx0
        go_wp2
        refine wp_region_held_drew (S := fun w' => w'.cell? ⟨p, off + j, none⟩ = some (.int .i64 x)) (by kernel_rfl) d0 (fun hHeld => ?_)
        refine tkGo [0, 1, 2, 3, 4, 5] ?_
        repeat (refine tkOne (v := ?_) rfl (by kernel_rfl) (by kernel_rfl) (by kernel_rfl) (fun _ _ _ h => h) (by assumption) (by rfl) ?_ ?_; rotate_left; (intro wy hSw; (try dsimp only at hSw); go_simp; (first | done | with_reducible rfl)); try simp only [Act.put, List.getElem_toArray, List.getElem_cons_zero, List.getElem_cons_succ, List.setIfInBounds_toArray, List.set_cons_zero, List.set_cons_succ])
        refine tkEnd ?_
        refine wpAnyH_take (i := 6) (v := undef) rfl (by kernel_rfl) (by kernel_rfl) (by kernel_rfl) (fun _ _ _ h => h) (Or.inr ⟨by rfl, rfl⟩) (by assumption) ?_
        try simp only [Act.put, List.getElem_toArray, List.getElem_cons_zero, List.getElem_cons_succ, List.setIfInBounds_toArray, List.set_cons_zero, List.set_cons_succ]
        refine wpAnyH_take (i := 7) (v := undef) rfl (by kernel_rfl) (by kernel_rfl) (by kernel_rfl) (fun _ _ _ h => h) (Or.inr ⟨by rfl, rfl⟩) (by assumption) ?_
        try simp only [Act.put, List.getElem_toArray, List.getElem_cons_zero, List.getElem_cons_succ, List.setIfInBounds_toArray, List.set_cons_zero, List.set_cons_succ]
        refine wpAnyH_take (i := 8) (v := undef) rfl (by kernel_rfl) (by kernel_rfl) (by kernel_rfl) (fun _ _ _ h => h) (Or.inr ⟨by rfl, rfl⟩) (by assumption) ?_
        try simp only [Act.put, List.getElem_toArray, List.getElem_cons_zero, List.getElem_cons_succ, List.setIfInBounds_toArray, List.set_cons_zero, List.set_cons_succ]
        refine wpAnyH_take (i := 9) (v := undef) rfl (by kernel_rfl) (by kernel_rfl) (by kernel_rfl) (fun _ _ _ h => h) (Or.inr ⟨by rfl, rfl⟩) (by assumption) ?_
        try simp only [Act.put, List.getElem_toArray, List.getElem_cons_zero, List.getElem_cons_succ, List.setIfInBounds_toArray, List.set_cons_zero, List.set_cons_succ]
        refine wpAnyH_take (i := 10) (v := undef) rfl (by kernel_rfl) (by kernel_rfl) (by kernel_rfl) (fun _ _ _ h => h) (Or.inr ⟨by rfl, rfl⟩) (by assumption) ?_
        try simp only [Act.put, List.getElem_toArray, List.getElem_cons_zero, List.getElem_cons_succ, List.setIfInBounds_toArray, List.set_cons_zero, List.set_cons_succ]
        refine wpAnyH_take (i := 11) (v := undef) rfl (by kernel_rfl) (by kernel_rfl) (by kernel_rfl) (fun _ _ _ h => h) (Or.inr ⟨by rfl, rfl⟩) (by assumption) ?_
        try simp only [Act.put, List.getElem_toArray, List.getElem_cons_zero, List.getElem_cons_succ, List.setIfInBounds_toArray, List.set_cons_zero, List.set_cons_succ]
        refine wpAnyH_take (i := 12) (v := undef) rfl (by kernel_rfl) (by kernel_rfl) (by kernel_rfl) (fun _ _ _ h => h) (Or.inr ⟨by rfl, rfl⟩) (by assumption) ?_
        try simp only [Act.put, List.getElem_toArray, List.getElem_cons_zero, List.getElem_cons_succ, List.setIfInBounds_toArray, List.set_cons_zero, List.set_cons_succ]
        refine wpAnyH_take (i := 13) (v := undef) rfl (by kernel_rfl) (by kernel_rfl) (by kernel_rfl) (fun _ _ _ h => h) (Or.inr ⟨by rfl, rfl⟩) (by assumption) ?_
        try simp only [Act.put, List.getElem_toArray, List.getElem_cons_zero, List.getElem_cons_succ, List.setIfInBounds_toArray, List.set_cons_zero, List.set_cons_succ]
        refine wpAnyH_take (i := 14) (v := undef) rfl (by kernel_rfl) (by kernel_rfl) (by kernel_rfl) (fun _ _ _ h => h) (Or.inr ⟨by rfl, rfl⟩) (by assumption) ?_
        try simp only [Act.put, List.getElem_toArray, List.getElem_cons_zero, List.getElem_cons_succ, List.setIfInBounds_toArray, List.set_cons_zero, List.set_cons_succ]
        refine tkGo [15, 16] ?_
        repeat (refine tkOne (v := ?_) rfl (by kernel_rfl) (by kernel_rfl) (by kernel_rfl) (fun _ _ _ h => h) (by assumption) (by rfl) ?_ ?_; rotate_left; (intro wy hSw; (try dsimp only at hSw); go_simp; (first | done | with_reducible rfl)); try simp only [Act.put, List.getElem_toArray, List.getElem_cons_zero, List.getElem_cons_succ, List.setIfInBounds_toArray, List.set_cons_zero, List.set_cons_succ])
        refine tkEnd ?_
        refine wpAnyH_take (i := 17) (v := undef) rfl (by kernel_rfl) (by kernel_rfl) (by kernel_rfl) (fun _ _ _ h => h) (Or.inr ⟨by rfl, rfl⟩) (by assumption) ?_
        try simp only [Act.put, List.getElem_toArray, List.getElem_cons_zero, List.getElem_cons_succ, List.setIfInBounds_toArray, List.set_cons_zero, List.set_cons_succ]
        refine wpAnyH_take (i := 18) (v := undef) rfl (by kernel_rfl) (by kernel_rfl) (by kernel_rfl) (fun _ _ _ h => h) (Or.inr ⟨by rfl, rfl⟩) (by assumption) ?_
        try simp only [Act.put, List.getElem_toArray, List.getElem_cons_zero, List.getElem_cons_succ, List.setIfInBounds_toArray, List.set_cons_zero, List.set_cons_succ]
        refine tkGo [19] ?_
        repeat (refine tkOne (v := ?_) rfl (by kernel_rfl) (by kernel_rfl) (by kernel_rfl) (fun _ _ _ h => h) (by assumption) (by rfl) ?_ ?_; rotate_left; (intro wy hSw; (try dsimp only at hSw); go_simp; (first | done | with_reducible rfl)); try simp only [Act.put, List.getElem_toArray, List.getElem_cons_zero, List.getElem_cons_succ, List.setIfInBounds_toArray, List.set_cons_zero, List.set_cons_succ])
        refine tkEnd ?_
        refine wpAnyH_done (by kernel_rfl) ?_ _
        clear hHeld
        go_wp2
        go_ret
        exact ⟨rfl, F, (HH.out _ (below_drG HB.out)).mono (by omega), Nx.below (below_drG HB.out)⟩
      · have hx0b : decide (x < 0) = false := by simpa using hx0
        by_cases hx1 : (c.at'.length : Int) ≤ x
        · have hx1b : decide (x ≥ (c.at'.length : Int)) = true := by simpa using hx1
          have hf : c.has x = false := by simp [Tb.has]; omega
          obtain ⟨rfl, rfl⟩ := FAIL.out (by rw [HT.out, hf]; rfl)
          go_wp2
          refine wp_region_held_drew (S := fun w' => w'.cell? ⟨p, off + j, none⟩ = some (.int .i64 x) ∧ w'.cell? ⟨b, 0, none⟩ = some (.int .i64 c.at'.length)) (by kernel_rfl) ⟨d0, c0⟩ (fun hHeld => ?_)
          refine tkGo [0, 1, 2, 3, 4, 5, 6, 7, 8, 9, 10, 11, 12, 13, 14, 15, 16] ?_
          repeat (refine tkOne (v := ?_) rfl (by kernel_rfl) (by kernel_rfl) (by kernel_rfl) (fun _ _ _ h => h) (by assumption) (by rfl) ?_ ?_; rotate_left; (intro wy hSw; (try dsimp only at hSw); go_simp; (first | done | with_reducible rfl)); try simp only [Act.put, List.getElem_toArray, List.getElem_cons_zero, List.getElem_cons_succ, List.setIfInBounds_toArray, List.set_cons_zero, List.set_cons_succ])
          refine tkEnd ?_
          refine wpAnyH_take (i := 17) (v := undef) rfl (by kernel_rfl) (by kernel_rfl) (by kernel_rfl) (fun _ _ _ h => h) (Or.inr ⟨by rfl, rfl⟩) (by assumption) ?_
          try simp only [Act.put, List.getElem_toArray, List.getElem_cons_zero, List.getElem_cons_succ, List.setIfInBounds_toArray, List.set_cons_zero, List.set_cons_succ]
          refine wpAnyH_take (i := 18) (v := undef) rfl (by kernel_rfl) (by kernel_rfl) (by kernel_rfl) (fun _ _ _ h => h) (Or.inr ⟨by rfl, rfl⟩) (by assumption) ?_
          try simp only [Act.put, List.getElem_toArray, List.getElem_cons_zero, List.getElem_cons_succ, List.setIfInBounds_toArray, List.set_cons_zero, List.set_cons_succ]
          refine tkGo [19] ?_
          repeat (refine tkOne (v := ?_) rfl (by kernel_rfl) (by kernel_rfl) (by kernel_rfl) (fun _ _ _ h => h) (by assumption) (by rfl) ?_ ?_; rotate_left; (intro wy hSw; (try dsimp only at hSw); go_simp; (first | done | with_reducible rfl)); try simp only [Act.put, List.getElem_toArray, List.getElem_cons_zero, List.getElem_cons_succ, List.setIfInBounds_toArray, List.set_cons_zero, List.set_cons_succ])
          refine tkEnd ?_
          refine wpAnyH_done (by kernel_rfl) ?_ _
          clear hHeld
          go_wp2
          go_ret
          exact ⟨rfl, F, (HH.out _ (below_drG HB.out)).mono (by omega), Nx.below (below_drG HB.out)⟩
        · have hh : c.has x = true := by simp [Tb.has]; omega
          have hj4 : ¬ (j : Int) > 4 := by have := once_take_le hk hj HA.out; omega
          have hj4b : decide ((j : Int) > 4) = false := by simpa using hj4
          have hx1b : decide (x ≥ (c.at'.length : Int)) = false := by simpa using hx1
          go_wp2
          refine wp_region_held_drew (S := fun w' => w'.cell? ⟨p, off + j, none⟩ = some (.int .i64 x) ∧ w'.cell? ⟨b, 0, none⟩ = some (.int .i64 c.at'.length)) (by kernel_rfl) ⟨d0, c0⟩ (fun hHeld => ?_)
          refine tkGo [0, 1, 2, 3, 4, 5, 6, 7, 8, 9, 10, 11, 12, 13, 14, 15, 16, 17, 18, 19] ?_
          repeat (refine tkOne (v := ?_) rfl (by kernel_rfl) (by kernel_rfl) (by kernel_rfl) (fun _ _ _ h => h) (by assumption) (by rfl) ?_ ?_; rotate_left; (intro wy hSw; (try dsimp only at hSw); go_simp; (first | done | with_reducible rfl)); try simp only [Act.put, List.getElem_toArray, List.getElem_cons_zero, List.getElem_cons_succ, List.setIfInBounds_toArray, List.set_cons_zero, List.set_cons_succ])
          refine tkEnd ?_
          refine wpAnyH_done (by kernel_rfl) ?_ _
          clear hHeld
          have HBd := keepG (below_drG HB.out)
          go_wp2
          go_loopw [6] (fun i wq => ∃ q : Nat, q ≤ j ∧ i = .int .i64 q ∧ Hid (¬ x ∈ ws.take q) ∧ Hid (Below w.heap.size w wq)) (fun i _ => j - (intOf i).toNat)
          case atStart => exact ⟨0, by omega, rfl, by show ¬ _; simp, HBd.out⟩
          case round =>
            obtain ⟨q, hq, rfl, HNI, HBq⟩ := hrel
            rename World => wq
            by_cases hqj : q < j
            · have hqjI : (q : Int) < j := by omega
              have hql : q < ws.length := by omega
              have hqlI : (q : Int) < ws.length := by omega
              obtain ⟨p', off', ev', hat'⟩ := (HS.out wq HBq.out).at19 hlt
              simp only [Option.some.injEq, Addr.mk.injEq, and_true] at ev'
              obtain ⟨rfl, rfl⟩ := ev'
              have e0 := hat' q hql
              have e1 := hat' j hlt
              rw [HX.out] at e1
              obtain ⟨y, HYQ⟩ : ∃ y, Hid (ws.getD q 0 = y) := ⟨_, rfl⟩
              rw [HYQ.out] at e0
              clear hat'
              have HBd2 := keepG (below_drG HBq.out)
              by_cases hyx : y = x
              · subst hyx
                have hmem : y ∈ ws.take j := by
                  have h5 : y ∈ ws.take (q + 1) := by rw [take_at ws q hql, HYQ.out]; simp
                  have h6 : ws.take (q + 1) = (ws.take j).take (q + 1) := by rw [List.take_take, Nat.min_eq_left (by omega)]
                  rw [h6] at h5
                  exact List.mem_of_mem_take h5
                obtain ⟨rfl, rfl⟩ := FAIL.out (by rw [HT.out]; simp [hmem])
                clear hmem
                go_wp2
                refine wp_region_held_drew (S := fun w' => w'.cell? ⟨p, off + q, none⟩ = some (.int .i64 y) ∧ w'.cell? ⟨p, off + j, none⟩ = some (.int .i64 y)) (by kernel_rfl) ⟨e0, e1⟩ (fun hHeld => ?_)
                refine tkGo [0, 1, 2, 3, 4, 5, 6, 7, 8] ?_
                repeat (refine tkOne (v := ?_) rfl (by kernel_rfl) (by kernel_rfl) (by kernel_rfl) (fun _ _ _ h => h) (by assumption) (by rfl) ?_ ?_; rotate_left; (intro wy hSw; (try dsimp only at hSw); go_simp; (first | done | with_reducible rfl)); try simp only [Act.put, List.getElem_toArray, List.getElem_cons_zero, List.getElem_cons_succ, List.setIfInBounds_toArray, List.set_cons_zero, List.set_cons_succ])
                refine tkEnd ?_
                refine wpAnyH_done (by kernel_rfl) ?_ _
                clear hHeld
                go_wp2
                go_ret
                exact ⟨rfl, F, (HH.out _ HBd2.out).mono (by omega), Nx.below HBd2.out⟩
              · have hyb : (y == x) = false := by simpa using hyx
                have HNI2 := keepG (not_in_take19 hql HNI.out (by rw [HYQ.out]; exact hyx))
                go_wp2
                refine wp_region_held_drew (S := fun w' => w'.cell? ⟨p, off + q, none⟩ = some (.int .i64 y) ∧ w'.cell? ⟨p, off + j, none⟩ = some (.int .i64 x)) (by kernel_rfl) ⟨e0, e1⟩ (fun hHeld => ?_)
                refine tkGo [0, 1, 2, 3, 4, 5, 6, 7, 8] ?_
                repeat (refine tkOne (v := ?_) rfl (by kernel_rfl) (by kernel_rfl) (by kernel_rfl) (fun _ _ _ h => h) (by assumption) (by rfl) ?_ ?_; rotate_left; (intro wy hSw; (try dsimp only at hSw); go_simp; (first | done | with_reducible rfl)); try simp only [Act.put, List.getElem_toArray, List.getElem_cons_zero, List.getElem_cons_succ, List.setIfInBounds_toArray, List.set_cons_zero, List.set_cons_succ])
                refine tkEnd ?_
                refine wpAnyH_done (by kernel_rfl) ?_ _
                clear hHeld
                go_wp2
                go_roundw
                case rel => exact ⟨q + 1, by omega, by go_num, HNI2.out, HBd2.out⟩
                case measure => simp [intOf]; omega
            · have hqjI : ¬ (q : Int) < j := by omega
              have hqe : q = j := by omega
              have hni := HNI.out
              rw [hqe] at hni
              have HT2 : Hid (c.once (ws.take (j + 1)) = true) := by show _ = _; rw [HT.out, hh]; simp [hni]
              clear hqe hni
              go_wp2
              go_roundw
              case rel => exact ⟨j + 1, by omega, by go_num, HT2.out, HBq.out⟩
              case measure => simp [intOf]; omega
    · have hltI : ¬ (j : Int) < ws.length := by omega
      have ho : c.once ws = true := by
        have := HA.out
        rw [List.take_of_length_le (by omega)] at this
        exact this
      have hq := HQ2.out
      rw [if_neg (by rw [ho]; decide)] at hq
      have HQ3 := keepG hq
      have HON := keepG (Tb.once_parts ho).2
      have hwl := hk.once_le ho
      clear hq ho HA HQ2
      go_wp2
      go_loopw [7] (fun i wq => ∃ q : Nat, q ≤ ws.length ∧ i = .int .i64 q ∧ Hid ((ws.take q).all c.taken = true) ∧ Hid (Below w.heap.size w wq)) (fun i _ => ws.length - (intOf i).toNat)
      case atStart => exact ⟨0, by omega, rfl, rfl, HB.out⟩
      case round =>
        obtain ⟨q, hq, rfl, HA, HBq⟩ := hrel
        rename World => wq
        have HDq := keepG (HH.out wq HBq.out)
        by_cases hqt : q < ws.length
        · have hqtI : (q : Int) < ws.length := by omega
          obtain ⟨p, off, ev, hat⟩ := (HS.out wq HBq.out).at19 hqt
          subst ev
          have d0 := hat q hqt
          have ht := all_take19 (p := c.taken) hqt
          have hmem := getD_mem ws q hqt
          obtain ⟨x, HX⟩ : ∃ x, Hid (ws.getD q 0 = x) := ⟨_, rfl⟩
          rw [HX.out] at d0 ht hmem
          rw [HA.out, Bool.true_and] at ht
          have HT := keepG ht
          have HHX := keepG (HON.out _ hmem)
          obtain ⟨cv, cp, r, HC⟩ : ∃ cv cp r, Hid (c.cur x = (cv, cp, r)) := ⟨_, _, _, rfl⟩
          have hr : c.taken x = r := by
            have := HC.out
            unfold Tb.cur at this
            injection this with _ this
            injection this
          rw [hr] at HT
          clear ht hmem hat hr
          cases r with
          | false =>
            have hf : ws.all c.taken = false := all_no19 (j := q + 1) HT.out
            have hq3 := HQ3.out
            rw [if_pos hf] at hq3
            injection hq3 with e1 e2
            subst e1 e2
            clear HQ3 hf
            go_wp2_with (go_at_call 12; go_must (refine (HDq.out.current hk (by omega) x HC).mono ?_); rintro e w2 ⟨rfl, hb2⟩; go_must (have HB2 := keepG (HBq.out.trans (hb2.mono HBq.out.size)); clear hb2))
            go_ret
            exact ⟨rfl, F, (HH.out _ HB2.out).mono (by omega), Nx.below HB2.out⟩
          | true =>
            go_wp2_with (go_at_call 12; go_must (refine (HDq.out.current hk (by omega) x HC).mono ?_); rintro e w2 ⟨rfl, hb2⟩; go_must (have HB2 := keepG (HBq.out.trans (hb2.mono HBq.out.size)); clear hb2))
            go_roundw
            case rel => exact ⟨q + 1, by omega, by go_num, HT.out, HB2.out⟩
            case measure => simp [intOf]; omega
        · have hqtI : ¬ (q : Int) < ws.length := by omega
          have hf : ws.all c.taken = true := by
            have := HA.out
            rw [List.take_of_length_le (by omega)] at this
            exact this
          have hq3 := HQ3.out
          rw [if_neg (by rw [hf]; decide)] at hq3
          injection hq3 with e1 e2
          subst e1 e2
          clear HQ3 hf HA
          go_wp2
          go_loopw [11] (fun i wz => ∃ z : Nat, z ≤ ws.length ∧ i = .int .i64 z ∧ ∃ F1, Hid (Dj wz B b F1 ⟨c.last, clrT c.at' (ws.take z)⟩ (m + z) ∧ Nx w wz F F1)) (fun i _ => ws.length - (intOf i).toNat)
          case atStart => exact ⟨0, by omega, rfl, F, HDq.out, Nx.below HBq.out⟩
          case round =>
            obtain ⟨z, hz, rfl, F1, HDz⟩ := hrel
            rename World => wz
            by_cases hzt : z < ws.length
            · have hztI : (z : Int) < ws.length := by omega
              obtain ⟨p, off, ev, hat⟩ := (HS2.out wz HDz.out.2.chg).at19 hzt
              subst ev
              have hT := take_at ws z hzt
              have hmem := getD_mem ws z hzt
              have HPA : Hid (∀ wx : World, Chg w wx F → wx.cell? ⟨p, off + z, none⟩ = some (.int .i64 (ws.getD z 0))) := by
                intro wx hc
                obtain ⟨p2, off2, ev2, hat2⟩ := (HS2.out wx hc).at19 hzt
                simp only [Option.some.injEq, Addr.mk.injEq, and_true] at ev2
                obtain ⟨rfl, rfl⟩ := ev2
                exact hat2 z hzt
              obtain ⟨x, HX⟩ : ∃ x, Hid (ws.getD z 0 = x) := ⟨_, rfl⟩
              rw [HX.out] at hT hmem HPA
              obtain ⟨k, rfl, hk2⟩ := Tb.has_nat (HON.out _ hmem)
              obtain ⟨u, ss, hK, hsl, hF1⟩ := HDz.out.1.ex
              subst hF1
              have hlen := clrT_len (ws.take z) c.at'
              have hRel := keepG (hK.rel.put (k := k) (by simp only [hlen]; exact hk2) 0 0 c.last)
              have HT : Hid (clrT c.at' (ws.take (z + 1)) = (clrT c.at' (ws.take z)).set k ⟨0, 0⟩) := by
                show _ = _
                rw [hT, clrT_app]
                rfl
              obtain ⟨ua, uc, ev, hcu, hmu⟩ := (own_seesG s3C_len S3.nil hK.row).shape
              subst ev
              have HK := keepG hK
              have HNX := keepG HDz.out.2
              have c1 := hK.hp.cell (j := 2) rfl
              have hBz : B ≤ wz.heap.size := Nat.le_trans hB HDz.out.2.chg.size
              clear hT hmem hat hK hlen HDz
              obtain ⟨Z, HZ, HnZ, hbZ⟩ : ∃ Z, Hid (wz.alloc (.cells #[.int .i64 k, .int .i64 0, .int .i64 0] 61) = Z) ∧ Hid (∀ j u, (s3C ⟨k, 0, 0⟩)[j]? = some u → Z.cell? ((⟨wz.heap.size, 0, none⟩ : Addr).add j) = some u) ∧ Below wz.heap.size wz Z := ⟨_, rfl, cells_new wz (s3C ⟨k, 0, 0⟩) _ _ rfl, below_allocG _ _⟩
              have c1Z := (HK.out.below hbZ).hp.cell (j := 2) rfl
              have HCZ := keepG (HNX.out.trans (Nx.below hbZ)).chg
              go_wp2
              refine wp_region_held_drew (S := fun w' => w'.cell? ⟨p, off + z, none⟩ = some (.int .i64 k)) (by kernel_rfl) (HPA.out _ (HNX.out.chg.drewN 1)) (fun hHeld => ?_)
              refine tkGo [0, 1, 2, 3, 5, 6, 7, 8, 9] ?_
              repeat (refine tkOne (v := ?_) rfl (by kernel_rfl) (by kernel_rfl) (by kernel_rfl) (fun _ _ _ h => h) (by assumption) (by rfl) ?_ ?_; rotate_left; (intro wy hSw; (try dsimp only at hSw); go_simp; (first | done | with_reducible rfl)); try simp only [Act.put, List.getElem_toArray, List.getElem_cons_zero, List.getElem_cons_succ, List.setIfInBounds_toArray, List.set_cons_zero, List.set_cons_succ])
              refine tkEnd ?_
              refine wpAnyH_ready (rs := [4, 10]) (by kernel_rfl) (by simp) ?_
              refine AllReadyH.cons rfl (fun KK hK => ?_) (AllReadyH.cons rfl (fun KK hK => ?_) AllReadyH.nil) <;> rw [if_pos (by rfl)]
              · go_simp
                refine hK.out _ _ (HPA.out _ (HNX.out.chg.drewN 1)) (fun hHeld => ?_)
                clear hK KK
                try simp only [Act.put, List.getElem_toArray, List.getElem_cons_zero, List.getElem_cons_succ, List.setIfInBounds_toArray, List.set_cons_zero, List.set_cons_succ]
                refine wpAnyH_ready (rs := [10]) (by kernel_rfl) (by simp) ?_
                refine AllReadyH.cons rfl (fun KK hK => ?_) AllReadyH.nil
                rw [if_pos (by rfl)]
                go_simp
                rw [HZ.out]
                refine hK.out _ _ (HPA.out _ (HCZ.out.drewN 1)) (fun hHeld => ?_)
                clear hK KK
                try simp only [Act.put, List.getElem_toArray, List.getElem_cons_zero, List.getElem_cons_succ, List.setIfInBounds_toArray, List.set_cons_zero, List.set_cons_succ]
                refine wpAnyH_ready (rs := [11]) (by kernel_rfl) (by simp) ?_
                refine AllReadyH.cons rfl (fun KK hK => ?_) AllReadyH.nil
                rw [if_pos (by rfl)]
                refine wp_append_at19 _ (.tmp 80) (.tmp 86) 29 rfl B 61 i0 _ 3 24 Try.underlying29 hi0 hz0 hzs hzb rfl (by decide) (.slice ua ss.length uc) ss.length (flatG s3C ss) rfl (own_below HK.out.row (below_drG hbZ) (Nat.le_refl _)) ⟨wz.heap.size, 0, none⟩ 1 1 (s3C ⟨k, 0, 0⟩) rfl rfl HnZ.out (s3_one _) (by unfold maxLen; omega) (by omega) (Nat.le_trans hBz hbZ.size) ?_
                intro v3 w3 hown hgr hat
                have hch : Chg wz w3 (fun j => (Value.slice ua ss.length uc).ownBlock = some j) := ((Chg.of_below (S := fun j => (Value.slice ua ss.length uc).ownBlock = some j) hbZ).drewN 1).trans (Chg.of_grown' hgr (fun k e => e)) (fun _ _ e => e)
                have hn3 : v3.ownBlock = (Value.slice ua ss.length uc).ownBlock ∨ ∃ j, v3.ownBlock = some j ∧ wz.heap.size ≤ j := by
                  rcases hat with g | g
                  · exact .inl g
                  · exact .inr ⟨_, g, hbZ.size⟩
                have HM := keepG (djmore (m := m + z) HK.out hRel.out (by simp) rfl hsl hown hch hn3)
                have Hb1 := keepG (HK.out.hp.chg hch (fun e => HK.out.apart e))
                have c1w := Hb1.out.cell (j := 2) rfl
                have f1w := Hb1.out.frozen 2
                have HCH := keepG (HNX.out.chg.trans hch (fun j hj e => (HNX.out.new j (.inr e)).elim id (fun q => by omega)))
                obtain ⟨va, vc, rfl⟩ := own_shape hown
                refine hK.out _ _ (HPA.out _ HCH.out) (fun hHeld => ?_)
                clear hK KK hown hgr hat hch hn3
                try simp only [Act.put, List.getElem_toArray, List.getElem_cons_zero, List.getElem_cons_succ, List.setIfInBounds_toArray, List.set_cons_zero, List.set_cons_succ]
                refine tkGo [12, 13] ?_
                repeat (refine tkOne (v := ?_) rfl (by kernel_rfl) (by kernel_rfl) (by kernel_rfl) (fun _ _ _ h => h) (by assumption) (by rfl) ?_ ?_; rotate_left; (intro wy hSw; (try dsimp only at hSw); go_simp; (first | done | with_reducible rfl)); try simp only [Act.put, List.getElem_toArray, List.getElem_cons_zero, List.getElem_cons_succ, List.setIfInBounds_toArray, List.set_cons_zero, List.set_cons_succ])
                refine tkEnd ?_
                refine wpAnyH_ready (rs := [14]) (by kernel_rfl) (by simp) ?_
                refine AllReadyH.cons rfl (fun KK hK => ?_) AllReadyH.nil
                rw [if_pos (by rfl)]
                go_simp
                refine hK.out _ _ (HPA.out _ (HNX.out.trans HM.out.2).chg) (fun hHeld => ?_)
                clear hK KK
                try simp only [Act.put, List.getElem_toArray, List.getElem_cons_zero, List.getElem_cons_succ, List.setIfInBounds_toArray, List.set_cons_zero, List.set_cons_succ]
                refine wpAnyH_done (by kernel_rfl) ?_ _
                clear hHeld
                go_wp2
                go_roundw
                case rel => exact ⟨z + 1, by omega, by go_num, _, by rw [HT.out]; exact HM.out.1, HNX.out.trans HM.out.2⟩
                case measure => simp [intOf]; omega
              · go_simp
                rw [HZ.out]
                refine hK.out _ _ (HPA.out _ (HCZ.out.drewN 1)) (fun hHeld => ?_)
                clear hK KK
                try simp only [Act.put, List.getElem_toArray, List.getElem_cons_zero, List.getElem_cons_succ, List.setIfInBounds_toArray, List.set_cons_zero, List.set_cons_succ]
                refine wpAnyH_ready (rs := [4]) (by kernel_rfl) (by simp) ?_
                refine AllReadyH.cons rfl (fun KK hK => ?_) AllReadyH.nil
                rw [if_pos (by rfl)]
                go_simp
                refine hK.out _ _ (HPA.out _ (HCZ.out.drewN 1)) (fun hHeld => ?_)
                clear hK KK
                try simp only [Act.put, List.getElem_toArray, List.getElem_cons_zero, List.getElem_cons_succ, List.setIfInBounds_toArray, List.set_cons_zero, List.set_cons_succ]
                refine wpAnyH_ready (rs := [11]) (by kernel_rfl) (by simp) ?_
                refine AllReadyH.cons rfl (fun KK hK => ?_) AllReadyH.nil
                rw [if_pos (by rfl)]
                refine wp_append_at19 _ (.tmp 80) (.tmp 86) 29 rfl B 61 i0 _ 3 24 Try.underlying29 hi0 hz0 hzs hzb rfl (by decide) (.slice ua ss.length uc) ss.length (flatG s3C ss) rfl (own_below HK.out.row (below_drG hbZ) (Nat.le_refl _)) ⟨wz.heap.size, 0, none⟩ 1 1 (s3C ⟨k, 0, 0⟩) rfl rfl HnZ.out (s3_one _) (by unfold maxLen; omega) (by omega) (Nat.le_trans hBz hbZ.size) ?_
                intro v3 w3 hown hgr hat
                have hch : Chg wz w3 (fun j => (Value.slice ua ss.length uc).ownBlock = some j) := ((Chg.of_below (S := fun j => (Value.slice ua ss.length uc).ownBlock = some j) hbZ).drewN 1).trans (Chg.of_grown' hgr (fun k e => e)) (fun _ _ e => e)
                have hn3 : v3.ownBlock = (Value.slice ua ss.length uc).ownBlock ∨ ∃ j, v3.ownBlock = some j ∧ wz.heap.size ≤ j := by
                  rcases hat with g | g
                  · exact .inl g
                  · exact .inr ⟨_, g, hbZ.size⟩
                have HM := keepG (djmore (m := m + z) HK.out hRel.out (by simp) rfl hsl hown hch hn3)
                have Hb1 := keepG (HK.out.hp.chg hch (fun e => HK.out.apart e))
                have c1w := Hb1.out.cell (j := 2) rfl
                have f1w := Hb1.out.frozen 2
                have HCH := keepG (HNX.out.chg.trans hch (fun j hj e => (HNX.out.new j (.inr e)).elim id (fun q => by omega)))
                obtain ⟨va, vc, rfl⟩ := own_shape hown
                refine hK.out _ _ (HPA.out _ HCH.out) (fun hHeld => ?_)
                clear hK KK hown hgr hat hch hn3
                try simp only [Act.put, List.getElem_toArray, List.getElem_cons_zero, List.getElem_cons_succ, List.setIfInBounds_toArray, List.set_cons_zero, List.set_cons_succ]
                refine tkGo [12, 13] ?_
                repeat (refine tkOne (v := ?_) rfl (by kernel_rfl) (by kernel_rfl) (by kernel_rfl) (fun _ _ _ h => h) (by assumption) (by rfl) ?_ ?_; rotate_left; (intro wy hSw; (try dsimp only at hSw); go_simp; (first | done | with_reducible rfl)); try simp only [Act.put, List.getElem_toArray, List.getElem_cons_zero, List.getElem_cons_succ, List.setIfInBounds_toArray, List.set_cons_zero, List.set_cons_succ])
                refine tkEnd ?_
                refine wpAnyH_ready (rs := [14]) (by kernel_rfl) (by simp) ?_
                refine AllReadyH.cons rfl (fun KK hK => ?_) AllReadyH.nil
                rw [if_pos (by rfl)]
                go_simp
                refine hK.out _ _ (HPA.out _ (HNX.out.trans HM.out.2).chg) (fun hHeld => ?_)
                clear hK KK
                try simp only [Act.put, List.getElem_toArray, List.getElem_cons_zero, List.getElem_cons_succ, List.setIfInBounds_toArray, List.set_cons_zero, List.set_cons_succ]
                refine wpAnyH_done (by kernel_rfl) ?_ _
                clear hHeld
                go_wp2
                go_roundw
                case rel => exact ⟨z + 1, by omega, by go_num, _, by rw [HT.out]; exact HM.out.1, HNX.out.trans HM.out.2⟩
                case measure => simp [intOf]; omega
            · have hztI : ¬ (z : Int) < ws.length := by omega
              have hD3 := HDz.out.1
              rw [List.take_of_length_le (by omega)] at hD3
              have HD3 := keepG (hD3.mono (m' := m + 4) (by omega))
              clear hD3
              go_wp2
              go_ret
              exact ⟨rfl, F1, HD3.out, HDz.out.2⟩
end
end Go.Proofs.Ytknijloificpmaa
