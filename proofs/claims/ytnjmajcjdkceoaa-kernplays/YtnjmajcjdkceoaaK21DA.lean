
/-
  The document's kern of layer 21: its memory; In, Turn, Set. Condition: it lies where the pointer says; what is handed in lies elsewhere.
-/
import Derived.Test.YtnjmajcjdkceoaaTk
import Derived.Test.YtnjmajcjdkceoaaK21Plain
import Derived.Test.YtnjmajcjdkceoaaGRoN
import Derived.Test.YtnjmajcjdkceoaaGSees
import Derived.Test.YtnjmajcjdkceoaaTk
import Derived.Deep.RegionHeld3
import Derived.Deep.RegionHeldLaw
namespace Go.Proofs.Ytnjmajcjdkceoaa
open Go.RowKit
set_option linter.unusedVariables false
set_option linter.unusedSimpArgs false
set_option maxRecDepth 100000

theorem Sees.chgK {k : IntKind} {w w' : World} {v : Value} {xs : List Int} {S : Nat → Prop} (h : Sees k w v xs) (hc : Chg w w' S) (hS : xs ≠ [] → ∀ j, v.ownBlock = some j → ¬ S j) : Sees k w' v xs := by
  obtain ⟨a, cap, rfl, h1, h2, h3, h4, h5⟩ := h
  refine ⟨a, cap, rfl, h1, h2, h3, h4, fun hne => ?_⟩
  obtain ⟨b, off, rfl, hlt, hat⟩ := h5 hne
  refine ⟨b, off, rfl, Nat.lt_of_lt_of_le hlt hc.size, fun i hi => ?_⟩
  rw [← hat i hi]
  exact World.cell?_of_block (hc.block b hlt (hS hne b rfl))
theorem Sees.atK {w : World} {k : IntKind} {a : Option Addr} {n cap : Nat} {xs : List Int} (h : Sees k w (.slice a n cap) xs) {j : Nat} (hj : j < xs.length) : ∃ p off, a = some ⟨p, off, none⟩ ∧ p < w.heap.size ∧ ∀ i, i < xs.length → w.cell? ⟨p, off + i, none⟩ = some (.int k (xs.getD i 0)) := by
  obtain ⟨a', cap', ev, _, _, _, _, hc⟩ := h
  simp only [Value.slice.injEq] at ev
  obtain ⟨rfl, _, rfl⟩ := ev
  obtain ⟨p, off, rfl, hp, hat⟩ := hc (fun e => by rw [e] at hj; simp at hj)
  exact ⟨p, off, rfl, hp, hat⟩
theorem all_takeK {p : Int → Bool} {xs : List Int} {j : Nat} (hj : j < xs.length) : (xs.take (j + 1)).all p = ((xs.take j).all p && p (xs.getD j 0)) := by
  rw [take_at xs j hj, List.all_append]
  simp
theorem all_noK {p : Int → Bool} {xs : List Int} {j : Nat} (h : (xs.take j).all p = false) : xs.all p = false := by
  cases hh : xs.all p with
  | false => rfl
  | true =>
    have : (xs.take j).all p = true := by
      simp only [List.all_eq_true] at hh ⊢
      exact fun x hx => hh x (List.mem_of_mem_take hx)
    rw [h] at this; cases this
abbrev bK (b : Bool) : List Value := [.bool b]
theorem bK_len (b : Bool) : (bK b).length = 1 := rfl
abbrev iCK (xs : List Int) : List Value := xs.map (Value.int .i64)
/-- The document's kern, at a block; its modes at another; its picks. -/
structure Dk (w : World) (B b g : Nat) (v : Value) (K : Kn) : Prop where
  hp : Hp w b 31 [.slice (some ⟨g, 0, none⟩) K.m.length K.m.length, v]
  mode : Hp w g 3 (iCK K.m)
  row : RoN w B v K.p
  ne : v.ownBlock ≠ some g
def ftK (b g : Nat) (v : Value) : Ft := fun k => (k = b ∨ k = g) ∨ v.ownBlock = some k
section
variable {w w' : World} {B b g : Nat} {v : Value} {K K' : Kn}
theorem Dk.chg {S : Nat → Prop} (h : Dk w B b g v K) (hc : Chg w w' S) (ha : Apt S (ftK b g v)) : Dk w' B b g v K :=
  ⟨h.hp.chg hc (fun e => ha b e (.inl (.inl rfl))), h.mode.chg hc (fun e => ha g e (.inl (.inr rfl))), own_chg h.row hc (fun k hk e => ha k e (.inr hk)), h.ne⟩
theorem Dk.below (h : Dk w B b g v K) (hb : Below w.heap.size w w') : Dk w' B b g v K := h.chg (Chg.of_below (S := fun _ => False) hb) (fun _ e => e.elim)
theorem Dk.apart (h : Dk w B b g v K) : b ≠ g := hp_type h.hp h.mode (by decide)
theorem Dk.apartR (h : Dk w B b g v K) : v.ownBlock ≠ some b := own_type10 h.row h.hp (by decide)
theorem Dk.lies (h : Dk w B b g v K) : Lies w (ftK b g v) := fun k hk => by
  rcases hk with (e | e) | e
  · rw [e]; exact h.hp.lt
  · rw [e]; exact h.mode.lt
  · exact (h.row.lt k e).2
theorem Dk.low (h : Dk w B b g v K) : w.cell? ⟨b, 0, none⟩ = some (.slice (some ⟨g, 0, none⟩) K.m.length K.m.length) ∧ w.cell? ⟨b, 1, none⟩ = some v := ⟨h.hp.cell rfl, h.hp.cell rfl⟩
theorem Dk.at (h : Dk w B b g v K) {k : Nat} (hk : k < K.m.length) : w.cell? ⟨g, k, none⟩ = some (.int .i64 (K.m.getD k 0)) := h.mode.cell (by simp [iCK, List.getD, hk])
theorem Dk.put (h : Dk w B b g v K) (k : Nat) (y : Int) : Dk (w.setCell ⟨g, k, none⟩ (.int .i64 y)) B b g v ⟨K.m.set k y, K.p⟩ := by
  refine ⟨?_, ?_, own_chg h.row (Chg.set w g k _) (fun j hj e => h.ne (by rw [hj, e])), h.ne⟩
  · have := h.hp.far (i := k) (v := .int .i64 y) h.apart
    simp only [List.length_set]
    exact this
  · have := h.mode.set k (.int .i64 y)
    rw [← List.map_set] at this
    exact this
set_option maxHeartbeats 3200000 in
theorem din (h : Dk w B b g v K) (hk : K.Ok) (md : Int) {A : List Int} (HA : Hid (K.inM md = A)) : Calls Try.prog 21 #[.pointer (some ⟨b, 0, none⟩), .int .i64 md] w fun e w' => ∃ u, e = .returned u ∧ RoN w' w.heap.size u A ∧ Below w.heap.size w w' := by
  obtain ⟨i0, hi0, hz0, hzs, hzb⟩ := info_parts infoIntN
  have HH := keepG (fun (wr : World) (hb : Below w.heap.size w wr) => h.below hb)
  have hl := hk.len.2
  clear h
  go_enter Try.func21, Try.ntmps21
  go_wp2
  go_loopw [5, 6] (fun u i wr => ∃ j : Nat, j ≤ K.m.length ∧ i = .int .i64 j ∧ Hid (RoN wr w.heap.size u (inL K.m md j)) ∧ Hid (Below w.heap.size w wr)) (fun _ i _ => K.m.length - (intOf i).toNat)
  case atStart => exact ⟨0, by omega, rfl, RoN.nil _ _, Below.refl _ _⟩
  case round =>
    rename_i u wr
    obtain ⟨j, hj, rfl, HO, HB⟩ := hrel
    have HD := keepG (HH.out wr HB.out)
    obtain ⟨c0, c1⟩ := HD.out.low
    obtain ⟨Y, HY⟩ : ∃ Y, Hid (inL K.m md j = Y) := ⟨_, rfl⟩
    have HM := keepG (inL_more K.m md j)
    have hYl := inL_len K.m md j
    rw [HY.out] at HM HO hYl
    obtain ⟨va, vc, ev⟩ := own_shape HO.out
    subst ev
    by_cases hlt : j < K.m.length
    · have hltI : (j : Int) < K.m.length := by omega
      have ck := HD.out.at hlt
      obtain ⟨y, HYY⟩ : ∃ y, Hid (K.m.getD j 0 = y) := ⟨_, rfl⟩
      rw [HYY.out] at ck HM
      by_cases hy : y = md
      · have hyb : (y == md) = true := by simpa using hy
        have HM2 : Hid (inL K.m md (j + 1) = Y ++ [(j : Int)]) := by show _ = _; rw [HM.out, if_pos hy]
        have hz2 := HB.out.size
        clear HYY HM hy
        go_wp2_with (at_builtin; go_must (refine wpList_append_wide _ rfl _ _ 29 rfl w.heap.size 3 i0 (.int .i64 0) 1 8 Try.underlying29 hi0 hz0 hzs hzb rfl (by decide) _ _ _ rfl (HO.out.alloc _) ⟨_, 0, none⟩ 1 1 [.int .i64 j] rfl rfl (cell_one_new _ _ _) (one_cell _ _) (by unfold maxLen; omega) (by omega) (by simp; omega) ?_); intro v' w5 hown' hgrow _; go_must (have HR5 := keepG (HO.out.more HB.out (Nat.le_refl _) hown' hgrow); clear hown' hgrow))
        go_roundw
        case rel => exact ⟨j + 1, by omega, by go_num, by rw [HM2.out]; exact HR5.out.1, HR5.out.2⟩
        case measure => simp [intOf]; omega
      · have hyb : (y == md) = false := by simpa using hy
        have HM2 : Hid (inL K.m md (j + 1) = Y) := by show _ = _; rw [HM.out, if_neg hy]
        clear HYY HM hy
        go_wp2
        go_roundw
        case rel => exact ⟨j + 1, by omega, by go_num, by rw [HM2.out]; exact HO.out, HB.out⟩
        case measure => simp [intOf]; omega
    · have hltI : ¬ (j : Int) < K.m.length := by omega
      have HE : Hid (Y = A) := by
        show _ = _
        rw [← HA.out, ← HY.out]
        unfold Kn.inM
        rw [show j = K.m.length by omega]
      rw [HE.out] at HO ⊢
      go_wp2
      go_ret
      exact ⟨_, rfl, HO.out, HB.out⟩
set_option maxHeartbeats 6400000 in
theorem dturn (h : Dk w B b g v K) (md : Int) {u : Value} {xs : List Int} (hs : Sees .i64 w u xs) (hap : xs ≠ [] → ∀ j, u.ownBlock = some j → ¬ j = g) {E : Int} (HQ : Hid (K.turn md xs = (E, K'))) : Calls Try.prog 10 #[.pointer (some ⟨b, 0, none⟩), .int .i64 md, u] w fun e w' => e = .returned (.int .i64 E) ∧ Dk w' B b g v K' ∧ Chg w w' (fun k => k = g) := by
  have HH := keepG (fun (wr : World) (hb : Below w.heap.size w wr) => h.below hb)
  have HS := keepG (fun (wr : World) (hc : Chg w wr (fun k => k = g)) => hs.chgK hc hap)
  have HAP := keepG hap
  obtain ⟨a, cap, rfl, hlc, hmx, _⟩ := hs
  unfold maxLen at hmx
  have hq := HQ.out
  unfold Kn.turn at hq
  have HQ2 := keepG hq
  clear h HQ hq hap
  go_enter Try.func10, Try.ntmps10
  go_wp2
  go_loopw [7] (fun i wr => ∃ j : Nat, j ≤ xs.length ∧ i = .int .i64 j ∧ Hid ((xs.take j).all K.has = true) ∧ Hid (Below w.heap.size w wr)) (fun i _ => xs.length - (intOf i).toNat)
  case atStart => exact ⟨0, by omega, rfl, rfl, Below.refl _ _⟩
  case round =>
    obtain ⟨j, hj, rfl, HA, HB⟩ := hrel
    rename World => wr
    by_cases hlt : j < xs.length
    · have hltI : (j : Int) < xs.length := by omega
      obtain ⟨p, off, rfl, hp, hat⟩ := (HS.out wr (Chg.of_below HB.out)).atK hlt
      have d0 := hat j hlt
      obtain ⟨c0, c1⟩ := (HH.out wr HB.out).low
      have ht := all_takeK (p := K.has) hlt
      obtain ⟨x, HX⟩ : ∃ x, Hid (xs.getD j 0 = x) := ⟨_, rfl⟩
      rw [HX.out] at d0 ht
      rw [HA.out, Bool.true_and] at ht
      have HT := keepG ht
      have HBd := keepG (below_drG HB.out)
      clear ht hat
      go_wp2
      cases hh : K.has x with
      | false =>
        have hf : xs.all K.has = false := all_noK (j := j + 1) (by rw [HT.out]; exact hh)
        have hq := HQ2.out
        rw [if_pos hf] at hq
        injection hq with e1 e2
        subst e1 e2
        by_cases h0 : x < 0
        · clear HQ2 hf hh
          refine wp_region_held_drew (S := fun w' => w'.cell? ⟨p, off + j, none⟩ = some (.int .i64 x)) (by kernel_rfl) d0 (fun hHeld => ?_)
          refine tkGo [0, 1, 2, 3, 4, 5] ?_
          repeat (refine tkOne (v := ?_) rfl (by kernel_rfl) (by kernel_rfl) (by kernel_rfl) (fun _ _ _ h => h) (by assumption) (by rfl) ?_ ?_; rotate_left; (intro wy hSw; (try dsimp only at hSw); go_simp; (first | done | with_reducible rfl)); try simp only [Act.put, List.getElem_toArray, List.getElem_cons_zero, List.getElem_cons_succ, List.setIfInBounds_toArray, List.set_cons_zero, List.set_cons_succ])
          refine tkEnd ?_
          refine wpAnyH_take (i := 6) (v := undef) rfl (by kernel_rfl) (by kernel_rfl) (by kernel_rfl) (fun _ _ _ h => h) (Or.inr ⟨by rfl, rfl⟩) (by assumption) ?_
          try simp only [Act.put, List.getElem_toArray, List.getElem_cons_zero, List.getElem_cons_succ, List.setIfInBounds_toArray, List.set_cons_zero, List.set_cons_succ]
          refine wpAnyH_take (i := 7) (v := undef) rfl (by kernel_rfl) (by kernel_rfl) (by kernel_rfl) (fun _ _ _ h => h) (Or.inr ⟨by rfl, rfl⟩) (by assumption) ?_
          try simp only [Act.put, List.getElem_toArray, List.getElem_cons_zero, List.getElem_cons_succ, List.setIfInBounds_toArray, List.set_cons_zero, List.set_cons_succ]
          refine wpAnyH_take (i := 8) (v := undef) rfl (by kernel_rfl) (by kernel_rfl) (by kernel_rfl) (fun _ _ _ h => h) (Or.inr ⟨by rfl, rfl⟩) (by assumption) ?_
          try simp only [Act.put, List.getElem_toArray, List.getElem_cons_zero, List.getElem_cons_succ, List.setIfInBounds_toArray, List.set_cons_zero, List.set_cons_succ]
          refine wpAnyH_take (i := 9) (v := undef) rfl (by kernel_rfl) (by kernel_rfl) (by kernel_rfl) (fun _ _ _ h => h) (Or.inr ⟨by rfl, rfl⟩) (by assumption) ?_
          try simp only [Act.put, List.getElem_toArray, List.getElem_cons_zero, List.getElem_cons_succ, List.setIfInBounds_toArray, List.set_cons_zero, List.set_cons_succ]
          refine wpAnyH_take (i := 10) (v := undef) rfl (by kernel_rfl) (by kernel_rfl) (by kernel_rfl) (fun _ _ _ h => h) (Or.inr ⟨by rfl, rfl⟩) (by assumption) ?_
          try simp only [Act.put, List.getElem_toArray, List.getElem_cons_zero, List.getElem_cons_succ, List.setIfInBounds_toArray, List.set_cons_zero, List.set_cons_succ]
          refine wpAnyH_take (i := 11) (v := undef) rfl (by kernel_rfl) (by kernel_rfl) (by kernel_rfl) (fun _ _ _ h => h) (Or.inr ⟨by rfl, rfl⟩) (by assumption) ?_
          try simp only [Act.put, List.getElem_toArray, List.getElem_cons_zero, List.getElem_cons_succ, List.setIfInBounds_toArray, List.set_cons_zero, List.set_cons_succ]
          refine wpAnyH_take (i := 12) (v := undef) rfl (by kernel_rfl) (by kernel_rfl) (by kernel_rfl) (fun _ _ _ h => h) (Or.inr ⟨by rfl, rfl⟩) (by assumption) ?_
          try simp only [Act.put, List.getElem_toArray, List.getElem_cons_zero, List.getElem_cons_succ, List.setIfInBounds_toArray, List.set_cons_zero, List.set_cons_succ]
          refine wpAnyH_take (i := 13) (v := undef) rfl (by kernel_rfl) (by kernel_rfl) (by kernel_rfl) (fun _ _ _ h => h) (Or.inr ⟨by rfl, rfl⟩) (by assumption) ?_
          try simp only [Act.put, List.getElem_toArray, List.getElem_cons_zero, List.getElem_cons_succ, List.setIfInBounds_toArray, List.set_cons_zero, List.set_cons_succ]
          refine wpAnyH_take (i := 14) (v := undef) rfl (by kernel_rfl) (by kernel_rfl) (by kernel_rfl) (fun _ _ _ h => h) (Or.inr ⟨by rfl, rfl⟩) (by assumption) ?_
          try simp only [Act.put, List.getElem_toArray, List.getElem_cons_zero, List.getElem_cons_succ, List.setIfInBounds_toArray, List.set_cons_zero, List.set_cons_succ]
          refine wpAnyH_take (i := 15) (v := undef) rfl (by kernel_rfl) (by kernel_rfl) (by kernel_rfl) (fun _ _ _ h => h) (Or.inr ⟨by rfl, rfl⟩) (by assumption) ?_
          try simp only [Act.put, List.getElem_toArray, List.getElem_cons_zero, List.getElem_cons_succ, List.setIfInBounds_toArray, List.set_cons_zero, List.set_cons_succ]
          refine tkGo [16] ?_
          repeat (refine tkOne (v := ?_) rfl (by kernel_rfl) (by kernel_rfl) (by kernel_rfl) (fun _ _ _ h => h) (by assumption) (by rfl) ?_ ?_; rotate_left; (intro wy hSw; (try dsimp only at hSw); go_simp; (first | done | with_reducible rfl)); try simp only [Act.put, List.getElem_toArray, List.getElem_cons_zero, List.getElem_cons_succ, List.setIfInBounds_toArray, List.set_cons_zero, List.set_cons_succ])
          refine tkEnd ?_
          refine wpAnyH_done (by kernel_rfl) ?_ _
          clear hHeld
          go_wp2
          go_ret
          exact ⟨rfl, HH.out _ HBd.out, Chg.of_below HBd.out⟩
        · have h1 : (K.m.length : Int) ≤ x := by
            rcases Kn.has_no hh with e | e
            · exact absurd e h0
            · exact e
          clear HQ2 hf hh
          refine wp_region_held_drew (S := fun w' => w'.cell? ⟨p, off + j, none⟩ = some (.int .i64 x) ∧ w'.cell? ⟨b, 0, none⟩ = some (.slice (some ⟨g, 0, none⟩) K.m.length K.m.length)) (by kernel_rfl) ⟨d0, c0⟩ (fun hHeld => ?_)
          refine tkGo [0, 1, 2, 3, 4, 5, 6, 7, 8, 9, 10, 11, 12, 13, 14, 15, 16] ?_
          repeat (refine tkOne (v := ?_) rfl (by kernel_rfl) (by kernel_rfl) (by kernel_rfl) (fun _ _ _ h => h) (by assumption) (by rfl) ?_ ?_; rotate_left; (intro wy hSw; (try dsimp only at hSw); go_simp; (first | done | with_reducible rfl)); try simp only [Act.put, List.getElem_toArray, List.getElem_cons_zero, List.getElem_cons_succ, List.setIfInBounds_toArray, List.set_cons_zero, List.set_cons_succ])
          refine tkEnd ?_
          refine wpAnyH_done (by kernel_rfl) ?_ _
          clear hHeld
          go_wp2
          go_ret
          exact ⟨rfl, HH.out _ HBd.out, Chg.of_below HBd.out⟩
      | true =>
        obtain ⟨k, rfl, hk⟩ := Kn.has_nat hh
        have h0 : ¬ (k : Int) < 0 := by omega
        have h1 : ¬ (K.m.length : Int) ≤ k := by omega
        rw [hh] at HT
        clear hh
        refine wp_region_held_drew (S := fun w' => w'.cell? ⟨p, off + j, none⟩ = some (.int .i64 k) ∧ w'.cell? ⟨b, 0, none⟩ = some (.slice (some ⟨g, 0, none⟩) K.m.length K.m.length)) (by kernel_rfl) ⟨d0, c0⟩ (fun hHeld => ?_)
        refine tkGo [0, 1, 2, 3, 4, 5, 6, 7, 8, 9, 10, 11, 12, 13, 14, 15, 16] ?_
        repeat (refine tkOne (v := ?_) rfl (by kernel_rfl) (by kernel_rfl) (by kernel_rfl) (fun _ _ _ h => h) (by assumption) (by rfl) ?_ ?_; rotate_left; (intro wy hSw; (try dsimp only at hSw); go_simp; (first | done | with_reducible rfl)); try simp only [Act.put, List.getElem_toArray, List.getElem_cons_zero, List.getElem_cons_succ, List.setIfInBounds_toArray, List.set_cons_zero, List.set_cons_succ])
        refine tkEnd ?_
        refine wpAnyH_done (by kernel_rfl) ?_ _
        clear hHeld
        go_wp2
        go_roundw
        case rel => exact ⟨j + 1, by omega, by go_num, HT.out, HBd.out⟩
        case measure => simp [intOf]; omega
    · have hltI : ¬ (j : Int) < xs.length := by omega
      have hf : xs.all K.has = true := by
        have := HA.out
        rw [List.take_of_length_le (by omega)] at this
        exact this
      have HON := keepG (show ∀ x ∈ xs, K.has x = true by simpa using hf)
      have hq := HQ2.out
      rw [if_neg (by rw [hf]; decide)] at hq
      have HQ3 := keepG hq
      clear HQ2 hf hq HA
      go_wp2
      go_loopw [8] (fun i wq => ∃ q : Nat, q ≤ xs.length ∧ i = .int .i64 q ∧ Hid ((xs.take q).all (fun x => K.md x != 2) = true) ∧ Hid (Below w.heap.size w wq)) (fun i _ => xs.length - (intOf i).toNat)
      case atStart => exact ⟨0, by omega, rfl, rfl, HB.out⟩
      case round =>
        obtain ⟨q, hq, rfl, HA, HBq⟩ := hrel
        rename World => wq
        by_cases hqt : q < xs.length
        · have hqtI : (q : Int) < xs.length := by omega
          obtain ⟨p, off, rfl, hp, hat⟩ := (HS.out wq (Chg.of_below HBq.out)).atK hqt
          have d0 := hat q hqt
          have HD := keepG (HH.out wq HBq.out)
          obtain ⟨c0, c1⟩ := HD.out.low
          have ht := all_takeK (p := fun x => K.md x != 2) hqt
          have hmem := getD_mem xs q hqt
          obtain ⟨x, HX⟩ : ∃ x, Hid (xs.getD q 0 = x) := ⟨_, rfl⟩
          rw [HX.out] at d0 ht hmem
          rw [HA.out, Bool.true_and] at ht
          obtain ⟨k, rfl, hk⟩ := Kn.has_nat (HON.out _ hmem)
          have ck := HD.out.at hk
          rw [← Kn.md_nat] at ck
          obtain ⟨y, HY⟩ : ∃ y, Hid (K.md k = y) := ⟨_, rfl⟩
          rw [HY.out] at ck ht
          have HT := keepG ht
          have HBd := keepG (below_drG HBq.out)
          have hkI : (k : Int) < K.m.length := by omega
          clear ht hat hmem
          go_wp2
          refine wp_region_held_drew (S := fun w' => w'.cell? ⟨p, off + q, none⟩ = some (.int .i64 k) ∧ w'.cell? ⟨b, 0, none⟩ = some (.slice (some ⟨g, 0, none⟩) K.m.length K.m.length) ∧ w'.cell? ⟨g, k, none⟩ = some (.int .i64 y)) (by kernel_rfl) ⟨d0, c0, ck⟩ (fun hHeld => ?_)
          refine tkGo [0, 1, 2, 3, 4, 5, 6, 7, 8, 9, 10] ?_
          repeat (refine tkOne (v := ?_) rfl (by kernel_rfl) (by kernel_rfl) (by kernel_rfl) (fun _ _ _ h => h) (by assumption) (by rfl) ?_ ?_; rotate_left; (intro wy hSw; (try dsimp only at hSw); go_simp; (first | done | with_reducible rfl)); try simp only [Act.put, List.getElem_toArray, List.getElem_cons_zero, List.getElem_cons_succ, List.setIfInBounds_toArray, List.set_cons_zero, List.set_cons_succ])
          refine tkEnd ?_
          refine wpAnyH_done (by kernel_rfl) ?_ _
          clear hHeld
          by_cases hy : y = 2
          · subst hy
            have hf : xs.all (fun x => K.md x != 2) = false := all_noK (j := q + 1) (by rw [HT.out]; rfl)
            have hq2 := HQ3.out
            rw [if_pos hf] at hq2
            injection hq2 with e1 e2
            subst e1 e2
            clear HQ3 hf
            go_wp2
            go_ret
            exact ⟨rfl, HH.out _ HBd.out, Chg.of_below HBd.out⟩
          · have hyb : (y == 2) = false := by simpa using hy
            go_wp2
            go_roundw
            case rel => exact ⟨q + 1, by omega, by go_num, by show _ = _; rw [HT.out]; simpa using hy, HBd.out⟩
            case measure => simp [intOf]; omega
        · have hqtI : ¬ (q : Int) < xs.length := by omega
          have hf : xs.all (fun x => K.md x != 2) = true := by
            have := HA.out
            rw [List.take_of_length_le (by omega)] at this
            exact this
          have hq2 := HQ3.out
          rw [if_neg (by rw [hf]; decide)] at hq2
          injection hq2 with e1 e2
          subst e1 e2
          clear HQ3 hf HA
          go_wp2
          go_loopw [9] (fun i wz => ∃ z : Nat, z ≤ xs.length ∧ i = .int .i64 z ∧ Hid (Dk wz B b g v ⟨putM K.m md (xs.take z), K.p⟩) ∧ Hid (Chg w wz (fun k => k = g))) (fun i _ => xs.length - (intOf i).toNat)
          case atStart => exact ⟨0, by omega, rfl, HH.out _ HBq.out, Chg.of_below HBq.out⟩
          case round =>
            obtain ⟨z, hz, rfl, HD, HC⟩ := hrel
            rename World => wz
            by_cases hzt : z < xs.length
            · have hztI : (z : Int) < xs.length := by omega
              have HSZ := keepG (fun (wx : World) (hc : Chg w wx (fun k => k = g)) => (HS.out wx hc).atK hzt)
              obtain ⟨p, off, ev, hp, hat⟩ := HSZ.out wz HC.out
              subst ev
              have hpg : ¬ p = g := HAP.out (fun e => by rw [e] at hzt; simp at hzt) p rfl
              have d0 := hat z hzt
              have hT := take_at xs z hzt
              have hmem := getD_mem xs z hzt
              obtain ⟨x, HX⟩ : ∃ x, Hid (xs.getD z 0 = x) := ⟨_, rfl⟩
              rw [HX.out] at d0 hmem hT
              obtain ⟨k, rfl, hk⟩ := Kn.has_nat (HON.out _ hmem)
              have hlen := putM_len md (xs.take z) K.m
              obtain ⟨c0, c1⟩ := HD.out.low
              simp only [hlen] at c0
              have hkq : k < (putM K.m md (xs.take z)).length := by rw [hlen]; exact hk
              have ck := HD.out.at (k := k) hkq
              have fk := HD.out.mode.frozen k
              have hkI : (k : Int) < K.m.length := by omega
              have hbg := HD.out.apart
              have HD2 := keepG (HD.out.put k md)
              have HC2 := keepG (HC.out.trans (Chg.set wz g k (.int .i64 md)) (fun _ _ e => e))
              have HT : Hid (putM K.m md (xs.take (z + 1)) = (putM K.m md (xs.take z)).set k md) := by
                show _ = _
                rw [hT, putM_app]
                rfl
              have d1 : (wz.setCell ⟨g, k, none⟩ (.int .i64 md)).cell? ⟨p, off + z, none⟩ = some (.int .i64 k) := by
                obtain ⟨p', off', ev, _, hat2⟩ := HSZ.out _ HC2.out
                simp only [Option.some.injEq, Addr.mk.injEq, and_true] at ev
                obtain ⟨rfl, rfl⟩ := ev
                rw [hat2 z hzt, HX.out]
              have c2 := HD2.out.low.1
              simp only [List.length_set, hlen] at c2
              clear hat hmem hT hlen
              generalize (putM K.m md (xs.take z)).getD k 0 = y0 at ck
              go_wp2
              refine wp_region_held_drew (S := fun w' => w'.cell? ⟨p, off + z, none⟩ = some (.int .i64 k) ∧ w'.cell? ⟨b, 0, none⟩ = some (.slice (some ⟨g, 0, none⟩) K.m.length K.m.length)) (by kernel_rfl) ⟨d0, c0⟩ (fun hHeld => ?_)
              refine tkGo [0, 1, 2, 3, 4, 5, 6, 7, 8, 9] ?_
              repeat (refine tkOne (v := ?_) rfl (by kernel_rfl) (by kernel_rfl) (by kernel_rfl) (fun _ _ _ h => h) (by assumption) (by rfl) ?_ ?_; rotate_left; (intro wy hSw; (try dsimp only at hSw); go_simp; (first | done | with_reducible rfl)); try simp only [Act.put, List.getElem_toArray, List.getElem_cons_zero, List.getElem_cons_succ, List.setIfInBounds_toArray, List.set_cons_zero, List.set_cons_succ])
              refine tkEnd ?_
              refine wpAnyH_ready (rs := [10]) (by kernel_rfl) (by simp) ?_
              refine AllReadyH.cons rfl (fun KK hK => ?_) AllReadyH.nil
              rw [if_pos (by rfl)]
              go_simp
              refine hK.out _ _ ⟨d1, c2⟩ (fun hHeld => ?_)
              clear hK KK
              try simp only [Act.put, List.getElem_toArray, List.getElem_cons_zero, List.getElem_cons_succ, List.setIfInBounds_toArray, List.set_cons_zero, List.set_cons_succ]
              refine wpAnyH_done (by kernel_rfl) ?_ _
              clear hHeld
              go_wp2
              go_roundw
              case rel => exact ⟨z + 1, by omega, by go_num, by rw [HT.out]; exact HD2.out.below (below_drG (Below.refl _ _)), HC2.out.drewN 1⟩
              case measure => simp [intOf]; omega
            · have hztI : ¬ (z : Int) < xs.length := by omega
              have HD2 := HD.out
              rw [List.take_of_length_le (by omega)] at HD2
              have HD3 := keepG HD2
              clear HD2 HD
              go_wp2
              go_ret
              exact ⟨rfl, HD3.out, HC.out⟩
end
end Go.Proofs.Ytnjmajcjdkceoaa
