/-
  KE17LB
  KE17LC
-/
import Derived.Test.YtlkdniglaldilaaGreatMG0
import Derived.Test.YtlkdniglaldilaaGreatMG31
namespace Go.Proofs.YtlkdniglaldilaaGreat
open Go.RowKit
set_option linter.unusedVariables false
set_option linter.unusedSimpArgs false
set_option maxRecDepth 100000
section
variable {w w' : World} {b g : Nat} {c : Ck}
set_option maxHeartbeats 1600000 in
theorem lenter (h : Ec w b g c) (x : Int) {n E : Int} {c' : Ck} (HQ : Hid (c.enter x = (n, E, c'))) : Calls Tryz.prog 26 #[.pointer (some ⟨b, 0, none⟩), .int .i64 x] w fun e w' => e = .returned (.tuple #[.int .i64 n, .int .i64 E]) /\ Ec w' b g c' /\ Chg w w' (ftE b g) := by
 obtain ⟨c0, c1⟩ := h.low
 have HE := keepG h
 have hq := HQ.out
 unfold Ck.enter at hq
 cases hh : c.has x with
 | false =>
  rw [if_pos hh] at hq
  injection hq with e1 hq
  injection hq with e2 e3
  subst e1 e2 e3
  have HH := keepG hh
  clear h hh HQ
  go_enter Tryz.func26, Tryz.ntmps26
  go_wp2_with (go_at_call 38; go_must (refine (lhas HE.out x HH).mono ?_); rintro e w1 ⟨rfl, rfl⟩)
  go_ret2
  exact ⟨rfl, HE.out, Chg.refl _ _⟩
 | true =>
  rw [if_neg (by rw [hh]; decide)] at hq
  obtain ⟨k, rfl, hk⟩ := Ck.has_nat hh
  have ck := h.at hk
  rw [<- Ck.at_nat] at ck
  have HH := keepG hh
  have hkI : (k : Int) < c.ins.length := by omega
  have fk := h.row.frozen k
  obtain ⟨y, HY⟩ : ∃ y, Hid (c.at k = y) := ⟨_, rfl⟩
  rw [HY.out] at ck hq
  clear h hh HQ
  by_cases hy : y = 0
  ·subst hy
   rw [if_pos rfl] at hq
   injection hq with e1 hq
   injection hq with e2 e3
   subst e1 e2 e3
   have hbg := HE.out.apart
   have hgb : ¬ g = b := fun e => hbg e.symm
   go_enter Tryz.func26, Tryz.ntmps26
   go_wp2_with (go_at_call 38; go_must (refine (lhas HE.out _ HH).mono ?_); rintro e w1 ⟨rfl, rfl⟩)
   refine wp_region_held_drew (S := fun w' => w'.cell? ⟨b, 0, none⟩ = some (.int .i64 c.now) /\ w'.cell? ⟨b, 1, none⟩ = some (.slice (some ⟨g, 0, none⟩) c.ins.length c.ins.length)) (by kernel_rfl) ⟨c0, c1⟩ (fun hHeld => ?_)
   refine tkGo [0, 1, 2, 3, 4, 5, 6, 7, 8, 9] ?_
   repeat (refine tkO (v := ?_) rfl ?_ ?_; rotate_left; (intro wy hSw; (try dsimp only at hSw); go_simp; (first | done | with_reducible rfl)); try simp only [Act.put, p1q, p2q, p3q, p4q, p5q, p6q])
   refine tkEnd ?_
   refine runO 10 (by kernel_rfl) rfl (by rfl) (fun KK hK => ?_)
   go_simp
   have hE2 : Ec (w.drew.setCell ⟨g, k, none⟩ (.int .i64 c.now)) b g ⟨c.now, c.ins.set k c.now⟩ := Ec.put (w := w.drew) ⟨HE.out.hp, HE.out.row⟩ k c.now
   obtain ⟨d0, d1⟩ := hE2.low
   simp only [List.length_set] at d1
   refine hK.out _ _ ⟨d0, d1⟩ (fun hHeld => ?_)
   clear hK KK
   try simp only [Act.put, p1q, p2q, p3q, p4q, p5q, p6q]
   refine wpAnyH_done (by kernel_rfl) ?_ _
   clear hHeld
   go_wp2
   go_ret2
   refine ⟨rfl, ?_, ?_⟩
   ·exact ⟨hE2.hp, hE2.row⟩
   ·exact ((Chg.refl w (ftE b g)).drewN 1).trans (Chg.set _ g k _) (fun _ _ e => .inr e)
  ·rw [if_neg hy] at hq
   injection hq with e1 hq
   injection hq with e2 e3
   subst e1 e2 e3
   have hyb : (y != 0) = true := by simpa using hy
   clear HY
   go_enter Tryz.func26, Tryz.ntmps26
   go_wp2_with (go_at_call 38; go_must (refine (lhas HE.out _ HH).mono ?_); rintro e w1 ⟨rfl, rfl⟩)
   go_ret2
   exact ⟨rfl, HE.out, Chg.refl _ _⟩
set_option maxHeartbeats 1600000 in
theorem lsafe (h : Ec w b g c) (hk : c.ins.length <= 4) (t : Int) {r : Bool} (HR : Hid (c.safe t = r)) : Calls Tryz.prog 22 #[.pointer (some ⟨b, 0, none⟩), .int .i64 t] w fun e w' => e = .returned (.bool r) /\ w = w' := by
 obtain ⟨c0, c1⟩ := h.low
 have HE := keepG h
 clear h
 go_enter Tryz.func22, Tryz.ntmps22
 go_wp2
 go_loopw [12] (fun i wr => ∃ j : Nat, j <= c.ins.length /\ i = .int .i64 j /\ Hid ((c.ins.take j).all (safeB t) = true) /\ w = wr) (fun i _ => c.ins.length - (intOf i).toNat)
 case atStart => exact ⟨0, by omega, rfl, rfl, rfl⟩
 case round =>
  obtain ⟨j, hj, rfl, HA, rfl⟩ := hrel
  by_cases hlt : j < c.ins.length
  ·have hltI : (j : Int) < c.ins.length := by omega
   have ck := HE.out.at hlt
   have ht := all_take_g (p := safeB t) hlt
   obtain ⟨y, HY⟩ : ∃ y, Hid (c.ins.getD j 0 = y) := ⟨_, rfl⟩
   rw [HY.out] at ck ht
   rw [HA.out, Bool.true_and] at ht
   have HT := keepG ht
   clear ht
   by_cases hy : y = 0
   ·subst hy
    clear HR
    go_wp2
    go_roundw
    case rel => exact ⟨j + 1, by omega, by go_num, by show _ = _; rw [HT.out]; rfl, by first | rfl | trivial⟩
    case measure => simp [intOf]; omega
   ·have hyb : (y != 0) = true := by simpa using hy
    by_cases hyt : y < t
    ·have hrf : r = false := by
      rw [<- HR.out]
      refine all_no (j := j + 1) ?_
      rw [HT.out]
      simp [safeB, hy, hyt]
     subst hrf
     clear HR HY
     go_wp2
     go_ret
     exact ⟨rfl, rfl⟩
    ·clear HR HY
     go_wp2
     go_roundw
     case rel => exact ⟨j + 1, by omega, by go_num, by show _ = _; rw [HT.out]; simp [safeB]; omega, by first | rfl | trivial⟩
     case measure => simp [intOf]; omega
  ·have hltI : ¬ (j : Int) < c.ins.length := by omega
   have hrt : r = true := by
    rw [<- HR.out]
    have := HA.out
    rw [List.take_of_length_le (by omega)] at this
    exact this
   subst hrt
   clear HR
   go_wp2
   go_ret
   exact ⟨rfl, rfl⟩
end
theorem Sees.chgY {k : IntKind} {w w' : World} {v : Value} {xs : List Int} {S : Nat -> Prop} (h : Sees k w v xs) (hc : Chg w w' S) (hS : xs ≠ [] -> ∀ j, v.ownBlock = some j -> ¬ S j) : Sees k w' v xs := by
 obtain ⟨a, cap, rfl, h1, h2, h3, h4, h5⟩ := h
 refine ⟨a, cap, rfl, h1, h2, h3, h4, fun hne => ?_⟩
 obtain ⟨b, off, rfl, hlt, hat⟩ := h5 hne
 refine ⟨b, off, rfl, Nat.lt_of_lt_of_le hlt hc.size, fun i hi => ?_⟩
 rw [<- hat i hi]
 exact World.cell?_of_block (hc.block b hlt (hS hne b rfl))
def seenL (ws : List Int) : List Bool := [decide ((0 : Int) ∈ ws), decide ((1 : Int) ∈ ws), decide ((2 : Int) ∈ ws), decide ((3 : Int) ∈ ws)]
abbrev bC (xs : List Bool) : List Value := xs.map Value.bool
theorem seen_at (ws : List Int) {k : Nat} (hk : k < 4) : (bC (seenL ws))[k]? = some (.bool (decide ((k : Int) ∈ ws))) := by
 have : k = 0 ∨ k = 1 ∨ k = 2 ∨ k = 3 := by omega
 rcases this with rfl | rfl | rfl | rfl <;> rfl
theorem seen_more (ws : List Int) {k : Nat} (hk : k < 4) : (bC (seenL ws)).set k (.bool true) = bC (seenL (ws ++ [(k : Int)])) := by
 have : k = 0 ∨ k = 1 ∨ k = 2 ∨ k = 3 := by omega
 rcases this with rfl | rfl | rfl | rfl <;> simp [seenL, bC]
section
variable {w w' : World} {b g : Nat} {c : Ck}
set_option maxHeartbeats 3200000 in
theorem lonce (h : Ec w b g c) (hk : c.Ok) {v : Value} {ws : List Int} (hs : Sees .i64 w v ws) {r : Bool} (HR : Hid (c.once ws = r)) : Calls Tryz.prog 39 #[.pointer (some ⟨b, 0, none⟩), v] w fun e w' => e = .returned (.bool r) /\ Below w.heap.size w w' := by
 have HE := keepG h
 have hl4 := hk.len.2
 have HS := keepG hs
 obtain ⟨a, cap, rfl, hlc, hmx, _⟩ := hs
 unfold maxLen at hmx
 obtain ⟨W1, HW1, HP1, HB1⟩ : ∃ W1, Hid (w.alloc (.cells #[.bool false, .bool false, .bool false, .bool false] 100) = W1) /\ Hid (Hp W1 w.heap.size 100 (bC (seenL []))) /\ Hid (Below w.heap.size w W1) := ⟨_, rfl, Hp.new w _ _, below_allocG _ _⟩
 clear h
 go_enter Tryz.func39, Tryz.ntmps39
 go_wp2_with (rw [HW1.out])
 go_loopw [10] (fun i wr => ∃ j : Nat, j <= ws.length /\ i = .int .i64 j /\ Hid (c.once (ws.take j) = true) /\ Hid (Hp wr w.heap.size 100 (bC (seenL (ws.take j)))) /\ Hid (Below w.heap.size w wr)) (fun i _ => ws.length - (intOf i).toNat)
 case atStart => exact ⟨0, by omega, rfl, rfl, HP1.out, HB1.out⟩
 case round =>
  obtain ⟨j, hj, rfl, HA, HP, HB⟩ := hrel
  rename World => wr
  by_cases hlt : j < ws.length
  ·have hltI : (j : Int) < ws.length := by omega
   obtain ⟨a', c', ev, _, _, _, _, hcell⟩ := HS.out
   simp only [Value.slice.injEq, true_and] at ev
   obtain ⟨rfl, rfl⟩ := ev
   obtain ⟨p, off, rfl, hp, hat⟩ := hcell (fun e => by rw [e] at hlt; simp at hlt)
   have d0 := (HB.out.cell (p := ⟨p, off + j, none⟩) hp).trans (hat j hlt)
   clear hat hcell
   have ht := c.once_take hlt
   have hT := take_at ws j hlt
   obtain ⟨x, HX⟩ : ∃ x, Hid (ws.getD j 0 = x) := ⟨_, rfl⟩
   rw [HX.out] at d0 ht hT
   rw [HA.out, Bool.true_and] at ht
   have HT := keepG ht
   have HTT := keepG hT
   clear ht hT
   have HEr := keepG (HE.out.below HB.out)
   have hzr := HB.out.size
   cases hh : c.has x with
   | false =>
    have hrf : r = false := by
     rw [<- HR.out]
     refine Ck.once_no (j := j + 1) ?_
     rw [HT.out, hh]
     rfl
    subst hrf
    have HH := keepG hh
    clear hh HR
    go_wp2_with (go_at_call 38; go_must (refine (lhas HEr.out x HH).mono ?_); rintro e w1 ⟨rfl, rfl⟩)
    go_ret
    exact ⟨rfl, HB.out⟩
   | true =>
    have HH := keepG hh
    obtain ⟨k, rfl, hk2⟩ := Ck.has_nat hh
    have hk4 : k < 4 := by omega
    have hk4I : (k : Int) < 4 := by omega
    have e0 := HP.out.cell (seen_at (ws.take j) hk4)
    have fk := HP.out.frozen k
    cases hm : decide ((k : Int) ∈ ws.take j) with
    | true =>
     rw [hm] at e0
     have hrf : r = false := by
      rw [<- HR.out]
      refine Ck.once_no (j := j + 1) ?_
      rw [HT.out, hm]
      simp
     subst hrf
     clear hh HR hm
     go_wp2_with (go_at_call 38; go_must (refine (lhas HEr.out _ HH).mono ?_); rintro e w1 ⟨rfl, rfl⟩)
     go_ret
     exact ⟨rfl, HB.out⟩
    | false =>
     rw [hm] at e0
     have HT2 : Hid (c.once (ws.take (j + 1)) = true) := by
      show _ = _
      rw [HT.out, hm, hh]
      rfl
     have HP2 := keepG (HP.out.set k (.bool true))
     rw [seen_more _ hk4, <- HTT.out] at HP2
     have HB2 := keepG (HB.out.trans ((grown_to_below (grown_set wr w.heap.size k (.bool true)) (Nat.le_refl _) hzr)))
     clear hh HR hm
     go_wp2_with (go_at_call 38; go_must (refine (lhas HEr.out _ HH).mono ?_); rintro e w1 ⟨rfl, rfl⟩)
     go_roundw
     case rel => exact ⟨j + 1, by omega, by go_num, HT2.out, HP2.out, HB2.out⟩
     case measure => simp [intOf]; omega
  ·have hltI : ¬ (j : Int) < ws.length := by omega
   have hrt : r = true := by
    rw [<- HR.out]
    have := HA.out
    rw [List.take_of_length_le (by omega)] at this
    exact this
   subst hrt
   clear HR
   go_wp2
   go_ret
   exact ⟨rfl, HB.out⟩
set_option maxHeartbeats 6400000 in
theorem lleave (h : Ec w b g c) (hk : c.Ok) {v : Value} {ws : List Int} (hs : Sees .i64 w v ws) (hap : ws ≠ [] -> Apt (ftE b g) (ftV v)) {E : Int} {c' : Ck} (HQ : Hid (c.leave ws = (E, c'))) : Calls Tryz.prog 16 #[.pointer (some ⟨b, 0, none⟩), v] w fun e w' => e = .returned (.int .i64 E) /\ Ec w' b g c' /\ Chg w w' (ftE b g) := by
 have HE := keepG h
 have hl4 := hk.len.2
 have HS := keepG hs
 have hlies := h.lies
 obtain ⟨a, cap, rfl, hlc, hmx, _⟩ := hs
 unfold maxLen at hmx
 have hq := HQ.out
 unfold Ck.leave at hq
 clear h HQ
 cases ho : c.once ws with
 | false =>
  rw [if_pos ho] at hq
  injection hq with e1 e2
  subst e1 e2
  have HO := keepG ho
  clear ho
  go_enter Tryz.func16, Tryz.ntmps16
  go_wp2_with (go_at_call 39; go_must (refine (lonce HE.out hk HS.out HO).mono ?_); rintro e w1 ⟨rfl, hb1⟩; go_must (have HB1 := keepG hb1; clear hb1))
  go_ret
  exact ⟨rfl, HE.out.below HB1.out, Chg.of_below HB1.out⟩
 | true =>
  rw [if_neg (by rw [ho]; decide)] at hq
  have HON := keepG (Ck.once_parts ho).2
  have HO := keepG ho
  have HQ := keepG hq
  clear ho hq
  go_enter Tryz.func16, Tryz.ntmps16
  go_wp2_with (go_at_call 39; go_must (refine (lonce HE.out hk HS.out HO).mono ?_); rintro e w1 ⟨rfl, hb1⟩; go_must (have HB1 := keepG hb1; have HE1 := keepG (HE.out.below hb1); have HS1 := keepG (HS.out.below hb1 (Nat.le_refl _)); clear hb1))
  obtain ⟨p0, p1⟩ := HE1.out.low
  go_loopw [15] (fun i wr => ∃ j : Nat, j <= ws.length /\ i = .int .i64 j /\ Hid ((ws.take j).all (fun x => decide (c.at x ≠ 0)) = true) /\ w1 = wr) (fun i _ => ws.length - (intOf i).toNat)
  case atStart => exact ⟨0, by omega, rfl, rfl, rfl⟩
  case round =>
   obtain ⟨j, hj, rfl, HA, rfl⟩ := hrel
   by_cases hlt : j < ws.length
   ·have hltI : (j : Int) < ws.length := by omega
    obtain ⟨a', c', ev, _, _, _, _, hcell⟩ := HS1.out
    simp only [Value.slice.injEq, true_and] at ev
    obtain ⟨rfl, rfl⟩ := ev
    obtain ⟨p, off, rfl, hp, hat⟩ := hcell (fun e => by rw [e] at hlt; simp at hlt)
    have d0 := hat j hlt
    clear hat hcell
    have ht := all_take_g (p := fun x => decide (c.at x ≠ 0)) hlt
    have hmem := getD_mem ws j hlt
    obtain ⟨x, HX⟩ : ∃ x, Hid (ws.getD j 0 = x) := ⟨_, rfl⟩
    rw [HX.out] at d0 ht hmem
    rw [HA.out, Bool.true_and] at ht
    have HT := keepG ht
    obtain ⟨k, rfl, hk2⟩ := Ck.has_nat (HON.out _ hmem)
    have hk2I : (k : Int) < c.ins.length := by omega
    have ck := HE1.out.at hk2
    rw [<- Ck.at_nat] at ck
    obtain ⟨y, HY⟩ : ∃ y, Hid (c.at k = y) := ⟨_, rfl⟩
    rw [HY.out] at ck HT
    clear ht hmem
    by_cases hy : y = 0
    ·subst hy
     have hf : ws.all (fun x => decide (c.at x ≠ 0)) = false := all_no (j := j + 1) (by rw [HT.out]; rfl)
     have hq := HQ.out
     rw [if_pos hf] at hq
     injection hq with e1 e2
     subst e1 e2
     clear HQ hf
     go_wp2
     go_ret
     exact ⟨rfl, HE1.out, Chg.of_below HB1.out⟩
    ·have hyb : (y == 0) = false := by simpa using hy
     go_wp2
     go_roundw
     case rel => exact ⟨j + 1, by omega, by go_num, by show _ = _; rw [HT.out]; simpa using hy, by first | rfl | trivial⟩
     case measure => simp [intOf]; omega
   ·have hltI : ¬ (j : Int) < ws.length := by omega
    have hf : ws.all (fun x => decide (c.at x ≠ 0)) = true := by
     have := HA.out
     rw [List.take_of_length_le (by omega)] at this
     exact this
    have hq := HQ.out
    rw [if_neg (by rw [hf]; decide)] at hq
    injection hq with e1 e2
    subst e1 e2
    clear HQ hf HA
    go_wp2
    go_loopw [30] (fun i wr => ∃ q : Nat, q <= ws.length /\ i = .int .i64 q /\ Hid (Ec wr b g ⟨c.now, clr c.ins (ws.take q)⟩) /\ Hid (Chg w wr (ftE b g))) (fun i _ => ws.length - (intOf i).toNat)
    case atStart => exact ⟨0, by omega, rfl, HE1.out, Chg.of_below HB1.out⟩
    case round =>
     obtain ⟨q, hq, rfl, HEq, HCq⟩ := hrel
     rename World => wr
     by_cases hqt : q < ws.length
     ·have hqtI : (q : Int) < ws.length := by omega
      obtain ⟨a', c', ev, _, _, _, _, hcell⟩ := HS.out.chgY HCq.out (fun hne j hj e => hap hne j e hj)
      simp only [Value.slice.injEq, true_and] at ev
      obtain ⟨rfl, rfl⟩ := ev
      obtain ⟨p, off, rfl, hp, hat⟩ := hcell (fun e => by rw [e] at hqt; simp at hqt)
      have d0 := hat q hqt
      clear hat hcell
      have hT := take_at ws q hqt
      have hmem := getD_mem ws q hqt
      obtain ⟨x, HX⟩ : ∃ x, Hid (ws.getD q 0 = x) := ⟨_, rfl⟩
      rw [HX.out] at d0 hmem hT
      obtain ⟨k, rfl, hk2⟩ := Ck.has_nat (HON.out _ hmem)
      have hlen := clr_len (ws.take q) c.ins
      obtain ⟨q0, q1⟩ := HEq.out.low
      simp only [hlen] at q1
      have ck := HEq.out.at (k := k) (by simp only [hlen]; exact hk2)
      have fk := HEq.out.row.frozen k
      have hk2I : (k : Int) < c.ins.length := by omega
      have HE2 := keepG (HEq.out.put k 0)
      have HC2 := keepG (HCq.out.trans (Chg.set wr g k (.int .i64 0)) (fun _ _ e => .inr e))
      have HT : Hid (clr c.ins (ws.take (q + 1)) = (clr c.ins (ws.take q)).set k 0) := by
       show _ = _
       rw [hT, clr_app]
       rfl
      clear hmem hT hlen
      obtain ⟨y, HY⟩ : ∃ y, Hid ((clr c.ins (ws.take q)).getD k 0 = y) := ⟨_, rfl⟩
      simp only [HY.out] at ck
      go_wp2
      go_roundw
      case rel => exact ⟨q + 1, by omega, by go_num, by rw [HT.out]; exact HE2.out, HC2.out⟩
      case measure => simp [intOf]; omega
     ·have hqtI : ¬ (q : Int) < ws.length := by omega
      have HE2 := HEq.out
      rw [List.take_of_length_le (by omega)] at HE2
      have HE3 := keepG HE2
      clear HE2 HEq
      go_wp2
      go_ret
      exact ⟨rfl, HE3.out, HCq.out⟩
end
end Go.Proofs.YtlkdniglaldilaaGreat
