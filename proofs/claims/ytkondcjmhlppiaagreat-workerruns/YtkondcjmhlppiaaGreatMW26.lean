/-
  F7LFind
  F7LCheck
  F7LRest
-/
import Derived.Test.YtkondcjmhlppiaaGreatMW25
import Derived.Test.YtkondcjmhlppiaaGreatMW22
import Derived.Lib.MinMax
namespace Go.Proofs.YtkondcjmhlppiaaGreat
open Go.RowKit
set_option linter.unusedVariables false
set_option maxRecDepth 20000
def optI : Option Int -> Value
 | some t => .tuple #[.int .i64 t, .bool true]
 | none => .tuple #[.int .i64 0, .bool false]
theorem any_step {ls : List Lp} {f : Lp -> Bool} {j : Nat} (h : j < ls.length) : (ls.take (j + 1)).any f = ((ls.take j).any f || f (ls.getD j Lp.nil)) := by
 rw [List.take_succ_eq_append_getElem h, List.any_append]
 simp [List.getD, h]
theorem drop_at {ls : List Lp} {n : Nat} (h : n < ls.length) : ls.drop n = ls.getD n Lp.nil :: ls.drop (n + 1) := by
 rw [List.drop_eq_getElem_cons h]; simp [List.getD, h]
theorem take_at' {ls : List Lp} {n : Nat} (h : n < ls.length) : ls.take (n + 1) = ls.take n ++ [ls.getD n Lp.nil] := by
 rw [List.take_succ_eq_append_getElem h]; simp [List.getD, h]
set_option maxHeartbeats 1600000 in
theorem crossing_some (b off cap : Nat) (ls : List Lp) (w : World) (hn : ls.length <= 64) (hc : ls.length <= cap) (hm : cap <= 9223372036854775807) (hb : b < w.heap.size) (hat : ∀ k, k < ls.length -> AtL w b (off + k * 3) (ls.getD k Lp.nil)) :
  Calls Tryz.prog 48 #[.slice (some ⟨b, off, none⟩) ls.length cap] w fun e w' => e = .returned (optI (crossF [] ls)) /\ Below w.heap.size w w' := by
 have HA : Hid (∀ k, k < ls.length -> AtL w b (off + k * 3) (ls.getD k Lp.nil)) := hat
 clear hat
 obtain ⟨R, HR⟩ : ∃ R, Hid (R = crossF [] ls) := ⟨_, rfl⟩
 rw [<- HR.out]
 go_enter Tryz.func48, Tryz.ntmps48
 go_wp2
 go_loopw [10] (fun i wr => ∃ n : Nat, n <= ls.length /\ i = .int .i64 n /\ Hid (R = crossF (ls.take n) (ls.drop n)) /\ Below w.heap.size w wr) (fun i _ => ls.length - (intOf i).toNat)
 case atStart => exact ⟨0, by omega, rfl, HR, Below.refl _ _⟩
 case round =>
  rename World => w0
  obtain ⟨n, hnl, rfl, HN, hbe⟩ := hrel
  have hsz := hbe.size
  by_cases hlt : n < ls.length
  ·obtain ⟨⟨lh, lt, lb⟩, HL⟩ : ∃ l, Hid (ls.getD n Lp.nil = l) := ⟨_, rfl⟩
   have hcell := (HA.out n hlt).below hbe hb
   rw [HL.out] at hcell
   obtain ⟨c0, c1, c2⟩ := hcell
   simp only at c0 c1 c2
   have hbr : b < w0.heap.size := by omega
   have hcut : ∀ w' : World, (Instr.slice 102 (.slice (some ⟨b, off, none⟩) ls.length cap) none (some (.int .i64 n)) none).run Tryz.prog w' = .ok (.slice (some ⟨b, off, none⟩) n cap) w' := fun w' => by rw [run_uptoL _ _ _ _ (by omega) w', cutL_zero]
   have HX : Hid (R = if (ls.take n).any (fun e => entersB e lt lh) then some lt else crossF (ls.take (n + 1)) (ls.drop (n + 1))) := by
    show _ = _
    rw [HN.out, drop_at hlt, crossF, HL.out, take_at' hlt, HL.out]
   go_wp2
   go_loopw [19] (fun i wr => ∃ j : Nat, j <= n /\ i = .int .i64 j /\ Hid ((ls.take j).any (fun e => entersB e lt lh) = false) /\ Below w.heap.size w wr /\ w0.heap.size < wr.heap.size /\ (wr.cell? ⟨w0.heap.size, 0, none⟩ = some (.int .i64 lh) /\ wr.cell? ⟨w0.heap.size, 1, none⟩ = some (.int .i64 lt) /\ wr.cell? ⟨w0.heap.size, 2, none⟩ = some (.int .i64 lb))) (fun i _ => n - (intOf i).toNat)
   case atStart => exact ⟨0, by omega, rfl, rfl, hbe.alloc (by omega) _, by simp, by go_cell, by go_cell, by go_cell⟩
   case round =>
    clear c0 c1 c2
    obtain ⟨j, hj, rfl, HJ, hbq, hzq, c0, c1, c2⟩ := hrel
    have hsq := hbq.size
    have hbq' : b < wr.heap.size := by omega
    by_cases hjn : j < n
    ·obtain ⟨⟨eh, et, eb⟩, HE⟩ : ∃ l, Hid (ls.getD j Lp.nil = l) := ⟨_, rfl⟩
     have hcell := (HA.out j (by omega)).below hbq hb
     rw [HE.out] at hcell
     obtain ⟨d0, d1, d2⟩ := hcell
     simp only at d0 d1 d2
     obtain ⟨r, Hr⟩ : ∃ r, Hid (r = entersB ⟨eh, et, eb⟩ lt lh) := ⟨_, rfl⟩
     have HS : Hid ((ls.take (j + 1)).any (fun e => entersB e lt lh) = r) := by
      show _ = _
      rw [any_step (by omega), HJ.out, HE.out, Hr.out, Bool.false_or]
     go_wp2_with (go_at_call 77; go_must (refine (enters_as Hr _).mono ?_); rintro e w1 ⟨rfl, hb1⟩; go_must (have hB := box_below hb1; have hzz := box_size hb1; obtain ⟨g0, g1, g2⟩ := cells_next ⟨c0, c1, c2⟩ hB hzq; replace hB := hbq.trans (hB.mono hsq); clear hb1 c0 c1 c2 d0 d1 d2))
     ·have HF : Hid (R = some lt) := by
       show _ = _
       rw [HX.out, if_pos]
       rw [<- List.take_append_drop (j + 1) (ls.take n), List.any_append, List.take_take, Nat.min_eq_left (by omega), HS.out]
       simp_all
      go_ret2
      exact ⟨by rw [HF.out]; rfl, hB⟩
     ·go_roundw
      case rel => exact ⟨j + 1, by omega, by go_num, by show _ = _; rw [HS.out]; simp_all, hB, by omega, g0, g1, g2⟩
      case measure => simp [intOf]; omega
    ·obtain rfl : j = n := by omega
     go_wp2
     go_roundw
     case rel => exact ⟨j + 1, by omega, by go_num, by show _ = _; rw [HX.out, if_neg (by rw [HJ.out]; simp)], hbq⟩
     case measure => simp [intOf]; omega
  ·obtain rfl : n = ls.length := by omega
   have HF : Hid (R = none) := by show _ = _; rw [HN.out, List.drop_length]; rfl
   go_wp2
   go_ret2
   exact ⟨by rw [HF.out]; rfl, hbe⟩
theorem crossing_none (a : Option Addr) (cap : Nat) (w : World) : Calls Tryz.prog 48 #[.slice a 0 cap] w fun e w' => e = .returned (optI none) /\ w = w' := by
 go_enter Tryz.func48, Tryz.ntmps48
 go_wp2
 go_loopw [10] (fun i wr => i = .int .i64 0 /\ w = wr) (fun i _ => 0)
 case atStart => exact ⟨rfl, rfl⟩
 case round =>
  obtain ⟨rfl, rfl⟩ := hrel
  go_wp2
  go_ret2
  exact ⟨rfl, rfl⟩
theorem crossing_any (v : Value) (ls : List Lp) (w : World) (hn : ls.length <= 64) (h : SeesL w v ls) {R : Option Int} (hR : Hid (R = crossF [] ls)) : Calls Tryz.prog 48 #[v] w fun e w' => e = .returned (optI R) /\ Below w.heap.size w w' := by
 rw [hR.out]
 obtain ⟨a, cap, rfl, hl, hm, hn0, hs⟩ := h
 cases ls with
 | nil => exact (crossing_none a cap w).mono fun e w' ⟨he, hw⟩ => ⟨he, hw ▸ Below.refl _ _⟩
 | cons x ls =>
  obtain ⟨b, off, rfl, hb, hat⟩ := hs (by simp)
  exact crossing_some b off cap (x :: ls) w hn hl (by unfold maxLen at hm; omega) hb hat
def optN : Option Nat -> Option Int
 | some k => some (k : Int)
 | none => none
set_option maxHeartbeats 1600000 in
theorem intruder_any (v u : Value) (xs : List In) (ls : List Lp) (w : World) (hs : SeesI w v xs) (hl : SeesL w u ls) (hx : xs.length <= 64) (hln : ls.length <= 64) {R : Option Int} (hR : Hid (R = optN (first (intrB xs ls) xs.length))) :
  Calls Tryz.prog 49 #[v, u] w fun e w' => e = .returned (optI R) /\ Below w.heap.size w w' := by
 obtain ⟨a, cap, rfl, hc, hm, hn0, hcell⟩ := hs
 have HC : Hid (xs ≠ [] -> ∃ b off, a = some ⟨b, off, none⟩ /\ b < w.heap.size /\ ∀ k, k < xs.length -> At w b (off + k * 5) (xs.getD k In.nil)) := hcell
 obtain ⟨a2, cap2, rfl, hc2, hm2, hn2, hcell2⟩ := hl
 have HC2 : Hid (ls ≠ [] -> ∃ b off, a2 = some ⟨b, off, none⟩ /\ b < w.heap.size /\ ∀ k, k < ls.length -> AtL w b (off + k * 3) (ls.getD k Lp.nil)) := hcell2
 clear hcell hcell2 hn0 hn2
 go_enter Tryz.func49, Tryz.ntmps49
 go_wp2
 go_loopw [15] (fun i wr => ∃ k : Nat, k <= xs.length /\ i = .int .i64 k /\ Hid (∀ j, j < k -> intrB xs ls j = false) /\ Below w.heap.size w wr) (fun i _ => xs.length - (intOf i).toNat)
 case atStart => exact ⟨0, by omega, rfl, fun j hj => by omega, Below.refl _ _⟩
 case round =>
  rename World => w0
  obtain ⟨k, hk, rfl, HK, hbe⟩ := hrel
  have hsz := hbe.size
  by_cases hlt : k < xs.length
  ·obtain ⟨b, off, rfl, hb, hat⟩ := HC.out (fun h => by rw [h] at hlt; simp at hlt)
   obtain ⟨c0, c1, c2, c3, c4⟩ := (hat k hlt).below hbe hb
   have hbr : b < w0.heap.size := by omega
   clear hat
   obtain ⟨⟨op, d, a, bb, imm⟩, HI⟩ : ∃ i, Hid (nth xs k = i) := ⟨_, rfl⟩
   have HI2 : xs.getD k In.nil = ⟨op, d, a, bb, imm⟩ := HI.out
   rw [HI2] at c0 c1 c2 c3 c4
   clear HI2
   simp only at c0 c1 c2 c3 c4
   obtain ⟨f, HF⟩ : ∃ f, Hid (f = (nth xs k).far) := ⟨_, rfl⟩
   obtain ⟨l, HL⟩ : ∃ l, Hid (l = (nth xs k).leads) := ⟨_, rfl⟩
   obtain ⟨o, HO⟩ : ∃ o, Hid (o = (nth xs k).on) := ⟨_, rfl⟩
   have hfb := far_bd (nth xs k)
   rw [<- HF.out] at hfb
   have HX : Hid (intrB xs ls k = (l && ls.any (fun e => entersB e k (k + f)))) := by show _ = _; rw [HF.out, HL.out]; rfl
   go_wp2_with (go_at_call 58; go_must (refine (goes_one HI HF HL HO _).mono ?_); rintro e w1 ⟨rfl, hb1⟩; go_must (have hbe1 : Below w.heap.size w w1 := hbe.trans ((box_below hb1).mono hsz); have hsz1 := hbe1.size; clear hb1))
   go_loopw [28] (fun i wr => ∃ j : Nat, j <= ls.length /\ i = .int .i64 j /\ Hid ((l && (ls.take j).any (fun e => entersB e k (k + f))) = false) /\ Below w.heap.size w wr) (fun i _ => ls.length - (intOf i).toNat)
   case atStart => exact ⟨0, by omega, rfl, by show _ = _; simp, hbe1⟩
   case round =>
    obtain ⟨j, hj, rfl, HJ, hbq⟩ := hrel
    have hsq := hbq.size
    by_cases hjn : j < ls.length
    ·obtain ⟨b2, off2, rfl, hb2, hat2⟩ := HC2.out (fun h => by rw [h] at hjn; simp at hjn)
     obtain ⟨⟨eh, et, eb⟩, HE⟩ : ∃ l, Hid (ls.getD j Lp.nil = l) := ⟨_, rfl⟩
     have hcell := (hat2 j hjn).below hbq hb2
     rw [HE.out] at hcell
     obtain ⟨d0, d1, d2⟩ := hcell
     simp only at d0 d1 d2
     have hbq2 : b2 < wr.heap.size := by omega
     clear hat2
     obtain ⟨r, Hr⟩ : ∃ r, Hid (r = entersB ⟨eh, et, eb⟩ k (k + f)) := ⟨_, rfl⟩
     have HS : Hid ((l && (ls.take (j + 1)).any (fun e => entersB e k (k + f))) = (l && r)) := by
      show _ = _
      have hj0 := HJ.out
      rw [any_step hjn, HE.out, <- Hr.out]
      cases l
      ·rfl
      ·rw [Bool.true_and] at hj0; rw [hj0, Bool.false_or]
     cases l
     ·go_wp2
      go_roundw
      case rel => exact ⟨j + 1, by omega, by go_num, by show _ = _; rfl, hbq.alloc (by omega) _⟩
      case measure => simp [intOf]; omega
     ·go_wp2_with (go_at_call 77; go_must (refine (enters_as Hr _).mono ?_); rintro e w2 ⟨rfl, hb3⟩; go_must (have hB := hbq.trans ((box_below hb3).mono hsq); clear hb3))
      ·have HF2 : Hid (R = some (k : Int)) := by
        show _ = _
        rw [hR.out, first_some HK.out hlt, optN]
        rw [HX.out, <- List.take_append_drop (j + 1) ls, List.any_append, Bool.true_and]
        have := HS.out
        simp_all
       go_ret2
       exact ⟨by rw [HF2.out]; rfl, hB⟩
      ·go_roundw
       case rel => exact ⟨j + 1, by omega, by go_num, by show _ = _; rw [HS.out]; simp_all, hB⟩
       case measure => simp [intOf]; omega
    ·obtain rfl : j = ls.length := by omega
     go_wp2
     go_roundw
     case rel => exact ⟨k + 1, by omega, by go_num, fun i hi => by
      by_cases e : i = k
      ·rw [e, HX.out]; have := HJ.out; rwa [List.take_length] at this
      ·exact HK.out i (by omega), hbq⟩
     case measure => simp [intOf]; omega
  ·obtain rfl : k = xs.length := by omega
   have HF : Hid (R = none) := by show _ = _; rw [hR.out, first_none HK.out]; rfl
   go_wp2
   go_ret2
   exact ⟨by rw [HF.out]; rfl, hbe⟩
theorem timesC_step {p : Int} : ∀ (ls : List Lp) (j : Nat) (t : Int), j < ls.length -> timesC p (ls.take (j + 1)) t = if inLpB (ls.getD j Lp.nil) p then min (timesC p (ls.take j) t * ((ls.getD j Lp.nil).b + 1)) 257 else timesC p (ls.take j) t
 | [], j, t, h => by simp at h
 | l :: r, 0, t, h => by simp [timesC]
 | l :: r, j + 1, t, h => by
  have := timesC_step (p := p) r j (if inLpB l p then min (t * (l.b + 1)) 257 else t) (by simpa using h)
  simp only [List.take_succ_cons, timesC, List.getD_cons_succ]
  exact this
theorem timesC_bd {p : Int} {ls : List Lp} (h : Bnd ls) : 1 <= timesC p ls 1 /\ timesC p ls 1 <= 257 := by
 have h1 := timesC_eq (p := p) h
 have h2 := timesT_ge (p := p) h (show (1 : Int) <= 1 by omega)
 omega
theorem Bnd.take {ls : List Lp} (h : Bnd ls) (j : Nat) : Bnd (ls.take j) := fun l hl => h l (List.mem_of_mem_take hl)
theorem Bnd.get {ls : List Lp} (h : Bnd ls) {j : Nat} (hj : j < ls.length) : 1 <= (ls.getD j Lp.nil).b /\ (ls.getD j Lp.nil).b <= 255 := by
 have e : ls.getD j Lp.nil = ls[j] := by simp [hj]
 rw [e]; exact h _ (List.getElem_mem hj)
set_option maxHeartbeats 1600000 in
theorem cost_any (v u : Value) (xs : List In) (ls : List Lp) (w : World) (hs : SeesI w v xs) (hl : SeesL w u ls) (hx : xs.length <= 64) (hln : ls.length <= 64) (hB : Bnd ls) {R : Int} (hR : Hid (R = costC ls xs.length)) :
  Calls Tryz.prog 50 #[v, u] w fun e w' => e = .returned (.int .i64 R) /\ Below w.heap.size w w' := by
 obtain ⟨a, cap, rfl, hc, hm, hn0, hcell⟩ := hs
 obtain ⟨a2, cap2, rfl, hc2, hm2, hn2, hcell2⟩ := hl
 have HC2 : Hid (ls ≠ [] -> ∃ b off, a2 = some ⟨b, off, none⟩ /\ b < w.heap.size /\ ∀ k, k < ls.length -> AtL w b (off + k * 3) (ls.getD k Lp.nil)) := hcell2
 have HB : Hid (Bnd ls) := hB
 clear hcell hcell2 hn0 hn2 hB
 go_enter Tryz.func50, Tryz.ntmps50
 go_wp2
 go_loopw [12, 5] (fun i s wr => ∃ (k : Nat) (S : Int), k <= xs.length /\ i = .int .i64 k /\ s = .int .i64 S /\ Hid (S = costC ls k) /\ 0 <= S /\ S <= 257 * k /\ Below w.heap.size w wr) (fun i _ _ => xs.length - (intOf i).toNat)
 case atStart => exact ⟨0, 0, by omega, rfl, rfl, rfl, by omega, by omega, Below.refl _ _⟩
 case round =>
  rename World => w0
  obtain ⟨k, S, hk, rfl, rfl, HS, hS0, hS1, hbe⟩ := hrel
  have hsz := hbe.size
  by_cases hlt : k < xs.length
  ·go_wp2
   go_loopw [17, 7] (fun i s wr => ∃ (j : Nat) (t : Int), j <= ls.length /\ i = .int .i64 j /\ s = .int .i64 t /\ Hid (t = timesC k (ls.take j) 1) /\ 1 <= t /\ t <= 257 /\ Below w.heap.size w wr) (fun i _ _ => ls.length - (intOf i).toNat)
   case atStart => exact ⟨0, 1, by omega, rfl, rfl, rfl, by omega, by omega, hbe⟩
   case round =>
    obtain ⟨j, t, hj, rfl, rfl, HT, ht0, ht1, hbq⟩ := hrel
    have hsq := hbq.size
    by_cases hjn : j < ls.length
    ·obtain ⟨b2, off2, rfl, hb2, hat2⟩ := HC2.out (fun h => by rw [h] at hjn; simp at hjn)
     obtain ⟨⟨eh, et, eb⟩, HE⟩ : ∃ l, Hid (ls.getD j Lp.nil = l) := ⟨_, rfl⟩
     have hcell := (hat2 j hjn).below hbq hb2
     rw [HE.out] at hcell
     obtain ⟨d0, d1, d2⟩ := hcell
     simp only at d0 d1 d2
     have hbq2 : b2 < wr.heap.size := by omega
     clear hat2
     have heb := HB.out.get hjn
     rw [HE.out] at heb
     simp only at heb
     have hmul : 0 <= t * (eb + 1) /\ t * (eb + 1) <= 257 * 256 := ⟨Int.mul_nonneg (by omega) (by omega), Int.mul_le_mul (by omega) (by omega) (by omega) (by omega)⟩
     obtain ⟨r, Hr⟩ : ∃ r, Hid (r = inLpB ⟨eh, et, eb⟩ k) := ⟨_, rfl⟩
     have HN : Hid (timesC k (ls.take (j + 1)) 1 = if r then min (t * (eb + 1)) 257 else t) := by
      show _ = _
      rw [timesC_step ls j 1 hjn, HE.out, <- HT.out, <- Hr.out]
     have HNb : Hid (1 <= timesC k (ls.take (j + 1)) 1 /\ timesC k (ls.take (j + 1)) 1 <= 257) := timesC_bd (HB.out.take _)
     go_wp2_with (go_at_call 78; go_must (refine (within_as Hr _).mono ?_); rintro e w2 ⟨rfl, hb3⟩; go_must (have hB := hbq.trans ((box_below hb3).mono hsq); have hcc := boxL_cell (l := ⟨eh, et, eb⟩) hb3; obtain ⟨g0, g1, g2⟩ := hcc; clear hb3 d0 d1 d2))
     ·go_roundw
      case rel => exact ⟨j + 1, min (t * (eb + 1)) 257, by omega, by go_num, rfl, by show _ = _; rw [HN.out]; simp_all, by have := HNb.out; rw [HN.out] at this; simp_all, by have := HNb.out; rw [HN.out] at this; simp_all, hB⟩
      case measure => simp [intOf]; omega
     ·go_roundw
      case rel => exact ⟨j + 1, t, by omega, by go_num, rfl, by show _ = _; rw [HN.out]; simp_all, ht0, ht1, hB⟩
      case measure => simp [intOf]; omega
    ·obtain rfl : j = ls.length := by omega
     go_wp2
     go_roundw
     case rel => exact ⟨k + 1, S + t, by omega, by go_num, by go_num, by show _ = _; rw [costC, HS.out, HT.out, List.take_length], by omega, by omega, hbq⟩
     case measure => simp [intOf]; omega
  ·obtain rfl : k = xs.length := by omega
   go_wp2
   go_ret
   exact ⟨ri (by rw [hR.out, HS.out]), hbe⟩
theorem keepH {p : Prop} (h : p) : Hid p := h
theorem r2i {a a' b b' : Int} (h1 : a = a') (h2 : b = b') : Ending.returned (.tuple #[.int .i64 a, .int .i64 b]) = .returned (.tuple #[.int .i64 a', .int .i64 b']) := by rw [h1, h2]
theorem SeesI.shape {w : World} {v : Value} {xs : List In} (h : SeesI w v xs) : ∃ a cap, v = .slice a xs.length cap := by
 obtain ⟨a, cap, rfl, _⟩ := h
 exact ⟨a, cap, rfl⟩
set_option maxHeartbeats 3200000 in
theorem check_any (v : Value) (xs : List In) (w : World) (hs : SeesI w v xs) {P E : Int} (hP : Hid (checkL xs = (P, E))) :
  Calls Tryz.prog 28 #[v] w fun e w' => e = .returned (.tuple #[.int .i64 P, .int .i64 E]) /\ Below w.heap.size w w' := by
 have HS := keepH hs
 obtain ⟨a, cap, rfl, hc, hm, hn0, hcell⟩ := hs
 have HC : Hid (xs ≠ [] -> ∃ b off, a = some ⟨b, off, none⟩ /\ b < w.heap.size /\ ∀ k, k < xs.length -> At w b (off + k * 5) (xs.getD k In.nil)) := hcell
 clear hcell hn0
 by_cases h0 : xs.length = 0
 ·have HE : Hid (P = 0 /\ E = 10) := by have := hP.out; unfold checkL at this; rw [if_pos h0] at this; injection this with a b; exact ⟨a.symm, b.symm⟩
  rw [h0]
  go_enter Tryz.func28, Tryz.ntmps28
  go_wp2
  go_ret2
  exact ⟨r2i HE.out.1.symm HE.out.2.symm, Below.refl _ _⟩
 have h0b : ((xs.length : Int) == 0) = false := by simp; exact fun h => h0 (by rw [h]; rfl)
 by_cases h64 : 64 < xs.length
 ·have HE : Hid (P = 0 /\ E = 11) := by have := hP.out; unfold checkL at this; rw [if_neg h0, if_pos h64] at this; injection this with a b; exact ⟨a.symm, b.symm⟩
  go_enter Tryz.func28, Tryz.ntmps28
  go_wp2
  go_ret2
  exact ⟨r2i HE.out.1.symm HE.out.2.symm, Below.refl _ _⟩
 have HP : Hid ((P, E) = match first (placeB xs) xs.length with
   | some k => ((k : Int), placeE xs k)
   | none => match crossF [] (loopsL xs) with
    | some t => (t, 31)
    | none => match first (intrB xs (loopsL xs)) xs.length with
     | some p => ((p : Int), 31)
     | none => if 256 < costC (loopsL xs) xs.length then (0, 32) else (0, 0)) := by
  have h := hP.out
  unfold checkL at h
  rw [if_neg h0, if_neg h64] at h
  exact h.symm
 clear hP
 obtain ⟨b, off, rfl, hb, hat⟩ := HC.out (fun h => by rw [h] at h0; simp at h0)
 have HA : Hid (∀ w1, Below w.heap.size w w1 -> ∀ k, k < xs.length -> At w1 b (off + k * 5) (xs.getD k In.nil)) := fun w1 h1 k hk => (hat k hk).below h1 hb
 clear hat HC
 go_enter Tryz.func28, Tryz.ntmps28
 go_wp2
 go_loopw [21] (fun i wr => ∃ k : Nat, k <= xs.length /\ i = .int .i64 k /\ Hid (∀ j, j < k -> placeB xs j = false) /\ Below w.heap.size w wr) (fun i _ => xs.length - (intOf i).toNat)
 case atStart => exact ⟨0, by omega, rfl, fun j hj => by omega, Below.refl _ _⟩
 case round =>
  obtain ⟨k, hk, rfl, HK, hbe⟩ := hrel
  have hsz := hbe.size
  by_cases hlt : k < xs.length
  ·obtain ⟨q, HQ⟩ : ∃ q, Hid (q = placeE xs k) := ⟨_, rfl⟩
   by_cases hq : q = 0
   ·subst hq
    have HB : Hid (placeB xs k = false) := by show _ = _; unfold placeB; rw [<- HQ.out]; rfl
    go_wp2_with (go_at_call 46; go_must (refine (place_any b off cap xs k _ hlt (by omega) (by omega) (HA.out _ hbe)).mono ?_); rintro e w1 ⟨he, hb1⟩; go_must (rw [<- HQ.out] at he; subst he; have hbe1 := hbe.trans (hb1.mono hsz); clear hb1))
    go_roundw
    case rel => exact ⟨k + 1, by omega, by go_num, fun j hj => by
     by_cases e : j = k
     ·rw [e]; exact HB.out
     ·exact HK.out j (by omega), hbe1⟩
    case measure => simp [intOf]; omega
   ·have hqb : (q != 0) = true := by simpa using hq
    have HB : Hid (P = (k : Int) /\ E = q) := by
     have h := HP.out
     rw [first_some HK.out hlt (by unfold placeB; rw [<- HQ.out]; simpa using hq)] at h
     dsimp only at h
     injection h with h1 h2
     exact ⟨h1, by rw [h2, HQ.out]⟩
    go_wp2_with (go_at_call 46; go_must (refine (place_any b off cap xs k _ hlt (by omega) (by omega) (HA.out _ hbe)).mono ?_); rintro e w1 ⟨he, hb1⟩; go_must (rw [<- HQ.out] at he; subst he; have hbe1 := hbe.trans (hb1.mono hsz); clear hb1))
    go_ret2
    exact ⟨r2i HB.out.1.symm HB.out.2.symm, hbe1⟩
  ·obtain rfl : k = xs.length := by omega
   have HPl : Hid (Placed xs) := HK.out
   have HLn : Hid ((loopsL xs).length <= 64) := by have := loopsU_len xs xs.length; show _ <= _; unfold loopsL; omega
   have HBn : Hid (Bnd (loopsL xs)) := bnd_ok HPl.out
   have HP2 : Hid ((P, E) = match crossF [] (loopsL xs) with
    | some t => (t, 31)
    | none => match first (intrB xs (loopsL xs)) xs.length with
     | some p => ((p : Int), 31)
     | none => if 256 < costC (loopsL xs) xs.length then (0, 32) else (0, 0)) := by
    have h := HP.out
    rw [first_none HK.out] at h
    exact h
   clear HP
   have HSr := HS.out.below hbe
   obtain ⟨R, HR⟩ : ∃ R, Hid (R = crossF [] (loopsL xs)) := ⟨_, rfl⟩
   rw [<- HR.out] at HP2
   obtain ⟨I, HI⟩ : ∃ I, Hid (I = first (intrB xs (loopsL xs)) xs.length) := ⟨_, rfl⟩
   rw [<- HI.out] at HP2
   have HI2 : Hid (optN I = optN (first (intrB xs (loopsL xs)) xs.length)) := by show _ = _; rw [HI.out]
   obtain ⟨C, HCo⟩ : ∃ C, Hid (C = costC (loopsL xs) xs.length) := ⟨_, rfl⟩
   rw [<- HCo.out] at HP2
   have HSr : Hid (SeesI wr (.slice (some ⟨b, off, none⟩) xs.length cap) xs) := HSr
   have hx64 : xs.length <= 64 := by omega
   cases R with
   | some t =>
    have HB : Hid (P = t /\ E = 31) := by have h := HP2.out; dsimp only at h; injection h with h1 h2; exact ⟨h1, h2⟩
    go_wp2_with (first
     | (go_at_call 47; go_must (refine (loops_any _ xs _ HSr.out hx64).mono ?_); rintro e w1 ⟨v1, rfl, hown, hb1⟩; go_must (have hL : Hid (SeesL w1 v1 (loopsL xs)) := own_seesL hown; have hbe1 := hbe.trans (hb1.mono hsz); clear hb1 hown))
     | (go_at_call 48; go_must (refine (crossing_any _ (loopsL xs) _ HLn.out hL.out HR).mono ?_); rintro e w2 ⟨he, hb2⟩; go_must (simp only [optI] at he; subst he; have hbe2 := hbe1.trans (hb2.mono hbe1.size); clear hb2)))
    go_ret2
    exact ⟨r2i HB.out.1.symm HB.out.2.symm, hbe2⟩
   | none =>
    cases I with
    | some p =>
     have HB : Hid (P = (p : Int) /\ E = 31) := by have h := HP2.out; dsimp only at h; injection h with h1 h2; exact ⟨h1, h2⟩
     go_wp2_with (first
      | (go_at_call 47; go_must (refine (loops_any _ xs _ HSr.out hx64).mono ?_); rintro e w1 ⟨v1, rfl, hown, hb1⟩; go_must (have hL : Hid (SeesL w1 v1 (loopsL xs)) := own_seesL hown; have hbe1 := hbe.trans (hb1.mono hsz); clear hb1 hown))
      | (go_at_call 48; go_must (refine (crossing_any _ (loopsL xs) _ HLn.out hL.out HR).mono ?_); rintro e w2 ⟨he, hb2⟩; go_must (simp only [optI] at he; subst he; have hbe2 := hbe1.trans (hb2.mono hbe1.size); have hL2 : Hid (SeesL w2 v1 (loopsL xs)) := SeesL.below hL.out hb2; clear hb2 hL))
      | (go_at_call 49; go_must (refine (intruder_any _ _ xs (loopsL xs) _ (HS.out.below hbe2) hL2.out hx64 HLn.out HI2).mono ?_); rintro e w3 ⟨he, hb3⟩; go_must (simp only [optI, optN] at he; subst he; have hbe3 := hbe2.trans (hb3.mono hbe2.size); clear hb3)))
     go_ret2
     exact ⟨r2i HB.out.1.symm HB.out.2.symm, hbe3⟩
    | none =>
     by_cases hC : 256 < C
     ·have HB : Hid (P = 0 /\ E = 32) := by have h := HP2.out; dsimp only at h; rw [if_pos hC] at h; injection h with h1 h2; exact ⟨h1, h2⟩
      go_wp2_with (first
       | (go_at_call 47; go_must (refine (loops_any _ xs _ HSr.out hx64).mono ?_); rintro e w1 ⟨v1, rfl, hown, hb1⟩; go_must (have hL : Hid (SeesL w1 v1 (loopsL xs)) := own_seesL hown; have hbe1 := hbe.trans (hb1.mono hsz); clear hb1 hown))
       | (go_at_call 48; go_must (refine (crossing_any _ (loopsL xs) _ HLn.out hL.out HR).mono ?_); rintro e w2 ⟨he, hb2⟩; go_must (simp only [optI] at he; subst he; have hbe2 := hbe1.trans (hb2.mono hbe1.size); have hL2 : Hid (SeesL w2 v1 (loopsL xs)) := SeesL.below hL.out hb2; clear hb2 hL))
       | (go_at_call 49; go_must (refine (intruder_any _ _ xs (loopsL xs) _ (HS.out.below hbe2) hL2.out hx64 HLn.out HI2).mono ?_); rintro e w3 ⟨he, hb3⟩; go_must (simp only [optI, optN] at he; subst he; have hbe3 := hbe2.trans (hb3.mono hbe2.size); have hL3 : Hid (SeesL w3 v1 (loopsL xs)) := SeesL.below hL2.out hb3; clear hb3 hL2))
       | (go_at_call 50; go_must (refine (cost_any _ _ xs (loopsL xs) _ (HS.out.below hbe3) hL3.out hx64 HLn.out HBn.out HCo).mono ?_); rintro e w4 ⟨he, hb4⟩; go_must (subst he; have hbe4 := hbe3.trans (hb4.mono hbe3.size); clear hb4)))
      go_ret2
      exact ⟨r2i HB.out.1.symm HB.out.2.symm, hbe4⟩
     ·have HB : Hid (P = 0 /\ E = 0) := by have h := HP2.out; dsimp only at h; rw [if_neg hC] at h; injection h with h1 h2; exact ⟨h1, h2⟩
      go_wp2_with (first
       | (go_at_call 47; go_must (refine (loops_any _ xs _ HSr.out hx64).mono ?_); rintro e w1 ⟨v1, rfl, hown, hb1⟩; go_must (have hL : Hid (SeesL w1 v1 (loopsL xs)) := own_seesL hown; have hbe1 := hbe.trans (hb1.mono hsz); clear hb1 hown))
       | (go_at_call 48; go_must (refine (crossing_any _ (loopsL xs) _ HLn.out hL.out HR).mono ?_); rintro e w2 ⟨he, hb2⟩; go_must (simp only [optI] at he; subst he; have hbe2 := hbe1.trans (hb2.mono hbe1.size); have hL2 : Hid (SeesL w2 v1 (loopsL xs)) := SeesL.below hL.out hb2; clear hb2 hL))
       | (go_at_call 49; go_must (refine (intruder_any _ _ xs (loopsL xs) _ (HS.out.below hbe2) hL2.out hx64 HLn.out HI2).mono ?_); rintro e w3 ⟨he, hb3⟩; go_must (simp only [optI, optN] at he; subst he; have hbe3 := hbe2.trans (hb3.mono hbe2.size); have hL3 : Hid (SeesL w3 v1 (loopsL xs)) := SeesL.below hL2.out hb3; clear hb3 hL2))
       | (go_at_call 50; go_must (refine (cost_any _ _ xs (loopsL xs) _ (HS.out.below hbe3) hL3.out hx64 HLn.out HBn.out HCo).mono ?_); rintro e w4 ⟨he, hb4⟩; go_must (subst he; have hbe4 := hbe3.trans (hb4.mono hbe3.size); clear hb4)))
      go_ret2
      exact ⟨r2i HB.out.1.symm HB.out.2.symm, hbe4⟩
theorem own_base {w : World} {base base' : Nat} {e : TypeId} {size : Nat} {v : Value} {n : Nat} {xs : List Value} (h : w.ownsRow base' e size v n xs) (hb : base <= base') : w.ownsRow base e size v n xs := by
 rcases h with ⟨h1, h2 | ⟨g, cap, cur, hv, hg, r⟩⟩
 ·exact ⟨h1, .inl h2⟩
 ·exact ⟨h1, .inr ⟨g, cap, cur, hv, by omega, r⟩⟩
def errL (xs : List In) : Int := (checkL xs).2
def loopsA (xs : List In) : List Lp := if errL xs = 0 then loopsL xs else []
theorem check_as {v : Value} {xs : List In} {w : World} (hs : SeesI w v xs) {P E : Int} (hP : Hid (P = (checkL xs).1)) (hE : Hid (E = errL xs)) : Calls Tryz.prog 28 #[v] w fun e w' => e = .returned (.tuple #[.int .i64 P, .int .i64 E]) /\ Below w.heap.size w w' :=
 check_any v xs w hs (show checkL xs = (P, E) by rw [hP.out, hE.out]; rfl)
set_option maxHeartbeats 800000 in
theorem lloops_any (v : Value) (xs : List In) (w : World) (hs : SeesI w v xs) {E : Int} (hE : Hid (E = errL xs)) : Calls Tryz.prog 29 #[v] w fun e w' => ∃ u, e = .returned (.tuple #[u, .int .i64 E]) /\ w'.ownsRow w.heap.size 143 3 u (loopsA xs).length (flatL (loopsA xs)) /\ Below w.heap.size w w' := by
 have HS : Hid (SeesI w v xs) := hs
 obtain ⟨a, cap, rfl⟩ := hs.shape
 clear hs
 obtain ⟨P, HP⟩ : ∃ P, Hid (P = (checkL xs).1) := ⟨_, rfl⟩
 by_cases hE0 : E = 0
 ·subst hE0
  have HT : Hid (Taken xs) := check_ok.1 (show errL xs = 0 from hE.out.symm)
  have HX : Hid (loopsA xs = loopsL xs) := by show _ = _; unfold loopsA; rw [if_pos hE.out.symm]
  rw [HX.out]
  go_enter Tryz.func29, Tryz.ntmps29
  go_wp2_with (first
   | (go_at_call 28; go_must (refine (check_as HS.out HP hE).mono ?_); rintro e w1 ⟨rfl, hb1⟩)
   | (go_at_call 47; go_must (refine (loops_any _ xs _ (HS.out.below hb1) HT.out.top).mono ?_); rintro e w2 ⟨v1, rfl, hown, hb2⟩; go_must (have hbe2 := hb1.trans (hb2.mono hb1.size); have hO : Hid _ := hown; have hz := hb1.size; clear hb2 hown)))
  go_ret2
  refine ⟨_, rfl, ?_, hbe2⟩
  exact own_base hO.out hz
 ·have hb : (E != 0) = true := by simpa using hE0
  have HX : Hid (loopsA xs = []) := by show _ = _; unfold loopsA; rw [if_neg (by rw [<- hE.out]; exact hE0)]
  rw [HX.out]
  go_enter Tryz.func29, Tryz.ntmps29
  go_wp2_with (go_at_call 28; go_must (refine (check_as HS.out HP hE).mono ?_); rintro e w1 ⟨rfl, hb1⟩)
  go_ret2
  exact ⟨_, rfl, World.ownsRow_nil _ _ _ _, hb1⟩
end Go.Proofs.YtkondcjmhlppiaaGreat
