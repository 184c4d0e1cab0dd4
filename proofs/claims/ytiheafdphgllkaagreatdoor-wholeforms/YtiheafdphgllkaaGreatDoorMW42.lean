/-
  F7LA
  F7LLoops
  F7LFind
  F7LCheck
  F7LRest
-/
import Derived.Test.YtiheafdphgllkaaGreatDoorMW27
import Derived.Test.YtiheafdphgllkaaGreatDoorMW14
import Derived.Test.YtiheafdphgllkaaGreatDoorMW30
import Derived.Test.YtiheafdphgllkaaGreatDoorMW10
import Derived.Lib.MinMax
namespace Go.Proofs.YtiheafdphgllkaaGreatDoor
open Go.RowKit
set_option linter.unusedVariables false
set_option maxRecDepth 20000
theorem rbF {a b : Bool} (h : a = b) : Ending.returned (.bool a) = .returned (.bool b) := by rw [h]
theorem ri {a b : Int} (h : a = b) : Ending.returned (.int .i64 a) = .returned (.int .i64 b) := by rw [h]
theorem within_any (l : Lp) (p : Int) (w : World) : Calls Tryz.prog 120 #[lpV l, .int .i64 p] w fun e w' => e = .returned (.bool (inLpB l p)) /\ Below w.heap.size w w' := by
 obtain ⟨h, t, b⟩ := l
 by_cases hh : h <= p
 ·go_enter Tryz.func120, Tryz.ntmps120
  go_wp2
  go_ret
  exact ⟨rbF (by rw [Bool.eq_iff_iff]; simp [inLpB, hh]), by go_grown⟩
 ·go_enter Tryz.func120, Tryz.ntmps120
  go_wp2
  go_ret
  exact ⟨rbF (by rw [within_no.2 (by show ¬ (h <= p /\ p <= t); omega)]), by go_grown⟩
theorem within_as {l : Lp} {p : Int} {r : Bool} (hr : Hid (r = inLpB l p)) (w : World) : Calls Tryz.prog 120 #[lpV l, .int .i64 p] w fun e w' => e = .returned (.bool r) /\ Below w.heap.size w w' := by
 rw [hr.out]; exact within_any l p w
theorem boxL_cell {w w1 : World} {l : Lp} (h : Below (w.alloc (lpO l)).heap.size (w.alloc (lpO l)) w1) :
  w1.cell? ⟨w.heap.size, 0, none⟩ = some (.int .i64 l.h) /\ w1.cell? ⟨w.heap.size, 1, none⟩ = some (.int .i64 l.t) /\ w1.cell? ⟨w.heap.size, 2, none⟩ = some (.int .i64 l.b) := by
 refine ⟨?_, ?_, ?_⟩ <;> (rw [h.cell (by simp)]; simp)
theorem cells_next {w w' : World} {n : Nat} {x y z : Value} (h : w.cell? ⟨n, 0, none⟩ = some x /\ w.cell? ⟨n, 1, none⟩ = some y /\ w.cell? ⟨n, 2, none⟩ = some z) (hb : Below w.heap.size w w') (hn : n < w.heap.size) :
  w'.cell? ⟨n, 0, none⟩ = some x /\ w'.cell? ⟨n, 1, none⟩ = some y /\ w'.cell? ⟨n, 2, none⟩ = some z := by
 rw [hb.cell (p := ⟨n, 0, none⟩) hn, hb.cell (p := ⟨n, 1, none⟩) hn, hb.cell (p := ⟨n, 2, none⟩) hn]
 exact h
set_option maxHeartbeats 800000 in
theorem enters_any (l : Lp) (p q : Int) (w : World) : Calls Tryz.prog 119 #[lpV l, .int .i64 p, .int .i64 q] w fun e w' => e = .returned (.bool (entersB l p q)) /\ Below w.heap.size w w' := by
 obtain ⟨r1, H1⟩ : ∃ r, Hid (r = inLpB l p) := ⟨_, rfl⟩
 obtain ⟨r2, H2⟩ : ∃ r, Hid (r = inLpB l q) := ⟨_, rfl⟩
 have HE : Hid (entersB l p q = (!r1 && (r2 && decide (q ≠ l.h)))) := by show _ = _; rw [H1.out, H2.out]; rfl
 rw [HE.out]
 obtain ⟨h, t, b⟩ := l
 go_enter Tryz.func119, Tryz.ntmps119
 go_wp2_with (first
  | (go_at_call 120; (have hq := H1; clear hq); go_must (refine (within_as H1 _).mono ?_); rintro e w1 ⟨rfl, hb1⟩; go_must (have hB := box_below hb1; have hz := box_size hb1; obtain ⟨c0, c1, c2⟩ := boxL_cell (l := ⟨h, t, b⟩) hb1; clear hb1 H1))
  | (go_at_call 120; (have hq := H2; clear hq); go_must (refine (within_as H2 _).mono ?_); rintro e w2 ⟨rfl, hb2⟩; go_must (obtain ⟨d0, d1, d2⟩ := cells_next ⟨c0, c1, c2⟩ hb2 hz; replace hB := hB.trans (hb2.mono hB.size); clear H2 c0 c1 c2 hb2)))
 all_goals
  go_ret
  refine ⟨rbF ?_, hB⟩
  (first | (simp_all; done) | (simp_all; rfl) | (simp_all [bne]; done))
theorem enters_as {l : Lp} {p q : Int} {r : Bool} (hr : Hid (r = entersB l p q)) (w : World) : Calls Tryz.prog 119 #[lpV l, .int .i64 p, .int .i64 q] w fun e w' => e = .returned (.bool r) /\ Below w.heap.size w w' := by
 rw [hr.out]; exact enters_any l p q w
theorem goes_as {i : In} {f : Int} {l o : Bool} (hf : Hid (f = i.far)) (hl : Hid (l = i.leads)) (ho : Hid (o = i.on)) (w : World) : Calls Tryz.prog 93 #[instV i.op i.d i.a i.b i.imm] w fun e w' => e = .returned (.tuple #[.int .i64 f, .bool l, .bool o]) /\ Below w.heap.size w w' := by
 rw [hf.out, hl.out, ho.out]; exact ogoes_any i.op i.d i.a i.b i.imm w
theorem right_as {i : In} {r : Bool} (hr : Hid (r = i.right)) (w : World) (n : Nat) (hn : n = w.heap.size) : Calls Tryz.prog 13 #[.slice (some ⟨n, 0, none⟩) 1 1] (w.alloc (instO i.op i.d i.a i.b i.imm)) fun e w' => e = .returned (.bool r) /\ Below w.heap.size w w' /\ w.heap.size < w'.heap.size := by
 subst hn
 rw [hr.out]
 refine (rights_some w.heap.size 0 1 [i] (w.alloc (instO i.op i.d i.a i.b i.imm)) (by simp) (by unfold maxLen; omega) (by simp) ?_).mono ?_
 ·intro k hk
  obtain rfl : k = 0 := by simp at hk; exact hk
  simp [At]
 ·rintro e w' ⟨rfl, hb⟩
  exact ⟨r2b (by simp), box_below hb, box_size hb⟩
set_option maxHeartbeats 1600000 in
theorem place_any (b off cap : Nat) (xs : List In) (k : Nat) (w : World) (hk : k < xs.length) (hn : xs.length <= 64) (hb : b < w.heap.size) (hat : ∀ k, k < xs.length -> At w b (off + k * 5) (xs.getD k In.nil)) :
  Calls Tryz.prog 81 #[.slice (some ⟨b, off, none⟩) xs.length cap, .int .i64 k] w fun e w' => e = .returned (.int .i64 (placeE xs k)) /\ Below w.heap.size w w' := by
 obtain ⟨r, HR⟩ : ∃ r, Hid (r = (nth xs k).right) := ⟨_, rfl⟩
 obtain ⟨f, HF⟩ : ∃ f, Hid (f = (nth xs k).far) := ⟨_, rfl⟩
 obtain ⟨l, HL⟩ : ∃ l, Hid (l = (nth xs k).leads) := ⟨_, rfl⟩
 obtain ⟨o, HO⟩ : ∃ o, Hid (o = (nth xs k).on) := ⟨_, rfl⟩
 obtain ⟨E, HE⟩ : ∃ E, Hid (E = placeE xs k) := ⟨_, rfl⟩
 have HX : Hid (E = if r = false then 12 else if (k : Int) + f < 0 ∨ (xs.length : Int) <= k + f then 30 else if o = true /\ k + 1 = xs.length then 36 else 0) := by show _ = _; rw [HE.out, HR.out, HF.out, HO.out]; rfl
 rw [<- HE.out]
 have hfb := far_bd (nth xs k)
 rw [<- HF.out] at hfb
 have HA : Hid (∀ w1, Below w.heap.size w w1 -> At w1 b (off + k * 5) (nth xs k)) := fun w1 h1 => (hat k hk).below h1 hb
 clear hat
 generalize nth xs k = i at HR HF HL HO HA
 obtain ⟨op, d, a, bb, imm⟩ := i
 obtain ⟨c0, c1, c2, c3, c4⟩ := HA.out w (Below.refl _ _)
 go_enter Tryz.func81, Tryz.ntmps81
 go_wp2_with (first
  | (go_at_call 13; go_must (refine (right_as HR _ _ (by simp)).mono ?_); rintro e w1 ⟨rfl, hb1, hz⟩; go_must (obtain ⟨d0, d1, d2, d3, d4⟩ := HA.out w1 hb1; clear c0 c1 c2 c3 c4))
  | (go_at_call 93; go_must (refine (goes_as HF HL HO _).mono ?_); rintro e w2 ⟨rfl, hb2⟩; go_must (have hB := hb1.trans (hb2.mono hb1.size); clear hb2)))
 all_goals
  go_ret
  refine ⟨ri ?_, by assumption⟩
  have hx := HX.out
  rw [hx]
  clear HX HE HA HR HF HL HO d0 d1 d2 d3 d4
  cases r <;> cases o <;> simp_all <;> omega
theorem Tryz.infoLoop : (Tryz.prog.info? 187).map (fun i => (i.zero, i.size, i.bytes)) = some (some (.agg #[.int .i64 0, .int .i64 0, .int .i64 0]), 3, 24) := by kernel_rfl
theorem goes_one {i : In} {op d a b imm f : Int} {l o : Bool} (hi : Hid (i = ⟨op, d, a, b, imm⟩)) (hf : Hid (f = i.far)) (hl : Hid (l = i.leads)) (ho : Hid (o = i.on)) (w : World) : Calls Tryz.prog 93 #[instV op d a b imm] w fun e w' => e = .returned (.tuple #[.int .i64 f, .bool l, .bool o]) /\ Below w.heap.size w w' := by
 have h := goes_as hf hl ho w
 rw [hi.out] at h
 exact h
theorem step_loop {w wr w1 : World} {B : Nat} {e : TypeId} {v v' : Value} {o : Obj} {ys : List Lp} {l : Lp} (hown : wr.ownsRow B e 3 v ys.length (flatL ys)) (hbe : Below B w wr) (hB : B <= w.heap.size)
  (hown' : w1.ownsRow B e 3 v' (ys.length + 1) (flatL ys ++ lpC l)) (hgrow : (wr.alloc o).grownBy w1 v.ownBlock) :
  w1.ownsRow B e 3 v' (ys ++ [l]).length (flatL (ys ++ [l])) /\ Below B w w1 := by
 have hs := hbe.size
 refine ⟨?_, (hbe.alloc (by omega) o).grown hgrow (by simp; omega) (fun k hk => (hown.lt k hk).1)⟩
 rw [<- flatL_app]
 simpa [flatL] using hown'
set_option maxHeartbeats 1600000 in
theorem loops_any (v : Value) (xs : List In) (w : World) (hs : SeesI w v xs) (hn : xs.length <= 64) :
  Calls Tryz.prog 82 #[v] w fun e w' => ∃ v', e = .returned v' /\ w'.ownsRow w.heap.size 187 3 v' (loopsL xs).length (flatL (loopsL xs)) /\ Below w.heap.size w w' := by
 obtain ⟨i0, hi, hz0, hz1, hz2⟩ := info_parts Tryz.infoLoop
 obtain ⟨a, cap, rfl, hc, hm, hn0, hcell⟩ := hs
 have HC : Hid (xs ≠ [] -> ∃ b off, a = some ⟨b, off, none⟩ /\ b < w.heap.size /\ ∀ k, k < xs.length -> At w b (off + k * 5) (xs.getD k In.nil)) := hcell
 clear hcell
 go_enter Tryz.func82, Tryz.ntmps82
 go_wp2
 go_loopw [11, 3] (fun i v wr => ∃ (k : Nat) (ys : List Lp), k <= xs.length /\ i = .int .i64 k /\ Hid (ys = loopsU xs k) /\ ys.length <= k /\ wr.ownsRow w.heap.size 187 3 v ys.length (flatL ys) /\ Below w.heap.size w wr) (fun i _ _ => xs.length - (intOf i).toNat)
 case atStart => exact ⟨0, [], by omega, rfl, rfl, by simp, World.ownsRow_nil _ _ _ _, Below.refl _ _⟩
 case round =>
  obtain ⟨k, ys, hk, rfl, HY, hyl, hown, hbe⟩ := hrel
  have hsz := hbe.size
  by_cases hlt : k < xs.length
  ·obtain ⟨b, off, rfl, hb, hat⟩ := HC.out (fun h => by rw [h] at hlt; simp at hlt)
   obtain ⟨c0, c1, c2, c3, c4⟩ := (hat k hlt).below hbe hb
   have hbr : b < wr.heap.size := by omega
   clear hat
   obtain ⟨⟨op, d, a, bb, imm⟩, HI⟩ : ∃ i, Hid (nth xs k = i) := ⟨_, rfl⟩
   have HI2 : xs.getD k In.nil = ⟨op, d, a, bb, imm⟩ := HI.out
   rw [HI2] at c0 c1 c2 c3 c4
   clear HI2
   simp only at c0 c1 c2 c3 c4
   obtain ⟨f, HF⟩ : ∃ f, Hid (f = (nth xs k).far) := ⟨_, rfl⟩
   obtain ⟨l, HL⟩ : ∃ l, Hid (l = (nth xs k).leads) := ⟨_, rfl⟩
   obtain ⟨o, HO⟩ : ∃ o, Hid (o = (nth xs k).on) := ⟨_, rfl⟩
   have hfb := far_bd (nth xs k)
   rw [<- HF.out] at hfb
   have HS : Hid (loopsU xs (k + 1) = ys ++ if op = 20 then [⟨k + f, k, imm⟩] else []) := by
    show _ = _
    rw [loopsU, HY.out]
    unfold lps lpAt
    rw [HF.out, HI.out]
   by_cases h20 : op = 20
   ·subst h20
    go_wp2_with (first
     | (go_at_call 93; go_must (refine (goes_one HI HF HL HO _).mono ?_); rintro e w1 ⟨rfl, hb1⟩; go_must (have hbe1 : Below w.heap.size w w1 := hbe.trans ((box_below hb1).mono hsz); have hown1 := own_below (own_below hown ((Below.refl _ _).alloc (Nat.le_refl _) _) (Nat.le_refl _)) hb1 (Nat.le_refl _); obtain ⟨e0, e1, e2, e3, e4⟩ := box_cell hb1; have hsz1 := hbe1.size; clear hb1 hown))
     | (at_builtin; go_must (refine wpList_append_own _ rfl _ _ 125 rfl w.heap.size 187 i0 _ 3 24 Tryz.underlying125 hi hz0 hz1 hz2 rfl (by decide) _ _ _ rfl (hown1.alloc _) ⟨_, 0, none⟩ 1 1 (lpC ⟨k + f, k, imm⟩) rfl rfl (three_new _ _ _ _ _ _ rfl) (three_one _ _ _) (by unfold maxLen; omega) (by omega) (by simp; omega) ?_); intro v' w2 hown' hgrow _; have R := step_loop (l := ⟨k + f, k, imm⟩) hown1 hbe1 (Nat.le_refl _) hown' hgrow; clear hown' hgrow))
    go_roundw
    case rel => exact ⟨k + 1, ys ++ [⟨k + f, k, imm⟩], by omega, by go_num, by show _ = _; rw [HS.out]; rfl, by simp; omega, R.1, R.2⟩
    case measure => simp [intOf]; omega
   ·have h20b : (op == 20) = false := by simpa using h20
    go_wp2
    go_roundw
    case rel => exact ⟨k + 1, ys, by omega, by go_num, by show _ = _; rw [HS.out, if_neg h20, List.append_nil], by omega, hown.alloc _, hbe.alloc (by omega) _⟩
    case measure => simp [intOf]; omega
  ·obtain rfl : k = xs.length := by omega
   go_wp2
   go_ret
   refine ⟨_, rfl, ?_, hbe⟩
   rw [show loopsL xs = ys from HY.out.symm]
   exact hown
def optI : Option Int -> Value
 | some t => .tuple #[.int .i64 t, .bool true]
 | none => .tuple #[.int .i64 0, .bool false]
theorem any_step {ls : List Lp} {f : Lp -> Bool} {j : Nat} (h : j < ls.length) : (ls.take (j + 1)).any f = ((ls.take j).any f || f (ls.getD j Lp.nil)) := by
 rw [List.take_succ_eq_append_getElem h, List.any_append]
 simp [List.getD, h]
theorem drop_at {ls : List Lp} {n : Nat} (h : n < ls.length) : ls.drop n = ls.getD n Lp.nil :: ls.drop (n + 1) := by
 rw [List.drop_eq_getElem_cons h]; simp [List.getD, h]
theorem take_at' {ls : List Lp} {n : Nat} (h : n < ls.length) : ls.take (n + 1) = ls.take n ++ [ls.getD n Lp.nil] := by
 rw [List.take_succ_eq_append_getElem h]; simp [List.getD, h]
set_option maxHeartbeats 1600000 in
theorem crossing_some (b off cap : Nat) (ls : List Lp) (w : World) (hn : ls.length <= 64) (hc : ls.length <= cap) (hm : cap <= 9223372036854775807) (hb : b < w.heap.size) (hat : ∀ k, k < ls.length -> AtL w b (off + k * 3) (ls.getD k Lp.nil)) :
  Calls Tryz.prog 83 #[.slice (some ⟨b, off, none⟩) ls.length cap] w fun e w' => e = .returned (optI (crossF [] ls)) /\ Below w.heap.size w w' := by
 have HA : Hid (∀ k, k < ls.length -> AtL w b (off + k * 3) (ls.getD k Lp.nil)) := hat
 clear hat
 obtain ⟨R, HR⟩ : ∃ R, Hid (R = crossF [] ls) := ⟨_, rfl⟩
 rw [<- HR.out]
 go_enter Tryz.func83, Tryz.ntmps83
 go_wp2
 go_loopw [10] (fun i wr => ∃ n : Nat, n <= ls.length /\ i = .int .i64 n /\ Hid (R = crossF (ls.take n) (ls.drop n)) /\ Below w.heap.size w wr) (fun i _ => ls.length - (intOf i).toNat)
 case atStart => exact ⟨0, by omega, rfl, HR, Below.refl _ _⟩
 case round =>
  rename World => w0
  obtain ⟨n, hnl, rfl, HN, hbe⟩ := hrel
  have hsz := hbe.size
  by_cases hlt : n < ls.length
  ·obtain ⟨⟨lh, lt, lb⟩, HL⟩ : ∃ l, Hid (ls.getD n Lp.nil = l) := ⟨_, rfl⟩
   have hcell := (HA.out n hlt).below hbe hb
   rw [HL.out] at hcell
   obtain ⟨c0, c1, c2⟩ := hcell
   simp only at c0 c1 c2
   have hbr : b < w0.heap.size := by omega
   have hcut : ∀ w' : World, (Instr.slice 125 (.slice (some ⟨b, off, none⟩) ls.length cap) none (some (.int .i64 n)) none).run Tryz.prog w' = .ok (.slice (some ⟨b, off, none⟩) n cap) w' := fun w' => by rw [run_uptoL _ _ _ _ (by omega) w', cutL_zero]
   have HX : Hid (R = if (ls.take n).any (fun e => entersB e lt lh) then some lt else crossF (ls.take (n + 1)) (ls.drop (n + 1))) := by
    show _ = _
    rw [HN.out, drop_at hlt, crossF, HL.out, take_at' hlt, HL.out]
   go_wp2
   go_loopw [19] (fun i wr => ∃ j : Nat, j <= n /\ i = .int .i64 j /\ Hid ((ls.take j).any (fun e => entersB e lt lh) = false) /\ Below w.heap.size w wr /\ w0.heap.size < wr.heap.size /\ (wr.cell? ⟨w0.heap.size, 0, none⟩ = some (.int .i64 lh) /\ wr.cell? ⟨w0.heap.size, 1, none⟩ = some (.int .i64 lt) /\ wr.cell? ⟨w0.heap.size, 2, none⟩ = some (.int .i64 lb))) (fun i _ => n - (intOf i).toNat)
   case atStart => exact ⟨0, by omega, rfl, rfl, hbe.alloc (by omega) _, by simp, by go_cell, by go_cell, by go_cell⟩
   case round =>
    clear c0 c1 c2
    obtain ⟨j, hj, rfl, HJ, hbq, hzq, c0, c1, c2⟩ := hrel
    have hsq := hbq.size
    have hbq' : b < wr.heap.size := by omega
    by_cases hjn : j < n
    ·obtain ⟨⟨eh, et, eb⟩, HE⟩ : ∃ l, Hid (ls.getD j Lp.nil = l) := ⟨_, rfl⟩
     have hcell := (HA.out j (by omega)).below hbq hb
     rw [HE.out] at hcell
     obtain ⟨d0, d1, d2⟩ := hcell
     simp only at d0 d1 d2
     obtain ⟨r, Hr⟩ : ∃ r, Hid (r = entersB ⟨eh, et, eb⟩ lt lh) := ⟨_, rfl⟩
     have HS : Hid ((ls.take (j + 1)).any (fun e => entersB e lt lh) = r) := by
      show _ = _
      rw [any_step (by omega), HJ.out, HE.out, Hr.out, Bool.false_or]
     go_wp2_with (go_at_call 119; go_must (refine (enters_as Hr _).mono ?_); rintro e w1 ⟨rfl, hb1⟩; go_must (have hB := box_below hb1; have hzz := box_size hb1; obtain ⟨g0, g1, g2⟩ := cells_next ⟨c0, c1, c2⟩ hB hzq; replace hB := hbq.trans (hB.mono hsq); clear hb1 c0 c1 c2 d0 d1 d2))
     ·have HF : Hid (R = some lt) := by
       show _ = _
       rw [HX.out, if_pos]
       rw [<- List.take_append_drop (j + 1) (ls.take n), List.any_append, List.take_take, Nat.min_eq_left (by omega), HS.out]
       simp_all
      go_ret2
      exact ⟨by rw [HF.out]; rfl, hB⟩
     ·go_roundw
      case rel => exact ⟨j + 1, by omega, by go_num, by show _ = _; rw [HS.out]; simp_all, hB, by omega, g0, g1, g2⟩
      case measure => simp [intOf]; omega
    ·obtain rfl : j = n := by omega
     go_wp2
     go_roundw
     case rel => exact ⟨j + 1, by omega, by go_num, by show _ = _; rw [HX.out, if_neg (by rw [HJ.out]; simp)], hbq⟩
     case measure => simp [intOf]; omega
  ·obtain rfl : n = ls.length := by omega
   have HF : Hid (R = none) := by show _ = _; rw [HN.out, List.drop_length]; rfl
   go_wp2
   go_ret2
   exact ⟨by rw [HF.out]; rfl, hbe⟩
theorem crossing_none (a : Option Addr) (cap : Nat) (w : World) : Calls Tryz.prog 83 #[.slice a 0 cap] w fun e w' => e = .returned (optI none) /\ w = w' := by
 go_enter Tryz.func83, Tryz.ntmps83
 go_wp2
 go_loopw [10] (fun i wr => i = .int .i64 0 /\ w = wr) (fun i _ => 0)
 case atStart => exact ⟨rfl, rfl⟩
 case round =>
  obtain ⟨rfl, rfl⟩ := hrel
  go_wp2
  go_ret2
  exact ⟨rfl, rfl⟩
theorem crossing_any (v : Value) (ls : List Lp) (w : World) (hn : ls.length <= 64) (h : SeesL w v ls) {R : Option Int} (hR : Hid (R = crossF [] ls)) : Calls Tryz.prog 83 #[v] w fun e w' => e = .returned (optI R) /\ Below w.heap.size w w' := by
 rw [hR.out]
 obtain ⟨a, cap, rfl, hl, hm, hn0, hs⟩ := h
 cases ls with
 | nil => exact (crossing_none a cap w).mono fun e w' ⟨he, hw⟩ => ⟨he, hw ▸ Below.refl _ _⟩
 | cons x ls =>
  obtain ⟨b, off, rfl, hb, hat⟩ := hs (by simp)
  exact crossing_some b off cap (x :: ls) w hn hl (by unfold maxLen at hm; omega) hb hat
def optN : Option Nat -> Option Int
 | some k => some (k : Int)
 | none => none
set_option maxHeartbeats 1600000 in
theorem intruder_any (v u : Value) (xs : List In) (ls : List Lp) (w : World) (hs : SeesI w v xs) (hl : SeesL w u ls) (hx : xs.length <= 64) (hln : ls.length <= 64) {R : Option Int} (hR : Hid (R = optN (first (intrB xs ls) xs.length))) :
  Calls Tryz.prog 84 #[v, u] w fun e w' => e = .returned (optI R) /\ Below w.heap.size w w' := by
 obtain ⟨a, cap, rfl, hc, hm, hn0, hcell⟩ := hs
 have HC : Hid (xs ≠ [] -> ∃ b off, a = some ⟨b, off, none⟩ /\ b < w.heap.size /\ ∀ k, k < xs.length -> At w b (off + k * 5) (xs.getD k In.nil)) := hcell
 obtain ⟨a2, cap2, rfl, hc2, hm2, hn2, hcell2⟩ := hl
 have HC2 : Hid (ls ≠ [] -> ∃ b off, a2 = some ⟨b, off, none⟩ /\ b < w.heap.size /\ ∀ k, k < ls.length -> AtL w b (off + k * 3) (ls.getD k Lp.nil)) := hcell2
 clear hcell hcell2 hn0 hn2
 go_enter Tryz.func84, Tryz.ntmps84
 go_wp2
 go_loopw [15] (fun i wr => ∃ k : Nat, k <= xs.length /\ i = .int .i64 k /\ Hid (∀ j, j < k -> intrB xs ls j = false) /\ Below w.heap.size w wr) (fun i _ => xs.length - (intOf i).toNat)
 case atStart => exact ⟨0, by omega, rfl, fun j hj => by omega, Below.refl _ _⟩
 case round =>
  rename World => w0
  obtain ⟨k, hk, rfl, HK, hbe⟩ := hrel
  have hsz := hbe.size
  by_cases hlt : k < xs.length
  ·obtain ⟨b, off, rfl, hb, hat⟩ := HC.out (fun h => by rw [h] at hlt; simp at hlt)
   obtain ⟨c0, c1, c2, c3, c4⟩ := (hat k hlt).below hbe hb
   have hbr : b < w0.heap.size := by omega
   clear hat
   obtain ⟨⟨op, d, a, bb, imm⟩, HI⟩ : ∃ i, Hid (nth xs k = i) := ⟨_, rfl⟩
   have HI2 : xs.getD k In.nil = ⟨op, d, a, bb, imm⟩ := HI.out
   rw [HI2] at c0 c1 c2 c3 c4
   clear HI2
   simp only at c0 c1 c2 c3 c4
   obtain ⟨f, HF⟩ : ∃ f, Hid (f = (nth xs k).far) := ⟨_, rfl⟩
   obtain ⟨l, HL⟩ : ∃ l, Hid (l = (nth xs k).leads) := ⟨_, rfl⟩
   obtain ⟨o, HO⟩ : ∃ o, Hid (o = (nth xs k).on) := ⟨_, rfl⟩
   have hfb := far_bd (nth xs k)
   rw [<- HF.out] at hfb
   have HX : Hid (intrB xs ls k = (l && ls.any (fun e => entersB e k (k + f)))) := by show _ = _; rw [HF.out, HL.out]; rfl
   go_wp2_with (go_at_call 93; go_must (refine (goes_one HI HF HL HO _).mono ?_); rintro e w1 ⟨rfl, hb1⟩; go_must (have hbe1 : Below w.heap.size w w1 := hbe.trans ((box_below hb1).mono hsz); have hsz1 := hbe1.size; clear hb1))
   go_loopw [28] (fun i wr => ∃ j : Nat, j <= ls.length /\ i = .int .i64 j /\ Hid ((l && (ls.take j).any (fun e => entersB e k (k + f))) = false) /\ Below w.heap.size w wr) (fun i _ => ls.length - (intOf i).toNat)
   case atStart => exact ⟨0, by omega, rfl, by show _ = _; simp, hbe1⟩
   case round =>
    obtain ⟨j, hj, rfl, HJ, hbq⟩ := hrel
    have hsq := hbq.size
    by_cases hjn : j < ls.length
    ·obtain ⟨b2, off2, rfl, hb2, hat2⟩ := HC2.out (fun h => by rw [h] at hjn; simp at hjn)
     obtain ⟨⟨eh, et, eb⟩, HE⟩ : ∃ l, Hid (ls.getD j Lp.nil = l) := ⟨_, rfl⟩
     have hcell := (hat2 j hjn).below hbq hb2
     rw [HE.out] at hcell
     obtain ⟨d0, d1, d2⟩ := hcell
     simp only at d0 d1 d2
     have hbq2 : b2 < wr.heap.size := by omega
     clear hat2
     obtain ⟨r, Hr⟩ : ∃ r, Hid (r = entersB ⟨eh, et, eb⟩ k (k + f)) := ⟨_, rfl⟩
     have HS : Hid ((l && (ls.take (j + 1)).any (fun e => entersB e k (k + f))) = (l && r)) := by
      show _ = _
      have hj0 := HJ.out
      rw [any_step hjn, HE.out, <- Hr.out]
      cases l
      ·rfl
      ·rw [Bool.true_and] at hj0; rw [hj0, Bool.false_or]
     cases l
     ·go_wp2
      go_roundw
      case rel => exact ⟨j + 1, by omega, by go_num, by show _ = _; rfl, hbq.alloc (by omega) _⟩
      case measure => simp [intOf]; omega
     ·go_wp2_with (go_at_call 119; go_must (refine (enters_as Hr _).mono ?_); rintro e w2 ⟨rfl, hb3⟩; go_must (have hB := hbq.trans ((box_below hb3).mono hsq); clear hb3))
      ·have HF2 : Hid (R = some (k : Int)) := by
        show _ = _
        rw [hR.out, first_some HK.out hlt, optN]
        rw [HX.out, <- List.take_append_drop (j + 1) ls, List.any_append, Bool.true_and]
        have := HS.out
        simp_all
       go_ret2
       exact ⟨by rw [HF2.out]; rfl, hB⟩
      ·go_roundw
       case rel => exact ⟨j + 1, by omega, by go_num, by show _ = _; rw [HS.out]; simp_all, hB⟩
       case measure => simp [intOf]; omega
    ·obtain rfl : j = ls.length := by omega
     go_wp2
     go_roundw
     case rel => exact ⟨k + 1, by omega, by go_num, fun i hi => by
      by_cases e : i = k
      ·rw [e, HX.out]; have := HJ.out; rwa [List.take_length] at this
      ·exact HK.out i (by omega), hbq⟩
     case measure => simp [intOf]; omega
  ·obtain rfl : k = xs.length := by omega
   have HF : Hid (R = none) := by show _ = _; rw [hR.out, first_none HK.out]; rfl
   go_wp2
   go_ret2
   exact ⟨by rw [HF.out]; rfl, hbe⟩
theorem timesC_step {p : Int} : ∀ (ls : List Lp) (j : Nat) (t : Int), j < ls.length -> timesC p (ls.take (j + 1)) t = if inLpB (ls.getD j Lp.nil) p then min (timesC p (ls.take j) t * ((ls.getD j Lp.nil).b + 1)) 257 else timesC p (ls.take j) t
 | [], j, t, h => by simp at h
 | l :: r, 0, t, h => by simp [timesC]
 | l :: r, j + 1, t, h => by
  have := timesC_step (p := p) r j (if inLpB l p then min (t * (l.b + 1)) 257 else t) (by simpa using h)
  simp only [List.take_succ_cons, timesC, List.getD_cons_succ]
  exact this
theorem timesC_bd {p : Int} {ls : List Lp} (h : Bnd ls) : 1 <= timesC p ls 1 /\ timesC p ls 1 <= 257 := by
 have h1 := timesC_eq (p := p) h
 have h2 := timesT_ge (p := p) h (show (1 : Int) <= 1 by omega)
 omega
theorem Bnd.take {ls : List Lp} (h : Bnd ls) (j : Nat) : Bnd (ls.take j) := fun l hl => h l (List.mem_of_mem_take hl)
theorem Bnd.get {ls : List Lp} (h : Bnd ls) {j : Nat} (hj : j < ls.length) : 1 <= (ls.getD j Lp.nil).b /\ (ls.getD j Lp.nil).b <= 255 := by
 have e : ls.getD j Lp.nil = ls[j] := by simp [hj]
 rw [e]; exact h _ (List.getElem_mem hj)
set_option maxHeartbeats 1600000 in
theorem cost_any (v u : Value) (xs : List In) (ls : List Lp) (w : World) (hs : SeesI w v xs) (hl : SeesL w u ls) (hx : xs.length <= 64) (hln : ls.length <= 64) (hB : Bnd ls) {R : Int} (hR : Hid (R = costC ls xs.length)) :
  Calls Tryz.prog 85 #[v, u] w fun e w' => e = .returned (.int .i64 R) /\ Below w.heap.size w w' := by
 obtain ⟨a, cap, rfl, hc, hm, hn0, hcell⟩ := hs
 obtain ⟨a2, cap2, rfl, hc2, hm2, hn2, hcell2⟩ := hl
 have HC2 : Hid (ls ≠ [] -> ∃ b off, a2 = some ⟨b, off, none⟩ /\ b < w.heap.size /\ ∀ k, k < ls.length -> AtL w b (off + k * 3) (ls.getD k Lp.nil)) := hcell2
 have HB : Hid (Bnd ls) := hB
 clear hcell hcell2 hn0 hn2 hB
 go_enter Tryz.func85, Tryz.ntmps85
 go_wp2
 go_loopw [12, 5] (fun i s wr => ∃ (k : Nat) (S : Int), k <= xs.length /\ i = .int .i64 k /\ s = .int .i64 S /\ Hid (S = costC ls k) /\ 0 <= S /\ S <= 257 * k /\ Below w.heap.size w wr) (fun i _ _ => xs.length - (intOf i).toNat)
 case atStart => exact ⟨0, 0, by omega, rfl, rfl, rfl, by omega, by omega, Below.refl _ _⟩
 case round =>
  rename World => w0
  obtain ⟨k, S, hk, rfl, rfl, HS, hS0, hS1, hbe⟩ := hrel
  have hsz := hbe.size
  by_cases hlt : k < xs.length
  ·go_wp2
   go_loopw [17, 7] (fun i s wr => ∃ (j : Nat) (t : Int), j <= ls.length /\ i = .int .i64 j /\ s = .int .i64 t /\ Hid (t = timesC k (ls.take j) 1) /\ 1 <= t /\ t <= 257 /\ Below w.heap.size w wr) (fun i _ _ => ls.length - (intOf i).toNat)
   case atStart => exact ⟨0, 1, by omega, rfl, rfl, rfl, by omega, by omega, hbe⟩
   case round =>
    obtain ⟨j, t, hj, rfl, rfl, HT, ht0, ht1, hbq⟩ := hrel
    have hsq := hbq.size
    by_cases hjn : j < ls.length
    ·obtain ⟨b2, off2, rfl, hb2, hat2⟩ := HC2.out (fun h => by rw [h] at hjn; simp at hjn)
     obtain ⟨⟨eh, et, eb⟩, HE⟩ : ∃ l, Hid (ls.getD j Lp.nil = l) := ⟨_, rfl⟩
     have hcell := (hat2 j hjn).below hbq hb2
     rw [HE.out] at hcell
     obtain ⟨d0, d1, d2⟩ := hcell
     simp only at d0 d1 d2
     have hbq2 : b2 < wr.heap.size := by omega
     clear hat2
     have heb := HB.out.get hjn
     rw [HE.out] at heb
     simp only at heb
     have hmul : 0 <= t * (eb + 1) /\ t * (eb + 1) <= 257 * 256 := ⟨Int.mul_nonneg (by omega) (by omega), Int.mul_le_mul (by omega) (by omega) (by omega) (by omega)⟩
     obtain ⟨r, Hr⟩ : ∃ r, Hid (r = inLpB ⟨eh, et, eb⟩ k) := ⟨_, rfl⟩
     have HN : Hid (timesC k (ls.take (j + 1)) 1 = if r then min (t * (eb + 1)) 257 else t) := by
      show _ = _
      rw [timesC_step ls j 1 hjn, HE.out, <- HT.out, <- Hr.out]
     have HNb : Hid (1 <= timesC k (ls.take (j + 1)) 1 /\ timesC k (ls.take (j + 1)) 1 <= 257) := timesC_bd (HB.out.take _)
     go_wp2_with (go_at_call 120; go_must (refine (within_as Hr _).mono ?_); rintro e w2 ⟨rfl, hb3⟩; go_must (have hB := hbq.trans ((box_below hb3).mono hsq); have hcc := boxL_cell (l := ⟨eh, et, eb⟩) hb3; obtain ⟨g0, g1, g2⟩ := hcc; clear hb3 d0 d1 d2))
     ·go_roundw
      case rel => exact ⟨j + 1, min (t * (eb + 1)) 257, by omega, by go_num, rfl, by show _ = _; rw [HN.out]; simp_all, by have := HNb.out; rw [HN.out] at this; simp_all, by have := HNb.out; rw [HN.out] at this; simp_all, hB⟩
      case measure => simp [intOf]; omega
     ·go_roundw
      case rel => exact ⟨j + 1, t, by omega, by go_num, rfl, by show _ = _; rw [HN.out]; simp_all, ht0, ht1, hB⟩
      case measure => simp [intOf]; omega
    ·obtain rfl : j = ls.length := by omega
     go_wp2
     go_roundw
     case rel => exact ⟨k + 1, S + t, by omega, by go_num, by go_num, by show _ = _; rw [costC, HS.out, HT.out, List.take_length], by omega, by omega, hbq⟩
     case measure => simp [intOf]; omega
  ·obtain rfl : k = xs.length := by omega
   go_wp2
   go_ret
   exact ⟨ri (by rw [hR.out, HS.out]), hbe⟩
theorem keepH {p : Prop} (h : p) : Hid p := h
theorem r2i {a a' b b' : Int} (h1 : a = a') (h2 : b = b') : Ending.returned (.tuple #[.int .i64 a, .int .i64 b]) = .returned (.tuple #[.int .i64 a', .int .i64 b']) := by rw [h1, h2]
theorem SeesI.shape {w : World} {v : Value} {xs : List In} (h : SeesI w v xs) : ∃ a cap, v = .slice a xs.length cap := by
 obtain ⟨a, cap, rfl, _⟩ := h
 exact ⟨a, cap, rfl⟩
set_option maxHeartbeats 3200000 in
theorem check_any (v : Value) (xs : List In) (w : World) (hs : SeesI w v xs) {P E : Int} (hP : Hid (checkL xs = (P, E))) :
  Calls Tryz.prog 53 #[v] w fun e w' => e = .returned (.tuple #[.int .i64 P, .int .i64 E]) /\ Below w.heap.size w w' := by
 have HS := keepH hs
 obtain ⟨a, cap, rfl, hc, hm, hn0, hcell⟩ := hs
 have HC : Hid (xs ≠ [] -> ∃ b off, a = some ⟨b, off, none⟩ /\ b < w.heap.size /\ ∀ k, k < xs.length -> At w b (off + k * 5) (xs.getD k In.nil)) := hcell
 clear hcell hn0
 by_cases h0 : xs.length = 0
 ·have HE : Hid (P = 0 /\ E = 10) := by have := hP.out; unfold checkL at this; rw [if_pos h0] at this; injection this with a b; exact ⟨a.symm, b.symm⟩
  rw [h0]
  go_enter Tryz.func53, Tryz.ntmps53
  go_wp2
  go_ret2
  exact ⟨r2i HE.out.1.symm HE.out.2.symm, Below.refl _ _⟩
 have h0b : ((xs.length : Int) == 0) = false := by simp; exact fun h => h0 (by rw [h]; rfl)
 by_cases h64 : 64 < xs.length
 ·have HE : Hid (P = 0 /\ E = 11) := by have := hP.out; unfold checkL at this; rw [if_neg h0, if_pos h64] at this; injection this with a b; exact ⟨a.symm, b.symm⟩
  go_enter Tryz.func53, Tryz.ntmps53
  go_wp2
  go_ret2
  exact ⟨r2i HE.out.1.symm HE.out.2.symm, Below.refl _ _⟩
 have HP : Hid ((P, E) = match first (placeB xs) xs.length with
   | some k => ((k : Int), placeE xs k)
   | none => match crossF [] (loopsL xs) with
    | some t => (t, 31)
    | none => match first (intrB xs (loopsL xs)) xs.length with
     | some p => ((p : Int), 31)
     | none => if 256 < costC (loopsL xs) xs.length then (0, 32) else (0, 0)) := by
  have h := hP.out
  unfold checkL at h
  rw [if_neg h0, if_neg h64] at h
  exact h.symm
 clear hP
 obtain ⟨b, off, rfl, hb, hat⟩ := HC.out (fun h => by rw [h] at h0; simp at h0)
 have HA : Hid (∀ w1, Below w.heap.size w w1 -> ∀ k, k < xs.length -> At w1 b (off + k * 5) (xs.getD k In.nil)) := fun w1 h1 k hk => (hat k hk).below h1 hb
 clear hat HC
 go_enter Tryz.func53, Tryz.ntmps53
 go_wp2
 go_loopw [21] (fun i wr => ∃ k : Nat, k <= xs.length /\ i = .int .i64 k /\ Hid (∀ j, j < k -> placeB xs j = false) /\ Below w.heap.size w wr) (fun i _ => xs.length - (intOf i).toNat)
 case atStart => exact ⟨0, by omega, rfl, fun j hj => by omega, Below.refl _ _⟩
 case round =>
  obtain ⟨k, hk, rfl, HK, hbe⟩ := hrel
  have hsz := hbe.size
  by_cases hlt : k < xs.length
  ·obtain ⟨q, HQ⟩ : ∃ q, Hid (q = placeE xs k) := ⟨_, rfl⟩
   by_cases hq : q = 0
   ·subst hq
    have HB : Hid (placeB xs k = false) := by show _ = _; unfold placeB; rw [<- HQ.out]; rfl
    go_wp2_with (go_at_call 81; go_must (refine (place_any b off cap xs k _ hlt (by omega) (by omega) (HA.out _ hbe)).mono ?_); rintro e w1 ⟨he, hb1⟩; go_must (rw [<- HQ.out] at he; subst he; have hbe1 := hbe.trans (hb1.mono hsz); clear hb1))
    go_roundw
    case rel => exact ⟨k + 1, by omega, by go_num, fun j hj => by
     by_cases e : j = k
     ·rw [e]; exact HB.out
     ·exact HK.out j (by omega), hbe1⟩
    case measure => simp [intOf]; omega
   ·have hqb : (q != 0) = true := by simpa using hq
    have HB : Hid (P = (k : Int) /\ E = q) := by
     have h := HP.out
     rw [first_some HK.out hlt (by unfold placeB; rw [<- HQ.out]; simpa using hq)] at h
     dsimp only at h
     injection h with h1 h2
     exact ⟨h1, by rw [h2, HQ.out]⟩
    go_wp2_with (go_at_call 81; go_must (refine (place_any b off cap xs k _ hlt (by omega) (by omega) (HA.out _ hbe)).mono ?_); rintro e w1 ⟨he, hb1⟩; go_must (rw [<- HQ.out] at he; subst he; have hbe1 := hbe.trans (hb1.mono hsz); clear hb1))
    go_ret2
    exact ⟨r2i HB.out.1.symm HB.out.2.symm, hbe1⟩
  ·obtain rfl : k = xs.length := by omega
   have HPl : Hid (Placed xs) := HK.out
   have HLn : Hid ((loopsL xs).length <= 64) := by have := loopsU_len xs xs.length; show _ <= _; unfold loopsL; omega
   have HBn : Hid (Bnd (loopsL xs)) := bnd_ok HPl.out
   have HP2 : Hid ((P, E) = match crossF [] (loopsL xs) with
    | some t => (t, 31)
    | none => match first (intrB xs (loopsL xs)) xs.length with
     | some p => ((p : Int), 31)
     | none => if 256 < costC (loopsL xs) xs.length then (0, 32) else (0, 0)) := by
    have h := HP.out
    rw [first_none HK.out] at h
    exact h
   clear HP
   have HSr := HS.out.below hbe
   obtain ⟨R, HR⟩ : ∃ R, Hid (R = crossF [] (loopsL xs)) := ⟨_, rfl⟩
   rw [<- HR.out] at HP2
   obtain ⟨I, HI⟩ : ∃ I, Hid (I = first (intrB xs (loopsL xs)) xs.length) := ⟨_, rfl⟩
   rw [<- HI.out] at HP2
   have HI2 : Hid (optN I = optN (first (intrB xs (loopsL xs)) xs.length)) := by show _ = _; rw [HI.out]
   obtain ⟨C, HCo⟩ : ∃ C, Hid (C = costC (loopsL xs) xs.length) := ⟨_, rfl⟩
   rw [<- HCo.out] at HP2
   have HSr : Hid (SeesI wr (.slice (some ⟨b, off, none⟩) xs.length cap) xs) := HSr
   have hx64 : xs.length <= 64 := by omega
   cases R with
   | some t =>
    have HB : Hid (P = t /\ E = 31) := by have h := HP2.out; dsimp only at h; injection h with h1 h2; exact ⟨h1, h2⟩
    go_wp2_with (first
     | (go_at_call 82; go_must (refine (loops_any _ xs _ HSr.out hx64).mono ?_); rintro e w1 ⟨v1, rfl, hown, hb1⟩; go_must (have hL : Hid (SeesL w1 v1 (loopsL xs)) := own_seesL hown; have hbe1 := hbe.trans (hb1.mono hsz); clear hb1 hown))
     | (go_at_call 83; go_must (refine (crossing_any _ (loopsL xs) _ HLn.out hL.out HR).mono ?_); rintro e w2 ⟨he, hb2⟩; go_must (simp only [optI] at he; subst he; have hbe2 := hbe1.trans (hb2.mono hbe1.size); clear hb2)))
    go_ret2
    exact ⟨r2i HB.out.1.symm HB.out.2.symm, hbe2⟩
   | none =>
    cases I with
    | some p =>
     have HB : Hid (P = (p : Int) /\ E = 31) := by have h := HP2.out; dsimp only at h; injection h with h1 h2; exact ⟨h1, h2⟩
     go_wp2_with (first
      | (go_at_call 82; go_must (refine (loops_any _ xs _ HSr.out hx64).mono ?_); rintro e w1 ⟨v1, rfl, hown, hb1⟩; go_must (have hL : Hid (SeesL w1 v1 (loopsL xs)) := own_seesL hown; have hbe1 := hbe.trans (hb1.mono hsz); clear hb1 hown))
      | (go_at_call 83; go_must (refine (crossing_any _ (loopsL xs) _ HLn.out hL.out HR).mono ?_); rintro e w2 ⟨he, hb2⟩; go_must (simp only [optI] at he; subst he; have hbe2 := hbe1.trans (hb2.mono hbe1.size); have hL2 : Hid (SeesL w2 v1 (loopsL xs)) := SeesL.below hL.out hb2; clear hb2 hL))
      | (go_at_call 84; go_must (refine (intruder_any _ _ xs (loopsL xs) _ (HS.out.below hbe2) hL2.out hx64 HLn.out HI2).mono ?_); rintro e w3 ⟨he, hb3⟩; go_must (simp only [optI, optN] at he; subst he; have hbe3 := hbe2.trans (hb3.mono hbe2.size); clear hb3)))
     go_ret2
     exact ⟨r2i HB.out.1.symm HB.out.2.symm, hbe3⟩
    | none =>
     by_cases hC : 256 < C
     ·have HB : Hid (P = 0 /\ E = 32) := by have h := HP2.out; dsimp only at h; rw [if_pos hC] at h; injection h with h1 h2; exact ⟨h1, h2⟩
      go_wp2_with (first
       | (go_at_call 82; go_must (refine (loops_any _ xs _ HSr.out hx64).mono ?_); rintro e w1 ⟨v1, rfl, hown, hb1⟩; go_must (have hL : Hid (SeesL w1 v1 (loopsL xs)) := own_seesL hown; have hbe1 := hbe.trans (hb1.mono hsz); clear hb1 hown))
       | (go_at_call 83; go_must (refine (crossing_any _ (loopsL xs) _ HLn.out hL.out HR).mono ?_); rintro e w2 ⟨he, hb2⟩; go_must (simp only [optI] at he; subst he; have hbe2 := hbe1.trans (hb2.mono hbe1.size); have hL2 : Hid (SeesL w2 v1 (loopsL xs)) := SeesL.below hL.out hb2; clear hb2 hL))
       | (go_at_call 84; go_must (refine (intruder_any _ _ xs (loopsL xs) _ (HS.out.below hbe2) hL2.out hx64 HLn.out HI2).mono ?_); rintro e w3 ⟨he, hb3⟩; go_must (simp only [optI, optN] at he; subst he; have hbe3 := hbe2.trans (hb3.mono hbe2.size); have hL3 : Hid (SeesL w3 v1 (loopsL xs)) := SeesL.below hL2.out hb3; clear hb3 hL2))
       | (go_at_call 85; go_must (refine (cost_any _ _ xs (loopsL xs) _ (HS.out.below hbe3) hL3.out hx64 HLn.out HBn.out HCo).mono ?_); rintro e w4 ⟨he, hb4⟩; go_must (subst he; have hbe4 := hbe3.trans (hb4.mono hbe3.size); clear hb4)))
      go_ret2
      exact ⟨r2i HB.out.1.symm HB.out.2.symm, hbe4⟩
     ·have HB : Hid (P = 0 /\ E = 0) := by have h := HP2.out; dsimp only at h; rw [if_neg hC] at h; injection h with h1 h2; exact ⟨h1, h2⟩
      go_wp2_with (first
       | (go_at_call 82; go_must (refine (loops_any _ xs _ HSr.out hx64).mono ?_); rintro e w1 ⟨v1, rfl, hown, hb1⟩; go_must (have hL : Hid (SeesL w1 v1 (loopsL xs)) := own_seesL hown; have hbe1 := hbe.trans (hb1.mono hsz); clear hb1 hown))
       | (go_at_call 83; go_must (refine (crossing_any _ (loopsL xs) _ HLn.out hL.out HR).mono ?_); rintro e w2 ⟨he, hb2⟩; go_must (simp only [optI] at he; subst he; have hbe2 := hbe1.trans (hb2.mono hbe1.size); have hL2 : Hid (SeesL w2 v1 (loopsL xs)) := SeesL.below hL.out hb2; clear hb2 hL))
       | (go_at_call 84; go_must (refine (intruder_any _ _ xs (loopsL xs) _ (HS.out.below hbe2) hL2.out hx64 HLn.out HI2).mono ?_); rintro e w3 ⟨he, hb3⟩; go_must (simp only [optI, optN] at he; subst he; have hbe3 := hbe2.trans (hb3.mono hbe2.size); have hL3 : Hid (SeesL w3 v1 (loopsL xs)) := SeesL.below hL2.out hb3; clear hb3 hL2))
       | (go_at_call 85; go_must (refine (cost_any _ _ xs (loopsL xs) _ (HS.out.below hbe3) hL3.out hx64 HLn.out HBn.out HCo).mono ?_); rintro e w4 ⟨he, hb4⟩; go_must (subst he; have hbe4 := hbe3.trans (hb4.mono hbe3.size); clear hb4)))
      go_ret2
      exact ⟨r2i HB.out.1.symm HB.out.2.symm, hbe4⟩
theorem own_base {w : World} {base base' : Nat} {e : TypeId} {size : Nat} {v : Value} {n : Nat} {xs : List Value} (h : w.ownsRow base' e size v n xs) (hb : base <= base') : w.ownsRow base e size v n xs := by
 rcases h with ⟨h1, h2 | ⟨g, cap, cur, hv, hg, r⟩⟩
 ·exact ⟨h1, .inl h2⟩
 ·exact ⟨h1, .inr ⟨g, cap, cur, hv, by omega, r⟩⟩
def errL (xs : List In) : Int := (checkL xs).2
def loopsA (xs : List In) : List Lp := if errL xs = 0 then loopsL xs else []
theorem check_as {v : Value} {xs : List In} {w : World} (hs : SeesI w v xs) {P E : Int} (hP : Hid (P = (checkL xs).1)) (hE : Hid (E = errL xs)) : Calls Tryz.prog 53 #[v] w fun e w' => e = .returned (.tuple #[.int .i64 P, .int .i64 E]) /\ Below w.heap.size w w' :=
 check_any v xs w hs (show checkL xs = (P, E) by rw [hP.out, hE.out]; rfl)
set_option maxHeartbeats 800000 in
theorem lloops_any (v : Value) (xs : List In) (w : World) (hs : SeesI w v xs) {E : Int} (hE : Hid (E = errL xs)) : Calls Tryz.prog 54 #[v] w fun e w' => ∃ u, e = .returned (.tuple #[u, .int .i64 E]) /\ w'.ownsRow w.heap.size 187 3 u (loopsA xs).length (flatL (loopsA xs)) /\ Below w.heap.size w w' := by
 have HS : Hid (SeesI w v xs) := hs
 obtain ⟨a, cap, rfl⟩ := hs.shape
 clear hs
 obtain ⟨P, HP⟩ : ∃ P, Hid (P = (checkL xs).1) := ⟨_, rfl⟩
 by_cases hE0 : E = 0
 ·subst hE0
  have HT : Hid (Taken xs) := check_ok.1 (show errL xs = 0 from hE.out.symm)
  have HX : Hid (loopsA xs = loopsL xs) := by show _ = _; unfold loopsA; rw [if_pos hE.out.symm]
  rw [HX.out]
  go_enter Tryz.func54, Tryz.ntmps54
  go_wp2_with (first
   | (go_at_call 53; go_must (refine (check_as HS.out HP hE).mono ?_); rintro e w1 ⟨rfl, hb1⟩)
   | (go_at_call 82; go_must (refine (loops_any _ xs _ (HS.out.below hb1) HT.out.top).mono ?_); rintro e w2 ⟨v1, rfl, hown, hb2⟩; go_must (have hbe2 := hb1.trans (hb2.mono hb1.size); have hO : Hid _ := hown; have hz := hb1.size; clear hb2 hown)))
  go_ret2
  refine ⟨_, rfl, ?_, hbe2⟩
  exact own_base hO.out hz
 ·have hb : (E != 0) = true := by simpa using hE0
  have HX : Hid (loopsA xs = []) := by show _ = _; unfold loopsA; rw [if_neg (by rw [<- hE.out]; exact hE0)]
  rw [HX.out]
  go_enter Tryz.func54, Tryz.ntmps54
  go_wp2_with (go_at_call 53; go_must (refine (check_as HS.out HP hE).mono ?_); rintro e w1 ⟨rfl, hb1⟩)
  go_ret2
  exact ⟨_, rfl, World.ownsRow_nil _ _ _ _, hb1⟩
end Go.Proofs.YtiheafdphgllkaaGreatDoor
