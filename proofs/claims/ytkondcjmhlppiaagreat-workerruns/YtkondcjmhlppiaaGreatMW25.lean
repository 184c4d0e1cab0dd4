/-
  F7LA
  F7LLoops
-/
import Derived.Test.YtkondcjmhlppiaaGreatMW23
import Derived.Test.YtkondcjmhlppiaaGreatMW24
import Derived.Test.YtkondcjmhlppiaaGreatMW20
namespace Go.Proofs.YtkondcjmhlppiaaGreat
open Go.RowKit
set_option linter.unusedVariables false
set_option maxRecDepth 20000
theorem rbF {a b : Bool} (h : a = b) : Ending.returned (.bool a) = .returned (.bool b) := by rw [h]
theorem ri {a b : Int} (h : a = b) : Ending.returned (.int .i64 a) = .returned (.int .i64 b) := by rw [h]
theorem within_any (l : Lp) (p : Int) (w : World) : Calls Tryz.prog 78 #[lpV l, .int .i64 p] w fun e w' => e = .returned (.bool (inLpB l p)) /\ Below w.heap.size w w' := by
 obtain ⟨h, t, b⟩ := l
 by_cases hh : h <= p
 ·go_enter Tryz.func78, Tryz.ntmps78
  go_wp2
  go_ret
  exact ⟨rbF (by rw [Bool.eq_iff_iff]; simp [inLpB, hh]), by go_grown⟩
 ·go_enter Tryz.func78, Tryz.ntmps78
  go_wp2
  go_ret
  exact ⟨rbF (by rw [within_no.2 (by show ¬ (h <= p /\ p <= t); omega)]), by go_grown⟩
theorem within_as {l : Lp} {p : Int} {r : Bool} (hr : Hid (r = inLpB l p)) (w : World) : Calls Tryz.prog 78 #[lpV l, .int .i64 p] w fun e w' => e = .returned (.bool r) /\ Below w.heap.size w w' := by
 rw [hr.out]; exact within_any l p w
theorem boxL_cell {w w1 : World} {l : Lp} (h : Below (w.alloc (lpO l)).heap.size (w.alloc (lpO l)) w1) :
  w1.cell? ⟨w.heap.size, 0, none⟩ = some (.int .i64 l.h) /\ w1.cell? ⟨w.heap.size, 1, none⟩ = some (.int .i64 l.t) /\ w1.cell? ⟨w.heap.size, 2, none⟩ = some (.int .i64 l.b) := by
 refine ⟨?_, ?_, ?_⟩ <;> (rw [h.cell (by simp)]; simp)
theorem cells_next {w w' : World} {n : Nat} {x y z : Value} (h : w.cell? ⟨n, 0, none⟩ = some x /\ w.cell? ⟨n, 1, none⟩ = some y /\ w.cell? ⟨n, 2, none⟩ = some z) (hb : Below w.heap.size w w') (hn : n < w.heap.size) :
  w'.cell? ⟨n, 0, none⟩ = some x /\ w'.cell? ⟨n, 1, none⟩ = some y /\ w'.cell? ⟨n, 2, none⟩ = some z := by
 rw [hb.cell (p := ⟨n, 0, none⟩) hn, hb.cell (p := ⟨n, 1, none⟩) hn, hb.cell (p := ⟨n, 2, none⟩) hn]
 exact h
set_option maxHeartbeats 800000 in
theorem enters_any (l : Lp) (p q : Int) (w : World) : Calls Tryz.prog 77 #[lpV l, .int .i64 p, .int .i64 q] w fun e w' => e = .returned (.bool (entersB l p q)) /\ Below w.heap.size w w' := by
 obtain ⟨r1, H1⟩ : ∃ r, Hid (r = inLpB l p) := ⟨_, rfl⟩
 obtain ⟨r2, H2⟩ : ∃ r, Hid (r = inLpB l q) := ⟨_, rfl⟩
 have HE : Hid (entersB l p q = (!r1 && (r2 && decide (q ≠ l.h)))) := by show _ = _; rw [H1.out, H2.out]; rfl
 rw [HE.out]
 obtain ⟨h, t, b⟩ := l
 go_enter Tryz.func77, Tryz.ntmps77
 go_wp2_with (first
  | (go_at_call 78; (have hq := H1; clear hq); go_must (refine (within_as H1 _).mono ?_); rintro e w1 ⟨rfl, hb1⟩; go_must (have hB := box_below hb1; have hz := box_size hb1; obtain ⟨c0, c1, c2⟩ := boxL_cell (l := ⟨h, t, b⟩) hb1; clear hb1 H1))
  | (go_at_call 78; (have hq := H2; clear hq); go_must (refine (within_as H2 _).mono ?_); rintro e w2 ⟨rfl, hb2⟩; go_must (obtain ⟨d0, d1, d2⟩ := cells_next ⟨c0, c1, c2⟩ hb2 hz; replace hB := hB.trans (hb2.mono hB.size); clear H2 c0 c1 c2 hb2)))
 all_goals
  go_ret
  refine ⟨rbF ?_, hB⟩
  (first | (simp_all; done) | (simp_all; rfl) | (simp_all [bne]; done))
theorem enters_as {l : Lp} {p q : Int} {r : Bool} (hr : Hid (r = entersB l p q)) (w : World) : Calls Tryz.prog 77 #[lpV l, .int .i64 p, .int .i64 q] w fun e w' => e = .returned (.bool r) /\ Below w.heap.size w w' := by
 rw [hr.out]; exact enters_any l p q w
theorem goes_as {i : In} {f : Int} {l o : Bool} (hf : Hid (f = i.far)) (hl : Hid (l = i.leads)) (ho : Hid (o = i.on)) (w : World) : Calls Tryz.prog 58 #[instV i.op i.d i.a i.b i.imm] w fun e w' => e = .returned (.tuple #[.int .i64 f, .bool l, .bool o]) /\ Below w.heap.size w w' := by
 rw [hf.out, hl.out, ho.out]; exact ogoes_any i.op i.d i.a i.b i.imm w
theorem right_as {i : In} {r : Bool} (hr : Hid (r = i.right)) (w : World) (n : Nat) (hn : n = w.heap.size) : Calls Tryz.prog 76 #[.slice (some ⟨n, 0, none⟩) 1 1] (w.alloc (instO i.op i.d i.a i.b i.imm)) fun e w' => e = .returned (.bool r) /\ Below w.heap.size w w' /\ w.heap.size < w'.heap.size := by
 subst hn
 rw [hr.out]
 refine (rights_some w.heap.size 0 1 [i] (w.alloc (instO i.op i.d i.a i.b i.imm)) (by simp) (by unfold maxLen; omega) (by simp) ?_).mono ?_
 ·intro k hk
  obtain rfl : k = 0 := by simp at hk; exact hk
  simp [At]
 ·rintro e w' ⟨rfl, hb⟩
  exact ⟨r2b (by simp), box_below hb, box_size hb⟩
set_option maxHeartbeats 1600000 in
theorem place_any (b off cap : Nat) (xs : List In) (k : Nat) (w : World) (hk : k < xs.length) (hn : xs.length <= 64) (hb : b < w.heap.size) (hat : ∀ k, k < xs.length -> At w b (off + k * 5) (xs.getD k In.nil)) :
  Calls Tryz.prog 46 #[.slice (some ⟨b, off, none⟩) xs.length cap, .int .i64 k] w fun e w' => e = .returned (.int .i64 (placeE xs k)) /\ Below w.heap.size w w' := by
 obtain ⟨r, HR⟩ : ∃ r, Hid (r = (nth xs k).right) := ⟨_, rfl⟩
 obtain ⟨f, HF⟩ : ∃ f, Hid (f = (nth xs k).far) := ⟨_, rfl⟩
 obtain ⟨l, HL⟩ : ∃ l, Hid (l = (nth xs k).leads) := ⟨_, rfl⟩
 obtain ⟨o, HO⟩ : ∃ o, Hid (o = (nth xs k).on) := ⟨_, rfl⟩
 obtain ⟨E, HE⟩ : ∃ E, Hid (E = placeE xs k) := ⟨_, rfl⟩
 have HX : Hid (E = if r = false then 12 else if (k : Int) + f < 0 ∨ (xs.length : Int) <= k + f then 30 else if o = true /\ k + 1 = xs.length then 36 else 0) := by show _ = _; rw [HE.out, HR.out, HF.out, HO.out]; rfl
 rw [<- HE.out]
 have hfb := far_bd (nth xs k)
 rw [<- HF.out] at hfb
 have HA : Hid (∀ w1, Below w.heap.size w w1 -> At w1 b (off + k * 5) (nth xs k)) := fun w1 h1 => (hat k hk).below h1 hb
 clear hat
 generalize nth xs k = i at HR HF HL HO HA
 obtain ⟨op, d, a, bb, imm⟩ := i
 obtain ⟨c0, c1, c2, c3, c4⟩ := HA.out w (Below.refl _ _)
 go_enter Tryz.func46, Tryz.ntmps46
 go_wp2_with (first
  | (go_at_call 76; go_must (refine (right_as HR _ _ (by simp)).mono ?_); rintro e w1 ⟨rfl, hb1, hz⟩; go_must (obtain ⟨d0, d1, d2, d3, d4⟩ := HA.out w1 hb1; clear c0 c1 c2 c3 c4))
  | (go_at_call 58; go_must (refine (goes_as HF HL HO _).mono ?_); rintro e w2 ⟨rfl, hb2⟩; go_must (have hB := hb1.trans (hb2.mono hb1.size); clear hb2)))
 all_goals
  go_ret
  refine ⟨ri ?_, by assumption⟩
  have hx := HX.out
  rw [hx]
  clear HX HE HA HR HF HL HO d0 d1 d2 d3 d4
  cases r <;> cases o <;> simp_all <;> omega
theorem Tryz.infoLoop : (Tryz.prog.info? 143).map (fun i => (i.zero, i.size, i.bytes)) = some (some (.agg #[.int .i64 0, .int .i64 0, .int .i64 0]), 3, 24) := by kernel_rfl
theorem goes_one {i : In} {op d a b imm f : Int} {l o : Bool} (hi : Hid (i = ⟨op, d, a, b, imm⟩)) (hf : Hid (f = i.far)) (hl : Hid (l = i.leads)) (ho : Hid (o = i.on)) (w : World) : Calls Tryz.prog 58 #[instV op d a b imm] w fun e w' => e = .returned (.tuple #[.int .i64 f, .bool l, .bool o]) /\ Below w.heap.size w w' := by
 have h := goes_as hf hl ho w
 rw [hi.out] at h
 exact h
theorem step_loop {w wr w1 : World} {B : Nat} {e : TypeId} {v v' : Value} {o : Obj} {ys : List Lp} {l : Lp} (hown : wr.ownsRow B e 3 v ys.length (flatL ys)) (hbe : Below B w wr) (hB : B <= w.heap.size)
  (hown' : w1.ownsRow B e 3 v' (ys.length + 1) (flatL ys ++ lpC l)) (hgrow : (wr.alloc o).grownBy w1 v.ownBlock) :
  w1.ownsRow B e 3 v' (ys ++ [l]).length (flatL (ys ++ [l])) /\ Below B w w1 := by
 have hs := hbe.size
 refine ⟨?_, (hbe.alloc (by omega) o).grown hgrow (by simp; omega) (fun k hk => (hown.lt k hk).1)⟩
 rw [<- flatL_app]
 simpa [flatL] using hown'
set_option maxHeartbeats 1600000 in
theorem loops_any (v : Value) (xs : List In) (w : World) (hs : SeesI w v xs) (hn : xs.length <= 64) :
  Calls Tryz.prog 47 #[v] w fun e w' => ∃ v', e = .returned v' /\ w'.ownsRow w.heap.size 143 3 v' (loopsL xs).length (flatL (loopsL xs)) /\ Below w.heap.size w w' := by
 obtain ⟨i0, hi, hz0, hz1, hz2⟩ := info_parts Tryz.infoLoop
 obtain ⟨a, cap, rfl, hc, hm, hn0, hcell⟩ := hs
 have HC : Hid (xs ≠ [] -> ∃ b off, a = some ⟨b, off, none⟩ /\ b < w.heap.size /\ ∀ k, k < xs.length -> At w b (off + k * 5) (xs.getD k In.nil)) := hcell
 clear hcell
 go_enter Tryz.func47, Tryz.ntmps47
 go_wp2
 go_loopw [11, 3] (fun i v wr => ∃ (k : Nat) (ys : List Lp), k <= xs.length /\ i = .int .i64 k /\ Hid (ys = loopsU xs k) /\ ys.length <= k /\ wr.ownsRow w.heap.size 143 3 v ys.length (flatL ys) /\ Below w.heap.size w wr) (fun i _ _ => xs.length - (intOf i).toNat)
 case atStart => exact ⟨0, [], by omega, rfl, rfl, by simp, World.ownsRow_nil _ _ _ _, Below.refl _ _⟩
 case round =>
  obtain ⟨k, ys, hk, rfl, HY, hyl, hown, hbe⟩ := hrel
  have hsz := hbe.size
  by_cases hlt : k < xs.length
  ·obtain ⟨b, off, rfl, hb, hat⟩ := HC.out (fun h => by rw [h] at hlt; simp at hlt)
   obtain ⟨c0, c1, c2, c3, c4⟩ := (hat k hlt).below hbe hb
   have hbr : b < wr.heap.size := by omega
   clear hat
   obtain ⟨⟨op, d, a, bb, imm⟩, HI⟩ : ∃ i, Hid (nth xs k = i) := ⟨_, rfl⟩
   have HI2 : xs.getD k In.nil = ⟨op, d, a, bb, imm⟩ := HI.out
   rw [HI2] at c0 c1 c2 c3 c4
   clear HI2
   simp only at c0 c1 c2 c3 c4
   obtain ⟨f, HF⟩ : ∃ f, Hid (f = (nth xs k).far) := ⟨_, rfl⟩
   obtain ⟨l, HL⟩ : ∃ l, Hid (l = (nth xs k).leads) := ⟨_, rfl⟩
   obtain ⟨o, HO⟩ : ∃ o, Hid (o = (nth xs k).on) := ⟨_, rfl⟩
   have hfb := far_bd (nth xs k)
   rw [<- HF.out] at hfb
   have HS : Hid (loopsU xs (k + 1) = ys ++ if op = 20 then [⟨k + f, k, imm⟩] else []) := by
    show _ = _
    rw [loopsU, HY.out]
    unfold lps lpAt
    rw [HF.out, HI.out]
   by_cases h20 : op = 20
   ·subst h20
    go_wp2_with (first
     | (go_at_call 58; go_must (refine (goes_one HI HF HL HO _).mono ?_); rintro e w1 ⟨rfl, hb1⟩; go_must (have hbe1 : Below w.heap.size w w1 := hbe.trans ((box_below hb1).mono hsz); have hown1 := own_below (own_below hown ((Below.refl _ _).alloc (Nat.le_refl _) _) (Nat.le_refl _)) hb1 (Nat.le_refl _); obtain ⟨e0, e1, e2, e3, e4⟩ := box_cell hb1; have hsz1 := hbe1.size; clear hb1 hown))
     | (at_builtin; go_must (refine wpList_append_own _ rfl _ _ 102 rfl w.heap.size 143 i0 _ 3 24 Tryz.underlying102 hi hz0 hz1 hz2 rfl (by decide) _ _ _ rfl (hown1.alloc _) ⟨_, 0, none⟩ 1 1 (lpC ⟨k + f, k, imm⟩) rfl rfl (three_new _ _ _ _ _ _ rfl) (three_one _ _ _) (by unfold maxLen; omega) (by omega) (by simp; omega) ?_); intro v' w2 hown' hgrow _; have R := step_loop (l := ⟨k + f, k, imm⟩) hown1 hbe1 (Nat.le_refl _) hown' hgrow; clear hown' hgrow))
    go_roundw
    case rel => exact ⟨k + 1, ys ++ [⟨k + f, k, imm⟩], by omega, by go_num, by show _ = _; rw [HS.out]; rfl, by simp; omega, R.1, R.2⟩
    case measure => simp [intOf]; omega
   ·have h20b : (op == 20) = false := by simpa using h20
    go_wp2
    go_roundw
    case rel => exact ⟨k + 1, ys, by omega, by go_num, by show _ = _; rw [HS.out, if_neg h20, List.append_nil], by omega, hown.alloc _, hbe.alloc (by omega) _⟩
    case measure => simp [intOf]; omega
  ·obtain rfl : k = xs.length := by omega
   go_wp2
   go_ret
   refine ⟨_, rfl, ?_, hbe⟩
   rw [show loopsL xs = ys from HY.out.symm]
   exact hown
end Go.Proofs.YtkondcjmhlppiaaGreat
