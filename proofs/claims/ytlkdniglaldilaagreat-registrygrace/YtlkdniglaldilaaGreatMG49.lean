/-
  R24LE
  R24LF
  R24LG
  W24Kit
  W24Sc
  W24Play
-/
import Derived.Test.YtlkdniglaldilaaGreatMG0
import Derived.Test.YtlkdniglaldilaaGreatMG39
import Derived.Test.YtlkdniglaldilaaGreatMG47
import Derived.Test.YtlkdniglaldilaaGreatMG40
import Derived.Test.YtlkdniglaldilaaGreatMG46
import Derived.Test.YtlkdniglaldilaaGreatMG31
namespace Go.Proofs.YtlkdniglaldilaaGreat
open Go.RowKit
set_option linter.unusedVariables false
set_option linter.unusedSimpArgs false
set_option maxRecDepth 100000
open Go.ChangeShapes Go.WideShapes Go.ChangeAt Go.RowKit
theorem boxM24 (wr : World) (u v : Value) : ∃ W1 W2, Hid (wr.alloc (.cells #[.slice none 0 0, .slice none 0 0] 39) = W1) /\ Hid ((W1.setCell ⟨wr.heap.size, 0, none⟩ u).setCell ⟨wr.heap.size, 1, none⟩ v = W2) /\
  (W1.cell? ⟨wr.heap.size, 0, none⟩ = some (.slice none 0 0) /\ W1.cell? ⟨wr.heap.size, 1, none⟩ = some (.slice none 0 0)) /\ (W1.frozen? ⟨wr.heap.size, 0, none⟩ = false /\ W1.frozen? ⟨wr.heap.size, 1, none⟩ = false) /\
  Hid (Hp W2 wr.heap.size 39 [u, v]) /\ Hid (Below wr.heap.size wr W2) := by
 have h0 := Hp.new wr [.slice none 0 0, .slice none 0 0] 39
 exact ⟨_, _, rfl, rfl, ⟨h0.cell rfl, h0.cell rfl⟩, ⟨h0.frozen 0, h0.frozen 1⟩, (h0.set 0 u).set 1 v, ((below_allocG wr _).trans (grown_to_below (grown_set _ wr.heap.size 0 _) (Nat.le_refl _) (by simp))).trans (grown_to_below (grown_set _ wr.heap.size 1 _) (Nat.le_refl _) (by simp))⟩
theorem box_retM {fn : Func} {p u : Tmp} {w2 : World} {n : Nat} {tmps : Array Value} {a b E : Value} {Q : Ending -> World -> Prop} (hr : fn.results = #[.cell p 39, .tmp u]) (hp : tmps.getD p undef = .pointer (some ⟨n, 0, none⟩)) (hu : tmps.getD u undef = E) (hx : Hp w2 n 39 [a, b]) (hQ : Q (.returned (.tuple #[.agg #[a, b], E])) w2) : bodyPost Tryz.prog fn Q .ret ⟨tmps, []⟩ w2 := by
 refine bodyPost_ret (v := .tuple #[.agg #[a, b], E]) ?_ rfl hQ
 rw [results_cell_tmp hr, hp, hu]
 simp only [asAddr, Sem.run_pure, Result.andThen]
 rw [run_loadVar_row w2 n _ 39 #[a, b] (0, 0) _ hx Tryz.underlying39 rfl (by kernel_rfl)]
theorem two_setsM {w wr : World} {n : Nat} {cs : List Value} {u v : Value} (h : Hp wr n 39 cs) (hl : cs.length = 2) (hb : Below w.heap.size w wr) (hn : w.heap.size <= n) : Hp ((wr.setCell ⟨n, 0, none⟩ u).setCell ⟨n, 1, none⟩ v) n 39 [u, v] /\ Below w.heap.size w ((wr.setCell ⟨n, 0, none⟩ u).setCell ⟨n, 1, none⟩ v) := by
 match cs, hl with
 | [c, d], _ => exact ⟨(h.set 0 u).set 1 v, (hb.trans (grown_to_below (grown_set wr n 0 u) hn hb.size)).trans (grown_to_below (grown_set _ n 1 v) hn (by simpa using hb.size))⟩
section
variable {w w' : World} {b bt br bc : Nat} {G H : Ft} {r : Rg}
theorem decOwn {v : Value} {bs : List Int} (hs : Sees .u8 w v bs) (hby : ∀ x ∈ bs, 0 <= x /\ x <= 255) {ms : List Int} {xs : List In} {q e : Int} (hd : Hid (decL bs = ((ms, xs), q, e))) : Calls Tryz.prog 53 #[v] w fun e' w' => ∃ a c a' c', e' = .returned (.tuple #[modV (.slice a ms.length c) (.slice a' xs.length c'), .int .i64 q, .int .i64 e]) /\ MdIn w' ⟨.slice a ms.length c, .slice a' xs.length c', ms, xs⟩ /\ (∀ k, (Value.slice a ms.length c).ownBlock = some k -> w.heap.size <= k) /\ (∀ k, (Value.slice a' xs.length c').ownBlock = some k -> w.heap.size <= k) /\ Below w.heap.size w w' := by
 refine (decode_any v bs w hs).mono ?_
 rintro e' w' ⟨vm, vc, rfl, h1, h2, _, h4⟩
 have hm := dec_maps hby
 have hcd := dec_code hby
 rw [hd.out] at h1 h2 hm hcd ⊢
 obtain ⟨a, c, e1⟩ := own_shape h1
 obtain ⟨a', c', e2⟩ := own_shape h2
 simp only at e1 e2 h1 h2 hcd
 subst e1 e2
 exact ⟨a, c, a', c', rfl, ⟨own_lowG h1 (Nat.zero_le _), own_lowG h2 (Nat.zero_le _), fun x hx => WalkArith.wf_i64 (by have := hm x hx; omega), hcd⟩, fun k hk => (h1.lt k hk).1, fun k hk => (h2.lt k hk).1, h4⟩

set_option maxHeartbeats 3200000 in
theorem ladm_dec (h : Lr w b bt br bc G r) (hk : r.Ok) {v : Value} {bs : List Int} (hs : Sees .u8 w v bs) (hby : ∀ x ∈ bs, 0 <= x /\ x <= 255) {ms : List Int} {xs : List In} {q e : Int} (hd : Hid (decL bs = ((ms, xs), q, e))) (he : (e == 0) = false) : Calls Tryz.prog 40 #[.pointer (some ⟨b, 0, none⟩), v] w fun e' w' => e' = .returned (.tuple #[.agg #[.slice none 0 0, .slice none 0 0], .int .i64 e]) /\ Below w.heap.size w w' := by
 obtain ⟨X, HX, HpX, HBX⟩ : ∃ X, Hid (w.alloc (.cells #[.slice none 0 0, .slice none 0 0] 39) = X) /\ Hid (Hp X w.heap.size 39 [.slice none 0 0, .slice none 0 0]) /\ Hid (Below w.heap.size w X) := ⟨_, rfl, Hp.new w _ _, below_allocG _ _⟩
 have HS := keepG (hs.below HBX.out (Nat.le_refl _))
 have HBY := keepG hby
 have HLB := keepG (fun (wr : World) (hb : Below w.heap.size w wr) => h.below hb)
 have heN : (e != 0) = true := by simpa using he
 clear h hs hby
 go_enter Tryz.func40, Tryz.ntmps40
 go_wp2_with (first
  | (rw [HX.out])
  | (go_at_call 53; go_must (refine (decOwn HS.out HBY.out hd).mono ?_); rintro e1 w1 ⟨ma, mc, xa, xc, rfl, g1, g2, g3, g4⟩; dsimp only [modV]; go_must (have HM1 := keepG g1; have HB1 := keepG (HBX.out.trans (g4.mono HBX.out.size)); have HG2 : Hid (∀ k, (Value.slice ma ms.length mc).ownBlock = some k -> w.heap.size <= k) := fun k e => Nat.le_trans HBX.out.size (g2 k e); have HG3 : Hid (∀ k, (Value.slice xa xs.length xc).ownBlock = some k -> w.heap.size <= k) := fun k e => Nat.le_trans HBX.out.size (g3 k e); have HpX1 := keepG (HpX.out.below g4 HpX.out.lt); obtain ⟨W1, W2, HW1, HW2, ⟨n0, n1⟩, ⟨f0, f1⟩, HP2, HB2⟩ := boxM24 w1 (.slice ma ms.length mc) (.slice xa xs.length xc); have HBW := keepG (HB1.out.trans (HB2.out.mono HB1.out.size)); have HpX2 := keepG (HpX1.out.below HB2.out HpX1.out.lt); have z0 := HpX2.out.cell (j := 0) rfl; have z1 := HpX2.out.cell (j := 1) rfl; have y0 := HpX2.out.frozen 0; have y1 := HpX2.out.frozen 1; have p0 := HP2.out.cell (j := 0) rfl; have p1 := HP2.out.cell (j := 1) rfl; clear g1 g2 g3 g4))
  | (rw [HW1.out])
  | (rw [HW2.out]))
 obtain ⟨k1, k2⟩ := two_setsM (u := .slice none 0 0) (v := .slice none 0 0) HpX2.out rfl HBW.out (Nat.le_refl _)
 exact box_retM rfl rfl rfl k1 ⟨rfl, k2⟩
set_option maxHeartbeats 3200000 in
theorem ladm_jud (h : Lr w b bt br bc G r) (hk : r.Ok) {v : Value} {bs : List Int} (hs : Sees .u8 w v bs) (hby : ∀ x ∈ bs, 0 <= x /\ x <= 255) {ms : List Int} {xs : List In} {q : Int} (hd : Hid (decL bs = ((ms, xs), q, 0))) {jp je : Int} (hj : Hid (judgeR ms xs = (jp, je))) (he : (je == 0) = false) : Calls Tryz.prog 40 #[.pointer (some ⟨b, 0, none⟩), v] w fun e' w' => e' = .returned (.tuple #[.agg #[.slice none 0 0, .slice none 0 0], .int .i64 je]) /\ Below w.heap.size w w' := by
 obtain ⟨X, HX, HpX, HBX⟩ : ∃ X, Hid (w.alloc (.cells #[.slice none 0 0, .slice none 0 0] 39) = X) /\ Hid (Hp X w.heap.size 39 [.slice none 0 0, .slice none 0 0]) /\ Hid (Below w.heap.size w X) := ⟨_, rfl, Hp.new w _ _, below_allocG _ _⟩
 have HS := keepG (hs.below HBX.out (Nat.le_refl _))
 have HBY := keepG hby
 have HLB := keepG (fun (wr : World) (hb : Below w.heap.size w wr) => h.below hb)
 have heN : (je != 0) = true := by simpa using he
 clear h hs hby
 go_enter Tryz.func40, Tryz.ntmps40
 go_wp2_with (first
  | (rw [HX.out])
  | (go_at_call 53; go_must (refine (decOwn HS.out HBY.out hd).mono ?_); rintro e1 w1 ⟨ma, mc, xa, xc, rfl, g1, g2, g3, g4⟩; dsimp only [modV]; go_must (have HM1 := keepG g1; have HB1 := keepG (HBX.out.trans (g4.mono HBX.out.size)); have HG2 : Hid (∀ k, (Value.slice ma ms.length mc).ownBlock = some k -> w.heap.size <= k) := fun k e => Nat.le_trans HBX.out.size (g2 k e); have HG3 : Hid (∀ k, (Value.slice xa xs.length xc).ownBlock = some k -> w.heap.size <= k) := fun k e => Nat.le_trans HBX.out.size (g3 k e); have HpX1 := keepG (HpX.out.below g4 HpX.out.lt); obtain ⟨W1, W2, HW1, HW2, ⟨n0, n1⟩, ⟨f0, f1⟩, HP2, HB2⟩ := boxM24 w1 (.slice ma ms.length mc) (.slice xa xs.length xc); have HBW := keepG (HB1.out.trans (HB2.out.mono HB1.out.size)); have HpX2 := keepG (HpX1.out.below HB2.out HpX1.out.lt); have z0 := HpX2.out.cell (j := 0) rfl; have z1 := HpX2.out.cell (j := 1) rfl; have y0 := HpX2.out.frozen 0; have y1 := HpX2.out.frozen 1; have p0 := HP2.out.cell (j := 0) rfl; have p1 := HP2.out.cell (j := 1) rfl; clear g1 g2 g3 g4))
  | (rw [HW1.out])
  | (rw [HW2.out])
  | (go_at_call 54; go_must (refine (ljudge_as (Sees.own (HM1.out.chg (G := fun _ => False) (Chg.of_below HB2.out) (fun _ e => e.elim)).om HM1.out.wm) (own_seesI (HM1.out.chg (G := fun _ => False) (Chg.of_below HB2.out) (fun _ e => e.elim)).oc) hj).mono ?_); rintro e2 w3 ⟨rfl, g5⟩; go_must (have HB3 := keepG (HBW.out.trans (g5.mono HBW.out.size)); have HpX3 := keepG (HpX2.out.below g5 HpX2.out.lt); have HP3 := keepG (HP2.out.below g5 HP2.out.lt); have HM3 := keepG (HM1.out.chg (G := fun _ => False) (Chg.of_below (HB2.out.trans (g5.mono HB2.out.size))) (fun _ e => e.elim)); clear z0 z1 y0 y1 n0 n1 f0 f1 p0 p1; have z0 := HpX3.out.cell (j := 0) rfl; have z1 := HpX3.out.cell (j := 1) rfl; have y0 := HpX3.out.frozen 0; have y1 := HpX3.out.frozen 1; have p0 := HP3.out.cell (j := 0) rfl; have p1 := HP3.out.cell (j := 1) rfl; clear g5)))
 obtain ⟨k1, k2⟩ := two_setsM (u := .slice none 0 0) (v := .slice none 0 0) HpX3.out rfl HB3.out (Nat.le_refl _)
 exact box_retM rfl rfl rfl k1 ⟨rfl, k2⟩
set_option maxHeartbeats 6400000 in
theorem ladm_maps (h : Lr w b bt br bc G r) (hk : r.Ok) {v : Value} {bs : List Int} (hs : Sees .u8 w v bs) (hby : ∀ x ∈ bs, 0 <= x /\ x <= 255) {ms : List Int} {xs : List In} {q : Int} (hd : Hid (decL bs = ((ms, xs), q, 0))) {jp : Int} (hj : Hid (judgeR ms xs = (jp, 0))) {Q : Ending -> World -> Prop}
  (HENDB : Hid (ms.all (inM r.mp) = false -> ∀ w', Below w.heap.size w w' -> Q (.returned (.tuple #[.agg #[.slice none 0 0, .slice none 0 0], .int .i64 41])) w'))
  (HENDF : Hid (ms.all (inM r.mp) = true -> 16 <= r.there -> ∀ w', Below w.heap.size w w' -> Q (.returned (.tuple #[.agg #[.slice none 0 0, .slice none 0 0], .int .i64 40])) w'))
  (HENDO : Hid (ms.all (inM r.mp) = true -> ¬ 16 <= r.there -> ∀ x y w', Below w.heap.size w w' -> MdIn w' ⟨x, y, ms, xs⟩ -> (∀ k, x.ownBlock = some k -> w.heap.size <= k) -> (∀ k, y.ownBlock = some k -> w.heap.size <= k) -> Q (.returned (.tuple #[.agg #[x, y], .int .i64 0])) w')) :
  Calls Tryz.prog 40 #[.pointer (some ⟨b, 0, none⟩), v] w Q := by
 obtain ⟨X, HX, HpX, HBX⟩ : ∃ X, Hid (w.alloc (.cells #[.slice none 0 0, .slice none 0 0] 39) = X) /\ Hid (Hp X w.heap.size 39 [.slice none 0 0, .slice none 0 0]) /\ Hid (Below w.heap.size w X) := ⟨_, rfl, Hp.new w _ _, below_allocG _ _⟩
 have HS := keepG (hs.below HBX.out (Nat.le_refl _))
 have HBY := keepG hby
 have HLB := keepG (fun (wr : World) (hb : Below w.heap.size w wr) => h.below hb)
 clear h hs hby
 go_enter Tryz.func40, Tryz.ntmps40
 go_wp2_with (first
  | (rw [HX.out])
  | (go_at_call 53; go_must (refine (decOwn HS.out HBY.out hd).mono ?_); rintro e1 w1 ⟨ma, mc, xa, xc, rfl, g1, g2, g3, g4⟩; dsimp only [modV]; go_must (have HM1 := keepG g1; have HB1 := keepG (HBX.out.trans (g4.mono HBX.out.size)); have HG2 : Hid (∀ k, (Value.slice ma ms.length mc).ownBlock = some k -> w.heap.size <= k) := fun k e => Nat.le_trans HBX.out.size (g2 k e); have HG3 : Hid (∀ k, (Value.slice xa xs.length xc).ownBlock = some k -> w.heap.size <= k) := fun k e => Nat.le_trans HBX.out.size (g3 k e); have HpX1 := keepG (HpX.out.below g4 HpX.out.lt); obtain ⟨W1, W2, HW1, HW2, ⟨n0, n1⟩, ⟨f0, f1⟩, HP2, HB2⟩ := boxM24 w1 (.slice ma ms.length mc) (.slice xa xs.length xc); have HBW := keepG (HB1.out.trans (HB2.out.mono HB1.out.size)); have HpX2 := keepG (HpX1.out.below HB2.out HpX1.out.lt); have z0 := HpX2.out.cell (j := 0) rfl; have z1 := HpX2.out.cell (j := 1) rfl; have y0 := HpX2.out.frozen 0; have y1 := HpX2.out.frozen 1; have p0 := HP2.out.cell (j := 0) rfl; have p1 := HP2.out.cell (j := 1) rfl; clear g1 g2 g3 g4))
  | (rw [HW1.out])
  | (rw [HW2.out])
  | (go_at_call 54; go_must (refine (ljudge_as (Sees.own (HM1.out.chg (G := fun _ => False) (Chg.of_below HB2.out) (fun _ e => e.elim)).om HM1.out.wm) (own_seesI (HM1.out.chg (G := fun _ => False) (Chg.of_below HB2.out) (fun _ e => e.elim)).oc) hj).mono ?_); rintro e2 w3 ⟨rfl, g5⟩; go_must (have HB3 := keepG (HBW.out.trans (g5.mono HBW.out.size)); have HpX3 := keepG (HpX2.out.below g5 HpX2.out.lt); have HP3 := keepG (HP2.out.below g5 HP2.out.lt); have HM3 := keepG (HM1.out.chg (G := fun _ => False) (Chg.of_below (HB2.out.trans (g5.mono HB2.out.size))) (fun _ e => e.elim)); clear z0 z1 y0 y1 n0 n1 f0 f1 p0 p1; have z0 := HpX3.out.cell (j := 0) rfl; have z1 := HpX3.out.cell (j := 1) rfl; have y0 := HpX3.out.frozen 0; have y1 := HpX3.out.frozen 1; have p0 := HP3.out.cell (j := 0) rfl; have p1 := HP3.out.cell (j := 1) rfl; clear g5)))
 go_loopw [37] (fun i wr => ∃ j : Nat, j <= ms.length /\ i = .int .i64 j /\ Hid (Below w3.heap.size w3 wr) /\ Hid (∀ k, k < j -> inM r.mp (ms.getD k 0) = true)) (fun i _ => ms.length - (intOf i).toNat)
 case atStart => exact ⟨0, by omega, rfl, Below.refl _ _, (show ∀ k, k < 0 -> _ from fun k h => by omega)⟩
 case round =>
  rename_i wr
  obtain ⟨j, hj', rfl, HB, HA⟩ := hrel
  have HBr := keepG (HB3.out.trans (HB.out.mono HB3.out.size))
  have c1 := (HLB.out wr HBr.out).low.2.1
  have HpXr := keepG (HpX3.out.below HB.out HpX3.out.lt)
  have z0 := HpXr.out.cell (j := 0) rfl
  have z1 := HpXr.out.cell (j := 1) rfl
  have y0 := HpXr.out.frozen 0
  have y1 := HpXr.out.frozen 1
  have HPr := keepG (HP3.out.below HB.out HP3.out.lt)
  have p0 := HPr.out.cell (j := 0) rfl
  have p1 := HPr.out.cell (j := 1) rfl
  by_cases hlt : j < ms.length
  ·have hltI : (j : Int) < ms.length := by omega
   obtain ⟨g, ea, hml, d0⟩ : ∃ g, ma = some ⟨g, 0, none⟩ /\ ms.length <= 9223372036854775807 /\ wr.cell? ⟨g, j, none⟩ = some (.int .i64 (ms.getD j 0)) := by
    obtain ⟨g, cap, e, _, _, hc1, hc2, hat⟩ := own_open (HM3.out.chg (G := fun _ => False) (Chg.of_below HB.out) (fun _ e => e.elim)).om (by show 0 < ms.length; omega)
    simp only at e
    injection e with e1
    unfold maxLen at hc2
    exact ⟨g, e1, (by have hc1 : ms.length <= cap := hc1; omega), hat j _ (by simp [List.getD, hlt])⟩
   subst ea
   have HMD := keepG (getD_mem ms j hlt)
   obtain ⟨m, HMV⟩ : ∃ m, Hid (ms.getD j 0 = m) := ⟨_, rfl⟩
   rw [HMV.out] at d0 HMD
   cases hin : inM r.mp m with
   | false =>
    have HCN := keepG (Lr.count (HLB.out wr HBr.out) hk m (show Hid (_ = _) from if_neg (by rw [hin]; decide)))
    have HALL : Hid (ms.all (inM r.mp) = false) := Bool.eq_false_iff.2 (fun g => by have := List.all_eq_true.1 g m HMD.out; rw [hin] at this; cases this)
    clear hin
    go_wp2_with (go_at_call 12; go_must (refine HCN.out.mono ?_); rintro e4 w4 ⟨rfl, g6⟩; go_must (have HB4 := keepG (HBr.out.trans (g6.mono HBr.out.size)); have HpX4 := keepG (HpXr.out.below g6 HpXr.out.lt); clear z0 z1 y0 y1 p0 p1 c1; have z0 := HpX4.out.cell (j := 0) rfl; have z1 := HpX4.out.cell (j := 1) rfl; have y0 := HpX4.out.frozen 0; have y1 := HpX4.out.frozen 1; clear g6))
    obtain ⟨k1, k2⟩ := two_setsM (u := .slice none 0 0) (v := .slice none 0 0) HpX4.out rfl HB4.out (Nat.le_refl _)
    exact box_retM rfl rfl rfl k1 (HENDB.out HALL.out _ k2)
   | true =>
    have HCN := keepG (Lr.count (HLB.out wr HBr.out) hk m (show Hid (_ = _) from if_pos hin))
    have HA2 : Hid (∀ k, k < j + 1 -> inM r.mp (ms.getD k 0) = true) := fun k hk' => by
     by_cases e : k = j
     ·rw [e, HMV.out]; exact hin
     ·exact HA.out k (by omega)
    clear hin
    go_wp2_with (go_at_call 12; go_must (refine HCN.out.mono ?_); rintro e4 w4 ⟨rfl, g6⟩; go_must (have HB4 := keepG (HB.out.trans (g6.mono HB.out.size)); clear g6))
    go_roundw
    case rel => exact ⟨j + 1, by omega, by go_num, HB4.out, HA2.out⟩
    case measure => simp [intOf]; omega
  ·have hltI : ¬ (j : Int) < ms.length := by omega
   have HALL : Hid (ms.all (inM r.mp) = true) := List.all_eq_true.2 (fun m hm => by
    obtain ⟨k, hk1, e⟩ := List.getElem_of_mem hm
    have := HA.out k (by omega)
    have e2 : ms.getD k 0 = ms[k] := by simp [List.getD, hk1]
    rw [e2, e] at this
    exact this)
   obtain ⟨F, gc, P, ul, L, ut, T, M, h1, hG, h2, h3⟩ := (HLB.out wr HBr.out).ex
   have hth := h2.there hk
   obtain ⟨ua, uc, eu⟩ := own_shape h1.liv
   obtain ⟨va, vc, ev⟩ := own_shape h1.ret
   have c5 := h1.cell (i := 5) rfl
   have c6 := h1.cell (i := 6) rfl
   simp only at eu ev c5 c6
   subst eu ev
   have hsum : L.length + T.length <= 16 := (h2.lens hk).1
   have HTH := keepG hth
   clear h1 hG h2 h3 hth
   have HD2 : Hid (∀ k, (wr.drewN k).cell? ⟨b, 5, none⟩ = some (.slice ua L.length uc)) := fun k => c5
   go_wp2
   refine wp_region_held_drew (S := fun w' => w'.cell? ⟨b, 5, none⟩ = some (.slice ua L.length uc) /\ w'.cell? ⟨b, 6, none⟩ = some (.slice va T.length vc)) (by kernel_rfl) ⟨c5, c6⟩ (fun hHeld => ?_)
   refine tkGo [0, 1, 2, 3, 4, 5, 6, 7, 8, 9, 10, 11] ?_
   repeat (refine tkO (v := ?_) rfl ?_ ?_; rotate_left; (intro wy hSw; (try dsimp only at hSw); go_simp; (first | done | with_reducible rfl)); try simp only [Act.put, p1q, p2q, p3q, p4q, p5q, p6q])
   refine tkEnd ?_
   refine wpAnyH_done (by kernel_rfl) ?_ _
   clear hHeld c5 c6
   have hwr : IntKind.i64.wrap ((L.length : Int) + T.length) = (L.length : Int) + T.length := by rw [IntKind.wrap_i64]; omega
   by_cases hf : 16 <= L.length + T.length
   ·have hfI : (L.length : Int) + T.length ≥ 16 := by omega
    go_wp2
    obtain ⟨k1, k2⟩ := two_setsM (wr := wr.drew) (u := .slice none 0 0) (v := .slice none 0 0) HpXr.out rfl (below_drG HBr.out) (Nat.le_refl _)
    exact box_retM rfl rfl rfl k1 (HENDF.out HALL.out (by rw [HTH.out]; exact hf) _ k2)
   ·have hfI : ¬ (L.length : Int) + T.length ≥ 16 := by omega
    have HMr := keepG (HM3.out.chg (G := fun _ => False) (Chg.of_below HB.out) (fun _ e => e.elim))
    go_wp2
    obtain ⟨k1, k2⟩ := two_setsM (wr := wr.drew) (u := .slice ma ms.length mc) (v := .slice xa xs.length xc) HpXr.out rfl (below_drG HBr.out) (Nat.le_refl _)
    have k3 : MdIn ((wr.drew.setCell ⟨w.heap.size, 0, none⟩ (.slice ma ms.length mc)).setCell ⟨w.heap.size, 1, none⟩ (.slice xa xs.length xc)) ⟨.slice ma ms.length mc, .slice xa xs.length xc, ms, xs⟩ := by
     have hne : ∀ k, k = w.heap.size -> ¬ ((Value.slice ma ms.length mc).ownBlock = some k ∨ (Value.slice xa xs.length xc).ownBlock = some k) := fun k e g => by
      subst e
      rcases g with g | g
      ·exact own_type10 HMr.out.om HpXr.out (by decide) g
      ·exact own_type10 HMr.out.oc HpXr.out (by decide) g
     exact ((HMr.out.chg (G := fun _ => False) ((Chg.refl wr _).drewN 1) (fun _ e => e.elim)).chg (Chg.set wr.drew w.heap.size 0 _) hne).chg (Chg.set _ w.heap.size 1 _) hne
    exact box_retM rfl rfl rfl k1 (HENDO.out HALL.out (by rw [HTH.out]; omega) _ _ _ k2 k3 HG2.out HG3.out)
end
section
variable {w w' : World} {b bt br bc : Nat} {G H : Ft} {r : Rg} {F : Nat -> Ft} {c : Cp}
theorem Mr.ldrop (h : Mr w b F c) (hk : Rs_g.Ok c.mp c.P) (hm : c.mp <= 4) (hl : c.P.length <= 10000) {u : Value} {ps : List Int} (hz : Hid (ps.length * 8 <= 140737488355328)) (hs : Sees .i64 w u ps) (hap : ps ≠ [] -> Apt (unF 7 F) (ftV u)) {E : Int} {P' : Rs_g} (HQ : Hid (Rs_g.drop c.P ps = (E, P'))) : Calls Tryz.prog 23 #[.pointer (some ⟨c.br, 0, none⟩), u] w fun e w' => e = .returned (.int .i64 E) /\ ∃ F', Mr w' b F' { c with P := P' } /\ Nx w w' (unF 7 F) (unF 7 F') := by
 obtain ⟨B, hB, ht⟩ := h.ref
 refine (ht.drop hk hm hl hB hz hs (fun hne k e g => hap hne k ⟨2, by omega, e⟩ g) HQ).mono ?_
 rintro e w' ⟨rfl, F', g1, g2⟩
 obtain ⟨a1, a2⟩ := Mr.refS h g2 hB g1
 exact ⟨rfl, _, a1, a2⟩
theorem Mr.lhold (h : Mr w b F c) (hk : Rs_g.Ok c.mp c.P) (hm : c.mp <= 4) (hl : c.P.length <= 10000) (p : Int) (hp : Hid ((Lit.int .i64 p).wf = true)) {u : Value} {ws : List Int} (hz : Hid (ws.length * 8 <= 140737488355328)) (hs : Sees .i64 w u ws) (hap : ws ≠ [] -> Apt (F 2) (ftV u)) {E : Int} {P' : Rs_g} (HQ : Hid (Rs_g.hold c.mp c.P p ws = (E, P'))) : Calls Tryz.prog 41 #[.pointer (some ⟨c.br, 0, none⟩), .int .i64 p, u] w fun e w' => e = .returned (.int .i64 E) /\ ∃ F', Mr w' b F' { c with P := P' } /\ Nx w w' (unF 7 F) (unF 7 F') := by
 obtain ⟨B, hB, ht⟩ := h.ref
 refine (ht.hold hk hm hl hB p hp hz hs hap HQ).mono ?_
 rintro e w' ⟨rfl, F', g1, g2⟩
 obtain ⟨a1, a2⟩ := Mr.refS h g2 hB g1
 exact ⟨rfl, _, a1, a2⟩
theorem all_inM {mp : Nat} {ms : List Int} (h : ∀ m ∈ ms, 0 <= m /\ m <= 3) : ms.all (inM mp) = ms.all (fun m => decide (m < mp)) := by
 rw [Bool.eq_iff_iff, List.all_eq_true, List.all_eq_true]
 constructor
 ·intro g m hm
  have := g m hm
  unfold inM at this
  simp only [Bool.and_eq_true] at this
  exact this.2
 ·intro g m hm
  have := g m hm
  unfold inM
  simp only [Bool.and_eq_true, decide_eq_true_eq]
  exact ⟨(h m hm).1, by simpa using this⟩
theorem ladmit (h : Lr w b bt br bc G r) (hk : r.Ok) {v : Value} {bs : List Int} (hs : Sees .u8 w v bs) (hby : ∀ x ∈ bs, 0 <= x /\ x <= 255) {n E : Int} {r' : Rg} (HQ : r.loadB bs = (n, E, r')) :
  (E ≠ 0 -> n = 0 /\ r' = r /\ Calls Tryz.prog 40 #[.pointer (some ⟨b, 0, none⟩), v] w fun e' w' => e' = .returned (.tuple #[.agg #[.slice none 0 0, .slice none 0 0], .int .i64 E]) /\ Below w.heap.size w w') /\
  (E = 0 -> ∃ ms xs, n = (r.ps.length : Int) + 1 /\ r' = ⟨r.mp, r.tb, r.ck, r.ps ++ [⟨ms, xs, 0, 0⟩], r.ln⟩ /\ okM_g r.mp ms = true /\ ms.length <= 4 /\ ¬ 16 <= r.there /\ Calls Tryz.prog 40 #[.pointer (some ⟨b, 0, none⟩), v] w fun e' w' => ∃ a c a' c', e' = .returned (.tuple #[.agg #[.slice a ms.length c, .slice a' xs.length c'], .int .i64 0]) /\ Below w.heap.size w w' /\ MdIn w' ⟨.slice a ms.length c, .slice a' xs.length c', ms, xs⟩ /\ (∀ k, (Value.slice a ms.length c).ownBlock = some k -> w.heap.size <= k) /\ (∀ k, (Value.slice a' xs.length c').ownBlock = some k -> w.heap.size <= k)) := by
 obtain ⟨⟨⟨ms, xs⟩, q, e⟩, hd⟩ : ∃ d, decL bs = d := ⟨_, rfl⟩
 have hin := dec_maps hby
 rw [hd] at hin
 unfold Rg.loadB errB at HQ
 rw [hd] at HQ
 simp only at HQ hin
 by_cases he : e = 0
 ·subst he
  rw [if_neg (by simp)] at HQ
  obtain ⟨⟨jp, je⟩, hj⟩ : ∃ j, judgeR ms xs = j := ⟨_, rfl⟩
  rw [hj] at HQ
  unfold Rg.load at HQ
  simp only at HQ
  by_cases hje : je = 0
  ·subst hje
   rw [if_neg (by simp), <- all_inM (mp := r.mp) hin] at HQ
   have hjm := judge_maps (ms := ms) (xs := xs) (by rw [hj])
   cases hall : ms.all (inM r.mp) with
   | false =>
    rw [if_pos hall] at HQ
    injection HQ with e1 HQ
    injection HQ with e2 e3
    subst e1 e2 e3
    refine ⟨fun _ => ⟨rfl, rfl, ladm_maps h hk hs hby hd hj ?_ ?_ ?_⟩, fun g => by cases g⟩
    ·exact fun _ w' hb => ⟨rfl, hb⟩
    ·exact fun g => by rw [hall] at g; cases g
    ·exact fun g => by rw [hall] at g; cases g
   | true =>
    rw [if_neg (by rw [hall]; decide)] at HQ
    by_cases hf : 16 <= r.there
    ·rw [if_pos hf] at HQ
     injection HQ with e1 HQ
     injection HQ with e2 e3
     subst e1 e2 e3
     refine ⟨fun _ => ⟨rfl, rfl, ladm_maps h hk hs hby hd hj ?_ ?_ ?_⟩, fun g => by cases g⟩
     ·exact fun g => by rw [hall] at g; cases g
     ·exact fun _ _ w' hb => ⟨rfl, hb⟩
     ·exact fun _ g => absurd hf g
    ·rw [if_neg hf] at HQ
     injection HQ with e1 HQ
     injection HQ with e2 e3
     subst e1 e2 e3
     have hok : okM_g r.mp ms = true := by
      unfold okM_g
      rw [hall, Bool.and_true]
      exact decide_eq_true hjm.1
     have hl4 : ms.length <= 4 := nodup_le 4 ms hjm.1 (fun x hx => by have := hin x hx; omega)
     refine ⟨fun g => absurd rfl g, fun _ => ⟨ms, xs, rfl, rfl, hok, hl4, hf, ladm_maps h hk hs hby hd hj ?_ ?_ ?_⟩⟩
     ·exact fun g => by rw [hall] at g; cases g
     ·exact fun _ g => absurd g hf
     ·intro _ _ x y w' hb hm g1 g2
      obtain ⟨a, c, e1⟩ := own_shape hm.om
      obtain ⟨a', c', e2⟩ := own_shape hm.oc
      simp only at e1 e2
      subst e1 e2
      exact ⟨a, c, a', c', rfl, hb, hm, g1, g2⟩
  ·rw [if_pos hje] at HQ
   injection HQ with e1 HQ
   injection HQ with e2 e3
   subst e1 e2 e3
   exact ⟨fun _ => ⟨rfl, rfl, ladm_jud h hk hs hby hd hj (by simpa using hje)⟩, fun g => absurd g hje⟩
 ·rw [if_pos he] at HQ
  unfold Rg.load at HQ
  rw [if_pos he] at HQ
  injection HQ with e1 HQ
  injection HQ with e2 e3
  subst e1 e2 e3
  exact ⟨fun _ => ⟨rfl, rfl, ladm_dec h hk hs hby hd (by simpa using he)⟩, fun g => absurd g he⟩
theorem lload_no (h : Lr w b bt br bc G r) {v : Value} {E : Int} (hE : E ≠ 0) (HA : Hid (Calls Tryz.prog 40 #[.pointer (some ⟨b, 0, none⟩), v] w fun e' w' => e' = .returned (.tuple #[.agg #[.slice none 0 0, .slice none 0 0], .int .i64 E]) /\ Below w.heap.size w w')) :
  Calls Tryz.prog 17 #[.pointer (some ⟨b, 0, none⟩), v] w fun e w' => e = .returned (.tuple #[.int .i64 0, .int .i64 E]) /\ Below w.heap.size w w' := by
 have heN : (E != 0) = true := by simpa using hE
 clear h hE
 go_enter Tryz.func17, Tryz.ntmps17
 go_wp2_with (first
  | (go_at_call 40; go_must (refine HA.out.mono ?_); rintro e1 w1 ⟨rfl, g1⟩; go_must (obtain ⟨W1, W2, HW1, HW2, ⟨n0, n1⟩, ⟨f0, f1⟩, HP2, HB2⟩ := boxM24 w1 (.slice none 0 0) (.slice none 0 0); have HBW := keepG (g1.trans (HB2.out.mono g1.size)); clear g1))
  | (rw [HW1.out])
  | (rw [HW2.out]))
 go_ret2
 exact ⟨rfl, HBW.out⟩
set_option maxHeartbeats 6400000 in
theorem lload_ok (h : Lr w b bt br bc G r) (hk : r.Ok) (hps : r.ps.length <= 1000000000000000) (hth : ¬ 16 <= r.there) {v : Value} {ms : List Int} {xs : List In} (hok : okM_g r.mp ms = true) (hl4 : ms.length <= 4)
  (HA : Hid (Calls Tryz.prog 40 #[.pointer (some ⟨b, 0, none⟩), v] w fun e' w' => ∃ a c a' c', e' = .returned (.tuple #[.agg #[.slice a ms.length c, .slice a' xs.length c'], .int .i64 0]) /\ Below w.heap.size w w' /\ MdIn w' ⟨.slice a ms.length c, .slice a' xs.length c', ms, xs⟩ /\ (∀ k, (Value.slice a ms.length c).ownBlock = some k -> w.heap.size <= k) /\ (∀ k, (Value.slice a' xs.length c').ownBlock = some k -> w.heap.size <= k))) :
  Calls Tryz.prog 17 #[.pointer (some ⟨b, 0, none⟩), v] w fun e w' => e = .returned (.tuple #[.int .i64 ((r.ps.length : Int) + 1), .int .i64 0]) /\ ∃ G', Lr w' b bt br bc G' ⟨r.mp, r.tb, r.ck, r.ps ++ [⟨ms, xs, 0, 0⟩], r.ln⟩ /\ Nx w w' G G' := by
 obtain ⟨ip, hip, hipz, hips, hipb⟩ := info_parts infoPw
 obtain ⟨F, gc, P, ul, L, ut, T, M, h1, rfl, h2, h3⟩ := h.ex
 have hlt := (h2.lens hk).1
 have hPl : P.length <= 16 := (h2.lens hk).2
 have hmp := hk.mp
 have hpok := h2.pok
 obtain ⟨ua, uc, eu⟩ := own_shape h1.liv
 simp only at eu
 subst eu
 have HM0 := keepG h1
 have HLi := keepG h1.lies
 have HRL := keepG (fun md (e : md.ms = ms) => h2.load hk md (by rw [e]; exact hok))
 have HDR := keepG (h2.drop_new hk)
 have HHO := keepG (h2.hold_new hk hok)
 have HH3 := keepG h3
 have HPOK := keepG hpok
 have hlL : L.length <= 16 := by omega
 have hw1 : IntKind.i64.wrap ((r.ps.length : Int) + 1) = (r.ps.length : Int) + 1 := by rw [IntKind.wrap_i64]; omega
 have HWF := keepG (wf_smallR (x := (r.ps.length : Int) + 1) (by omega) (by omega))
 obtain ⟨nn, HNN⟩ : ∃ nn : Int, Hid ((r.ps.length : Int) = nn) := ⟨_, rfl⟩
 clear h h1 h2 h3 hlt hth hpok
 go_enter Tryz.func17, Tryz.ntmps17
 go_wp2_with (first
  | (go_at_call 40; go_must (refine HA.out.mono ?_); rintro e1 w1 ⟨a, ac, a2, a2c, rfl, g1, g2, g3, g4⟩; go_must (obtain ⟨m1, x1⟩ := Mr.modS HM0.out g1 g2 g3 g4; obtain ⟨W1, W2, HW1, HW2, ⟨n0, n1⟩, ⟨f0, f1⟩, HP2, HB2⟩ := boxM24 w1 (.slice a ms.length ac) (.slice a2 xs.length a2c); have HM2 := keepG (Mr.below m1 HB2.out); have HL1 := keepG m1.lies; have HNW := keepG (x1.trans (Nx.below HB2.out)); have c4 := HM2.out.cell (i := 4) rfl; have f4 := HM2.out.cel.frozen 4; (try simp only at c4); obtain ⟨m3, x3⟩ := Mr.set HM2.out 4 (.int .i64 ((r.ps.length : Int) + 1)); obtain ⟨W3, HW3, HM3, HN3⟩ : ∃ W3, Hid (W2.setCell ⟨b, 4, none⟩ (.int .i64 ((r.ps.length : Int) + 1)) = W3) /\ Hid (Mr W3 b _ _) /\ Hid (Nx W2 W3 _ _) := ⟨_, rfl, m3, x3⟩; clear g1 g2 g3 g4 m1 x1 m3 x3))
  | (rw [HW1.out])
  | (rw [HW2.out])
  | (rw [HW3.out]))
 have HKQ : Hid (∀ wx Fx, Nx W2 wx (unF 7 (upd F 6 (ftM (⟨.slice a ms.length ac, .slice a2 xs.length a2c, ms, xs⟩ :: M)))) Fx -> wx.cell? ⟨w1.heap.size, 0, none⟩ = some (.slice a ms.length ac) /\ wx.cell? ⟨w1.heap.size, 1, none⟩ = some (.slice a2 xs.length a2c)) := fun wx Fx hn => by
  have g := HP2.out.chg hn.chg (fun e => by have := HL1.out _ e; omega)
  exact ⟨g.cell rfl, g.cell rfl⟩
 have HREL := keepG (HRL.out ⟨.slice a ms.length ac, .slice a2 xs.length a2c, ms, xs⟩ rfl)
 obtain ⟨X5, HX5, HBX5, HSX5⟩ := lit_oneR W3 ((r.ps.length : Int) + 1) HWF.out
 have HDROP := keepG (fun (wx : World) (hb : Below X5.heap.size X5 wx) => Mr.ldrop (Mr.below (Mr.below HM3.out HBX5.out) hb) HPOK.out hmp (show P.length <= 10000 by omega) (show Hid (1 * 8 <= _) by show _ <= _; omega) (HSX5.out.below hb (Nat.le_refl _)) (fun _ k e g => by have h5 := (Mr.lies HM3.out) k e; have h6 : W3.heap.size = k := Option.some.inj g; omega) HDR)
 have c1 := HM3.out.cell (i := 1) rfl
 have c4 := HM3.out.cell (i := 4) rfl
 have hx5 := Mr.below HM3.out HBX5.out
 have x1 := hx5.cell (i := 1) rfl
 have x4 := hx5.cell (i := 4) rfl
 try simp only at c1 c4 x1 x4
 try simp only at HDROP
 clear hx5
 refine wp_region_held_drew (S := fun w' => w'.cell? ⟨b, 1, none⟩ = some (.pointer (some ⟨br, 0, none⟩)) /\ w'.cell? ⟨b, 4, none⟩ = some (.int .i64 ((r.ps.length : Int) + 1))) (by kernel_rfl) ⟨c1, c4⟩ (fun hHeld => ?_)
 refine tkGo [0, 1, 2, 3, 4, 5, 6, 7] ?_
 repeat (refine tkO (v := ?_) rfl ?_ ?_; rotate_left; (intro wy hSw; (try dsimp only at hSw); go_simp; (first | done | with_reducible rfl)); try simp only [Act.put, p1q, p2q, p3q, p4q, p5q, p6q])
 refine tkEnd ?_
 refine runO 8 (by kernel_rfl) rfl (by rfl) (fun KK hK => ?_)
 go_simp
 rw [HX5.out]
 refine hK.out _ _ ⟨x1, x4⟩ (fun hHeld => ?_)
 clear hK KK
 try simp only [Act.put, p1q, p2q, p3q, p4q, p5q, p6q]
 refine runO 9 (by kernel_rfl) rfl (by rfl) (fun KK hK => ?_)
 go_simp
 go_at_call 23
 refine (HDROP.out _ (below_drG (Below.refl _ _))).mono ?_
 rintro e5 w5 ⟨rfl, F5, m5, x5⟩
 have HM5 := keepG m5
 have HN5 : Hid (Nx W2 w5 (unF 7 (upd F 6 (ftM (⟨.slice a ms.length ac, .slice a2 xs.length a2c, ms, xs⟩ :: M)))) (unF 7 F5)) := HN3.out.trans ((Nx.below HBX5.out).trans ((Nx.below (below_drG (Below.refl _ _))).trans x5))
 have d1 := m5.cell (i := 1) rfl
 have d4 := m5.cell (i := 4) rfl
 try simp only at d1 d4
 clear m5 x5 x1 x4 c1 c4
 go_simp
 refine hK.out _ _ ⟨d1, d4⟩ (fun hHeld => ?_)
 clear hK KK
 try simp only [Act.put, p1q, p2q, p3q, p4q, p5q, p6q]
 refine wpAnyH_done (by kernel_rfl) ?_ _
 clear hHeld
 have HHOLD := keepG (fun (wx : World) (hb : Below w5.heap.size w5 wx) => Mr.lhold (Mr.below HM5.out hb) HPOK.out hmp (show P.length <= 10000 by omega) ((r.ps.length : Int) + 1) HWF (ws := ms) (show Hid (_ <= _) by show _ <= _; omega) (Sees.own ((Mr.below HM5.out hb).mod _ List.mem_cons_self).om ((Mr.below HM5.out hb).mod _ List.mem_cons_self).wm) (fun hne k e g => (Mr.below HM5.out hb).ap 2 6 (by omega) (by omega) (by omega) k e (by rw [(Mr.below HM5.out hb).f6]; exact ⟨_, List.mem_cons_self, .inl g⟩)) HHO)
 obtain ⟨p0, p1⟩ := HKQ.out _ _ HN5.out
 go_wp2
 refine wp_region_held_drew (S := fun w' => w'.cell? ⟨b, 1, none⟩ = some (.pointer (some ⟨br, 0, none⟩)) /\ w'.cell? ⟨b, 4, none⟩ = some (.int .i64 ((r.ps.length : Int) + 1)) /\ w'.cell? ⟨w1.heap.size, 0, none⟩ = some (.slice a ms.length ac)) (by kernel_rfl) ⟨d1, d4, p0⟩ (fun hHeld => ?_)
 refine tkGo [0, 1, 2, 3, 4, 5, 6, 7, 8, 9] ?_
 repeat (refine tkO (v := ?_) rfl ?_ ?_; rotate_left; (intro wy hSw; (try dsimp only at hSw); go_simp; (first | done | with_reducible rfl)); try simp only [Act.put, p1q, p2q, p3q, p4q, p5q, p6q])
 refine tkEnd ?_
 refine runO 10 (by kernel_rfl) rfl (by rfl) (fun KK hK => ?_)
 go_simp
 go_at_call 41
 refine (HHOLD.out _ (below_drG (Below.refl _ _))).mono ?_
 rintro e7 w7 ⟨rfl, F7, m7, x7⟩
 have HM7 := keepG m7
 have HN7 : Hid (Nx W2 w7 (unF 7 (upd F 6 (ftM (⟨.slice a ms.length ac, .slice a2 xs.length a2c, ms, xs⟩ :: M)))) (unF 7 F7)) := HN5.out.trans ((Nx.below (below_drG (Below.refl _ _))).trans x7)
 clear p0 p1 d1 d4
 obtain ⟨p0, p1⟩ := HKQ.out _ _ HN7.out
 have d1 := m7.cell (i := 1) rfl
 have d4 := m7.cell (i := 4) rfl
 have c5 := m7.cell (i := 5) rfl
 try simp only at d1 d4 c5
 clear m7 x7
 go_simp
 refine hK.out _ _ ⟨d1, d4, p0⟩ (fun hHeld => ?_)
 clear hK KK
 try simp only [Act.put, p1q, p2q, p3q, p4q, p5q, p6q]
 refine wpAnyH_done (by kernel_rfl) ?_ _
 clear hHeld
 go_wp2
 obtain ⟨Z, HZ, HnZ, hbZ⟩ : ∃ Z, Hid (w7.alloc (.cells #[.int .i64 ((r.ps.length : Int) + 1), .slice a ms.length ac, .slice a2 xs.length a2c, .int .i64 0] 64) = Z) /\ Hid (∀ j u, (pwC ⟨(r.ps.length : Int) + 1, ⟨.slice a ms.length ac, .slice a2 xs.length a2c, ms, xs⟩, 0⟩)[j]? = some u -> Z.cell? ((⟨w7.heap.size, 0, none⟩ : Addr).add j) = some u) /\ Below w7.heap.size w7 Z := ⟨_, rfl, cells_new w7 (pwC ⟨(r.ps.length : Int) + 1, ⟨.slice a ms.length ac, .slice a2 xs.length a2c, ms, xs⟩, 0⟩) _ _ rfl, below_allocG _ _⟩
 obtain ⟨q0, q1⟩ := HKQ.out _ _ (HN7.out.trans (Nx.below hbZ))
 have q4 := (Mr.below HM7.out hbZ).cell (i := 4) rfl
 have q5 := (Mr.below HM7.out hbZ).cell (i := 5) rfl
 try simp only at q4 q5
 refine wp_region_held_drew (S := fun w' => w'.cell? ⟨b, 4, none⟩ = some (.int .i64 ((r.ps.length : Int) + 1)) /\ w'.cell? ⟨w1.heap.size, 0, none⟩ = some (.slice a ms.length ac) /\ w'.cell? ⟨w1.heap.size, 1, none⟩ = some (.slice a2 xs.length a2c)) (by kernel_rfl) ⟨d4, p0, p1⟩ (fun hHeld => ?_)
 refine tkGo [0, 1, 2, 3, 5, 6, 7, 8, 9, 10] ?_
 repeat (refine tkO (v := ?_) rfl ?_ ?_; rotate_left; (intro wy hSw; (try dsimp only at hSw); go_simp; (first | done | with_reducible rfl)); try simp only [Act.put, p1q, p2q, p3q, p4q, p5q, p6q])
 refine tkEnd ?_
 refine runT 4 11 (by kernel_rfl) rfl rfl (by rfl) (by rfl) (fun KK hK => ?_) (fun KK hK => ?_)
 ·go_simp
  refine hK.out _ _ ⟨d4, p0, p1⟩ (fun hHeld => ?_)
  clear hK KK
  try simp only [Act.put, p1q, p2q, p3q, p4q, p5q, p6q]
  refine runO 11 (by kernel_rfl) rfl (by rfl) (fun KK hK => ?_)
  go_simp
  rw [HZ.out]
  refine hK.out _ _ ⟨q4, q0, q1⟩ (fun hHeld => ?_)
  clear hK KK
  try simp only [Act.put, p1q, p2q, p3q, p4q, p5q, p6q]
  refine runO 12 (by kernel_rfl) rfl (by rfl) (fun KK hK => ?_)
  refine wp_append_at19 _ (.tmp 49) (.tmp 56) 46 rfl 0 64 ip _ 4 64 Tryz.underlying46 hip hipz hips hipb rfl (by decide) (.slice ua L.length uc) L.length (flatG pwC L) rfl (own_below HM7.out.liv (below_drG hbZ) (Nat.le_refl _)) ⟨w7.heap.size, 0, none⟩ 1 1 (pwC ⟨(r.ps.length : Int) + 1, ⟨.slice a ms.length ac, .slice a2 xs.length a2c, ms, xs⟩, 0⟩) rfl rfl HnZ.out (pw_one _ ⟨⟨_, _, _, rfl⟩, ⟨_, _, _, rfl⟩⟩) (by unfold maxLen; omega) (by omega) (Nat.zero_le _) ?_
  intro v8 w8 hown hgr hat
  have hch : Chg w7 w8 (fun k => (Value.slice ua L.length uc).ownBlock = some k) := ((Chg.of_below (S := fun k => (Value.slice ua L.length uc).ownBlock = some k) hbZ).drewN 1).trans (Chg.of_grown' hgr (fun k e => e)) (fun _ _ e => e)
  have how := own_moreG (x := (⟨(r.ps.length : Int) + 1, ⟨.slice a ms.length ac, .slice a2 xs.length a2c, ms, xs⟩, 0⟩ : Pw)) hown
  obtain ⟨za, zc, rfl⟩ := own_shape hown
  obtain ⟨m8, x8⟩ := Mr.livS HM7.out hch (hat.imp id (fun e => ⟨_, e, hbZ.size⟩)) how
  obtain ⟨m9, x9⟩ := Mr.set m8 5 (.slice za (L.length + 1) zc)
  have c5 := m8.cell (i := 5) rfl
  have f5 := m8.cel.frozen 5
  try simp only at c5
  have HM9 := keepG m9
  have HN9 := keepG (HN7.out.trans (x8.trans x9))
  have HQ8 := HKQ.out _ _ (HN7.out.trans x8)
  have HQ9 := HKQ.out _ _ HN9.out
  have c49 := m9.cell (i := 4) rfl
  try simp only at c49
  have c48 := m8.cell (i := 4) rfl
  try simp only at c48
  refine hK.out _ _ ⟨c48, HQ8.1, HQ8.2⟩ (fun hHeld => ?_)
  clear hK KK hown hgr hat hch how m8 x8 m9 x9
  try simp only [Act.put, p1q, p2q, p3q, p4q, p5q, p6q]
  refine tkGo [13, 14] ?_
  repeat (refine tkO (v := ?_) rfl ?_ ?_; rotate_left; (intro wy hSw; (try dsimp only at hSw); go_simp; (first | done | with_reducible rfl)); try simp only [Act.put, p1q, p2q, p3q, p4q, p5q, p6q])
  refine tkEnd ?_
  refine runO 15 (by kernel_rfl) rfl (by rfl) (fun KK hK => ?_)
  go_simp
  refine hK.out _ _ ⟨c49, HQ9.1, HQ9.2⟩ (fun hHeld => ?_)
  clear hK KK
  try simp only [Act.put, p1q, p2q, p3q, p4q, p5q, p6q]
  refine wpAnyH_done (by kernel_rfl) ?_ _
  clear hHeld HQ8 HQ9
  go_wp2
  go_ret2
  refine ⟨rfl, _, ⟨_, gc, insH ⟨(r.ps.length : Int) + 1, ms⟩ P, .slice za (L.length + 1) zc, L ++ [⟨(r.ps.length : Int) + 1, ⟨.slice a ms.length ac, .slice a2 xs.length a2c, ms, xs⟩, 0⟩], ut, T, ⟨.slice a ms.length ac, .slice a2 xs.length a2c, ms, xs⟩ :: M, ?_, rfl, HREL.out, fun q hq => ?_⟩, HNW.out.trans HN9.out⟩
  ·show Mr _ b _ ⟨[_, _, _, _, .int .i64 ((r.ps ++ [(⟨ms, xs, 0, 0⟩ : Pg)]).length : Nat), _, _], _, _, _, _, _, _, _, _, _, _, _, _, _⟩
   rw [List.length_append]
   exact HM9.out
  ·rcases List.mem_append.1 hq with g | g
   ·rcases List.mem_append.1 g with g | g
    ·exact List.mem_cons_of_mem _ (HH3.out q (List.mem_append_left _ g))
    ·have e : q = ⟨(r.ps.length : Int) + 1, ⟨.slice a ms.length ac, .slice a2 xs.length a2c, ms, xs⟩, 0⟩ := by simpa using g
     rw [e]
     exact List.mem_cons_self
   ·exact List.mem_cons_of_mem _ (HH3.out q (List.mem_append_right _ g))
 ·go_simp
  rw [HZ.out]
  refine hK.out _ _ ⟨q4, q0, q1⟩ (fun hHeld => ?_)
  clear hK KK
  try simp only [Act.put, p1q, p2q, p3q, p4q, p5q, p6q]
  refine runO 4 (by kernel_rfl) rfl (by rfl) (fun KK hK => ?_)
  go_simp
  refine hK.out _ _ ⟨q4, q0, q1⟩ (fun hHeld => ?_)
  clear hK KK
  try simp only [Act.put, p1q, p2q, p3q, p4q, p5q, p6q]
  refine runO 12 (by kernel_rfl) rfl (by rfl) (fun KK hK => ?_)
  refine wp_append_at19 _ (.tmp 49) (.tmp 56) 46 rfl 0 64 ip _ 4 64 Tryz.underlying46 hip hipz hips hipb rfl (by decide) (.slice ua L.length uc) L.length (flatG pwC L) rfl (own_below HM7.out.liv (below_drG hbZ) (Nat.le_refl _)) ⟨w7.heap.size, 0, none⟩ 1 1 (pwC ⟨(r.ps.length : Int) + 1, ⟨.slice a ms.length ac, .slice a2 xs.length a2c, ms, xs⟩, 0⟩) rfl rfl HnZ.out (pw_one _ ⟨⟨_, _, _, rfl⟩, ⟨_, _, _, rfl⟩⟩) (by unfold maxLen; omega) (by omega) (Nat.zero_le _) ?_
  intro v8 w8 hown hgr hat
  have hch : Chg w7 w8 (fun k => (Value.slice ua L.length uc).ownBlock = some k) := ((Chg.of_below (S := fun k => (Value.slice ua L.length uc).ownBlock = some k) hbZ).drewN 1).trans (Chg.of_grown' hgr (fun k e => e)) (fun _ _ e => e)
  have how := own_moreG (x := (⟨(r.ps.length : Int) + 1, ⟨.slice a ms.length ac, .slice a2 xs.length a2c, ms, xs⟩, 0⟩ : Pw)) hown
  obtain ⟨za, zc, rfl⟩ := own_shape hown
  obtain ⟨m8, x8⟩ := Mr.livS HM7.out hch (hat.imp id (fun e => ⟨_, e, hbZ.size⟩)) how
  obtain ⟨m9, x9⟩ := Mr.set m8 5 (.slice za (L.length + 1) zc)
  have c5 := m8.cell (i := 5) rfl
  have f5 := m8.cel.frozen 5
  try simp only at c5
  have HM9 := keepG m9
  have HN9 := keepG (HN7.out.trans (x8.trans x9))
  have HQ8 := HKQ.out _ _ (HN7.out.trans x8)
  have HQ9 := HKQ.out _ _ HN9.out
  have c49 := m9.cell (i := 4) rfl
  try simp only at c49
  have c48 := m8.cell (i := 4) rfl
  try simp only at c48
  refine hK.out _ _ ⟨c48, HQ8.1, HQ8.2⟩ (fun hHeld => ?_)
  clear hK KK hown hgr hat hch how m8 x8 m9 x9
  try simp only [Act.put, p1q, p2q, p3q, p4q, p5q, p6q]
  refine tkGo [13, 14] ?_
  repeat (refine tkO (v := ?_) rfl ?_ ?_; rotate_left; (intro wy hSw; (try dsimp only at hSw); go_simp; (first | done | with_reducible rfl)); try simp only [Act.put, p1q, p2q, p3q, p4q, p5q, p6q])
  refine tkEnd ?_
  refine runO 15 (by kernel_rfl) rfl (by rfl) (fun KK hK => ?_)
  go_simp
  refine hK.out _ _ ⟨c49, HQ9.1, HQ9.2⟩ (fun hHeld => ?_)
  clear hK KK
  try simp only [Act.put, p1q, p2q, p3q, p4q, p5q, p6q]
  refine wpAnyH_done (by kernel_rfl) ?_ _
  clear hHeld HQ8 HQ9
  go_wp2
  go_ret2
  refine ⟨rfl, _, ⟨_, gc, insH ⟨(r.ps.length : Int) + 1, ms⟩ P, .slice za (L.length + 1) zc, L ++ [⟨(r.ps.length : Int) + 1, ⟨.slice a ms.length ac, .slice a2 xs.length a2c, ms, xs⟩, 0⟩], ut, T, ⟨.slice a ms.length ac, .slice a2 xs.length a2c, ms, xs⟩ :: M, ?_, rfl, HREL.out, fun q hq => ?_⟩, HNW.out.trans HN9.out⟩
  ·show Mr _ b _ ⟨[_, _, _, _, .int .i64 ((r.ps ++ [(⟨ms, xs, 0, 0⟩ : Pg)]).length : Nat), _, _], _, _, _, _, _, _, _, _, _, _, _, _, _⟩
   rw [List.length_append]
   exact HM9.out
  ·rcases List.mem_append.1 hq with g | g
   ·rcases List.mem_append.1 g with g | g
    ·exact List.mem_cons_of_mem _ (HH3.out q (List.mem_append_left _ g))
    ·have e : q = ⟨(r.ps.length : Int) + 1, ⟨.slice a ms.length ac, .slice a2 xs.length a2c, ms, xs⟩, 0⟩ := by simpa using g
     rw [e]
     exact List.mem_cons_self
   ·exact List.mem_cons_of_mem _ (HH3.out q (List.mem_append_right _ g))
theorem Lr.load (h : Lr w b bt br bc G r) (hk : r.Ok) (hps : r.ps.length <= 1000000000000000) {v : Value} {bs : List Int} (hs : Sees .u8 w v bs) (hby : ∀ x ∈ bs, 0 <= x /\ x <= 255) {n E : Int} {r' : Rg} (HQ : Hid (r.loadB bs = (n, E, r'))) : Calls Tryz.prog 17 #[.pointer (some ⟨b, 0, none⟩), v] w fun e w' => e = .returned (.tuple #[.int .i64 n, .int .i64 E]) /\ ∃ G', Lr w' b bt br bc G' r' /\ Nx w w' G G' := by
 obtain ⟨h1, h2⟩ := ladmit h hk hs hby HQ.out
 by_cases hE : E = 0
 ·obtain ⟨ms, xs, rfl, rfl, g1, g2, g3, g4⟩ := h2 hE
  subst hE
  exact lload_ok h hk hps g3 g1 g2 g4
 ·obtain ⟨rfl, rfl, g⟩ := h1 hE
  refine (lload_no h hE g).mono ?_
  rintro e w' ⟨rfl, hb⟩
  exact ⟨rfl, _, h.below hb, Nx.below hb⟩
end
structure Sj (w wr : World) (b : Nat) (F : Nat -> Ft) (c : Cp) (r : Rg) (most : Int) (jp : Nat) (u : Value) (A : List Int) (v : Value) (B : List Pw) : Prop where
 ex : ∃ F' Q, Mr wr b F' { c with P := Q } /\ Nx w wr (unF 7 F) (unF 7 F') /\ PJ r c.L c.T most jp Q /\ Apt (ftV u) (unF 7 F') /\ Apt (ftV v) (unF 7 F')
 gone : wr.ownsRow w.heap.size 3 1 u A.length (A.map (Value.int .i64))
 wait : wr.ownsRow w.heap.size 64 4 v B.length (flatG pwC B)
section
variable {w wr wr' : World} {b : Nat} {F : Nat -> Ft} {c : Cp} {r : Rg} {most : Int} {jp : Nat} {u v : Value} {A : List Int} {B : List Pw}
theorem Sj.below (h : Sj w wr b F c r most jp u A v B) (hb : Below wr.heap.size wr wr') : Sj w wr' b F c r most jp u A v B := by
 obtain ⟨F', Q, h1, h2, h3, h4, h5⟩ := h.ex
 exact ⟨⟨F', Q, h1.below hb, h2.trans (Nx.below hb), h3, h4, h5⟩, own_below h.gone hb (Nat.le_refl _), own_below h.wait hb (Nat.le_refl _)⟩
theorem Sj.size (h : Sj w wr b F c r most jp u A v B) : w.heap.size <= wr.heap.size := by
 obtain ⟨F', Q, _, h2, _⟩ := h.ex
 exact h2.chg.size
theorem Sj.step (h : Sj w wr b F c r most jp u A v B) {jp' : Nat} (hg : r.gJ most jp' = r.gJ most jp) : Sj w wr b F c r most jp' u A v B := by
 obtain ⟨F', Q, h1, h2, h3, h4, h5⟩ := h.ex
 refine ⟨⟨F', Q, h1, h2, ?_, h4, h5⟩, h.gone, h.wait⟩
 unfold PJ at h3 ⊢
 rw [hg]
 exact h3
theorem apt_new {w w' : World} {u u' : Value} {G : Ft} (h : Apt (ftV u) G) (hl : Lies w G) (hr : u'.ownBlock = u.ownBlock ∨ ∃ k, u'.ownBlock = some k /\ w.heap.size <= k) : Apt (ftV u') G := fun k hk e => by
 have hk : u'.ownBlock = some k := hk
 rcases hr with g | ⟨j, g1, g2⟩
 ·exact h k (by show u.ownBlock = some k; rw [<- g]; exact hk) e
 ·rw [g1] at hk
  injection hk with hk
  have := hl k e
  omega
theorem Sj.waitS (h : Sj w wr b F c r most jp u A v B) {v' : Value} {p : Pw} (hown : wr'.ownsRow w.heap.size 64 4 v' (B.length + 1) (flatG pwC B ++ pwC p)) (hc : Chg wr wr' (ftV v)) (hr : v'.ownBlock = v.ownBlock ∨ ∃ k, v'.ownBlock = some k /\ wr.heap.size <= k) : Sj w wr' b F c r most jp u A v' (B ++ [p]) := by
 obtain ⟨F', Q, h1, h2, h3, h4, h5⟩ := h.ex
 refine ⟨⟨F', Q, h1.keeps hc h5, h2.since hc (fun k hk => (h.wait.lt k hk).1), h3, h4, apt_new (w' := wr') h5 h1.lies hr⟩, own_chg h.gone hc (fun k hk e => own_twoG h.gone h.wait (by decide) k hk e), own_moreG hown⟩
theorem Sj.goneS (h : Sj w wr b F c r most jp u A v B) {u' : Value} {n : Int} (hown : wr'.ownsRow w.heap.size 3 1 u' (A.length + 1) (A.map (Value.int .i64) ++ [Value.int .i64 n])) (hc : Chg wr wr' (ftV u)) (hr : u'.ownBlock = u.ownBlock ∨ ∃ k, u'.ownBlock = some k /\ wr.heap.size <= k) : Sj w wr' b F c r most jp u' (A ++ [n]) v B := by
 obtain ⟨F', Q, h1, h2, h3, h4, h5⟩ := h.ex
 refine ⟨⟨F', Q, h1.keeps hc h4, h2.since hc (fun k hk => (h.gone.lt k hk).1), h3, apt_new (w' := wr') h4 h1.lies hr, h5⟩, by simpa using hown, own_chg h.wait hc (fun k hk e => own_twoG h.wait h.gone (by decide) k hk e)⟩
theorem Sj.drop {wx : World} (h : Sj w wr b F c r most jp u A v B) (hb : Below wr.heap.size wr wx) (hm : c.mp <= 4) (hmp : r.mp = c.mp) {z : Value} {n : Int} (hs : Sees .i64 wx z [n]) (hz : ∀ k, ftV z k -> wr.heap.size <= k) (hd : ∀ Q, PJ r c.L c.T most jp Q -> Rs_g.drop Q [n] = (0, Q.filter (outP [n])) /\ PJ r c.L c.T most (jp + 1) (Q.filter (outP [n]))) : Calls Tryz.prog 23 #[.pointer (some ⟨c.br, 0, none⟩), z] wx fun e wr' => e = .returned (.int .i64 0) /\ Sj w wr' b F c r most (jp + 1) u A v B /\ Chg wx wr' (fun k => k < wr.heap.size) := by
 obtain ⟨F', Q, h1, h2, h3, h4, h5⟩ := h.ex
 obtain ⟨d1, d2⟩ := hd Q h3
 have hl := h1.lies
 refine (Mr.ldrop (Mr.below h1 hb) (by have := h3.2.1; rw [hmp] at this; exact this) hm (by have := h3.2.2; show Q.length <= 10000; omega) (ps := [n]) (show Hid (1 * 8 <= _) by show _ <= _; omega) hs (fun _ k e g => by have := hl k e; have := hz k g; omega) d1).mono ?_
 rintro e wr' ⟨rfl, F'', g1, g2⟩
 have g3 := own_below h.gone hb (Nat.le_refl _)
 have g4 := own_below h.wait hb (Nat.le_refl _)
 refine ⟨rfl, ⟨⟨F'', _, g1, (h2.trans (Nx.below hb)).trans g2, d2, ?_, ?_⟩, own_chg g3 g2.chg (fun k hk e => h4 k hk e), own_chg g4 g2.chg (fun k hk e => h5 k hk e)⟩, g2.chg.mono (fun k e => hl k e)⟩
 ·exact (Apt.next h4.symm (own_lies g3) g2).symm
 ·exact (Apt.next h5.symm (own_lies g4) g2).symm
theorem Sj.fin (h : Sj w wr b F c r most jp u A v B) (i : Nat) (x : Value) : ∃ F' Q, Mr (wr.setCell ⟨b, i, none⟩ x) b F' { c with P := Q, ut := v, T := B, cs := c.cs.set i x } /\ Nx w (wr.setCell ⟨b, i, none⟩ x) (unF 7 F) (unF 7 F') /\ PJ r c.L c.T most jp Q /\ Apt (ftV u) (unF 7 F') /\ (wr.setCell ⟨b, i, none⟩ x).ownsRow w.heap.size 3 1 u A.length (A.map (Value.int .i64)) := by
 obtain ⟨F', Q, h1, h2, h3, h4, h5⟩ := h.ex
 obtain ⟨m1, x1⟩ := Mr.retN h1 (own_lowG h.wait (Nat.zero_le _)) h2 (own_since h.wait (Nat.le_refl _)) h5
 obtain ⟨m2, x2⟩ := Mr.set m1 i x
 have hb0 : ∀ k, k = b -> ¬ u.ownBlock = some k := fun k e g => h4 k g ⟨0, by omega, by rw [h1.f0]; exact e⟩
 have hw : Apt (ftV u) (ftV v) := fun k hk e => own_twoG h.gone h.wait (by decide) k hk e
 refine ⟨_, Q, m2, x1.trans x2, h3, fun k hk e => ?_, own_chg h.gone (Chg.set wr b i x) (fun k hk e => hb0 k e hk)⟩
 obtain ⟨j, hj, e⟩ := e
 by_cases e0 : j = 0
 ·subst e0; rw [upd_same] at e; exact hb0 k e hk
 ·rw [upd_other _ _ e0] at e
  by_cases e5 : j = 5
  ·subst e5; rw [upd_same] at e; exact hw k hk e
  ·rw [upd_other _ _ e5] at e; exact h4 k hk ⟨j, hj, e⟩
end
section
variable {w w' : World} {b bt br bc : Nat} {G H : Ft} {r : Rg}
set_option maxHeartbeats 12800000 in
theorem Lr.settle (h : Lr w b bt br bc G r) (hk : r.Ok) (most : Int) {A : List Int} {r' : Rg} (HQ : Hid (r.settle most = (A, r'))) : Calls Tryz.prog 7 #[.pointer (some ⟨b, 0, none⟩), .int .i64 most] w fun e w' => ∃ u, e = .returned u /\ RoN w' w.heap.size u A /\ ∃ G', Lr w' b bt br bc G' r' /\ Nx w w' G G' /\ Apt (ftV u) G' := by
 obtain ⟨ip, hip, hipz, hips, hipb⟩ := info_parts infoPw
 obtain ⟨ii, hii, hiz, his, hib⟩ := info_parts infoIntN
 have hq := HQ.out
 unfold Rg.settle at hq
 injection hq with e1 e2
 subst e1
 obtain ⟨F, gc, P, ul, L, ut, T, M, h1, rfl, h2, h3⟩ := h.ex
 have hlt := (h2.lens hk).1
 have hmp := hk.mp
 have hlT : T.length <= 16 := by omega
 obtain ⟨ua, uc, eu⟩ := own_shape h1.ret
 simp only at eu
 subst eu
 have hsh : ∀ p ∈ T, ShM p.md := fun p hp => (h1.mod _ (h3 p (List.mem_append_right _ hp))).sh
 obtain ⟨C, HC⟩ : ∃ C : Cp, Hid (C = ⟨[.pointer (some ⟨bt, 0, none⟩), .pointer (some ⟨br, 0, none⟩), .pointer (some ⟨bc, 0, none⟩), .int .i64 r.tb.at'.length, .int .i64 r.ps.length, ul, .slice ua T.length uc], bt, br, bc, gc, r.tb, r.mp, P, r.ck, ul, L, .slice ua T.length uc, T, M⟩) := ⟨_, rfl⟩
 have hM : Mr w b F C := by rw [HC.out]; exact h1
 have cL : C.L = L := by rw [HC.out]
 have cT : C.T = T := by rw [HC.out]
 have c6 : w.cell? ⟨b, 6, none⟩ = some (.slice ua T.length uc) := h1.cell rfl
 have HS0 : Hid (Sj w w b F C r most 0 (.slice none 0 0) [] (.slice none 0 0) []) := by
  refine ⟨⟨F, P, ?_, Nx.refl _ _, ?_, (fun k e => by cases e), (fun k e => by cases e)⟩, World.ownsRow_nil _ _ _ _, World.ownsRow_nil _ _ _ _⟩
  ·have : ({ C with P := P } : Cp) = C := by rw [HC.out]
   rw [this]; exact hM
  ·rw [cL, cT]; exact h2.PJ_zero hk most
 -- what a later state shows
 have HLOW : Hid (∀ wr j jp u A v B, Sj w wr b F C r most jp u A v B -> j < T.length -> ∃ g, ua = some ⟨g, 0, none⟩ /\ wr.cell? ⟨b, 1, none⟩ = some (.pointer (some ⟨br, 0, none⟩)) /\ wr.cell? ⟨b, 2, none⟩ = some (.pointer (some ⟨bc, 0, none⟩)) /\ wr.cell? ⟨g, j * 4, none⟩ = some (.int .i64 (T.getD j Pw.nil).n) /\ wr.cell? ⟨g, j * 4 + 1, none⟩ = some (T.getD j Pw.nil).md.um /\ wr.cell? ⟨g, j * 4 + 2, none⟩ = some (T.getD j Pw.nil).md.uc /\ wr.cell? ⟨g, j * 4 + 3, none⟩ = some (.int .i64 (T.getD j Pw.nil).g) /\ Ec wr bc gc r.ck) := by
  intro wr j jp u A v B hS hj
  obtain ⟨F', Q, g1, _⟩ := hS.ex
  rw [HC.out] at g1
  obtain ⟨g, cap, e, _, hgl, _, _, hat⟩ := own_atG pwC_len Pw.nil g1.ret (by show 0 < T.length; omega)
  simp only at e
  injection e with e1 _ e2
  exact ⟨g, e1, g1.cell rfl, g1.cell rfl, (hat j hj 0 (by omega)).1, (hat j hj 1 (by omega)).1, (hat j hj 2 (by omega)).1, (hat j hj 3 (by omega)).1, g1.clk⟩
 have HC6 : Hid (∀ wr jp u A v B, Sj w wr b F C r most jp u A v B -> wr.cell? ⟨b, 6, none⟩ = some (.slice ua T.length uc) /\ wr.frozen? ⟨b, 6, none⟩ = false) := by
  intro wr jp u A v B hS
  obtain ⟨F', Q, g1, _⟩ := hS.ex
  rw [HC.out] at g1
  exact ⟨g1.cell rfl, g1.cel.frozen 6⟩
 have HC1 : Hid (∀ wr jp u A v B, Sj w wr b F C r most jp u A v B -> wr.cell? ⟨b, 1, none⟩ = some (.pointer (some ⟨br, 0, none⟩))) := by
  intro wr jp u A v B hS
  obtain ⟨F', Q, g1, _⟩ := hS.ex
  rw [HC.out] at g1
  exact g1.cell rfl
 have HFIN : Hid (∀ wr u v, Sj w wr b F C r most T.length u (r.goes most) v (stJ r T most T.length) -> ∃ G', Lr (wr.setCell ⟨b, 6, none⟩ v) b bt br bc G' r' /\ Nx w (wr.setCell ⟨b, 6, none⟩ v) (unF 7 F) G' /\ Apt (ftV u) G' /\ RoN (wr.setCell ⟨b, 6, none⟩ v) w.heap.size u (r.goes most)) := by
  intro wr u v hS
  obtain ⟨F', Q, g1, g2, g3, g4, g5⟩ := hS.fin 6 v
  rw [cL, cT] at g3
  rw [HC.out] at g1
  have hr := h2.settle hk g3
  rw [<- e2]
  refine ⟨_, ⟨F', gc, Q, ul, L, v, _, M, ?_, rfl, hr, fun q hq => ?_⟩, g2, g4, g5⟩
  ·show Mr _ b F' ⟨[_, _, _, _, .int .i64 ((goneP r.ps (r.goes most)).length : Nat), _, _], _, _, _, _, _, _, _, _, _, _, _, _, _⟩
   rw [(show (goneP r.ps (r.goes most)).length = r.ps.length from goneP_len _ _)]
   exact g1
  ·rcases List.mem_append.1 hq with g | g
   ·exact h3 q (List.mem_append_left _ g)
   ·exact h3 q (List.mem_append_right _ (List.mem_of_mem_take (List.mem_filter.1 g).1))
 have HT2 := keepG h2
 have HSH := keepG hsh
 have HLT := keepG h2.lnT
 have hckl : r.ck.ins.length <= 4 := hk.ck.len.2
 have HAT := keepG (fun j (hj : j < T.length) => h2.lnAt hj)
 have HCB : Hid (C.br = br) := (show C.br = br by rw [HC.out])
 have HCM : Hid (C.mp <= 4) := (show C.mp <= 4 by rw [HC.out]; exact hmp)
 have HCP : Hid (r.mp = C.mp) := (show r.mp = C.mp by rw [HC.out])
 have HPM : Hid (∀ j, j < T.length -> ∀ Q, PJ r C.L C.T most j Q -> r.gJ most (j + 1) = r.gJ most j ++ [(T.getD j Pw.nil).n] -> Rs_g.drop Q [(T.getD j Pw.nil).n] = (0, Q.filter (outP [(T.getD j Pw.nil).n])) /\ PJ r C.L C.T most (j + 1) (Q.filter (outP [(T.getD j Pw.nil).n]))) := by
  intro j hj Q hQ e
  rw [cL, cT] at hQ ⊢
  exact h2.PJ_more hk hj hQ e
 have HEP : Hid (∀ j, j < T.length -> r.safeP (r.ln.getD j 0) = r.ck.safe (T.getD j Pw.nil).g) := by
  intro j hj
  rw [h2.lnAt hj]
  unfold Rg.safeP
  rw [(h2.mdT _ (getD_memP T j hj)).2.2]
 have HNW : Hid (∀ j, j < T.length -> (Lit.int .i64 (T.getD j Pw.nil).n).wf = true) := by
  intro j hj
  obtain ⟨B, hB, ht⟩ := h1.ref
  refine ht.wf ((h2.hasP hk _).2 ?_)
  rw [h2.stT hk (getD_memP T j hj)]
  omega
 clear h h1 h2 h3 hM hsh cL cT hlt
 go_enter Tryz.func7, Tryz.ntmps7
 go_wp2
 go_loopw [5, 6, 14] (fun u v i wr => ∃ j : Nat, j <= T.length /\ i = .int .i64 j /\ Hid (Sj w wr b F C r most j u (r.gJ most j) v (stJ r T most j))) (fun _ _ i _ => T.length - (intOf i).toNat)
 case atStart => exact ⟨0, by omega, rfl, by rw [Rg.gJ_zero]; exact HS0.out⟩
 case round =>
  rename_i u v wr
  obtain ⟨j, hj, rfl, HS⟩ := hrel
  obtain ⟨va, vc, ev⟩ := own_shape HS.out.wait
  obtain ⟨xa, xc, ex⟩ := own_shape HS.out.gone
  subst ev ex
  by_cases hlt : j < T.length
  ·have hltI : (j : Int) < T.length := by omega
   obtain ⟨g, ea, c1, c2, d0, d1, d2, d3, hE⟩ := HLOW.out wr j _ _ _ _ _ HS.out hlt
   subst ea
   have hm := HSH.out _ (getD_memP T j hlt)
   have HGR := keepG (HEP.out j hlt)
   have HWN := keepG (HNW.out j hlt)
   have HDD := keepG (HPM.out j hlt)
   have HLN := keepG (HAT.out j hlt)
   have hjl : j < r.ln.length := by rw [HLT.out]; exact hlt
   have HST := keepG (fun e => HT2.out.stJ_stay hk (most := most) hlt e)
   have HSM := keepG (fun e => HT2.out.stJ_more hk (most := most) hlt e)
   obtain ⟨p, HP⟩ : ∃ p, Hid (T.getD j Pw.nil = p) := ⟨_, rfl⟩
   rw [HP.out] at d0 d1 d2 d3 hm HGR HWN HDD HLN HST HSM
   obtain ⟨pn, ⟨um, uc2, pms, pxs⟩, pg⟩ := p
   obtain ⟨⟨q1, q2, q3, e1⟩, ⟨q4, q5, q6, e2⟩⟩ := hm
   simp only at d0 d1 d2 d3 e1 e2 HGR HWN HDD HLN HST HSM
   subst e1 e2
   obtain ⟨W1, W2, HW1, HW2, ⟨n0, n1, n2, n3⟩, ⟨f0, f1, f2, f3⟩, HP2, HB2⟩ := box24 wr ⟨pn, ⟨.slice q1 q2 q3, .slice q4 q5 q6, pms, pxs⟩, pg⟩
   simp only at HW2
   have HS2 := keepG (HS.out.below HB2.out)
   have b0 : W2.cell? ⟨wr.heap.size, 0, none⟩ = some (.int .i64 pn) := HP2.out.cell rfl
   have b1 : W2.cell? ⟨wr.heap.size, 1, none⟩ = some (.slice q1 q2 q3) := HP2.out.cell rfl
   have b2 : W2.cell? ⟨wr.heap.size, 2, none⟩ = some (.slice q4 q5 q6) := HP2.out.cell rfl
   have b3 : W2.cell? ⟨wr.heap.size, 3, none⟩ = some (.int .i64 pg) := HP2.out.cell rfl
   obtain ⟨g', eg', c1', c2', _, _, _, _, hE2⟩ := HLOW.out W2 j _ _ _ _ _ HS2.out hlt
   have HE2 := keepG hE2
   have hgl : (r.gJ most j).length <= 16 := by
    have := (r.gJ_sub most j).length_le
    rw [List.length_take] at this
    omega
   have hsl : (stJ r T most j).length <= 16 := by
    have := List.length_filter_le (fun p : Pw => !decide (p.n ∈ r.gJ most j)) (T.take j)
    rw [List.length_take] at this
    show (List.filter _ _).length <= 16
    omega
   have hz2 := HS2.out.size
   clear hE hE2 eg'
   obtain ⟨A, HA⟩ : ∃ A, Hid (r.gJ most j = A) := ⟨_, rfl⟩
   obtain ⟨B, HB⟩ : ∃ B, Hid (stJ r T most j = B) := ⟨_, rfl⟩
   rw [HA.out] at HS2 hgl HDD HST HSM
   rw [HB.out] at HS2 hsl HST HSM
   have HS1 := keepG HS.out
   rw [HA.out, HB.out] at HS1
   rw [HA.out, HB.out]
   have HWAIT : Hid (r.gJ most (j + 1) = A -> ∀ w5 v', w5.ownsRow w.heap.size 64 4 v' (B.length + 1) (flatG pwC B ++ pwC ⟨pn, ⟨.slice q1 q2 q3, .slice q4 q5 q6, pms, pxs⟩, pg⟩) -> Chg W2 w5 (ftV (.slice va B.length vc)) -> (v'.ownBlock = (Value.slice va B.length vc).ownBlock ∨ ∃ k, v'.ownBlock = some k /\ W2.heap.size <= k) -> Sj w w5 b F C r most (j + 1) (.slice xa A.length xc) (r.gJ most (j + 1)) v' (stJ r T most (j + 1))) := by
    intro e w5 v' k1 k2 k3
    rw [HST.out e, e]
    exact (HS2.out.step (by rw [e, HA.out])).waitS k1 k2 k3
   by_cases hmo : most <= A.length
   ·have hge : decide ((A.length : Int) ≥ most) = true := by simpa using hmo
    have HGS : Hid (r.gJ most (j + 1) = A) := by
     show _ = _
     rw [<- HA.out]
     exact Rg.gJ_stay hjl (.inl (by rw [HA.out]; exact hmo))
    have HW := keepG (HWAIT.out HGS.out)
    clear HDD HST HSM HGR
    go_wp2_with (first | (rw [HW1.out]) | (rw [HW2.out]))
    refine wp_region_held_drew (S := fun _ => True) (by kernel_rfl) trivial (fun hHeld => ?_)
    refine tkGo [0, 1, 2, 3, 4] ?_
    repeat (refine tkO (v := ?_) rfl ?_ ?_; rotate_left; (intro wy hSw; (try dsimp only at hSw); go_simp; (first | done | with_reducible rfl)); try simp only [Act.put, p1q, p2q, p3q, p4q, p5q, p6q])
    refine tkEnd ?_
    refine wpAnyH_take (i := 5) (v := undef) rfl (by kernel_rfl) (by kernel_rfl) (by kernel_rfl) (fun _ _ _ h => h) (Or.inr ⟨by rfl, rfl⟩) (by assumption) ?_
    try simp only [Act.put, p1q, p2q, p3q, p4q, p5q, p6q]
    refine wpAnyH_take (i := 6) (v := undef) rfl (by kernel_rfl) (by kernel_rfl) (by kernel_rfl) (fun _ _ _ h => h) (Or.inr ⟨by rfl, rfl⟩) (by assumption) ?_
    try simp only [Act.put, p1q, p2q, p3q, p4q, p5q, p6q]
    refine wpAnyH_take (i := 7) (v := undef) rfl (by kernel_rfl) (by kernel_rfl) (by kernel_rfl) (fun _ _ _ h => h) (Or.inr ⟨by rfl, rfl⟩) (by assumption) ?_
    try simp only [Act.put, p1q, p2q, p3q, p4q, p5q, p6q]
    refine wpAnyH_take (i := 8) (v := undef) rfl (by kernel_rfl) (by kernel_rfl) (by kernel_rfl) (fun _ _ _ h => h) (Or.inr ⟨by rfl, rfl⟩) (by assumption) ?_
    try simp only [Act.put, p1q, p2q, p3q, p4q, p5q, p6q]
    refine wpAnyH_take (i := 9) (v := undef) rfl (by kernel_rfl) (by kernel_rfl) (by kernel_rfl) (fun _ _ _ h => h) (Or.inr ⟨by rfl, rfl⟩) (by assumption) ?_
    try simp only [Act.put, p1q, p2q, p3q, p4q, p5q, p6q]
    refine wpAnyH_take (i := 10) (v := undef) rfl (by kernel_rfl) (by kernel_rfl) (by kernel_rfl) (fun _ _ _ h => h) (Or.inr ⟨by rfl, rfl⟩) (by assumption) ?_
    try simp only [Act.put, p1q, p2q, p3q, p4q, p5q, p6q]
    refine wpAnyH_take (i := 11) (v := undef) rfl (by kernel_rfl) (by kernel_rfl) (by kernel_rfl) (fun _ _ _ h => h) (Or.inr ⟨by rfl, rfl⟩) (by assumption) ?_
    try simp only [Act.put, p1q, p2q, p3q, p4q, p5q, p6q]
    refine wpAnyH_take (i := 12) (v := undef) rfl (by kernel_rfl) (by kernel_rfl) (by kernel_rfl) (fun _ _ _ h => h) (Or.inr ⟨by rfl, rfl⟩) (by assumption) ?_
    try simp only [Act.put, p1q, p2q, p3q, p4q, p5q, p6q]
    refine tkGo [13] ?_
    repeat (refine tkO (v := ?_) rfl ?_ ?_; rotate_left; (intro wy hSw; (try dsimp only at hSw); go_simp; (first | done | with_reducible rfl)); try simp only [Act.put, p1q, p2q, p3q, p4q, p5q, p6q])
    refine tkEnd ?_
    refine wpAnyH_done (by kernel_rfl) ?_ _
    clear hHeld
    go_wp2_with (at_builtin; go_must (refine wpList_append_own_at _ rfl _ _ 46 rfl w.heap.size 64 ip _ 4 64 Tryz.underlying46 hip hipz hips hipb rfl (by decide) (.slice va B.length vc) B.length (flatG pwC B) rfl (HS2.out.wait.alloc _) ⟨_, 0, none⟩ 1 1 (pwC ⟨pn, ⟨.slice q1 q2 q3, .slice q4 q5 q6, pms, pxs⟩, pg⟩) rfl rfl (cells_new _ (pwC ⟨pn, ⟨.slice q1 q2 q3, .slice q4 q5 q6, pms, pxs⟩, pg⟩) _ _ rfl) (pw_one _ ⟨⟨_, _, _, rfl⟩, ⟨_, _, _, rfl⟩⟩) (by unfold maxLen; omega) (by omega) (by simp; omega) ?_); intro v5 w5 hown hgr _ hat; go_must (have HS5 := keepG (HW.out w5 v5 hown (((Chg.of_below (S := ftV (.slice va B.length vc)) (below_allocG W2 _)).drewN 1).trans (Chg.of_grown' hgr (fun k e => e)) (fun _ _ e => e)) (hat.imp id (fun e => ⟨_, e, by simp⟩))); clear hown hgr hat))
    go_roundw
    case rel => exact ⟨j + 1, by omega, by go_num, HS5.out⟩
    case measure => simp [intOf]; omega
   ·have hge : decide ((A.length : Int) ≥ most) = false := by simpa using hmo
    obtain ⟨sf, HSF⟩ : ∃ sf, Hid (r.ck.safe pg = sf) := ⟨_, rfl⟩
    rw [HSF.out] at HGR
    go_wp2_with (first | (rw [HW1.out]) | (rw [HW2.out]))
    refine wp_region_held_drew (S := fun w' => w'.cell? ⟨b, 2, none⟩ = some (.pointer (some ⟨bc, 0, none⟩)) /\ w'.cell? ⟨wr.heap.size, 3, none⟩ = some (.int .i64 pg)) (by kernel_rfl) ⟨c2', b3⟩ (fun hHeld => ?_)
    refine tkGo [0, 1, 2, 3, 4, 5, 6, 7, 8, 9, 10] ?_
    repeat (refine tkO (v := ?_) rfl ?_ ?_; rotate_left; (intro wy hSw; (try dsimp only at hSw); go_simp; (first | done | with_reducible rfl)); try simp only [Act.put, p1q, p2q, p3q, p4q, p5q, p6q])
    refine tkEnd ?_
    refine runO 11 (by kernel_rfl) rfl (by rfl) (fun KK hK => ?_)
    go_simp
    go_at_call 22
    refine (lsafe (c := r.ck) (HE2.out.below (below_drG (Below.refl _ _))) hckl pg HSF).mono ?_
    rintro e5 w5 ⟨rfl, rfl⟩
    go_simp
    refine hK.out _ _ ⟨c2', b3⟩ (fun hHeld => ?_)
    clear hK KK
    try simp only [Act.put, p1q, p2q, p3q, p4q, p5q, p6q]
    refine tkGo [12, 13] ?_
    repeat (refine tkO (v := ?_) rfl ?_ ?_; rotate_left; (intro wy hSw; (try dsimp only at hSw); go_simp; (first | done | with_reducible rfl)); try simp only [Act.put, p1q, p2q, p3q, p4q, p5q, p6q])
    refine tkEnd ?_
    refine wpAnyH_done (by kernel_rfl) ?_ _
    clear hHeld
    cases sf with
    | false =>
     have HGS : Hid (r.gJ most (j + 1) = A) := by
      show _ = _
      rw [<- HA.out]
      exact Rg.gJ_stay hjl (.inr HGR.out)
     have HW := keepG (HWAIT.out HGS.out)
     clear HDD HST HSM HGR
     go_wp2_with (at_builtin; go_must (refine wpList_append_own_at _ rfl _ _ 46 rfl w.heap.size 64 ip _ 4 64 Tryz.underlying46 hip hipz hips hipb rfl (by decide) (.slice va B.length vc) B.length (flatG pwC B) rfl (HS2.out.wait.alloc _) ⟨_, 0, none⟩ 1 1 (pwC ⟨pn, ⟨.slice q1 q2 q3, .slice q4 q5 q6, pms, pxs⟩, pg⟩) rfl rfl (cells_new _ (pwC ⟨pn, ⟨.slice q1 q2 q3, .slice q4 q5 q6, pms, pxs⟩, pg⟩) _ _ rfl) (pw_one _ ⟨⟨_, _, _, rfl⟩, ⟨_, _, _, rfl⟩⟩) (by unfold maxLen; omega) (by omega) (by simp; omega) ?_); intro v5 w5 hown hgr _ hat; go_must (have HS5 := keepG (HW.out w5 v5 hown (((Chg.of_below (S := ftV (.slice va B.length vc)) (below_allocG W2 _)).drewN 1).trans (Chg.of_grown' hgr (fun k e => e)) (fun _ _ e => e)) (hat.imp id (fun e => ⟨_, e, by simp⟩))); clear hown hgr hat))
     go_roundw
     case rel => exact ⟨j + 1, by omega, by go_num, HS5.out⟩
     case measure => simp [intOf]; omega
    | true =>
     have HGM : Hid (r.gJ most (j + 1) = A ++ [pn]) := by
      show _ = _
      rw [<- HA.out, <- HLN.out]
      exact Rg.gJ_more hjl (by rw [HA.out]; omega) HGR.out
     obtain ⟨X, HX, HBX, HSX⟩ := lit_oneR W2 pn HWN.out
     have HBWX := keepG (HB2.out.trans (HBX.out.mono HB2.out.size))
     have HDR := keepG (fun (wx : World) (hb : Below X.heap.size X wx) => HS1.out.drop (HBWX.out.trans (hb.mono HBWX.out.size)) HCM.out HCP.out (HSX.out.below hb (Nat.le_refl _)) (fun k e => by have h6 : W2.heap.size = k := Option.some.inj e; have := HB2.out.size; omega) (fun Q hQ => HDD.out Q hQ HGM.out))
     rw [HCB.out] at HDR
     have x1 := HC1.out _ _ _ _ _ _ (HS2.out.below HBX.out)
     have x0 := ((HP2.out.below HBX.out HP2.out.lt).cell (j := 0) rfl)
     have HPX := keepG (HP2.out.below HBX.out HP2.out.lt)
     have HSB : Hid (stJ r T most (j + 1) = B) := HSM.out HGM.out
     clear HDD HST HSM HGR
     go_wp2
     refine wp_region_held_drew (S := fun w' => w'.cell? ⟨b, 1, none⟩ = some (.pointer (some ⟨br, 0, none⟩)) /\ w'.cell? ⟨wr.heap.size, 0, none⟩ = some (.int .i64 pn)) (by kernel_rfl) ⟨c1', b0⟩ (fun hHeld => ?_)
     refine tkGo [0, 1, 2, 3, 4, 5] ?_
     repeat (refine tkO (v := ?_) rfl ?_ ?_; rotate_left; (intro wy hSw; (try dsimp only at hSw); go_simp; (first | done | with_reducible rfl)); try simp only [Act.put, p1q, p2q, p3q, p4q, p5q, p6q])
     refine tkEnd ?_
     refine runO 6 (by kernel_rfl) rfl (by rfl) (fun KK hK => ?_)
     go_simp
     rw [HX.out]
     refine hK.out _ _ ⟨x1, x0⟩ (fun hHeld => ?_)
     clear hK KK
     try simp only [Act.put, p1q, p2q, p3q, p4q, p5q, p6q]
     refine runO 7 (by kernel_rfl) rfl (by rfl) (fun KK hK => ?_)
     go_simp
     go_at_call 23
     refine (HDR.out X.drew.drew ⟨rfl, rfl, rfl, Nat.le_refl _, fun _ _ => rfl⟩).mono ?_
     rintro e7 w7 ⟨rfl, s7, hc7⟩
     have HS7 := keepG s7
     have HP7 := keepG (HPX.out.chg (w := X) (Chg.trans (w1 := X.drew.drew) (show Chg X X.drew.drew _ from ⟨rfl, rfl, rfl, Nat.le_refl _, fun _ _ _ => rfl⟩) hc7 (fun _ _ e => e)) (fun e => by omega))
     have y1 : w7.cell? ⟨b, 1, none⟩ = some (.pointer (some ⟨br, 0, none⟩)) := HC1.out _ _ _ _ _ _ s7
     have y0 := HP7.out.cell (j := 0) rfl
     clear s7 hc7
     go_simp
     refine hK.out _ _ ⟨y1, y0⟩ (fun hHeld => ?_)
     clear hK KK
     try simp only [Act.put, p1q, p2q, p3q, p4q, p5q, p6q]
     refine wpAnyH_done (by kernel_rfl) ?_ _
     clear hHeld
     have hz7 := HS7.out.size
     go_wp2_with (at_builtin; go_must (refine wpList_append_own_at _ rfl _ _ 32 rfl w.heap.size 3 ii _ 1 8 Tryz.underlying32 hii hiz his hib rfl (by decide) (.slice xa A.length xc) A.length (A.map (Value.int .i64)) rfl (HS7.out.gone.alloc _) ⟨_, 0, none⟩ 1 1 [.int .i64 pn] rfl rfl (cells_new _ [.int .i64 pn] _ _ rfl) (by intro u hu; rw [List.mem_singleton.1 hu]; rfl) (by unfold maxLen; omega) (by omega) (by simp; omega) ?_); intro v9 w9 hown hgr _ hat; go_must (have HS9 := keepG (HS7.out.goneS hown (((Chg.of_below (S := ftV (.slice xa A.length xc)) (below_allocG w7 _))).trans (Chg.of_grown' hgr (fun k e => e)) (fun _ _ e => e)) (hat.imp id (fun e => ⟨_, e, by simp⟩))); clear hown hgr hat))
     go_roundw
     case rel => exact ⟨j + 1, by omega, by go_num, by rw [HGM.out, HSB.out]; exact HS9.out⟩
     case measure => simp [intOf]; omega
  ·have hltI : ¬ (j : Int) < T.length := by omega
   obtain ⟨k6, f6⟩ := HC6.out _ _ _ _ _ _ HS.out
   have hjT : j = T.length := by omega
   have e1 := r.gJ_all most (j := j) (by rw [HLT.out]; omega)
   have e2' := r.gJ_all most (j := T.length) (by rw [HLT.out]; exact Nat.le_refl _)
   have e3 : stJ r T most j = stJ r T most T.length := by rw [hjT]
   have hS := (HS.out.step (jp' := T.length) (by rw [e1, e2']))
   rw [e1, e3] at hS
   rw [e1, e3]
   obtain ⟨G', g1, g2, g3, g4⟩ := HFIN.out _ _ _ hS
   have HG1 := keepG g1
   have HG2 := keepG g2
   have HG3 := keepG g3
   have HG4 := keepG g4
   clear g1 g2 g3 g4 hjT hS HS e1 e2' e3
   go_wp2
   go_ret
   exact ⟨_, rfl, HG4.out, _, HG1.out, HG2.out, HG3.out⟩
end
structure Ow24 where
 k : Int
 x : Int
 p : Int
 u : Value
 ws : List Int
def Ow24.nil : Ow24 := ⟨0, 0, 0, .slice none 0 0, []⟩
abbrev ow24C (o : Ow24) : List Value := [.int .i64 o.k, .int .i64 o.x, .int .i64 o.p, o.u]
theorem ow24C_len (o : Ow24) : (ow24C o).length = 4 := rfl
theorem op24_cells {H : Type} {enc : TypeId × Value -> H} {W : World} {fuel : Nat} {cs : List Value} {x : DataW H × List MemPlace}
  (h : DataW.trod enc Tryz.prog W 0 (fun _ => true) true fuel 31 cs = some x) : ∃ o : Ow24, cs = ow24C o /\ (Sees .u8 W o.u o.ws /\ (Lit.int .i64 o.x).wf = true) /\ ((x.1.weights Tryz.prog 31).all (· <= reachBytes) = true -> o.ws.length <= 140737488351232) := by
 obtain ⟨xs, n, rfl, hx, hl, hlen, hf⟩ := DataW.trod_struct Tryz.underlying31 h
 have l5 : cs.length = 4 := by rw [hl]; kernel_rfl
 have u2 : Tryz.prog.cellsOf 3 = 1 := by kernel_rfl
 have u4 : Tryz.prog.cellsOf 29 = 1 := by kernel_rfl
 match cs, l5, xs, hlen, hf with
 | [c0, c1, c2, c3], _, [x0, x1, x2, x3], _, hf =>
  have h0 : DataW.trod enc Tryz.prog W 0 (fun _ => true) true n 3 (([c0, c1, c2, c3].drop 0).take (Tryz.prog.cellsOf 3)) = some x0 := hf 0 _ rfl
  have h1 : DataW.trod enc Tryz.prog W 0 (fun _ => true) true n 3 (([c0, c1, c2, c3].drop 1).take (Tryz.prog.cellsOf 3)) = some x1 := hf 1 _ rfl
  have h2 : DataW.trod enc Tryz.prog W 0 (fun _ => true) true n 3 (([c0, c1, c2, c3].drop 2).take (Tryz.prog.cellsOf 3)) = some x2 := hf 2 _ rfl
  have h3 : DataW.trod enc Tryz.prog W 0 (fun _ => true) true n 29 (([c0, c1, c2, c3].drop 3).take (Tryz.prog.cellsOf 29)) = some x3 := hf 3 _ rfl
  rw [u2] at h0 h1 h2
  rw [u4] at h3
  have h3 : DataW.trod enc Tryz.prog W 0 (fun _ => true) true n 29 [c3] = some x3 := h3
  obtain ⟨k, e0, y0, g0⟩ := DataW.trod_int Tryz.underlying3 h0
  obtain ⟨y, e1, y1, g1⟩ := DataW.trod_int Tryz.underlying3 h1
  obtain ⟨z, e2, y2, g2⟩ := DataW.trod_int Tryz.underlying3 h2
  simp at e0 e1 e2
  subst e0 e1 e2 y0 y1 y2
  obtain ⟨ua, ul, uc, rfl⟩ := slice_of_trod Tryz.underlying29 h3
  obtain ⟨zs, sz, bz⟩ := sees_open_sh (k := .u8) (d := x3.1) (p := x3.2) Tryz.underlying29 Tryz.underlying5 (by kernel_rfl) ⟨_, _, _, rfl⟩ ⟨n, h3⟩
  refine ⟨⟨k, y, z, _, zs⟩, rfl, ⟨sz, g1⟩, fun hall => ?_⟩
  rw [hx, DataW.weights, Tryz.underlying31] at hall
  simp only [DataW.weightsEach, List.map_cons, List.map_nil, List.all_append, Bool.and_eq_true] at hall
  have b8 : Tryz.prog.bytesOf 5 = 1 := by kernel_rfl
  have r0 := bz hall.2.2.2.1
  rw [b8] at r0
  unfold reachBytes at r0
  show zs.length <= _
  omega
theorem opens_Op24 {H : Type} {enc : TypeId × Value -> H} {W : World} {base : Nat} {v : Value} {d : DataW H} {p : List MemPlace}
  (hok : Value.okWide Tryz.prog W .any base 22 v) (h : DataW.Trod enc Tryz.prog W 0 (fun _ => true) true 22 v d p) :
  ∃ xs, SeesG ow24C 4 Ow24.nil W v xs /\ (∀ x ∈ xs, Sees .u8 W x.u x.ws /\ (Lit.int .i64 x.x).wf = true) /\ ((d.weights Tryz.prog 22).all (· <= reachBytes) = true -> xs.length * 48 <= 140737488351232 /\ ∀ x ∈ xs, x.ws.length <= 140737488351232) :=
 opensGW Ow24.nil (R := fun o => Sees .u8 W o.u o.ws /\ (Lit.int .i64 o.x).wf = true) (Q := fun o => o.ws.length <= 140737488351232) Tryz.underlying22 (by kernel_rfl) (by decide) ow24C_len (by kernel_rfl) op24_cells hok h
structure Scr24 (w0 : World) (v : Value) (xs : List Ow24) : Prop where
 sees : SeesG ow24C 4 Ow24.nil w0 v xs
 each : ∀ x ∈ xs, (Sees .u8 w0 x.u x.ws /\ (Lit.int .i64 x.x).wf = true) /\ x.ws.length <= 140737488351232
theorem getD_mem24 (xs : List Ow24) (k : Nat) (h : k < xs.length) : xs.getD k Ow24.nil ∈ xs := by simp [List.getD, h]
theorem Sees.bytes24 {w : World} {v : Value} {xs : List Int} (h : Sees .u8 w v xs) : ∀ x ∈ xs, 0 <= x /\ x <= 255 := by
 obtain ⟨a, cap, rfl, hl, hm, hn0, hw, hs⟩ := h
 exact fun x hx => by have := bounds_u8 (hw x hx); omega
theorem Scr24.at {w0 w : World} {a : Option Addr} {cap : Nat} {xs : List Ow24} (h : Scr24 w0 (.slice a xs.length cap) xs) (hb : Below w0.heap.size w0 w) {j : Nat} (hj : j < xs.length) {o : Ow24} (ho : xs.getD j Ow24.nil = o) : ∃ p off, a = some ⟨p, off, none⟩ /\ (w.cell? ⟨p, off + j * 4, none⟩ = some (.int .i64 o.k) /\ w.cell? ⟨p, off + j * 4 + 1, none⟩ = some (.int .i64 o.x) /\ w.cell? ⟨p, off + j * 4 + 2, none⟩ = some (.int .i64 o.p) /\ w.cell? ⟨p, off + j * 4 + 3, none⟩ = some o.u) /\ Sees .u8 w o.u o.ws /\ (Lit.int .i64 o.x).wf = true /\ o.ws.length <= 140737488351232 := by
 have hs := h.sees.below hb (Nat.le_refl _)
 have he := h.each _ (getD_mem24 xs j hj)
 rw [ho] at he
 obtain ⟨⟨he, hwf⟩, hq⟩ := he
 obtain ⟨a', cap', e, h1, h2, _, h3⟩ := hs
 injection e with e1 _ e2
 subst e1
 obtain ⟨p, off, rfl, _, hat⟩ := h3 (fun e => by rw [e] at hj; simp at hj)
 have d0 := hat j hj 0 (by omega)
 have d1 := hat j hj 1 (by omega)
 have d2 := hat j hj 2 (by omega)
 have d3 := hat j hj 3 (by omega)
 rw [ho] at d0 d1 d2 d3
 exact ⟨p, off, rfl, ⟨d0, d1, d2, d3⟩, he.below hb (Nat.le_refl _), hwf, hq⟩
theorem box_op24 (wr : World) (k x p : Int) (a : Option Addr) (n c : Nat) : ∃ W1 W2, Hid (wr.alloc (.cells #[.int .i64 0, .int .i64 0, .int .i64 0, .slice none 0 0] 31) = W1) /\
  Hid ((((W1.setCell ⟨wr.heap.size, 0, none⟩ (.int .i64 k)).setCell ⟨wr.heap.size, 1, none⟩ (.int .i64 x)).setCell ⟨wr.heap.size, 2, none⟩ (.int .i64 p)).setCell ⟨wr.heap.size, 3, none⟩ (.slice a n c) = W2) /\
  (W1.cell? ⟨wr.heap.size, 0, none⟩ = some (.int .i64 0) /\ W1.cell? ⟨wr.heap.size, 1, none⟩ = some (.int .i64 0) /\ W1.cell? ⟨wr.heap.size, 2, none⟩ = some (.int .i64 0) /\ W1.cell? ⟨wr.heap.size, 3, none⟩ = some (.slice none 0 0)) /\
  (W1.frozen? ⟨wr.heap.size, 0, none⟩ = false /\ W1.frozen? ⟨wr.heap.size, 1, none⟩ = false /\ W1.frozen? ⟨wr.heap.size, 2, none⟩ = false /\ W1.frozen? ⟨wr.heap.size, 3, none⟩ = false) /\
  Hid (Hp W2 wr.heap.size 31 [.int .i64 k, .int .i64 x, .int .i64 p, .slice a n c]) /\ Hid (Below wr.heap.size wr W2) := by
 have h0 := Hp.new wr [.int .i64 0, .int .i64 0, .int .i64 0, .slice none 0 0] 31
 have h1 := ((((h0.set 0 (.int .i64 k)).set 1 (.int .i64 x)).set 2 (.int .i64 p)).set 3 (.slice a n c))
 refine ⟨_, _, rfl, rfl, ⟨h0.cell rfl, h0.cell rfl, h0.cell rfl, h0.cell rfl⟩, ⟨h0.frozen 0, h0.frozen 1, h0.frozen 2, h0.frozen 3⟩, h1, ?_⟩
 refine ((((below_allocG wr _).trans (grown_to_below (grown_set _ wr.heap.size 0 _) (Nat.le_refl _) (by simp))).trans (grown_to_below (grown_set _ wr.heap.size 1 _) (Nat.le_refl _) (by simp))).trans (grown_to_below (grown_set _ wr.heap.size 2 _) (Nat.le_refl _) (by simp))).trans (grown_to_below (grown_set _ wr.heap.size 3 _) (Nat.le_refl _) (by simp))
structure Lz24 (w0 w : World) (b bt br bc : Nat) (G : Ft) (r : Rg) : Prop where
 reg : Lr w b bt br bc G r
 since : Since w0 G
 ok : r.Ok
 be : Below w0.heap.size w0 w
section
variable {w0 w w' : World} {b bt br bc : Nat} {G G' H : Ft} {r r' : Rg}
theorem Lz24.next (h : Lz24 w0 w b bt br bc G r) (hl : Lr w' b bt br bc G' r') (hn : Nx w w' G G') (hk : r'.Ok) : Lz24 w0 w' b bt br bc G' r' := ⟨hl, h.since.next h.be.size hn, hk, h.since.be h.be hn⟩
theorem Lz24.below (h : Lz24 w0 w b bt br bc G r) (hb : Below w.heap.size w w') : Lz24 w0 w' b bt br bc G r := ⟨h.reg.below hb, h.since, h.ok, h.be.trans (hb.mono h.be.size)⟩
theorem Lz24.keeps (h : Lz24 w0 w b bt br bc G r) (hc : Chg w w' H) (ha : Apt H G) (hs : Since w0 H) : Lz24 w0 w' b bt br bc G r := ⟨h.reg.keeps hc ha, h.since, h.ok, h.be.trans (hc.below (fun k e => hs k e) h.be.size)⟩
theorem Lz24.low (h : Lz24 w0 w b bt br bc G r) : w.cell? ⟨b, 0, none⟩ = some (.pointer (some ⟨bt, 0, none⟩)) /\ w.cell? ⟨b, 1, none⟩ = some (.pointer (some ⟨br, 0, none⟩)) /\ w.cell? ⟨b, 2, none⟩ = some (.pointer (some ⟨bc, 0, none⟩)) := ⟨h.reg.low.1, h.reg.low.2.1, h.reg.low.2.2.1⟩
theorem lz24_new (h m k : Nat) (h1 : 1 <= h) (h2 : h <= 4) (hm : m <= 4) (k1 : 1 <= k) (k2 : k <= 4) {w1 : World} (hb : Below w0.heap.size w0 w1) : Calls Tryz.prog 6 #[.int .i64 h, .int .i64 m, .int .i64 k] w1 fun e w' => ∃ b bt br bc G, e = .returned (.tuple #[.pointer (some ⟨b, 0, none⟩), .int .i64 0]) /\ Lz24 w0 w' b bt br bc G (Rg.new h m k) := by
 refine (lrnew_ok h m k h1 h2 hm k1 k2 w1).mono ?_
 rintro e w' ⟨b, bt, br, bc, G, rfl, g1, g2, g3⟩
 exact ⟨b, bt, br, bc, G, rfl, g1, fun k hk => Nat.le_trans hb.size (g2 k hk), Rg.Ok.new h1 h2 hm k1 k2, hb.trans (g3.mono hb.size)⟩
theorem infoU8W : (Tryz.prog.info? 5).map (fun i => (i.zero, i.size, i.bytes)) = some (some (.int .u8 0), 1, 1) := by kernel_rfl
theorem own_empty24 (w : World) (e : TypeId) (k : IntKind) : (w.alloc (.cells #[] e)).ownsRow w.heap.size e 1 (.slice (some ⟨w.heap.size, 0, none⟩) 0 0) ([] : List Int).length (([] : List Int).map (Value.int k)) := by
 refine ⟨rfl, .inr ⟨w.heap.size, 0, #[], rfl, Nat.le_refl _, ?_, Nat.le_refl _, by simp [maxLen], rfl, rfl⟩⟩
 show (w.heap.push _)[w.heap.size]? = _
 simp
theorem grown_new24 {w w1 : World} {o : Obj} (hg : (w.alloc o).grownBy w1 (some w.heap.size)) : Below w.heap.size w w1 :=
 ((Below.refl w.heap.size w).alloc (Nat.le_refl _) o).grown hg (by simp) (fun k hk => (by have h : w.heap.size = k := Option.some.inj hk; omega))
end
structure Scq24 (w : World) (v : Value) (xs : List Ow24) : Prop where
 sees : SeesG ow24C 4 Ow24.nil w v xs
 each : ∀ x ∈ xs, Sees .u8 w x.u x.ws /\ (Lit.int .i64 x.x).wf = true
theorem Scq24.scr {w : World} {v : Value} {xs : List Ow24} (h : Scq24 w v xs) (hl : xs.length * 48 <= 140737488351232 /\ ∀ x ∈ xs, x.ws.length <= 140737488351232) : Scr24 w v xs := ⟨h.sees, fun x hx => ⟨h.each x hx, hl.2 x hx⟩⟩
section
variable {w0 w w' : World} {b bt br bc : Nat} {G G' H : Ft} {r r' : Rg}
theorem play_ok {k x p : Int} {ws : List Int} {n E : Int} (hk : r.Ok) (h : r.play k x p ws = (n, E, r')) : r'.Ok := by
 have := hk.play k x p ws
 rw [h] at this
 exact this
theorem play_few {N : Nat} {k x p : Int} {ws : List Int} {n E : Int} (hk : r.Few N) (h : r.play k x p ws = (n, E, r')) : r'.Few (N + 1) := by
 have := hk.play k x p ws
 rw [h] at this
 exact this
set_option maxHeartbeats 1600000 in
theorem play24_0 (h : Lz24 w0 w b bt br bc G r) {N : Nat} (hf : r.Few N) (hN : N <= 1000000) (x p : Int) {a : Option Addr} {uc : Nat} {ws : List Int} (hs : Sees .u8 w (.slice a ws.length uc) ws) (hl : ws.length <= 140737488351232) (hx : (Lit.int .i64 x).wf = true) {n E : Int} (HQ : Hid (r.play 0 x p ws = (n, E, r'))) :
  Calls Tryz.prog 8 #[.pointer (some ⟨b, 0, none⟩), .agg #[.int .i64 0, .int .i64 x, .int .i64 p, .slice a ws.length uc]] w fun e w' => e = .returned (.tuple #[.int .i64 n, .int .i64 E]) /\ ∃ G', Lz24 w0 w' b bt br bc G' r' /\ Nx w w' G G' := by
 obtain ⟨X, HX, HpX, HBX⟩ : ∃ X, Hid (w.alloc (.cells #[.int .i64 0, .int .i64 x, .int .i64 p, .slice a ws.length uc] 31) = X) /\ Hid (Hp X w.heap.size 31 [.int .i64 0, .int .i64 x, .int .i64 p, .slice a ws.length uc]) /\ Hid (Below w.heap.size w X) := ⟨_, rfl, Hp.new w _ _, below_allocG _ _⟩
 have hok := play_ok h.ok HQ.out
 have HL := keepG h
 have HLX := keepG (h.below HBX.out)
 have hps : r.ps.length <= 1000000000000000 := by have := hf.ps; omega
 have hla : r.tb.last <= 1000000000000000 := by have := hf.la; omega
 have hnw : r.ck.now <= 1000000000000000 := by have := hf.nw; omega
 have hkk := h.ok
 have HOK := keepG hok
 have p0 := HpX.out.cell (j := 0) rfl
 have p1 := HpX.out.cell (j := 1) rfl
 have p2 := HpX.out.cell (j := 2) rfl
 have p3 := HpX.out.cell (j := 3) rfl
 have HLI := keepG (fun k (e : G k) => HLX.out.reg.lies k e)
 have HLW := keepG (fun k (e : G k) => h.reg.lies k e)
 clear hok hf hN
 obtain ⟨i0, hi, hz0, hz1, hz2⟩ := info_parts infoU8W
 have HR := keepG (show r.loadB ws = (n, E, r') from HQ.out)
 have HSX := keepG (hs.below HBX.out (Nat.le_refl _))
 have q3 := (HpX.out.below (below_allocG X (.cells #[] 5)) HpX.out.lt).cell (j := 3) rfl
 have hxz := HpX.out.lt
 have hxn : ¬ w.heap.size = X.heap.size := by omega
 have hxm : ¬ X.heap.size = w.heap.size := by omega
 have hby := hs.bytes24
 have HWF : Hid (∀ x ∈ ws, (Lit.int .u8 x).wf = true) := wf_bytes hby
 have HBY := keepG hby
 clear HQ h hs hby
 go_enter Tryz.func8, Tryz.ntmps8
 go_wp2_with (first
  | (rw [HX.out])
  | (at_builtin; go_must (refine wpList_append_sees rfl (.tmp 11) (.tmp 13) 29 rfl X.heap.size 5 i0 (.int .u8 0) 1 Tryz.underlying29 hi hz0 hz1 hz2 rfl .u8 (.slice (some ⟨X.heap.size, 0, none⟩) 0 0) [] rfl (own_empty24 X _ _) _ ws rfl (HSX.out.below ((Below.refl _ _).alloc (Nat.le_refl _) _) (Nat.le_refl _)) (by unfold maxLen; simp; omega) (by simp; omega) (by simp) ?_); intro v1 w1 hown1 hg1; go_must (have hB1 := grown_new24 hg1; have HS1 := keepG (Sees.own (by simpa using hown1) HWF.out); have HL1 := keepG (HLX.out.below hB1); have HB1 := keepG (HBX.out.trans (hB1.mono HBX.out.size)); obtain ⟨va, vc, ev⟩ := own_shape hown1; clear hown1 hg1 hB1; subst ev))
  | (go_at_call 17; go_must (refine (HL1.out.reg.load hkk hps HS1.out HBY.out HR).mono ?_); rintro e2 w2 ⟨rfl, G2, hl2, hn2⟩; go_must (have HLE := keepG (Lz24.next HL1.out hl2 hn2 HOK.out); have HNE := keepG ((Nx.below (F := G) HB1.out).trans hn2); clear hl2 hn2)))
 go_ret2
 exact ⟨rfl, _, HLE.out, HNE.out⟩
set_option maxHeartbeats 1600000 in
theorem play24_1 (h : Lz24 w0 w b bt br bc G r) {N : Nat} (hf : r.Few N) (hN : N <= 1000000) (x p : Int) {a : Option Addr} {uc : Nat} {ws : List Int} (hs : Sees .u8 w (.slice a ws.length uc) ws) (hl : ws.length <= 140737488351232) (hx : (Lit.int .i64 x).wf = true) {n E : Int} (HQ : Hid (r.play 1 x p ws = (n, E, r'))) :
  Calls Tryz.prog 8 #[.pointer (some ⟨b, 0, none⟩), .agg #[.int .i64 1, .int .i64 x, .int .i64 p, .slice a ws.length uc]] w fun e w' => e = .returned (.tuple #[.int .i64 n, .int .i64 E]) /\ ∃ G', Lz24 w0 w' b bt br bc G' r' /\ Nx w w' G G' := by
 obtain ⟨X, HX, HpX, HBX⟩ : ∃ X, Hid (w.alloc (.cells #[.int .i64 1, .int .i64 x, .int .i64 p, .slice a ws.length uc] 31) = X) /\ Hid (Hp X w.heap.size 31 [.int .i64 1, .int .i64 x, .int .i64 p, .slice a ws.length uc]) /\ Hid (Below w.heap.size w X) := ⟨_, rfl, Hp.new w _ _, below_allocG _ _⟩
 have hok := play_ok h.ok HQ.out
 have HL := keepG h
 have HLX := keepG (h.below HBX.out)
 have hps : r.ps.length <= 1000000000000000 := by have := hf.ps; omega
 have hla : r.tb.last <= 1000000000000000 := by have := hf.la; omega
 have hnw : r.ck.now <= 1000000000000000 := by have := hf.nw; omega
 have hkk := h.ok
 have HOK := keepG hok
 have p0 := HpX.out.cell (j := 0) rfl
 have p1 := HpX.out.cell (j := 1) rfl
 have p2 := HpX.out.cell (j := 2) rfl
 have p3 := HpX.out.cell (j := 3) rfl
 have HLI := keepG (fun k (e : G k) => HLX.out.reg.lies k e)
 have HLW := keepG (fun k (e : G k) => h.reg.lies k e)
 clear hok hf hN
 have HR := keepG (show r.put false x p = (n, E, r') from HQ.out)
 clear HQ h
 go_enter Tryz.func8, Tryz.ntmps8
 go_wp2_with (first
  | (rw [HX.out])
  | (go_at_call 13; go_must (refine (HLX.out.reg.attach hkk hla x p HR).mono ?_); rintro e1 w1 ⟨rfl, G2, hl2, hn2⟩; go_must (have HLE := keepG (Lz24.next HLX.out hl2 hn2 HOK.out); have HNE := keepG ((Nx.below (F := G) HBX.out).trans hn2); clear hl2 hn2)))
 go_ret2
 exact ⟨rfl, _, HLE.out, HNE.out⟩
set_option maxHeartbeats 1600000 in
theorem play24_2 (h : Lz24 w0 w b bt br bc G r) {N : Nat} (hf : r.Few N) (hN : N <= 1000000) (x p : Int) {a : Option Addr} {uc : Nat} {ws : List Int} (hs : Sees .u8 w (.slice a ws.length uc) ws) (hl : ws.length <= 140737488351232) (hx : (Lit.int .i64 x).wf = true) {n E : Int} (HQ : Hid (r.play 2 x p ws = (n, E, r'))) :
  Calls Tryz.prog 8 #[.pointer (some ⟨b, 0, none⟩), .agg #[.int .i64 2, .int .i64 x, .int .i64 p, .slice a ws.length uc]] w fun e w' => e = .returned (.tuple #[.int .i64 n, .int .i64 E]) /\ ∃ G', Lz24 w0 w' b bt br bc G' r' /\ Nx w w' G G' := by
 obtain ⟨X, HX, HpX, HBX⟩ : ∃ X, Hid (w.alloc (.cells #[.int .i64 2, .int .i64 x, .int .i64 p, .slice a ws.length uc] 31) = X) /\ Hid (Hp X w.heap.size 31 [.int .i64 2, .int .i64 x, .int .i64 p, .slice a ws.length uc]) /\ Hid (Below w.heap.size w X) := ⟨_, rfl, Hp.new w _ _, below_allocG _ _⟩
 have hok := play_ok h.ok HQ.out
 have HL := keepG h
 have HLX := keepG (h.below HBX.out)
 have hps : r.ps.length <= 1000000000000000 := by have := hf.ps; omega
 have hla : r.tb.last <= 1000000000000000 := by have := hf.la; omega
 have hnw : r.ck.now <= 1000000000000000 := by have := hf.nw; omega
 have hkk := h.ok
 have HOK := keepG hok
 have p0 := HpX.out.cell (j := 0) rfl
 have p1 := HpX.out.cell (j := 1) rfl
 have p2 := HpX.out.cell (j := 2) rfl
 have p3 := HpX.out.cell (j := 3) rfl
 have HLI := keepG (fun k (e : G k) => HLX.out.reg.lies k e)
 have HLW := keepG (fun k (e : G k) => h.reg.lies k e)
 clear hok hf hN
 have HR := keepG (show r.put true x p = (n, E, r') from HQ.out)
 clear HQ h
 go_enter Tryz.func8, Tryz.ntmps8
 go_wp2_with (first
  | (rw [HX.out])
  | (go_at_call 24; go_must (refine (HLX.out.reg.swap hkk hla x p HR).mono ?_); rintro e1 w1 ⟨rfl, G2, hl2, hn2⟩; go_must (have HLE := keepG (Lz24.next HLX.out hl2 hn2 HOK.out); have HNE := keepG ((Nx.below (F := G) HBX.out).trans hn2); clear hl2 hn2)))
 go_ret2
 exact ⟨rfl, _, HLE.out, HNE.out⟩
set_option maxHeartbeats 1600000 in
theorem play24_4 (h : Lz24 w0 w b bt br bc G r) {N : Nat} (hf : r.Few N) (hN : N <= 1000000) (x p : Int) {a : Option Addr} {uc : Nat} {ws : List Int} (hs : Sees .u8 w (.slice a ws.length uc) ws) (hl : ws.length <= 140737488351232) (hx : (Lit.int .i64 x).wf = true) {n E : Int} (HQ : Hid (r.play 4 x p ws = (n, E, r'))) :
  Calls Tryz.prog 8 #[.pointer (some ⟨b, 0, none⟩), .agg #[.int .i64 4, .int .i64 x, .int .i64 p, .slice a ws.length uc]] w fun e w' => e = .returned (.tuple #[.int .i64 n, .int .i64 E]) /\ ∃ G', Lz24 w0 w' b bt br bc G' r' /\ Nx w w' G G' := by
 obtain ⟨X, HX, HpX, HBX⟩ : ∃ X, Hid (w.alloc (.cells #[.int .i64 4, .int .i64 x, .int .i64 p, .slice a ws.length uc] 31) = X) /\ Hid (Hp X w.heap.size 31 [.int .i64 4, .int .i64 x, .int .i64 p, .slice a ws.length uc]) /\ Hid (Below w.heap.size w X) := ⟨_, rfl, Hp.new w _ _, below_allocG _ _⟩
 have hok := play_ok h.ok HQ.out
 have HL := keepG h
 have HLX := keepG (h.below HBX.out)
 have hps : r.ps.length <= 1000000000000000 := by have := hf.ps; omega
 have hla : r.tb.last <= 1000000000000000 := by have := hf.la; omega
 have hnw : r.ck.now <= 1000000000000000 := by have := hf.nw; omega
 have hkk := h.ok
 have HOK := keepG hok
 have p0 := HpX.out.cell (j := 0) rfl
 have p1 := HpX.out.cell (j := 1) rfl
 have p2 := HpX.out.cell (j := 2) rfl
 have p3 := HpX.out.cell (j := 3) rfl
 have HLI := keepG (fun k (e : G k) => HLX.out.reg.lies k e)
 have HLW := keepG (fun k (e : G k) => h.reg.lies k e)
 clear hok hf hN
 have HR := keepG (show r.ret p = (n, E, r') from HQ.out)
 clear HQ h
 go_enter Tryz.func8, Tryz.ntmps8
 go_wp2_with (first
  | (rw [HX.out])
  | (go_at_call 14; go_must (refine (HLX.out.reg.retire hkk hps hnw p HR).mono ?_); rintro e1 w1 ⟨rfl, G2, hl2, hn2⟩; go_must (have HLE := keepG (Lz24.next HLX.out hl2 hn2 HOK.out); have HNE := keepG ((Nx.below (F := G) HBX.out).trans hn2); clear hl2 hn2)))
 go_ret2
 exact ⟨rfl, _, HLE.out, HNE.out⟩
set_option maxHeartbeats 3200000 in
theorem play24_3 (h : Lz24 w0 w b bt br bc G r) {N : Nat} (hf : r.Few N) (hN : N <= 1000000) (x p : Int) {a : Option Addr} {uc : Nat} {ws : List Int} (hs : Sees .u8 w (.slice a ws.length uc) ws) (hl : ws.length <= 140737488351232) (hx : (Lit.int .i64 x).wf = true) {n E : Int} (HQ : Hid (r.play 3 x p ws = (n, E, r'))) :
  Calls Tryz.prog 8 #[.pointer (some ⟨b, 0, none⟩), .agg #[.int .i64 3, .int .i64 x, .int .i64 p, .slice a ws.length uc]] w fun e w' => e = .returned (.tuple #[.int .i64 n, .int .i64 E]) /\ ∃ G', Lz24 w0 w' b bt br bc G' r' /\ Nx w w' G G' := by
 obtain ⟨X, HX, HpX, HBX⟩ : ∃ X, Hid (w.alloc (.cells #[.int .i64 3, .int .i64 x, .int .i64 p, .slice a ws.length uc] 31) = X) /\ Hid (Hp X w.heap.size 31 [.int .i64 3, .int .i64 x, .int .i64 p, .slice a ws.length uc]) /\ Hid (Below w.heap.size w X) := ⟨_, rfl, Hp.new w _ _, below_allocG _ _⟩
 have hok := play_ok h.ok HQ.out
 have HL := keepG h
 have HLX := keepG (h.below HBX.out)
 have hps : r.ps.length <= 1000000000000000 := by have := hf.ps; omega
 have hla : r.tb.last <= 1000000000000000 := by have := hf.la; omega
 have hnw : r.ck.now <= 1000000000000000 := by have := hf.nw; omega
 have hkk := h.ok
 have HOK := keepG hok
 have p0 := HpX.out.cell (j := 0) rfl
 have p1 := HpX.out.cell (j := 1) rfl
 have p2 := HpX.out.cell (j := 2) rfl
 have p3 := HpX.out.cell (j := 3) rfl
 have HLI := keepG (fun k (e : G k) => HLX.out.reg.lies k e)
 have HLW := keepG (fun k (e : G k) => h.reg.lies k e)
 clear hok hf hN
 obtain ⟨rfl, HD⟩ : 0 = n /\ Hid (r.det [x] = (E, r')) := by
  have := HQ.out
  injection this with e1 this
  injection this with e2 e3
  exact ⟨e1, by show _ = _; rw [<- e2, <- e3]⟩
 have c0 := HLX.out.low.1
 obtain ⟨Z, HZ, HBZ, HSZ⟩ := lit_oneR X x hx
 have HLZ := keepG (HLX.out.below HBZ.out)
 have z0 := HLZ.out.low.1
 have HpZ := keepG (HpX.out.below HBZ.out HpX.out.lt)
 have z1 := HpZ.out.cell (j := 1) rfl
 clear HQ h
 go_enter Tryz.func8, Tryz.ntmps8
 go_wp2_with (rw [HX.out])
 refine wp_region_held_drew (S := fun w' => w'.cell? ⟨b, 0, none⟩ = some (.pointer (some ⟨bt, 0, none⟩)) /\ w'.cell? ⟨w.heap.size, 1, none⟩ = some (.int .i64 x)) (by kernel_rfl) ⟨c0, p1⟩ (fun hHeld => ?_)
 refine tkGo [0, 1, 2, 3, 4, 5] ?_
 repeat (refine tkO (v := ?_) rfl ?_ ?_; rotate_left; (intro wy hSw; (try dsimp only at hSw); go_simp; (first | done | with_reducible rfl)); try simp only [Act.put, p1q, p2q, p3q, p4q, p5q, p6q])
 refine tkEnd ?_
 refine runO 6 (by kernel_rfl) rfl (by rfl) (fun KK hK => ?_)
 go_simp
 rw [HZ.out]
 refine hK.out _ _ ⟨z0, z1⟩ (fun hHeld => ?_)
 clear hK KK
 try simp only [Act.put, p1q, p2q, p3q, p4q, p5q, p6q]
 refine runO 7 (by kernel_rfl) rfl (by rfl) (fun KK hK => ?_)
 go_simp
 go_at_call 25
 refine ((HLZ.out.below (below_drG (Below.refl _ _))).reg.detach hkk (show Hid (1 * 8 <= _) by show _ <= _; omega) (HSZ.out.below (below_drG (Below.refl _ _)) (Nat.le_refl _)) (fun _ k e g => by have h5 := HLI.out k e; have h6 : X.heap.size = k := Option.some.inj g; omega) HD).mono ?_
 rintro e1 w1 ⟨rfl, G2, hl2, hn2⟩
 have HLE := keepG (Lz24.next (HLZ.out.below (below_drG (Below.refl _ _))) hl2 hn2 HOK.out)
 have HNE : Hid (Nx w w1 G G2) := (Nx.below (F := G) (HBX.out.trans (HBZ.out.mono HBX.out.size))).trans ((Nx.below (below_drG (Below.refl _ _))).trans hn2)
 have HpE := keepG (HpZ.out.chg (w' := w1) ((Nx.below (F := G) (below_drG (Below.refl _ _))).trans hn2).chg (fun e => by have := HLW.out _ e; omega))
 have y0 := HLE.out.low.1
 have y1 := HpE.out.cell (j := 1) rfl
 clear hl2 hn2
 go_simp
 refine hK.out _ _ ⟨y0, y1⟩ (fun hHeld => ?_)
 clear hK KK
 try simp only [Act.put, p1q, p2q, p3q, p4q, p5q, p6q]
 refine tkGo [8, 9] ?_
 repeat (refine tkO (v := ?_) rfl ?_ ?_; rotate_left; (intro wy hSw; (try dsimp only at hSw); go_simp; (first | done | with_reducible rfl)); try simp only [Act.put, p1q, p2q, p3q, p4q, p5q, p6q])
 refine tkEnd ?_
 refine wpAnyH_done (by kernel_rfl) ?_ _
 clear hHeld
 go_wp2
 go_ret2
 exact ⟨rfl, _, HLE.out, HNE.out⟩
set_option maxHeartbeats 3200000 in
theorem play24_6 (h : Lz24 w0 w b bt br bc G r) {N : Nat} (hf : r.Few N) (hN : N <= 1000000) (x p : Int) {a : Option Addr} {uc : Nat} {ws : List Int} (hs : Sees .u8 w (.slice a ws.length uc) ws) (hl : ws.length <= 140737488351232) (hx : (Lit.int .i64 x).wf = true) {n E : Int} (HQ : Hid (r.play 6 x p ws = (n, E, r'))) :
  Calls Tryz.prog 8 #[.pointer (some ⟨b, 0, none⟩), .agg #[.int .i64 6, .int .i64 x, .int .i64 p, .slice a ws.length uc]] w fun e w' => e = .returned (.tuple #[.int .i64 n, .int .i64 E]) /\ ∃ G', Lz24 w0 w' b bt br bc G' r' /\ Nx w w' G G' := by
 obtain ⟨X, HX, HpX, HBX⟩ : ∃ X, Hid (w.alloc (.cells #[.int .i64 6, .int .i64 x, .int .i64 p, .slice a ws.length uc] 31) = X) /\ Hid (Hp X w.heap.size 31 [.int .i64 6, .int .i64 x, .int .i64 p, .slice a ws.length uc]) /\ Hid (Below w.heap.size w X) := ⟨_, rfl, Hp.new w _ _, below_allocG _ _⟩
 have hok := play_ok h.ok HQ.out
 have HL := keepG h
 have HLX := keepG (h.below HBX.out)
 have hps : r.ps.length <= 1000000000000000 := by have := hf.ps; omega
 have hla : r.tb.last <= 1000000000000000 := by have := hf.la; omega
 have hnw : r.ck.now <= 1000000000000000 := by have := hf.nw; omega
 have hkk := h.ok
 have HOK := keepG hok
 have p0 := HpX.out.cell (j := 0) rfl
 have p1 := HpX.out.cell (j := 1) rfl
 have p2 := HpX.out.cell (j := 2) rfl
 have p3 := HpX.out.cell (j := 3) rfl
 have HLI := keepG (fun k (e : G k) => HLX.out.reg.lies k e)
 have HLW := keepG (fun k (e : G k) => h.reg.lies k e)
 clear hok hf hN
 have HR := keepG (show r.enter x = (n, E, r') from HQ.out)
 have c0 := HLX.out.low.2.2
 clear HQ h
 go_enter Tryz.func8, Tryz.ntmps8
 go_wp2_with (rw [HX.out])
 refine wp_region_held_drew (S := fun w' => w'.cell? ⟨b, 2, none⟩ = some (.pointer (some ⟨bc, 0, none⟩)) /\ w'.cell? ⟨w.heap.size, 1, none⟩ = some (.int .i64 x)) (by kernel_rfl) ⟨c0, p1⟩ (fun hHeld => ?_)
 refine tkGo [0, 1, 2, 3, 4, 5] ?_
 repeat (refine tkO (v := ?_) rfl ?_ ?_; rotate_left; (intro wy hSw; (try dsimp only at hSw); go_simp; (first | done | with_reducible rfl)); try simp only [Act.put, p1q, p2q, p3q, p4q, p5q, p6q])
 refine tkEnd ?_
 refine runO 6 (by kernel_rfl) rfl (by rfl) (fun KK hK => ?_)
 go_simp
 go_at_call 26
 refine ((HLX.out.below (below_drG (Below.refl _ _))).reg.enter x HR).mono ?_
 rintro e1 w1 ⟨rfl, G2, hl2, hn2⟩
 have HLE := keepG (Lz24.next (HLX.out.below (below_drG (Below.refl _ _))) hl2 hn2 HOK.out)
 have HNE : Hid (Nx w w1 G G2) := (Nx.below (F := G) HBX.out).trans ((Nx.below (below_drG (Below.refl _ _))).trans hn2)
 have HpE := keepG (HpX.out.chg (w' := w1) ((Nx.below (F := G) (below_drG (Below.refl _ _))).trans hn2).chg (fun e => by have := HLW.out _ e; omega))
 have y0 := HLE.out.low.2.2
 have y1 := HpE.out.cell (j := 1) rfl
 clear hl2 hn2
 go_simp
 refine hK.out _ _ ⟨y0, y1⟩ (fun hHeld => ?_)
 clear hK KK
 try simp only [Act.put, p1q, p2q, p3q, p4q, p5q, p6q]
 refine tkGo [7, 8, 9, 10] ?_
 repeat (refine tkO (v := ?_) rfl ?_ ?_; rotate_left; (intro wy hSw; (try dsimp only at hSw); go_simp; (first | done | with_reducible rfl)); try simp only [Act.put, p1q, p2q, p3q, p4q, p5q, p6q])
 refine tkEnd ?_
 refine wpAnyH_done (by kernel_rfl) ?_ _
 clear hHeld
 go_wp2
 go_ret2
 exact ⟨rfl, _, HLE.out, HNE.out⟩
set_option maxHeartbeats 3200000 in
theorem play24_7 (h : Lz24 w0 w b bt br bc G r) {N : Nat} (hf : r.Few N) (hN : N <= 1000000) (x p : Int) {a : Option Addr} {uc : Nat} {ws : List Int} (hs : Sees .u8 w (.slice a ws.length uc) ws) (hl : ws.length <= 140737488351232) (hx : (Lit.int .i64 x).wf = true) {n E : Int} (HQ : Hid (r.play 7 x p ws = (n, E, r'))) :
  Calls Tryz.prog 8 #[.pointer (some ⟨b, 0, none⟩), .agg #[.int .i64 7, .int .i64 x, .int .i64 p, .slice a ws.length uc]] w fun e w' => e = .returned (.tuple #[.int .i64 n, .int .i64 E]) /\ ∃ G', Lz24 w0 w' b bt br bc G' r' /\ Nx w w' G G' := by
 obtain ⟨X, HX, HpX, HBX⟩ : ∃ X, Hid (w.alloc (.cells #[.int .i64 7, .int .i64 x, .int .i64 p, .slice a ws.length uc] 31) = X) /\ Hid (Hp X w.heap.size 31 [.int .i64 7, .int .i64 x, .int .i64 p, .slice a ws.length uc]) /\ Hid (Below w.heap.size w X) := ⟨_, rfl, Hp.new w _ _, below_allocG _ _⟩
 have hok := play_ok h.ok HQ.out
 have HL := keepG h
 have HLX := keepG (h.below HBX.out)
 have hps : r.ps.length <= 1000000000000000 := by have := hf.ps; omega
 have hla : r.tb.last <= 1000000000000000 := by have := hf.la; omega
 have hnw : r.ck.now <= 1000000000000000 := by have := hf.nw; omega
 have hkk := h.ok
 have HOK := keepG hok
 have p0 := HpX.out.cell (j := 0) rfl
 have p1 := HpX.out.cell (j := 1) rfl
 have p2 := HpX.out.cell (j := 2) rfl
 have p3 := HpX.out.cell (j := 3) rfl
 have HLI := keepG (fun k (e : G k) => HLX.out.reg.lies k e)
 have HLW := keepG (fun k (e : G k) => h.reg.lies k e)
 clear hok hf hN
 obtain ⟨rfl, HD⟩ : 0 = n /\ Hid (r.leave [x] = (E, r')) := by
  have := HQ.out
  injection this with e1 this
  injection this with e2 e3
  exact ⟨e1, by show _ = _; rw [<- e2, <- e3]⟩
 have c0 := HLX.out.low.2.2
 obtain ⟨Z, HZ, HBZ, HSZ⟩ := lit_oneR X x hx
 have HLZ := keepG (HLX.out.below HBZ.out)
 have z0 := HLZ.out.low.2.2
 have HpZ := keepG (HpX.out.below HBZ.out HpX.out.lt)
 have z1 := HpZ.out.cell (j := 1) rfl
 clear HQ h
 go_enter Tryz.func8, Tryz.ntmps8
 go_wp2_with (rw [HX.out])
 refine wp_region_held_drew (S := fun w' => w'.cell? ⟨b, 2, none⟩ = some (.pointer (some ⟨bc, 0, none⟩)) /\ w'.cell? ⟨w.heap.size, 1, none⟩ = some (.int .i64 x)) (by kernel_rfl) ⟨c0, p1⟩ (fun hHeld => ?_)
 refine tkGo [0, 1, 2, 3, 4, 5] ?_
 repeat (refine tkO (v := ?_) rfl ?_ ?_; rotate_left; (intro wy hSw; (try dsimp only at hSw); go_simp; (first | done | with_reducible rfl)); try simp only [Act.put, p1q, p2q, p3q, p4q, p5q, p6q])
 refine tkEnd ?_
 refine runO 6 (by kernel_rfl) rfl (by rfl) (fun KK hK => ?_)
 go_simp
 rw [HZ.out]
 refine hK.out _ _ ⟨z0, z1⟩ (fun hHeld => ?_)
 clear hK KK
 try simp only [Act.put, p1q, p2q, p3q, p4q, p5q, p6q]
 refine runO 7 (by kernel_rfl) rfl (by rfl) (fun KK hK => ?_)
 go_simp
 go_at_call 16
 refine ((HLZ.out.below (below_drG (Below.refl _ _))).reg.leave hkk (HSZ.out.below (below_drG (Below.refl _ _)) (Nat.le_refl _)) (fun _ k e g => by have h5 := HLI.out k e; have h6 : X.heap.size = k := Option.some.inj g; omega) HD).mono ?_
 rintro e1 w1 ⟨rfl, G2, hl2, hn2⟩
 have HLE := keepG (Lz24.next (HLZ.out.below (below_drG (Below.refl _ _))) hl2 hn2 HOK.out)
 have HNE : Hid (Nx w w1 G G2) := (Nx.below (F := G) (HBX.out.trans (HBZ.out.mono HBX.out.size))).trans ((Nx.below (below_drG (Below.refl _ _))).trans hn2)
 have HpE := keepG (HpZ.out.chg (w' := w1) ((Nx.below (F := G) (below_drG (Below.refl _ _))).trans hn2).chg (fun e => by have := HLW.out _ e; omega))
 have y0 := HLE.out.low.2.2
 have y1 := HpE.out.cell (j := 1) rfl
 clear hl2 hn2
 go_simp
 refine hK.out _ _ ⟨y0, y1⟩ (fun hHeld => ?_)
 clear hK KK
 try simp only [Act.put, p1q, p2q, p3q, p4q, p5q, p6q]
 refine tkGo [8, 9] ?_
 repeat (refine tkO (v := ?_) rfl ?_ ?_; rotate_left; (intro wy hSw; (try dsimp only at hSw); go_simp; (first | done | with_reducible rfl)); try simp only [Act.put, p1q, p2q, p3q, p4q, p5q, p6q])
 refine tkEnd ?_
 refine wpAnyH_done (by kernel_rfl) ?_ _
 clear hHeld
 go_wp2
 go_ret2
 exact ⟨rfl, _, HLE.out, HNE.out⟩
set_option maxHeartbeats 1600000 in
theorem play24_5 (h : Lz24 w0 w b bt br bc G r) {N : Nat} (hf : r.Few N) (hN : N <= 1000000) (x p : Int) {a : Option Addr} {uc : Nat} {ws : List Int} (hs : Sees .u8 w (.slice a ws.length uc) ws) (hl : ws.length <= 140737488351232) (hx : (Lit.int .i64 x).wf = true) {n E : Int} (HQ : Hid (r.play 5 x p ws = (n, E, r'))) :
  Calls Tryz.prog 8 #[.pointer (some ⟨b, 0, none⟩), .agg #[.int .i64 5, .int .i64 x, .int .i64 p, .slice a ws.length uc]] w fun e w' => e = .returned (.tuple #[.int .i64 n, .int .i64 E]) /\ ∃ G', Lz24 w0 w' b bt br bc G' r' /\ Nx w w' G G' := by
 obtain ⟨X, HX, HpX, HBX⟩ : ∃ X, Hid (w.alloc (.cells #[.int .i64 5, .int .i64 x, .int .i64 p, .slice a ws.length uc] 31) = X) /\ Hid (Hp X w.heap.size 31 [.int .i64 5, .int .i64 x, .int .i64 p, .slice a ws.length uc]) /\ Hid (Below w.heap.size w X) := ⟨_, rfl, Hp.new w _ _, below_allocG _ _⟩
 have hok := play_ok h.ok HQ.out
 have HL := keepG h
 have HLX := keepG (h.below HBX.out)
 have hps : r.ps.length <= 1000000000000000 := by have := hf.ps; omega
 have hla : r.tb.last <= 1000000000000000 := by have := hf.la; omega
 have hnw : r.ck.now <= 1000000000000000 := by have := hf.nw; omega
 have hkk := h.ok
 have HOK := keepG hok
 have p0 := HpX.out.cell (j := 0) rfl
 have p1 := HpX.out.cell (j := 1) rfl
 have p2 := HpX.out.cell (j := 2) rfl
 have p3 := HpX.out.cell (j := 3) rfl
 have HLI := keepG (fun k (e : G k) => HLX.out.reg.lies k e)
 have HLW := keepG (fun k (e : G k) => h.reg.lies k e)
 clear hok hf hN
 obtain ⟨A, HA⟩ : ∃ A, Hid (r.goes x = A) := ⟨_, rfl⟩
 obtain ⟨rfl, rfl, HD⟩ : (A.length : Int) = n /\ 0 = E /\ Hid (r.settle x = (A, r')) := by
  have := HQ.out
  injection this with e1 this
  injection this with e2 e3
  rw [HA.out] at e1
  refine ⟨e1, e2, ?_⟩
  show r.settle x = (A, r')
  rw [<- e3, <- HA.out]
  rfl
 clear HQ h
 go_enter Tryz.func8, Tryz.ntmps8
 go_wp2_with (first
  | (rw [HX.out])
  | (go_at_call 7; go_must (refine (HLX.out.reg.settle hkk x HD).mono ?_); rintro e1 w1 ⟨u, rfl, hu, G2, hl2, hn2, _⟩; go_must (obtain ⟨va, vc, ev⟩ := own_shape hu; subst ev; have HLE := keepG (Lz24.next HLX.out hl2 hn2 HOK.out); have HNE := keepG ((Nx.below (F := G) HBX.out).trans hn2); clear hl2 hn2 hu)))
 go_ret2
 exact ⟨rfl, _, HLE.out, HNE.out⟩
set_option maxHeartbeats 1600000 in
theorem play24_8 (h : Lz24 w0 w b bt br bc G r) {N : Nat} (hf : r.Few N) (hN : N <= 1000000) (k : Int) (k0 : ¬ k = 0) (k1 : ¬ k = 1) (k2 : ¬ k = 2) (k3 : ¬ k = 3) (k4 : ¬ k = 4) (k5 : ¬ k = 5) (k6 : ¬ k = 6) (k7 : ¬ k = 7) (x p : Int) {a : Option Addr} {uc : Nat} {ws : List Int} (hs : Sees .u8 w (.slice a ws.length uc) ws) (hl : ws.length <= 140737488351232) (hx : (Lit.int .i64 x).wf = true) {n E : Int} (HQ : Hid (r.play k x p ws = (n, E, r'))) :
  Calls Tryz.prog 8 #[.pointer (some ⟨b, 0, none⟩), .agg #[.int .i64 k, .int .i64 x, .int .i64 p, .slice a ws.length uc]] w fun e w' => e = .returned (.tuple #[.int .i64 n, .int .i64 E]) /\ ∃ G', Lz24 w0 w' b bt br bc G' r' /\ Nx w w' G G' := by
 obtain ⟨X, HX, HpX, HBX⟩ : ∃ X, Hid (w.alloc (.cells #[.int .i64 k, .int .i64 x, .int .i64 p, .slice a ws.length uc] 31) = X) /\ Hid (Hp X w.heap.size 31 [.int .i64 k, .int .i64 x, .int .i64 p, .slice a ws.length uc]) /\ Hid (Below w.heap.size w X) := ⟨_, rfl, Hp.new w _ _, below_allocG _ _⟩
 have hok := play_ok h.ok HQ.out
 have HL := keepG h
 have HLX := keepG (h.below HBX.out)
 have hps : r.ps.length <= 1000000000000000 := by have := hf.ps; omega
 have hla : r.tb.last <= 1000000000000000 := by have := hf.la; omega
 have hnw : r.ck.now <= 1000000000000000 := by have := hf.nw; omega
 have hkk := h.ok
 have HOK := keepG hok
 have p0 := HpX.out.cell (j := 0) rfl
 have p1 := HpX.out.cell (j := 1) rfl
 have p2 := HpX.out.cell (j := 2) rfl
 have p3 := HpX.out.cell (j := 3) rfl
 have HLI := keepG (fun k (e : G k) => HLX.out.reg.lies k e)
 have HLW := keepG (fun k (e : G k) => h.reg.lies k e)
 clear hok hf hN
 obtain ⟨rfl, rfl, rfl⟩ : r.ck.now + 1 = n /\ 0 = E /\ r.go = r' := by
  have := HQ.out
  unfold Rg.play at this
  rw [if_neg k0, if_neg k1, if_neg k2, if_neg k3, if_neg k4, if_neg k5, if_neg k6, if_neg k7] at this
  injection this with e1 this
  injection this with e2 e3
  exact ⟨e1, e2, e3⟩
 have b0 : (k == 0) = false := by simpa using k0
 have b1 : (k == 1) = false := by simpa using k1
 have b2 : (k == 2) = false := by simpa using k2
 have b3 : (k == 3) = false := by simpa using k3
 have b4 : (k == 4) = false := by simpa using k4
 have b5 : (k == 5) = false := by simpa using k5
 have b6 : (k == 6) = false := by simpa using k6
 have b7 : (k == 7) = false := by simpa using k7
 have c2 := HLX.out.low.2.2
 clear HQ h k0 k1 k2 k3 k4 k5 k6 k7
 go_enter Tryz.func8, Tryz.ntmps8
 go_wp2_with (first
  | (rw [HX.out])
  | (go_at_call 27; go_must (refine (HLX.out.reg.advance hkk (by omega)).mono ?_); rintro e1 w1 ⟨rfl, G2, hl2, hn2⟩; go_must (have HLE := keepG (Lz24.next HLX.out hl2 hn2 HOK.out); have HNE := keepG ((Nx.below (F := G) HBX.out).trans hn2); clear hl2 hn2)))
 go_ret2
 exact ⟨rfl, _, HLE.out, HNE.out⟩
theorem play24 (h : Lz24 w0 w b bt br bc G r) {N : Nat} (hf : r.Few N) (hN : N <= 1000000) (k : Int) (x p : Int) {a : Option Addr} {uc : Nat} {ws : List Int} (hs : Sees .u8 w (.slice a ws.length uc) ws) (hl : ws.length <= 140737488351232) (hx : (Lit.int .i64 x).wf = true) {n E : Int} (HQ : Hid (r.play k x p ws = (n, E, r'))) :
  Calls Tryz.prog 8 #[.pointer (some ⟨b, 0, none⟩), .agg #[.int .i64 k, .int .i64 x, .int .i64 p, .slice a ws.length uc]] w fun e w' => e = .returned (.tuple #[.int .i64 n, .int .i64 E]) /\ ∃ G', Lz24 w0 w' b bt br bc G' r' /\ Nx w w' G G' := by
 by_cases k0 : k = 0
 ·subst k0; exact play24_0 h hf hN x p hs hl hx HQ
 by_cases k1 : k = 1
 ·subst k1; exact play24_1 h hf hN x p hs hl hx HQ
 by_cases k2 : k = 2
 ·subst k2; exact play24_2 h hf hN x p hs hl hx HQ
 by_cases k3 : k = 3
 ·subst k3; exact play24_3 h hf hN x p hs hl hx HQ
 by_cases k4 : k = 4
 ·subst k4; exact play24_4 h hf hN x p hs hl hx HQ
 by_cases k5 : k = 5
 ·subst k5; exact play24_5 h hf hN x p hs hl hx HQ
 by_cases k6 : k = 6
 ·subst k6; exact play24_6 h hf hN x p hs hl hx HQ
 by_cases k7 : k = 7
 ·subst k7; exact play24_7 h hf hN x p hs hl hx HQ
 exact play24_8 h hf hN k k0 k1 k2 k3 k4 k5 k6 k7 x p hs hl hx HQ
end
end Go.Proofs.YtlkdniglaldilaaGreat
