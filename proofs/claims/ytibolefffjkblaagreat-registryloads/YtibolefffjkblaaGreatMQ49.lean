/-
  R24LE
  R24LF
  R24LG
  R24LH
  W24Kit
  W24Play
-/
import Derived.Test.YtibolefffjkblaaGreatMQ0
import Derived.Test.YtibolefffjkblaaGreatMQ34
import Derived.Test.YtibolefffjkblaaGreatMQ48
import Derived.Test.YtibolefffjkblaaGreatMQ43
import Derived.Test.YtibolefffjkblaaGreatMQ47
import Derived.Test.YtibolefffjkblaaGreatMQ16
import Derived.Laws.AppendOwnNone
namespace Go.Proofs.YtibolefffjkblaaGreat
open Go.RowKit
set_option linter.unusedVariables false
set_option linter.unusedSimpArgs false
set_option maxRecDepth 100000
open Go.ChangeShapes Go.WideShapes Go.ChangeAt Go.RowKit
theorem boxM24 (wr : World) (u v : Value) : ∃ W1 W2, Hid (wr.alloc (.cells #[.slice none 0 0, .slice none 0 0] 45) = W1) /\ Hid ((W1.setCell ⟨wr.heap.size, 0, none⟩ u).setCell ⟨wr.heap.size, 1, none⟩ v = W2) /\
  (W1.cell? ⟨wr.heap.size, 0, none⟩ = some (.slice none 0 0) /\ W1.cell? ⟨wr.heap.size, 1, none⟩ = some (.slice none 0 0)) /\ (W1.frozen? ⟨wr.heap.size, 0, none⟩ = false /\ W1.frozen? ⟨wr.heap.size, 1, none⟩ = false) /\
  Hid (Hp W2 wr.heap.size 45 [u, v]) /\ Hid (Below wr.heap.size wr W2) := by
 have h0 := Hp.new wr [.slice none 0 0, .slice none 0 0] 45
 exact ⟨_, _, rfl, rfl, ⟨h0.cell rfl, h0.cell rfl⟩, ⟨h0.frozen 0, h0.frozen 1⟩, (h0.set 0 u).set 1 v, ((below_allocG wr _).trans (grown_to_below (grown_set _ wr.heap.size 0 _) (Nat.le_refl _) (by simp))).trans (grown_to_below (grown_set _ wr.heap.size 1 _) (Nat.le_refl _) (by simp))⟩
theorem box_retM {fn : Func} {p u : Tmp} {w2 : World} {n : Nat} {tmps : Array Value} {a b E : Value} {Q : Ending -> World -> Prop} (hr : fn.results = #[.cell p 45, .tmp u]) (hp : tmps.getD p undef = .pointer (some ⟨n, 0, none⟩)) (hu : tmps.getD u undef = E) (hx : Hp w2 n 45 [a, b]) (hQ : Q (.returned (.tuple #[.agg #[a, b], E])) w2) : bodyPost Tryz.prog fn Q .ret ⟨tmps, []⟩ w2 := by
 refine bodyPost_ret (v := .tuple #[.agg #[a, b], E]) ?_ rfl hQ
 rw [results_cell_tmp hr, hp, hu]
 simp only [asAddr, Sem.run_pure, Result.andThen]
 rw [run_loadVar_row w2 n _ 45 #[a, b] (0, 0) _ hx Tryz.underlying45 rfl (by kernel_rfl)]
theorem two_setsM {w wr : World} {n : Nat} {cs : List Value} {u v : Value} (h : Hp wr n 45 cs) (hl : cs.length = 2) (hb : Below w.heap.size w wr) (hn : w.heap.size <= n) : Hp ((wr.setCell ⟨n, 0, none⟩ u).setCell ⟨n, 1, none⟩ v) n 45 [u, v] /\ Below w.heap.size w ((wr.setCell ⟨n, 0, none⟩ u).setCell ⟨n, 1, none⟩ v) := by
 match cs, hl with
 | [c, d], _ => exact ⟨(h.set 0 u).set 1 v, (hb.trans (grown_to_below (grown_set wr n 0 u) hn hb.size)).trans (grown_to_below (grown_set _ n 1 v) hn (by simpa using hb.size))⟩
section
variable {w w' : World} {b bt br bc : Nat} {G H : Ft} {r : Rg}
theorem decOwn {v : Value} {bs : List Int} (hs : Sees .u8 w v bs) (hby : ∀ x ∈ bs, 0 <= x /\ x <= 255) {ms : List Int} {xs : List In} {q e : Int} (hd : Hid (decL bs = ((ms, xs), q, e))) : Calls Tryz.prog 23 #[v] w fun e' w' => ∃ a c a' c', e' = .returned (.tuple #[modV (.slice a ms.length c) (.slice a' xs.length c'), .int .i64 q, .int .i64 e]) /\ MdIn w' ⟨.slice a ms.length c, .slice a' xs.length c', ms, xs⟩ /\ (∀ k, (Value.slice a ms.length c).ownBlock = some k -> w.heap.size <= k) /\ (∀ k, (Value.slice a' xs.length c').ownBlock = some k -> w.heap.size <= k) /\ Below w.heap.size w w' := by
 refine (decode_any v bs w hs).mono ?_
 rintro e' w' ⟨vm, vc, rfl, h1, h2, _, h4⟩
 have hm := dec_maps hby
 have hcd := dec_code hby
 rw [hd.out] at h1 h2 hm hcd ⊢
 obtain ⟨a, c, e1⟩ := own_shape h1
 obtain ⟨a', c', e2⟩ := own_shape h2
 simp only at e1 e2 h1 h2 hcd
 subst e1 e2
 exact ⟨a, c, a', c', rfl, ⟨own_lowG h1 (Nat.zero_le _), own_lowG h2 (Nat.zero_le _), fun x hx => WalkArith.wf_i64 (by have := hm x hx; omega), hcd⟩, fun k hk => (h1.lt k hk).1, fun k hk => (h2.lt k hk).1, h4⟩

set_option maxHeartbeats 3200000 in
theorem ladm_dec (h : Lr w b bt br bc G r) (hk : r.Ok) {v : Value} {bs : List Int} (hs : Sees .u8 w v bs) (hby : ∀ x ∈ bs, 0 <= x /\ x <= 255) {ms : List Int} {xs : List In} {q e : Int} (hd : Hid (decL bs = ((ms, xs), q, e))) (he : (e == 0) = false) : Calls Tryz.prog 70 #[.pointer (some ⟨b, 0, none⟩), v] w fun e' w' => e' = .returned (.tuple #[.agg #[.slice none 0 0, .slice none 0 0], .int .i64 e]) /\ Below w.heap.size w w' := by
 obtain ⟨X, HX, HpX, HBX⟩ : ∃ X, Hid (w.alloc (.cells #[.slice none 0 0, .slice none 0 0] 45) = X) /\ Hid (Hp X w.heap.size 45 [.slice none 0 0, .slice none 0 0]) /\ Hid (Below w.heap.size w X) := ⟨_, rfl, Hp.new w _ _, below_allocG _ _⟩
 have HS := keepG (hs.below HBX.out (Nat.le_refl _))
 have HBY := keepG hby
 have HLB := keepG (fun (wr : World) (hb : Below w.heap.size w wr) => h.below hb)
 have heN : (e != 0) = true := by simpa using he
 clear h hs hby
 go_enter Tryz.func70, Tryz.ntmps70
 go_wp2_with (first
  | (rw [HX.out])
  | (go_at_call 23; go_must (refine (decOwn HS.out HBY.out hd).mono ?_); rintro e1 w1 ⟨ma, mc, xa, xc, rfl, g1, g2, g3, g4⟩; dsimp only [modV]; go_must (have HM1 := keepG g1; have HB1 := keepG (HBX.out.trans (g4.mono HBX.out.size)); have HG2 : Hid (∀ k, (Value.slice ma ms.length mc).ownBlock = some k -> w.heap.size <= k) := fun k e => Nat.le_trans HBX.out.size (g2 k e); have HG3 : Hid (∀ k, (Value.slice xa xs.length xc).ownBlock = some k -> w.heap.size <= k) := fun k e => Nat.le_trans HBX.out.size (g3 k e); have HpX1 := keepG (HpX.out.below g4 HpX.out.lt); obtain ⟨W1, W2, HW1, HW2, ⟨n0, n1⟩, ⟨f0, f1⟩, HP2, HB2⟩ := boxM24 w1 (.slice ma ms.length mc) (.slice xa xs.length xc); have HBW := keepG (HB1.out.trans (HB2.out.mono HB1.out.size)); have HpX2 := keepG (HpX1.out.below HB2.out HpX1.out.lt); have z0 := HpX2.out.cell (j := 0) rfl; have z1 := HpX2.out.cell (j := 1) rfl; have y0 := HpX2.out.frozen 0; have y1 := HpX2.out.frozen 1; have p0 := HP2.out.cell (j := 0) rfl; have p1 := HP2.out.cell (j := 1) rfl; clear g1 g2 g3 g4))
  | (rw [HW1.out])
  | (rw [HW2.out]))
 obtain ⟨k1, k2⟩ := two_setsM (u := .slice none 0 0) (v := .slice none 0 0) HpX2.out rfl HBW.out (Nat.le_refl _)
 exact box_retM rfl rfl rfl k1 ⟨rfl, k2⟩
set_option maxHeartbeats 3200000 in
theorem ladm_jud (h : Lr w b bt br bc G r) (hk : r.Ok) {v : Value} {bs : List Int} (hs : Sees .u8 w v bs) (hby : ∀ x ∈ bs, 0 <= x /\ x <= 255) {ms : List Int} {xs : List In} {q : Int} (hd : Hid (decL bs = ((ms, xs), q, 0))) {jp je : Int} (hj : Hid (judgeR ms xs = (jp, je))) (he : (je == 0) = false) : Calls Tryz.prog 70 #[.pointer (some ⟨b, 0, none⟩), v] w fun e' w' => e' = .returned (.tuple #[.agg #[.slice none 0 0, .slice none 0 0], .int .i64 je]) /\ Below w.heap.size w w' := by
 obtain ⟨X, HX, HpX, HBX⟩ : ∃ X, Hid (w.alloc (.cells #[.slice none 0 0, .slice none 0 0] 45) = X) /\ Hid (Hp X w.heap.size 45 [.slice none 0 0, .slice none 0 0]) /\ Hid (Below w.heap.size w X) := ⟨_, rfl, Hp.new w _ _, below_allocG _ _⟩
 have HS := keepG (hs.below HBX.out (Nat.le_refl _))
 have HBY := keepG hby
 have HLB := keepG (fun (wr : World) (hb : Below w.heap.size w wr) => h.below hb)
 have heN : (je != 0) = true := by simpa using he
 clear h hs hby
 go_enter Tryz.func70, Tryz.ntmps70
 go_wp2_with (first
  | (rw [HX.out])
  | (go_at_call 23; go_must (refine (decOwn HS.out HBY.out hd).mono ?_); rintro e1 w1 ⟨ma, mc, xa, xc, rfl, g1, g2, g3, g4⟩; dsimp only [modV]; go_must (have HM1 := keepG g1; have HB1 := keepG (HBX.out.trans (g4.mono HBX.out.size)); have HG2 : Hid (∀ k, (Value.slice ma ms.length mc).ownBlock = some k -> w.heap.size <= k) := fun k e => Nat.le_trans HBX.out.size (g2 k e); have HG3 : Hid (∀ k, (Value.slice xa xs.length xc).ownBlock = some k -> w.heap.size <= k) := fun k e => Nat.le_trans HBX.out.size (g3 k e); have HpX1 := keepG (HpX.out.below g4 HpX.out.lt); obtain ⟨W1, W2, HW1, HW2, ⟨n0, n1⟩, ⟨f0, f1⟩, HP2, HB2⟩ := boxM24 w1 (.slice ma ms.length mc) (.slice xa xs.length xc); have HBW := keepG (HB1.out.trans (HB2.out.mono HB1.out.size)); have HpX2 := keepG (HpX1.out.below HB2.out HpX1.out.lt); have z0 := HpX2.out.cell (j := 0) rfl; have z1 := HpX2.out.cell (j := 1) rfl; have y0 := HpX2.out.frozen 0; have y1 := HpX2.out.frozen 1; have p0 := HP2.out.cell (j := 0) rfl; have p1 := HP2.out.cell (j := 1) rfl; clear g1 g2 g3 g4))
  | (rw [HW1.out])
  | (rw [HW2.out])
  | (go_at_call 24; go_must (refine (ljudge_as (Sees.own (HM1.out.chg (G := fun _ => False) (Chg.of_below HB2.out) (fun _ e => e.elim)).om HM1.out.wm) (own_seesI (HM1.out.chg (G := fun _ => False) (Chg.of_below HB2.out) (fun _ e => e.elim)).oc) hj).mono ?_); rintro e2 w3 ⟨rfl, g5⟩; go_must (have HB3 := keepG (HBW.out.trans (g5.mono HBW.out.size)); have HpX3 := keepG (HpX2.out.below g5 HpX2.out.lt); have HP3 := keepG (HP2.out.below g5 HP2.out.lt); have HM3 := keepG (HM1.out.chg (G := fun _ => False) (Chg.of_below (HB2.out.trans (g5.mono HB2.out.size))) (fun _ e => e.elim)); clear z0 z1 y0 y1 n0 n1 f0 f1 p0 p1; have z0 := HpX3.out.cell (j := 0) rfl; have z1 := HpX3.out.cell (j := 1) rfl; have y0 := HpX3.out.frozen 0; have y1 := HpX3.out.frozen 1; have p0 := HP3.out.cell (j := 0) rfl; have p1 := HP3.out.cell (j := 1) rfl; clear g5)))
 obtain ⟨k1, k2⟩ := two_setsM (u := .slice none 0 0) (v := .slice none 0 0) HpX3.out rfl HB3.out (Nat.le_refl _)
 exact box_retM rfl rfl rfl k1 ⟨rfl, k2⟩
set_option maxHeartbeats 6400000 in
theorem ladm_maps (h : Lr w b bt br bc G r) (hk : r.Ok) {v : Value} {bs : List Int} (hs : Sees .u8 w v bs) (hby : ∀ x ∈ bs, 0 <= x /\ x <= 255) {ms : List Int} {xs : List In} {q : Int} (hd : Hid (decL bs = ((ms, xs), q, 0))) {jp : Int} (hj : Hid (judgeR ms xs = (jp, 0))) {Q : Ending -> World -> Prop}
  (HENDB : Hid (ms.all (inM r.mp) = false -> ∀ w', Below w.heap.size w w' -> Q (.returned (.tuple #[.agg #[.slice none 0 0, .slice none 0 0], .int .i64 41])) w'))
  (HENDF : Hid (ms.all (inM r.mp) = true -> 16 <= r.there -> ∀ w', Below w.heap.size w w' -> Q (.returned (.tuple #[.agg #[.slice none 0 0, .slice none 0 0], .int .i64 40])) w'))
  (HENDO : Hid (ms.all (inM r.mp) = true -> ¬ 16 <= r.there -> ∀ x y w', Below w.heap.size w w' -> MdIn w' ⟨x, y, ms, xs⟩ -> (∀ k, x.ownBlock = some k -> w.heap.size <= k) -> (∀ k, y.ownBlock = some k -> w.heap.size <= k) -> Q (.returned (.tuple #[.agg #[x, y], .int .i64 0])) w')) :
  Calls Tryz.prog 70 #[.pointer (some ⟨b, 0, none⟩), v] w Q := by
 obtain ⟨X, HX, HpX, HBX⟩ : ∃ X, Hid (w.alloc (.cells #[.slice none 0 0, .slice none 0 0] 45) = X) /\ Hid (Hp X w.heap.size 45 [.slice none 0 0, .slice none 0 0]) /\ Hid (Below w.heap.size w X) := ⟨_, rfl, Hp.new w _ _, below_allocG _ _⟩
 have HS := keepG (hs.below HBX.out (Nat.le_refl _))
 have HBY := keepG hby
 have HLB := keepG (fun (wr : World) (hb : Below w.heap.size w wr) => h.below hb)
 clear h hs hby
 go_enter Tryz.func70, Tryz.ntmps70
 go_wp2_with (first
  | (rw [HX.out])
  | (go_at_call 23; go_must (refine (decOwn HS.out HBY.out hd).mono ?_); rintro e1 w1 ⟨ma, mc, xa, xc, rfl, g1, g2, g3, g4⟩; dsimp only [modV]; go_must (have HM1 := keepG g1; have HB1 := keepG (HBX.out.trans (g4.mono HBX.out.size)); have HG2 : Hid (∀ k, (Value.slice ma ms.length mc).ownBlock = some k -> w.heap.size <= k) := fun k e => Nat.le_trans HBX.out.size (g2 k e); have HG3 : Hid (∀ k, (Value.slice xa xs.length xc).ownBlock = some k -> w.heap.size <= k) := fun k e => Nat.le_trans HBX.out.size (g3 k e); have HpX1 := keepG (HpX.out.below g4 HpX.out.lt); obtain ⟨W1, W2, HW1, HW2, ⟨n0, n1⟩, ⟨f0, f1⟩, HP2, HB2⟩ := boxM24 w1 (.slice ma ms.length mc) (.slice xa xs.length xc); have HBW := keepG (HB1.out.trans (HB2.out.mono HB1.out.size)); have HpX2 := keepG (HpX1.out.below HB2.out HpX1.out.lt); have z0 := HpX2.out.cell (j := 0) rfl; have z1 := HpX2.out.cell (j := 1) rfl; have y0 := HpX2.out.frozen 0; have y1 := HpX2.out.frozen 1; have p0 := HP2.out.cell (j := 0) rfl; have p1 := HP2.out.cell (j := 1) rfl; clear g1 g2 g3 g4))
  | (rw [HW1.out])
  | (rw [HW2.out])
  | (go_at_call 24; go_must (refine (ljudge_as (Sees.own (HM1.out.chg (G := fun _ => False) (Chg.of_below HB2.out) (fun _ e => e.elim)).om HM1.out.wm) (own_seesI (HM1.out.chg (G := fun _ => False) (Chg.of_below HB2.out) (fun _ e => e.elim)).oc) hj).mono ?_); rintro e2 w3 ⟨rfl, g5⟩; go_must (have HB3 := keepG (HBW.out.trans (g5.mono HBW.out.size)); have HpX3 := keepG (HpX2.out.below g5 HpX2.out.lt); have HP3 := keepG (HP2.out.below g5 HP2.out.lt); have HM3 := keepG (HM1.out.chg (G := fun _ => False) (Chg.of_below (HB2.out.trans (g5.mono HB2.out.size))) (fun _ e => e.elim)); clear z0 z1 y0 y1 n0 n1 f0 f1 p0 p1; have z0 := HpX3.out.cell (j := 0) rfl; have z1 := HpX3.out.cell (j := 1) rfl; have y0 := HpX3.out.frozen 0; have y1 := HpX3.out.frozen 1; have p0 := HP3.out.cell (j := 0) rfl; have p1 := HP3.out.cell (j := 1) rfl; clear g5)))
 go_loopw [37] (fun i wr => ∃ j : Nat, j <= ms.length /\ i = .int .i64 j /\ Hid (Below w3.heap.size w3 wr) /\ Hid (∀ k, k < j -> inM r.mp (ms.getD k 0) = true)) (fun i _ => ms.length - (intOf i).toNat)
 case atStart => exact ⟨0, by omega, rfl, Below.refl _ _, (show ∀ k, k < 0 -> _ from fun k h => by omega)⟩
 case round =>
  rename_i wr
  obtain ⟨j, hj', rfl, HB, HA⟩ := hrel
  have HBr := keepG (HB3.out.trans (HB.out.mono HB3.out.size))
  have c1 := (HLB.out wr HBr.out).low.2.1
  have HpXr := keepG (HpX3.out.below HB.out HpX3.out.lt)
  have z0 := HpXr.out.cell (j := 0) rfl
  have z1 := HpXr.out.cell (j := 1) rfl
  have y0 := HpXr.out.frozen 0
  have y1 := HpXr.out.frozen 1
  have HPr := keepG (HP3.out.below HB.out HP3.out.lt)
  have p0 := HPr.out.cell (j := 0) rfl
  have p1 := HPr.out.cell (j := 1) rfl
  by_cases hlt : j < ms.length
  ·have hltI : (j : Int) < ms.length := by omega
   obtain ⟨g, ea, hml, d0⟩ : ∃ g, ma = some ⟨g, 0, none⟩ /\ ms.length <= 9223372036854775807 /\ wr.cell? ⟨g, j, none⟩ = some (.int .i64 (ms.getD j 0)) := by
    obtain ⟨g, cap, e, _, _, hc1, hc2, hat⟩ := own_open (HM3.out.chg (G := fun _ => False) (Chg.of_below HB.out) (fun _ e => e.elim)).om (by show 0 < ms.length; omega)
    simp only at e
    injection e with e1
    unfold maxLen at hc2
    exact ⟨g, e1, (by have hc1 : ms.length <= cap := hc1; omega), hat j _ (by simp [List.getD, hlt])⟩
   subst ea
   have HMD := keepG (getD_mem ms j hlt)
   obtain ⟨m, HMV⟩ : ∃ m, Hid (ms.getD j 0 = m) := ⟨_, rfl⟩
   rw [HMV.out] at d0 HMD
   cases hin : inM r.mp m with
   | false =>
    have HCN := keepG (Lr.count (HLB.out wr HBr.out) hk m (show Hid (_ = _) from if_neg (by rw [hin]; decide)))
    have HALL : Hid (ms.all (inM r.mp) = false) := Bool.eq_false_iff.2 (fun g => by have := List.all_eq_true.1 g m HMD.out; rw [hin] at this; cases this)
    clear hin
    go_wp2_with (go_at_call 18; go_must (refine HCN.out.mono ?_); rintro e4 w4 ⟨rfl, g6⟩; go_must (have HB4 := keepG (HBr.out.trans (g6.mono HBr.out.size)); have HpX4 := keepG (HpXr.out.below g6 HpXr.out.lt); clear z0 z1 y0 y1 p0 p1 c1; have z0 := HpX4.out.cell (j := 0) rfl; have z1 := HpX4.out.cell (j := 1) rfl; have y0 := HpX4.out.frozen 0; have y1 := HpX4.out.frozen 1; clear g6))
    obtain ⟨k1, k2⟩ := two_setsM (u := .slice none 0 0) (v := .slice none 0 0) HpX4.out rfl HB4.out (Nat.le_refl _)
    exact box_retM rfl rfl rfl k1 (HENDB.out HALL.out _ k2)
   | true =>
    have HCN := keepG (Lr.count (HLB.out wr HBr.out) hk m (show Hid (_ = _) from if_pos hin))
    have HA2 : Hid (∀ k, k < j + 1 -> inM r.mp (ms.getD k 0) = true) := fun k hk' => by
     by_cases e : k = j
     ·rw [e, HMV.out]; exact hin
     ·exact HA.out k (by omega)
    clear hin
    go_wp2_with (go_at_call 18; go_must (refine HCN.out.mono ?_); rintro e4 w4 ⟨rfl, g6⟩; go_must (have HB4 := keepG (HB.out.trans (g6.mono HB.out.size)); clear g6))
    go_roundw
    case rel => exact ⟨j + 1, by omega, by go_num, HB4.out, HA2.out⟩
    case measure => simp [intOf]; omega
  ·have hltI : ¬ (j : Int) < ms.length := by omega
   have HALL : Hid (ms.all (inM r.mp) = true) := List.all_eq_true.2 (fun m hm => by
    obtain ⟨k, hk1, e⟩ := List.getElem_of_mem hm
    have := HA.out k (by omega)
    have e2 : ms.getD k 0 = ms[k] := by simp [List.getD, hk1]
    rw [e2, e] at this
    exact this)
   obtain ⟨F, gc, P, ul, L, ut, T, M, h1, hG, h2, h3⟩ := (HLB.out wr HBr.out).ex
   have hth := h2.there hk
   obtain ⟨ua, uc, eu⟩ := own_shape h1.liv
   obtain ⟨va, vc, ev⟩ := own_shape h1.ret
   have c5 := h1.cell (i := 5) rfl
   have c6 := h1.cell (i := 6) rfl
   simp only at eu ev c5 c6
   subst eu ev
   have hsum : L.length + T.length <= 16 := (h2.lens hk).1
   have HTH := keepG hth
   clear h1 hG h2 h3 hth
   have HD2 : Hid (∀ k, (wr.drewN k).cell? ⟨b, 5, none⟩ = some (.slice ua L.length uc)) := fun k => c5
   go_wp2
   refine wp_region_held_drew (S := fun w' => w'.cell? ⟨b, 5, none⟩ = some (.slice ua L.length uc) /\ w'.cell? ⟨b, 6, none⟩ = some (.slice va T.length vc)) (by kernel_rfl) ⟨c5, c6⟩ (fun hHeld => ?_)
   refine tkGo [0, 1, 2, 3, 4, 5, 6, 7, 8, 9, 10, 11] ?_
   repeat (refine tkO (v := ?_) rfl ?_ ?_; rotate_left; (intro wy hSw; (try dsimp only at hSw); go_simp; (first | done | with_reducible rfl)); try simp only [Act.put, p1q, p2q, p3q, p4q, p5q, p6q])
   refine tkEnd ?_
   refine wpAnyH_done (by kernel_rfl) ?_ _
   clear hHeld c5 c6
   have hwr : IntKind.i64.wrap ((L.length : Int) + T.length) = (L.length : Int) + T.length := by rw [IntKind.wrap_i64]; omega
   by_cases hf : 16 <= L.length + T.length
   ·have hfI : (L.length : Int) + T.length ≥ 16 := by omega
    go_wp2
    obtain ⟨k1, k2⟩ := two_setsM (wr := wr.drew) (u := .slice none 0 0) (v := .slice none 0 0) HpXr.out rfl (below_drG HBr.out) (Nat.le_refl _)
    exact box_retM rfl rfl rfl k1 (HENDF.out HALL.out (by rw [HTH.out]; exact hf) _ k2)
   ·have hfI : ¬ (L.length : Int) + T.length ≥ 16 := by omega
    have HMr := keepG (HM3.out.chg (G := fun _ => False) (Chg.of_below HB.out) (fun _ e => e.elim))
    go_wp2
    obtain ⟨k1, k2⟩ := two_setsM (wr := wr.drew) (u := .slice ma ms.length mc) (v := .slice xa xs.length xc) HpXr.out rfl (below_drG HBr.out) (Nat.le_refl _)
    have k3 : MdIn ((wr.drew.setCell ⟨w.heap.size, 0, none⟩ (.slice ma ms.length mc)).setCell ⟨w.heap.size, 1, none⟩ (.slice xa xs.length xc)) ⟨.slice ma ms.length mc, .slice xa xs.length xc, ms, xs⟩ := by
     have hne : ∀ k, k = w.heap.size -> ¬ ((Value.slice ma ms.length mc).ownBlock = some k ∨ (Value.slice xa xs.length xc).ownBlock = some k) := fun k e g => by
      subst e
      rcases g with g | g
      ·exact own_type10 HMr.out.om HpXr.out (by decide) g
      ·exact own_type10 HMr.out.oc HpXr.out (by decide) g
     exact ((HMr.out.chg (G := fun _ => False) ((Chg.refl wr _).drewN 1) (fun _ e => e.elim)).chg (Chg.set wr.drew w.heap.size 0 _) hne).chg (Chg.set _ w.heap.size 1 _) hne
    exact box_retM rfl rfl rfl k1 (HENDO.out HALL.out (by rw [HTH.out]; omega) _ _ _ k2 k3 HG2.out HG3.out)
end
section
variable {w w' : World} {b bt br bc : Nat} {G H : Ft} {r : Rg} {F : Nat -> Ft} {c : Cp}
theorem Mr.ldrop (h : Mr w b F c) (hk : Rs_g.Ok c.mp c.P) (hm : c.mp <= 4) (hl : c.P.length <= 10000) {u : Value} {ps : List Int} (hz : Hid (ps.length * 8 <= 140737488355328)) (hs : Sees .i64 w u ps) (hap : ps ≠ [] -> Apt (unF 7 F) (ftV u)) {E : Int} {P' : Rs_g} (HQ : Hid (Rs_g.drop c.P ps = (E, P'))) : Calls Tryz.prog 52 #[.pointer (some ⟨c.br, 0, none⟩), u] w fun e w' => e = .returned (.int .i64 E) /\ ∃ F', Mr w' b F' { c with P := P' } /\ Nx w w' (unF 7 F) (unF 7 F') := by
 obtain ⟨B, hB, ht⟩ := h.ref
 refine (ht.drop hk hm hl hB hz hs (fun hne k e g => hap hne k ⟨2, by omega, e⟩ g) HQ).mono ?_
 rintro e w' ⟨rfl, F', g1, g2⟩
 obtain ⟨a1, a2⟩ := Mr.refS h g2 hB g1
 exact ⟨rfl, _, a1, a2⟩
theorem Mr.lhold (h : Mr w b F c) (hk : Rs_g.Ok c.mp c.P) (hm : c.mp <= 4) (hl : c.P.length <= 10000) (p : Int) (hp : Hid ((Lit.int .i64 p).wf = true)) {u : Value} {ws : List Int} (hz : Hid (ws.length * 8 <= 140737488355328)) (hs : Sees .i64 w u ws) (hap : ws ≠ [] -> Apt (F 2) (ftV u)) {E : Int} {P' : Rs_g} (HQ : Hid (Rs_g.hold c.mp c.P p ws = (E, P'))) : Calls Tryz.prog 71 #[.pointer (some ⟨c.br, 0, none⟩), .int .i64 p, u] w fun e w' => e = .returned (.int .i64 E) /\ ∃ F', Mr w' b F' { c with P := P' } /\ Nx w w' (unF 7 F) (unF 7 F') := by
 obtain ⟨B, hB, ht⟩ := h.ref
 refine (ht.hold hk hm hl hB p hp hz hs hap HQ).mono ?_
 rintro e w' ⟨rfl, F', g1, g2⟩
 obtain ⟨a1, a2⟩ := Mr.refS h g2 hB g1
 exact ⟨rfl, _, a1, a2⟩
theorem all_inM {mp : Nat} {ms : List Int} (h : ∀ m ∈ ms, 0 <= m /\ m <= 3) : ms.all (inM mp) = ms.all (fun m => decide (m < mp)) := by
 rw [Bool.eq_iff_iff, List.all_eq_true, List.all_eq_true]
 constructor
 ·intro g m hm
  have := g m hm
  unfold inM at this
  simp only [Bool.and_eq_true] at this
  exact this.2
 ·intro g m hm
  have := g m hm
  unfold inM
  simp only [Bool.and_eq_true, decide_eq_true_eq]
  exact ⟨(h m hm).1, by simpa using this⟩
theorem ladmit (h : Lr w b bt br bc G r) (hk : r.Ok) {v : Value} {bs : List Int} (hs : Sees .u8 w v bs) (hby : ∀ x ∈ bs, 0 <= x /\ x <= 255) {n E : Int} {r' : Rg} (HQ : r.loadB bs = (n, E, r')) :
  (E ≠ 0 -> n = 0 /\ r' = r /\ Calls Tryz.prog 70 #[.pointer (some ⟨b, 0, none⟩), v] w fun e' w' => e' = .returned (.tuple #[.agg #[.slice none 0 0, .slice none 0 0], .int .i64 E]) /\ Below w.heap.size w w') /\
  (E = 0 -> ∃ ms xs, n = (r.ps.length : Int) + 1 /\ r' = ⟨r.mp, r.tb, r.ck, r.ps ++ [⟨ms, xs, 0, 0⟩], r.ln⟩ /\ okM_g r.mp ms = true /\ ms.length <= 4 /\ ¬ 16 <= r.there /\ Calls Tryz.prog 70 #[.pointer (some ⟨b, 0, none⟩), v] w fun e' w' => ∃ a c a' c', e' = .returned (.tuple #[.agg #[.slice a ms.length c, .slice a' xs.length c'], .int .i64 0]) /\ Below w.heap.size w w' /\ MdIn w' ⟨.slice a ms.length c, .slice a' xs.length c', ms, xs⟩ /\ (∀ k, (Value.slice a ms.length c).ownBlock = some k -> w.heap.size <= k) /\ (∀ k, (Value.slice a' xs.length c').ownBlock = some k -> w.heap.size <= k)) := by
 obtain ⟨⟨⟨ms, xs⟩, q, e⟩, hd⟩ : ∃ d, decL bs = d := ⟨_, rfl⟩
 have hin := dec_maps hby
 rw [hd] at hin
 unfold Rg.loadB errB at HQ
 rw [hd] at HQ
 simp only at HQ hin
 by_cases he : e = 0
 ·subst he
  rw [if_neg (by simp)] at HQ
  obtain ⟨⟨jp, je⟩, hj⟩ : ∃ j, judgeR ms xs = j := ⟨_, rfl⟩
  rw [hj] at HQ
  unfold Rg.load at HQ
  simp only at HQ
  by_cases hje : je = 0
  ·subst hje
   rw [if_neg (by simp), <- all_inM (mp := r.mp) hin] at HQ
   have hjm := judge_maps (ms := ms) (xs := xs) (by rw [hj])
   cases hall : ms.all (inM r.mp) with
   | false =>
    rw [if_pos hall] at HQ
    injection HQ with e1 HQ
    injection HQ with e2 e3
    subst e1 e2 e3
    refine ⟨fun _ => ⟨rfl, rfl, ladm_maps h hk hs hby hd hj ?_ ?_ ?_⟩, fun g => by cases g⟩
    ·exact fun _ w' hb => ⟨rfl, hb⟩
    ·exact fun g => by rw [hall] at g; cases g
    ·exact fun g => by rw [hall] at g; cases g
   | true =>
    rw [if_neg (by rw [hall]; decide)] at HQ
    by_cases hf : 16 <= r.there
    ·rw [if_pos hf] at HQ
     injection HQ with e1 HQ
     injection HQ with e2 e3
     subst e1 e2 e3
     refine ⟨fun _ => ⟨rfl, rfl, ladm_maps h hk hs hby hd hj ?_ ?_ ?_⟩, fun g => by cases g⟩
     ·exact fun g => by rw [hall] at g; cases g
     ·exact fun _ _ w' hb => ⟨rfl, hb⟩
     ·exact fun _ g => absurd hf g
    ·rw [if_neg hf] at HQ
     injection HQ with e1 HQ
     injection HQ with e2 e3
     subst e1 e2 e3
     have hok : okM_g r.mp ms = true := by
      unfold okM_g
      rw [hall, Bool.and_true]
      exact decide_eq_true hjm.1
     have hl4 : ms.length <= 4 := nodup_le 4 ms hjm.1 (fun x hx => by have := hin x hx; omega)
     refine ⟨fun g => absurd rfl g, fun _ => ⟨ms, xs, rfl, rfl, hok, hl4, hf, ladm_maps h hk hs hby hd hj ?_ ?_ ?_⟩⟩
     ·exact fun g => by rw [hall] at g; cases g
     ·exact fun _ g => absurd g hf
     ·intro _ _ x y w' hb hm g1 g2
      obtain ⟨a, c, e1⟩ := own_shape hm.om
      obtain ⟨a', c', e2⟩ := own_shape hm.oc
      simp only at e1 e2
      subst e1 e2
      exact ⟨a, c, a', c', rfl, hb, hm, g1, g2⟩
  ·rw [if_pos hje] at HQ
   injection HQ with e1 HQ
   injection HQ with e2 e3
   subst e1 e2 e3
   exact ⟨fun _ => ⟨rfl, rfl, ladm_jud h hk hs hby hd hj (by simpa using hje)⟩, fun g => absurd g hje⟩
 ·rw [if_pos he] at HQ
  unfold Rg.load at HQ
  rw [if_pos he] at HQ
  injection HQ with e1 HQ
  injection HQ with e2 e3
  subst e1 e2 e3
  exact ⟨fun _ => ⟨rfl, rfl, ladm_dec h hk hs hby hd (by simpa using he)⟩, fun g => absurd g he⟩
theorem lload_no (h : Lr w b bt br bc G r) {v : Value} {E : Int} (hE : E ≠ 0) (HA : Hid (Calls Tryz.prog 70 #[.pointer (some ⟨b, 0, none⟩), v] w fun e' w' => e' = .returned (.tuple #[.agg #[.slice none 0 0, .slice none 0 0], .int .i64 E]) /\ Below w.heap.size w w')) :
  Calls Tryz.prog 25 #[.pointer (some ⟨b, 0, none⟩), v] w fun e w' => e = .returned (.tuple #[.int .i64 0, .int .i64 E]) /\ Below w.heap.size w w' := by
 have heN : (E != 0) = true := by simpa using hE
 clear h hE
 go_enter Tryz.func25, Tryz.ntmps25
 go_wp2_with (first
  | (go_at_call 70; go_must (refine HA.out.mono ?_); rintro e1 w1 ⟨rfl, g1⟩; go_must (obtain ⟨W1, W2, HW1, HW2, ⟨n0, n1⟩, ⟨f0, f1⟩, HP2, HB2⟩ := boxM24 w1 (.slice none 0 0) (.slice none 0 0); have HBW := keepG (g1.trans (HB2.out.mono g1.size)); clear g1))
  | (rw [HW1.out])
  | (rw [HW2.out]))
 go_ret2
 exact ⟨rfl, HBW.out⟩
set_option maxHeartbeats 6400000 in
theorem lload_ok (h : Lr w b bt br bc G r) (hk : r.Ok) (hps : r.ps.length <= 1000000000000000) (hth : ¬ 16 <= r.there) {v : Value} {ms : List Int} {xs : List In} (hok : okM_g r.mp ms = true) (hl4 : ms.length <= 4)
  (HA : Hid (Calls Tryz.prog 70 #[.pointer (some ⟨b, 0, none⟩), v] w fun e' w' => ∃ a c a' c', e' = .returned (.tuple #[.agg #[.slice a ms.length c, .slice a' xs.length c'], .int .i64 0]) /\ Below w.heap.size w w' /\ MdIn w' ⟨.slice a ms.length c, .slice a' xs.length c', ms, xs⟩ /\ (∀ k, (Value.slice a ms.length c).ownBlock = some k -> w.heap.size <= k) /\ (∀ k, (Value.slice a' xs.length c').ownBlock = some k -> w.heap.size <= k))) :
  Calls Tryz.prog 25 #[.pointer (some ⟨b, 0, none⟩), v] w fun e w' => e = .returned (.tuple #[.int .i64 ((r.ps.length : Int) + 1), .int .i64 0]) /\ ∃ G', Lr w' b bt br bc G' ⟨r.mp, r.tb, r.ck, r.ps ++ [⟨ms, xs, 0, 0⟩], r.ln⟩ /\ Nx w w' G G' := by
 obtain ⟨ip, hip, hipz, hips, hipb⟩ := info_parts infoPw
 obtain ⟨F, gc, P, ul, L, ut, T, M, h1, rfl, h2, h3⟩ := h.ex
 have hlt := (h2.lens hk).1
 have hPl : P.length <= 16 := (h2.lens hk).2
 have hmp := hk.mp
 have hpok := h2.pok
 obtain ⟨ua, uc, eu⟩ := own_shape h1.liv
 simp only at eu
 subst eu
 have HM0 := keepG h1
 have HLi := keepG h1.lies
 have HRL := keepG (fun md (e : md.ms = ms) => h2.load hk md (by rw [e]; exact hok))
 have HDR := keepG (h2.drop_new hk)
 have HHO := keepG (h2.hold_new hk hok)
 have HH3 := keepG h3
 have HPOK := keepG hpok
 have hlL : L.length <= 16 := by omega
 have hw1 : IntKind.i64.wrap ((r.ps.length : Int) + 1) = (r.ps.length : Int) + 1 := by rw [IntKind.wrap_i64]; omega
 have HWF := keepG (wf_smallR (x := (r.ps.length : Int) + 1) (by omega) (by omega))
 obtain ⟨nn, HNN⟩ : ∃ nn : Int, Hid ((r.ps.length : Int) = nn) := ⟨_, rfl⟩
 clear h h1 h2 h3 hlt hth hpok
 go_enter Tryz.func25, Tryz.ntmps25
 go_wp2_with (first
  | (go_at_call 70; go_must (refine HA.out.mono ?_); rintro e1 w1 ⟨a, ac, a2, a2c, rfl, g1, g2, g3, g4⟩; go_must (obtain ⟨m1, x1⟩ := Mr.modS HM0.out g1 g2 g3 g4; obtain ⟨W1, W2, HW1, HW2, ⟨n0, n1⟩, ⟨f0, f1⟩, HP2, HB2⟩ := boxM24 w1 (.slice a ms.length ac) (.slice a2 xs.length a2c); have HM2 := keepG (Mr.below m1 HB2.out); have HL1 := keepG m1.lies; have HNW := keepG (x1.trans (Nx.below HB2.out)); have c4 := HM2.out.cell (i := 4) rfl; have f4 := HM2.out.cel.frozen 4; (try simp only at c4); obtain ⟨m3, x3⟩ := Mr.set HM2.out 4 (.int .i64 ((r.ps.length : Int) + 1)); obtain ⟨W3, HW3, HM3, HN3⟩ : ∃ W3, Hid (W2.setCell ⟨b, 4, none⟩ (.int .i64 ((r.ps.length : Int) + 1)) = W3) /\ Hid (Mr W3 b _ _) /\ Hid (Nx W2 W3 _ _) := ⟨_, rfl, m3, x3⟩; clear g1 g2 g3 g4 m1 x1 m3 x3))
  | (rw [HW1.out])
  | (rw [HW2.out])
  | (rw [HW3.out]))
 have HKQ : Hid (∀ wx Fx, Nx W2 wx (unF 7 (upd F 6 (ftM (⟨.slice a ms.length ac, .slice a2 xs.length a2c, ms, xs⟩ :: M)))) Fx -> wx.cell? ⟨w1.heap.size, 0, none⟩ = some (.slice a ms.length ac) /\ wx.cell? ⟨w1.heap.size, 1, none⟩ = some (.slice a2 xs.length a2c)) := fun wx Fx hn => by
  have g := HP2.out.chg hn.chg (fun e => by have := HL1.out _ e; omega)
  exact ⟨g.cell rfl, g.cell rfl⟩
 have HREL := keepG (HRL.out ⟨.slice a ms.length ac, .slice a2 xs.length a2c, ms, xs⟩ rfl)
 obtain ⟨X5, HX5, HBX5, HSX5⟩ := lit_oneR W3 ((r.ps.length : Int) + 1) HWF.out
 have HDROP := keepG (fun (wx : World) (hb : Below X5.heap.size X5 wx) => Mr.ldrop (Mr.below (Mr.below HM3.out HBX5.out) hb) HPOK.out hmp (show P.length <= 10000 by omega) (show Hid (1 * 8 <= _) by show _ <= _; omega) (HSX5.out.below hb (Nat.le_refl _)) (fun _ k e g => by have h5 := (Mr.lies HM3.out) k e; have h6 : W3.heap.size = k := Option.some.inj g; omega) HDR)
 have c1 := HM3.out.cell (i := 1) rfl
 have c4 := HM3.out.cell (i := 4) rfl
 have hx5 := Mr.below HM3.out HBX5.out
 have x1 := hx5.cell (i := 1) rfl
 have x4 := hx5.cell (i := 4) rfl
 try simp only at c1 c4 x1 x4
 try simp only at HDROP
 clear hx5
 refine wp_region_held_drew (S := fun w' => w'.cell? ⟨b, 1, none⟩ = some (.pointer (some ⟨br, 0, none⟩)) /\ w'.cell? ⟨b, 4, none⟩ = some (.int .i64 ((r.ps.length : Int) + 1))) (by kernel_rfl) ⟨c1, c4⟩ (fun hHeld => ?_)
 refine tkGo [0, 1, 2, 3, 4, 5, 6, 7] ?_
 repeat (refine tkO (v := ?_) rfl ?_ ?_; rotate_left; (intro wy hSw; (try dsimp only at hSw); go_simp; (first | done | with_reducible rfl)); try simp only [Act.put, p1q, p2q, p3q, p4q, p5q, p6q])
 refine tkEnd ?_
 refine runO 8 (by kernel_rfl) rfl (by rfl) (fun KK hK => ?_)
 go_simp
 rw [HX5.out]
 refine hK.out _ _ ⟨x1, x4⟩ (fun hHeld => ?_)
 clear hK KK
 try simp only [Act.put, p1q, p2q, p3q, p4q, p5q, p6q]
 refine runO 9 (by kernel_rfl) rfl (by rfl) (fun KK hK => ?_)
 go_simp
 go_at_call 52
 refine (HDROP.out _ (below_drG (Below.refl _ _))).mono ?_
 rintro e5 w5 ⟨rfl, F5, m5, x5⟩
 have HM5 := keepG m5
 have HN5 : Hid (Nx W2 w5 (unF 7 (upd F 6 (ftM (⟨.slice a ms.length ac, .slice a2 xs.length a2c, ms, xs⟩ :: M)))) (unF 7 F5)) := HN3.out.trans ((Nx.below HBX5.out).trans ((Nx.below (below_drG (Below.refl _ _))).trans x5))
 have d1 := m5.cell (i := 1) rfl
 have d4 := m5.cell (i := 4) rfl
 try simp only at d1 d4
 clear m5 x5 x1 x4 c1 c4
 go_simp
 refine hK.out _ _ ⟨d1, d4⟩ (fun hHeld => ?_)
 clear hK KK
 try simp only [Act.put, p1q, p2q, p3q, p4q, p5q, p6q]
 refine wpAnyH_done (by kernel_rfl) ?_ _
 clear hHeld
 have HHOLD := keepG (fun (wx : World) (hb : Below w5.heap.size w5 wx) => Mr.lhold (Mr.below HM5.out hb) HPOK.out hmp (show P.length <= 10000 by omega) ((r.ps.length : Int) + 1) HWF (ws := ms) (show Hid (_ <= _) by show _ <= _; omega) (Sees.own ((Mr.below HM5.out hb).mod _ List.mem_cons_self).om ((Mr.below HM5.out hb).mod _ List.mem_cons_self).wm) (fun hne k e g => (Mr.below HM5.out hb).ap 2 6 (by omega) (by omega) (by omega) k e (by rw [(Mr.below HM5.out hb).f6]; exact ⟨_, List.mem_cons_self, .inl g⟩)) HHO)
 obtain ⟨p0, p1⟩ := HKQ.out _ _ HN5.out
 go_wp2
 refine wp_region_held_drew (S := fun w' => w'.cell? ⟨b, 1, none⟩ = some (.pointer (some ⟨br, 0, none⟩)) /\ w'.cell? ⟨b, 4, none⟩ = some (.int .i64 ((r.ps.length : Int) + 1)) /\ w'.cell? ⟨w1.heap.size, 0, none⟩ = some (.slice a ms.length ac)) (by kernel_rfl) ⟨d1, d4, p0⟩ (fun hHeld => ?_)
 refine tkGo [0, 1, 2, 3, 4, 5, 6, 7, 8, 9] ?_
 repeat (refine tkO (v := ?_) rfl ?_ ?_; rotate_left; (intro wy hSw; (try dsimp only at hSw); go_simp; (first | done | with_reducible rfl)); try simp only [Act.put, p1q, p2q, p3q, p4q, p5q, p6q])
 refine tkEnd ?_
 refine runO 10 (by kernel_rfl) rfl (by rfl) (fun KK hK => ?_)
 go_simp
 go_at_call 71
 refine (HHOLD.out _ (below_drG (Below.refl _ _))).mono ?_
 rintro e7 w7 ⟨rfl, F7, m7, x7⟩
 have HM7 := keepG m7
 have HN7 : Hid (Nx W2 w7 (unF 7 (upd F 6 (ftM (⟨.slice a ms.length ac, .slice a2 xs.length a2c, ms, xs⟩ :: M)))) (unF 7 F7)) := HN5.out.trans ((Nx.below (below_drG (Below.refl _ _))).trans x7)
 clear p0 p1 d1 d4
 obtain ⟨p0, p1⟩ := HKQ.out _ _ HN7.out
 have d1 := m7.cell (i := 1) rfl
 have d4 := m7.cell (i := 4) rfl
 have c5 := m7.cell (i := 5) rfl
 try simp only at d1 d4 c5
 clear m7 x7
 go_simp
 refine hK.out _ _ ⟨d1, d4, p0⟩ (fun hHeld => ?_)
 clear hK KK
 try simp only [Act.put, p1q, p2q, p3q, p4q, p5q, p6q]
 refine wpAnyH_done (by kernel_rfl) ?_ _
 clear hHeld
 go_wp2
 obtain ⟨Z, HZ, HnZ, hbZ⟩ : ∃ Z, Hid (w7.alloc (.cells #[.int .i64 ((r.ps.length : Int) + 1), .slice a ms.length ac, .slice a2 xs.length a2c, .int .i64 0] 106) = Z) /\ Hid (∀ j u, (pwC ⟨(r.ps.length : Int) + 1, ⟨.slice a ms.length ac, .slice a2 xs.length a2c, ms, xs⟩, 0⟩)[j]? = some u -> Z.cell? ((⟨w7.heap.size, 0, none⟩ : Addr).add j) = some u) /\ Below w7.heap.size w7 Z := ⟨_, rfl, cells_new w7 (pwC ⟨(r.ps.length : Int) + 1, ⟨.slice a ms.length ac, .slice a2 xs.length a2c, ms, xs⟩, 0⟩) _ _ rfl, below_allocG _ _⟩
 obtain ⟨q0, q1⟩ := HKQ.out _ _ (HN7.out.trans (Nx.below hbZ))
 have q4 := (Mr.below HM7.out hbZ).cell (i := 4) rfl
 have q5 := (Mr.below HM7.out hbZ).cell (i := 5) rfl
 try simp only at q4 q5
 refine wp_region_held_drew (S := fun w' => w'.cell? ⟨b, 4, none⟩ = some (.int .i64 ((r.ps.length : Int) + 1)) /\ w'.cell? ⟨w1.heap.size, 0, none⟩ = some (.slice a ms.length ac) /\ w'.cell? ⟨w1.heap.size, 1, none⟩ = some (.slice a2 xs.length a2c)) (by kernel_rfl) ⟨d4, p0, p1⟩ (fun hHeld => ?_)
 refine tkGo [0, 1, 2, 3, 5, 6, 7, 8, 9, 10] ?_
 repeat (refine tkO (v := ?_) rfl ?_ ?_; rotate_left; (intro wy hSw; (try dsimp only at hSw); go_simp; (first | done | with_reducible rfl)); try simp only [Act.put, p1q, p2q, p3q, p4q, p5q, p6q])
 refine tkEnd ?_
 refine runT 4 11 (by kernel_rfl) rfl rfl (by rfl) (by rfl) (fun KK hK => ?_) (fun KK hK => ?_)
 ·go_simp
  refine hK.out _ _ ⟨d4, p0, p1⟩ (fun hHeld => ?_)
  clear hK KK
  try simp only [Act.put, p1q, p2q, p3q, p4q, p5q, p6q]
  refine runO 11 (by kernel_rfl) rfl (by rfl) (fun KK hK => ?_)
  go_simp
  rw [HZ.out]
  refine hK.out _ _ ⟨q4, q0, q1⟩ (fun hHeld => ?_)
  clear hK KK
  try simp only [Act.put, p1q, p2q, p3q, p4q, p5q, p6q]
  refine runO 12 (by kernel_rfl) rfl (by rfl) (fun KK hK => ?_)
  refine wp_append_at19 _ (.tmp 49) (.tmp 56) 52 rfl 0 106 ip _ 4 64 Tryz.underlying52 hip hipz hips hipb rfl (by decide) (.slice ua L.length uc) L.length (flatG pwC L) rfl (own_below HM7.out.liv (below_drG hbZ) (Nat.le_refl _)) ⟨w7.heap.size, 0, none⟩ 1 1 (pwC ⟨(r.ps.length : Int) + 1, ⟨.slice a ms.length ac, .slice a2 xs.length a2c, ms, xs⟩, 0⟩) rfl rfl HnZ.out (pw_one _ ⟨⟨_, _, _, rfl⟩, ⟨_, _, _, rfl⟩⟩) (by unfold maxLen; omega) (by omega) (Nat.zero_le _) ?_
  intro v8 w8 hown hgr hat
  have hch : Chg w7 w8 (fun k => (Value.slice ua L.length uc).ownBlock = some k) := ((Chg.of_below (S := fun k => (Value.slice ua L.length uc).ownBlock = some k) hbZ).drewN 1).trans (Chg.of_grown' hgr (fun k e => e)) (fun _ _ e => e)
  have how := own_moreG (x := (⟨(r.ps.length : Int) + 1, ⟨.slice a ms.length ac, .slice a2 xs.length a2c, ms, xs⟩, 0⟩ : Pw)) hown
  obtain ⟨za, zc, rfl⟩ := own_shape hown
  obtain ⟨m8, x8⟩ := Mr.livS HM7.out hch (hat.imp id (fun e => ⟨_, e, hbZ.size⟩)) how
  obtain ⟨m9, x9⟩ := Mr.set m8 5 (.slice za (L.length + 1) zc)
  have c5 := m8.cell (i := 5) rfl
  have f5 := m8.cel.frozen 5
  try simp only at c5
  have HM9 := keepG m9
  have HN9 := keepG (HN7.out.trans (x8.trans x9))
  have HQ8 := HKQ.out _ _ (HN7.out.trans x8)
  have HQ9 := HKQ.out _ _ HN9.out
  have c49 := m9.cell (i := 4) rfl
  try simp only at c49
  have c48 := m8.cell (i := 4) rfl
  try simp only at c48
  refine hK.out _ _ ⟨c48, HQ8.1, HQ8.2⟩ (fun hHeld => ?_)
  clear hK KK hown hgr hat hch how m8 x8 m9 x9
  try simp only [Act.put, p1q, p2q, p3q, p4q, p5q, p6q]
  refine tkGo [13, 14] ?_
  repeat (refine tkO (v := ?_) rfl ?_ ?_; rotate_left; (intro wy hSw; (try dsimp only at hSw); go_simp; (first | done | with_reducible rfl)); try simp only [Act.put, p1q, p2q, p3q, p4q, p5q, p6q])
  refine tkEnd ?_
  refine runO 15 (by kernel_rfl) rfl (by rfl) (fun KK hK => ?_)
  go_simp
  refine hK.out _ _ ⟨c49, HQ9.1, HQ9.2⟩ (fun hHeld => ?_)
  clear hK KK
  try simp only [Act.put, p1q, p2q, p3q, p4q, p5q, p6q]
  refine wpAnyH_done (by kernel_rfl) ?_ _
  clear hHeld HQ8 HQ9
  go_wp2
  go_ret2
  refine ⟨rfl, _, ⟨_, gc, insH ⟨(r.ps.length : Int) + 1, ms⟩ P, .slice za (L.length + 1) zc, L ++ [⟨(r.ps.length : Int) + 1, ⟨.slice a ms.length ac, .slice a2 xs.length a2c, ms, xs⟩, 0⟩], ut, T, ⟨.slice a ms.length ac, .slice a2 xs.length a2c, ms, xs⟩ :: M, ?_, rfl, HREL.out, fun q hq => ?_⟩, HNW.out.trans HN9.out⟩
  ·show Mr _ b _ ⟨[_, _, _, _, .int .i64 ((r.ps ++ [(⟨ms, xs, 0, 0⟩ : Pg)]).length : Nat), _, _], _, _, _, _, _, _, _, _, _, _, _, _, _⟩
   rw [List.length_append]
   exact HM9.out
  ·rcases List.mem_append.1 hq with g | g
   ·rcases List.mem_append.1 g with g | g
    ·exact List.mem_cons_of_mem _ (HH3.out q (List.mem_append_left _ g))
    ·have e : q = ⟨(r.ps.length : Int) + 1, ⟨.slice a ms.length ac, .slice a2 xs.length a2c, ms, xs⟩, 0⟩ := by simpa using g
     rw [e]
     exact List.mem_cons_self
   ·exact List.mem_cons_of_mem _ (HH3.out q (List.mem_append_right _ g))
 ·go_simp
  rw [HZ.out]
  refine hK.out _ _ ⟨q4, q0, q1⟩ (fun hHeld => ?_)
  clear hK KK
  try simp only [Act.put, p1q, p2q, p3q, p4q, p5q, p6q]
  refine runO 4 (by kernel_rfl) rfl (by rfl) (fun KK hK => ?_)
  go_simp
  refine hK.out _ _ ⟨q4, q0, q1⟩ (fun hHeld => ?_)
  clear hK KK
  try simp only [Act.put, p1q, p2q, p3q, p4q, p5q, p6q]
  refine runO 12 (by kernel_rfl) rfl (by rfl) (fun KK hK => ?_)
  refine wp_append_at19 _ (.tmp 49) (.tmp 56) 52 rfl 0 106 ip _ 4 64 Tryz.underlying52 hip hipz hips hipb rfl (by decide) (.slice ua L.length uc) L.length (flatG pwC L) rfl (own_below HM7.out.liv (below_drG hbZ) (Nat.le_refl _)) ⟨w7.heap.size, 0, none⟩ 1 1 (pwC ⟨(r.ps.length : Int) + 1, ⟨.slice a ms.length ac, .slice a2 xs.length a2c, ms, xs⟩, 0⟩) rfl rfl HnZ.out (pw_one _ ⟨⟨_, _, _, rfl⟩, ⟨_, _, _, rfl⟩⟩) (by unfold maxLen; omega) (by omega) (Nat.zero_le _) ?_
  intro v8 w8 hown hgr hat
  have hch : Chg w7 w8 (fun k => (Value.slice ua L.length uc).ownBlock = some k) := ((Chg.of_below (S := fun k => (Value.slice ua L.length uc).ownBlock = some k) hbZ).drewN 1).trans (Chg.of_grown' hgr (fun k e => e)) (fun _ _ e => e)
  have how := own_moreG (x := (⟨(r.ps.length : Int) + 1, ⟨.slice a ms.length ac, .slice a2 xs.length a2c, ms, xs⟩, 0⟩ : Pw)) hown
  obtain ⟨za, zc, rfl⟩ := own_shape hown
  obtain ⟨m8, x8⟩ := Mr.livS HM7.out hch (hat.imp id (fun e => ⟨_, e, hbZ.size⟩)) how
  obtain ⟨m9, x9⟩ := Mr.set m8 5 (.slice za (L.length + 1) zc)
  have c5 := m8.cell (i := 5) rfl
  have f5 := m8.cel.frozen 5
  try simp only at c5
  have HM9 := keepG m9
  have HN9 := keepG (HN7.out.trans (x8.trans x9))
  have HQ8 := HKQ.out _ _ (HN7.out.trans x8)
  have HQ9 := HKQ.out _ _ HN9.out
  have c49 := m9.cell (i := 4) rfl
  try simp only at c49
  have c48 := m8.cell (i := 4) rfl
  try simp only at c48
  refine hK.out _ _ ⟨c48, HQ8.1, HQ8.2⟩ (fun hHeld => ?_)
  clear hK KK hown hgr hat hch how m8 x8 m9 x9
  try simp only [Act.put, p1q, p2q, p3q, p4q, p5q, p6q]
  refine tkGo [13, 14] ?_
  repeat (refine tkO (v := ?_) rfl ?_ ?_; rotate_left; (intro wy hSw; (try dsimp only at hSw); go_simp; (first | done | with_reducible rfl)); try simp only [Act.put, p1q, p2q, p3q, p4q, p5q, p6q])
  refine tkEnd ?_
  refine runO 15 (by kernel_rfl) rfl (by rfl) (fun KK hK => ?_)
  go_simp
  refine hK.out _ _ ⟨c49, HQ9.1, HQ9.2⟩ (fun hHeld => ?_)
  clear hK KK
  try simp only [Act.put, p1q, p2q, p3q, p4q, p5q, p6q]
  refine wpAnyH_done (by kernel_rfl) ?_ _
  clear hHeld HQ8 HQ9
  go_wp2
  go_ret2
  refine ⟨rfl, _, ⟨_, gc, insH ⟨(r.ps.length : Int) + 1, ms⟩ P, .slice za (L.length + 1) zc, L ++ [⟨(r.ps.length : Int) + 1, ⟨.slice a ms.length ac, .slice a2 xs.length a2c, ms, xs⟩, 0⟩], ut, T, ⟨.slice a ms.length ac, .slice a2 xs.length a2c, ms, xs⟩ :: M, ?_, rfl, HREL.out, fun q hq => ?_⟩, HNW.out.trans HN9.out⟩
  ·show Mr _ b _ ⟨[_, _, _, _, .int .i64 ((r.ps ++ [(⟨ms, xs, 0, 0⟩ : Pg)]).length : Nat), _, _], _, _, _, _, _, _, _, _, _, _, _, _, _⟩
   rw [List.length_append]
   exact HM9.out
  ·rcases List.mem_append.1 hq with g | g
   ·rcases List.mem_append.1 g with g | g
    ·exact List.mem_cons_of_mem _ (HH3.out q (List.mem_append_left _ g))
    ·have e : q = ⟨(r.ps.length : Int) + 1, ⟨.slice a ms.length ac, .slice a2 xs.length a2c, ms, xs⟩, 0⟩ := by simpa using g
     rw [e]
     exact List.mem_cons_self
   ·exact List.mem_cons_of_mem _ (HH3.out q (List.mem_append_right _ g))
theorem Lr.load (h : Lr w b bt br bc G r) (hk : r.Ok) (hps : r.ps.length <= 1000000000000000) {v : Value} {bs : List Int} (hs : Sees .u8 w v bs) (hby : ∀ x ∈ bs, 0 <= x /\ x <= 255) {n E : Int} {r' : Rg} (HQ : Hid (r.loadB bs = (n, E, r'))) : Calls Tryz.prog 25 #[.pointer (some ⟨b, 0, none⟩), v] w fun e w' => e = .returned (.tuple #[.int .i64 n, .int .i64 E]) /\ ∃ G', Lr w' b bt br bc G' r' /\ Nx w w' G G' := by
 obtain ⟨h1, h2⟩ := ladmit h hk hs hby HQ.out
 by_cases hE : E = 0
 ·obtain ⟨ms, xs, rfl, rfl, g1, g2, g3, g4⟩ := h2 hE
  subst hE
  exact lload_ok h hk hps g3 g1 g2 g4
 ·obtain ⟨rfl, rfl, g⟩ := h1 hE
  refine (lload_no h hE g).mono ?_
  rintro e w' ⟨rfl, hb⟩
  exact ⟨rfl, _, h.below hb, Nx.below hb⟩
end
section
variable {w wr wr' : World} {b : Nat} {F : Nat -> Ft} {c : Cp} {r : Rg} {most : Int} {jp : Nat} {u v : Value} {A : List Int} {B : List Pw}
end
section
variable {w w' : World} {b bt br bc : Nat} {G H : Ft} {r : Rg}
end
theorem infoInst24 : (Tryz.prog.info? 67).map (fun i => (i.zero, i.size, i.bytes)) = some (some (.agg #[.int .i64 0, .int .i64 0, .int .i64 0, .int .i64 0, .int .i64 0]), 5, 40) := by kernel_rfl
theorem own_zero24 (w : World) (e : TypeId) (z : Nat) : (w.alloc (.cells #[] e)).ownsRow w.heap.size e z (.slice (some ⟨w.heap.size, 0, none⟩) 0 0) 0 [] := by
 refine ⟨by simp, .inr ⟨w.heap.size, 0, #[], rfl, Nat.le_refl _, ?_, Nat.le_refl _, by simp [maxLen], by simp, by simp⟩⟩
 show (w.heap.push _)[w.heap.size]? = _
 simp
theorem grown_new25 {w w1 : World} {o : Obj} (hg : (w.alloc o).grownBy w1 (some w.heap.size)) : Below w.heap.size w w1 :=
 ((Below.refl w.heap.size w).alloc (Nat.le_refl _) o).grown hg (by simp) (fun k hk => (by have h : w.heap.size = k := Option.some.inj hk; omega))
set_option maxHeartbeats 1600000 in
theorem cloneN24 {w : World} {a : Option Addr} {c : Nat} {xs : List Int} {B : Nat} (h : w.ownsRow B 3 1 (.slice a xs.length c) xs.length (xs.map (Value.int .i64))) (hl : xs.length <= 1000) : Calls Tryz.prog 55 #[.slice a xs.length c] w fun e w' => ∃ u, e = .returned u /\ w'.ownsRow w.heap.size 3 1 u xs.length (xs.map (Value.int .i64)) /\ Below w.heap.size w w' := by
 obtain ⟨i0, hi, hz0, hz1, hz2⟩ := info_parts infoIntN
 have h0 := h
 rcases h with ⟨hl0, ⟨e1, e2⟩ | ⟨g, cap, cur, e1, hb, hh, hnc, hcm, hcs, ht⟩⟩
 ·injection e1 with e1 e3 e4
  subst e1 e4
  obtain rfl : xs = [] := List.eq_nil_of_length_eq_zero e2
  have heq : ∀ wx : World, (Go.binOp .eql 38 (.slice none 0 0) (.slice none 0 0)).run Tryz.prog wx = .ok (.bool true) wx := fun _ => by kernel_rfl
  clear h0
  go_enter Tryz.func55, Tryz.ntmps55
  go_wp2
  go_ret
  exact ⟨_, rfl, World.ownsRow_nil _ _ _ _, Below.refl _ _⟩
 ·injection e1 with e1 e3 e4
  subst e1 e4
  have hne : ∀ j u, (xs.map (Value.int .i64))[j]? = some u -> (w.alloc (.cells #[] 3)).cell? ((⟨g, 0, none⟩ : Addr).add j) = some u := fun j u hj => by
   rw [Addr.add_lit, Nat.zero_add]
   have := h0.cells (g := g) rfl j u hj
   rw [Addr.add_lit, Nat.zero_add] at this
   exact Lib.cell?_alloc_some _ this
  have heq : ∀ wx : World, (Go.binOp .eql 38 (.slice (some ⟨g, 0, none⟩) xs.length c) (.slice none 0 0)).run Tryz.prog wx = .ok (.bool false) wx := fun _ => by kernel_rfl
  clear ht hcs hh h0
  go_enter Tryz.func55, Tryz.ntmps55
  go_wp2_with (at_builtin; go_must (refine wpList_append_own_at _ rfl _ _ 38 rfl w.heap.size 3 i0 _ 1 8 Tryz.underlying38 hi hz0 hz1 hz2 rfl (by decide) (.slice (some ⟨w.heap.size, 0, none⟩) 0 0) 0 [] rfl (own_zero24 w _ _) ⟨g, 0, none⟩ xs.length c (xs.map (Value.int .i64)) rfl (by simp) hne (by intro u hu; obtain ⟨x, _, rfl⟩ := List.mem_map.1 hu; rfl) (by unfold maxLen; omega) (by omega) (by simp) ?_); intro v1 w1 hown hg _ _; go_must (have HB := keepG (grown_new25 hg); have HO := keepG hown; obtain ⟨va, vc, ev⟩ := own_shape hown; subst ev; clear hown hg))
  go_ret
  exact ⟨_, rfl, (by simpa using HO.out), HB.out⟩
set_option maxHeartbeats 1600000 in
theorem cloneI24 {w : World} {a : Option Addr} {c : Nat} {xs : List In} {B : Nat} (h : w.ownsRow B 67 5 (.slice a xs.length c) xs.length (flat xs)) (hl : xs.length <= 1000) : Calls Tryz.prog 56 #[.slice a xs.length c] w fun e w' => ∃ u, e = .returned u /\ w'.ownsRow w.heap.size 67 5 u xs.length (flat xs) /\ Below w.heap.size w w' := by
 obtain ⟨i0, hi, hz0, hz1, hz2⟩ := info_parts infoInst24
 have h0 := h
 rcases h with ⟨hl0, ⟨e1, e2⟩ | ⟨g, cap, cur, e1, hb, hh, hnc, hcm, hcs, ht⟩⟩
 ·injection e1 with e1 e3 e4
  subst e1 e4
  obtain rfl : xs = [] := List.eq_nil_of_length_eq_zero e2
  have heq : ∀ wx : World, (Go.binOp .eql 43 (.slice none 0 0) (.slice none 0 0)).run Tryz.prog wx = .ok (.bool true) wx := fun _ => by kernel_rfl
  clear h0
  go_enter Tryz.func56, Tryz.ntmps56
  go_wp2
  go_ret
  exact ⟨_, rfl, World.ownsRow_nil _ _ _ _, Below.refl _ _⟩
 ·injection e1 with e1 e3 e4
  subst e1 e4
  have hne : ∀ j u, (flat xs)[j]? = some u -> (w.alloc (.cells #[] 67)).cell? ((⟨g, 0, none⟩ : Addr).add j) = some u := fun j u hj => by
   rw [Addr.add_lit, Nat.zero_add]
   have := h0.cells (g := g) rfl j u hj
   rw [Addr.add_lit, Nat.zero_add] at this
   exact Lib.cell?_alloc_some _ this
  have heq : ∀ wx : World, (Go.binOp .eql 43 (.slice (some ⟨g, 0, none⟩) xs.length c) (.slice none 0 0)).run Tryz.prog wx = .ok (.bool false) wx := fun _ => by kernel_rfl
  clear ht hcs hh h0
  go_enter Tryz.func56, Tryz.ntmps56
  go_wp2_with (at_builtin; go_must (refine wpList_append_own_at _ rfl _ _ 43 rfl w.heap.size 67 i0 _ 5 40 Tryz.underlying43 hi hz0 hz1 hz2 rfl (by decide) (.slice (some ⟨w.heap.size, 0, none⟩) 0 0) 0 [] rfl (own_zero24 w _ _) ⟨g, 0, none⟩ xs.length c (flat xs) rfl (by rw [flat_len]) hne (flat_one xs) (by unfold maxLen; omega) (by omega) (by simp) ?_); intro v1 w1 hown hg _ _; go_must (have HB := keepG (grown_new25 hg); have HO := keepG hown; obtain ⟨va, vc, ev⟩ := own_shape hown; subst ev; clear hown hg))
  go_ret
  exact ⟨_, rfl, (by simpa using HO.out), HB.out⟩
section
variable {w w' : World} {b bt br bc : Nat} {G H : Ft} {r : Rg}
set_option maxHeartbeats 12800000 in
theorem lmodule {Q : Ending -> World -> Prop} (h : Lr w b bt br bc G r) (hk : r.Ok) (n : Int)
  (HYES : Hid (r.st n <= 1 -> ∀ um uc w', w'.ownsRow w.heap.size 3 1 um (r.pg n).ms.length ((r.pg n).ms.map (Value.int .i64)) -> w'.ownsRow w.heap.size 67 5 uc (r.pg n).xs.length (flat (r.pg n).xs) -> Below w.heap.size w w' -> Q (.returned (.tuple #[.agg #[um, uc], .bool true])) w'))
  (HNO : Hid (r.st n = 2 -> ∀ w', Below w.heap.size w w' -> Q (.returned (.tuple #[.agg #[.slice none 0 0, .slice none 0 0], .bool false])) w')) :
  Calls Tryz.prog 17 #[.pointer (some ⟨b, 0, none⟩), .int .i64 n] w Q := by
 obtain ⟨F, gc, P, ul, L, ut, T, M, h1, rfl, h2, h3⟩ := h.ex
 have hlt := (h2.lens hk).1
 have hLl : L.length <= 16 := by omega
 have hTl : T.length <= 16 := by omega
 obtain ⟨la, lc, eu⟩ := own_shape h1.liv
 obtain ⟨ta, tc, ev⟩ := own_shape h1.ret
 simp only at eu ev
 subst eu ev
 obtain ⟨X, HX, HpX, HBX⟩ : ∃ X, Hid (w.alloc (.cells #[.slice none 0 0, .slice none 0 0] 45) = X) /\ Hid (Hp X w.heap.size 45 [.slice none 0 0, .slice none 0 0]) /\ Hid (Below w.heap.size w X) := ⟨_, rfl, Hp.new w _ _, below_allocG _ _⟩
 obtain ⟨Z, HZ, HpZ, HBZ⟩ : ∃ Z, Hid (X.alloc (.cells #[.slice la L.length lc, .slice ta T.length tc] 52) = Z) /\ Hid (Hp Z X.heap.size 52 [.slice la L.length lc, .slice ta T.length tc]) /\ Hid (Below X.heap.size X Z) := ⟨_, rfl, Hp.new X _ _, below_allocG _ _⟩
 have HM0 := keepG (fun (wr : World) (hb : Below w.heap.size w wr) => Mr.below h1 hb)
 have hst := stP_le hk.sb n
 rw [<- Rg.st_eq] at hst
 have HIL := keepG (h2.idxL n)
 have HIT := keepG (h2.idxT hk n)
 have HML := keepG (fun i (hi : i < L.length) => h2.mdL _ (getD_memP L i hi))
 have HMT := keepG (fun i (hi : i < T.length) => h2.mdT _ (getD_memP T i hi))
 have HMM := keepG h3
 have HMS := keepG (fun (q : Md) (hq : q ∈ M) => h1.mod q hq)
 have x5 := (Mr.below h1 HBX.out).cell (i := 5) rfl
 have x6 := (Mr.below h1 HBX.out).cell (i := 6) rfl
 have z5 := (Mr.below (Mr.below h1 HBX.out) HBZ.out).cell (i := 5) rfl
 have z6 := (Mr.below (Mr.below h1 HBX.out) HBZ.out).cell (i := 6) rfl
 try simp only at x5 x6 z5 z6
 have HWZ := keepG (HBX.out.trans (HBZ.out.mono HBX.out.size))
 clear h h1 h2 h3 hlt
 go_enter Tryz.func17, Tryz.ntmps17
 go_wp2_with (rw [HX.out])
 refine wp_region_held_drew (S := fun w' => w'.cell? ⟨b, 5, none⟩ = some (.slice la L.length lc) /\ w'.cell? ⟨b, 6, none⟩ = some (.slice ta T.length tc)) (by kernel_rfl) ⟨x5, x6⟩ (fun hHeld => ?_)
 refine tkGo [0, 1, 2, 3, 4, 5, 6, 7, 10] ?_
 repeat (refine tkO (v := ?_) rfl ?_ ?_; rotate_left; (intro wy hSw; (try dsimp only at hSw); go_simp; (first | done | with_reducible rfl)); try simp only [Act.put, p1q, p2q, p3q, p4q, p5q, p6q])
 refine tkEnd ?_
 refine runO 8 (by kernel_rfl) rfl (by rfl) (fun KK hK => ?_)
 go_simp
 rw [HZ.out]
 refine hK.out _ _ ⟨z5, z6⟩ (fun hHeld => ?_)
 clear hK KK
 try simp only [Act.put, p1q, p2q, p3q, p4q, p5q, p6q]
 refine tkGo [9] ?_
 repeat (refine tkO (v := ?_) rfl ?_ ?_; rotate_left; (intro wy hSw; (try dsimp only at hSw); go_simp; (first | done | with_reducible rfl)); try simp only [Act.put, p1q, p2q, p3q, p4q, p5q, p6q])
 refine tkEnd ?_
 refine wpAnyH_done (by kernel_rfl) ?_ _
 clear hHeld x5 x6 z5 z6
 go_wp2
 go_loopw [20] (fun i wr => ∃ j : Nat, j <= 2 /\ i = .int .i64 j /\ Hid (1 <= j -> r.st n ≠ 0) /\ Hid (2 <= j -> r.st n ≠ 1) /\ Hid (Below Z.heap.size Z wr)) (fun i _ => 2 - (intOf i).toNat)
 case atStart => exact ⟨0, by omega, rfl, (show 1 <= 0 -> _ from fun h => by omega), (show 2 <= 0 -> _ from fun h => by omega), ⟨rfl, rfl, rfl, Nat.le_refl _, fun _ _ => rfl⟩⟩
 case round =>
  rename_i wr
  obtain ⟨j, hj, rfl, HJ1, HJ2, HB⟩ := hrel
  have HBW := keepG (HWZ.out.trans (HB.out.mono HWZ.out.size))
  have HPX := keepG (HpX.out.below (HBZ.out.trans (HB.out.mono HBZ.out.size)) HpX.out.lt)
  have HPZ := keepG (HpZ.out.below HB.out HpZ.out.lt)
  have v0 := HPZ.out.cell (j := 0) rfl
  have v1 := HPZ.out.cell (j := 1) rfl
  have t0 := HPX.out.cell (j := 0) rfl
  have t1 := HPX.out.cell (j := 1) rfl
  have s0 := HPX.out.frozen 0
  have s1 := HPX.out.frozen 1
  by_cases hj0 : j = 0
  ·subst hj0
   have HF := keepG (lfind (own_seesG pwC_len Pw.nil (HM0.out wr HBW.out).liv) (show L.length <= 1000 by omega) n rfl)
   try simp only at HF
   by_cases hs : r.st n = 0
   ·obtain ⟨i, hi, hn, hz⟩ := HIL.out.1 hs
    rw [hz] at HF
    have hi0 : (i : Int) ≥ 0 := by omega
    have hiI : (i : Int) < L.length := by omega
    have hmd := HML.out i hi
    obtain ⟨g, ea, hgl, hat⟩ : ∃ g, la = some ⟨g, 0, none⟩ /\ g < w.heap.size /\ ∀ wx, Below w.heap.size w wx -> (wx.cell? ⟨g, i * 4 + 1, none⟩ = some (L.getD i Pw.nil).md.um /\ wx.cell? ⟨g, i * 4 + 2, none⟩ = some (L.getD i Pw.nil).md.uc) := by
     have h1 := HM0.out w (Below.refl _ _)
     obtain ⟨g, cap, e, _, hgl, _, _, hat⟩ := own_atG pwC_len Pw.nil h1.liv (by show 0 < L.length; omega)
     simp only at e
     injection e with e1 _ e2
     refine ⟨g, e1, hgl, fun wx hb => ?_⟩
     have hc : ∀ j, wx.cell? ⟨g, j, none⟩ = w.cell? ⟨g, j, none⟩ := fun j => hb.cell (p := ⟨g, j, none⟩) hgl
     rw [hc, hc]
     exact ⟨(hat i hi 1 (by omega)).1, (hat i hi 2 (by omega)).1⟩
    subst ea
    have hmem := HMM.out _ (List.mem_append_left T (getD_memP L i hi))
    obtain ⟨q, HQ⟩ : ∃ q, Hid (L.getD i Pw.nil = q) := ⟨_, rfl⟩
    rw [HQ.out] at hmd hat hmem hn
    have hin := HMS.out _ hmem
    obtain ⟨qn, ⟨um, uc, qms, qxs⟩, qg⟩ := q
    obtain ⟨a1, c1, e1⟩ := own_shape hin.om
    obtain ⟨a2, c2, e2⟩ := own_shape hin.oc
    try simp only at e1 e2 hn hmd hat
    have hn := hn.symm
    subst e1 e2 hn
    have e3 : (r.pg n).ms = qms := hmd.1
    have e4 : (r.pg n).xs = qxs := hmd.2
    have HE3 := keepG e3
    have HE4 := keepG e4
    have hm4 : qms.length <= 4 := by
     have := hk.ms (r.pg n) (by
      have hin2 := Rg.st_in (r := r) (n := n) (by rw [hs]; decide)
      unfold Rg.pg
      rw [if_pos hin2.1]
      have hlt2 : (n - 1).toNat < r.ps.length := by omega
      rw [List.getD_eq_getElem?_getD, List.getElem?_eq_getElem hlt2]
      exact List.getElem_mem _)
     rw [e3] at this
     exact nodup_le 4 qms this.1 (fun x hx => by have := this.2 x hx; have := hk.mp; omega)
    have hx64 : qxs.length <= 64 := hin.wx
    have HIN := keepG hin
    have HAT := keepG hat
    have HST : Hid (r.st n <= 1) := (show r.st n <= 1 by omega)
    clear hat hmem hin hmd e3 e4 hs hz
    go_wp2_with (first
     | (go_at_call 54; go_must (refine HF.out.mono ?_); rintro e5 w5 ⟨rfl, g5⟩; go_must (have HB5 := keepG (HBW.out.trans (g5.mono HBW.out.size)); have HP5 := keepG (HPX.out.below g5 HPX.out.lt); obtain ⟨m0, m1⟩ := HAT.out w5 HB5.out; obtain ⟨W1, W2, HW1, HW2, ⟨n0, n1⟩, ⟨f0, f1⟩, HP2, HB2⟩ := boxM24 w5 (.slice a1 qms.length c1) (.slice a2 qxs.length c2); have HB6 := keepG (HB5.out.trans (HB2.out.mono HB5.out.size)); have HP6 := keepG (HP5.out.below HB2.out HP5.out.lt); have p0 := HP2.out.cell (j := 0) rfl; have p1 := HP2.out.cell (j := 1) rfl; have HI6 := keepG (HIN.out.chg (G := fun _ => False) (Chg.of_below HB6.out) (fun _ e => e.elim)); have HB5L : Hid (w.heap.size < w5.heap.size) := Nat.lt_of_lt_of_le HPX.out.lt g5.size; clear g5 t0 t1 s0 s1 v0 v1))
     | (rw [HW1.out])
     | (rw [HW2.out]))
    refine wp_region_held_drew (S := fun w' => w'.cell? ⟨w5.heap.size, 0, none⟩ = some (.slice a1 qms.length c1) /\ w'.cell? ⟨w5.heap.size, 1, none⟩ = some (.slice a2 qxs.length c2)) (by kernel_rfl) ⟨p0, p1⟩ (fun hHeld => ?_)
    refine tkGo [0, 1, 3, 4] ?_
    repeat (refine tkO (v := ?_) rfl ?_ ?_; rotate_left; (intro wy hSw; (try dsimp only at hSw); go_simp; (first | done | with_reducible rfl)); try simp only [Act.put, p1q, p2q, p3q, p4q, p5q, p6q])
    refine tkEnd ?_
    refine runO 2 (by kernel_rfl) rfl (by rfl) (fun KK hK => ?_)
    go_simp
    go_at_call 55
    refine (cloneN24 (w := W2.drew) (own_below HI6.out.om (below_drG (Below.refl _ _)) (Nat.le_refl _)) (by omega)).mono ?_
    rintro e7 w7 ⟨u7, rfl, o7, g7⟩
    have hb7 : Below W2.heap.size W2 w7 := (below_drG (Below.refl _ _)).trans g7
    have p07 := (HP2.out.below hb7 HP2.out.lt).cell (j := 0) rfl
    have p17 := (HP2.out.below hb7 HP2.out.lt).cell (j := 1) rfl
    have HB7 := keepG (HB6.out.trans (hb7.mono HB6.out.size))
    have HO7 := keepG o7
    have HP7 := keepG (HP6.out.below hb7 HP6.out.lt)
    have HQ7 := keepG (HP2.out.below hb7 HP2.out.lt)
    have HZ67 : Hid (W2.heap.size <= w7.heap.size) := hb7.size
    have HI7 := keepG (HI6.out.chg (G := fun _ => False) (Chg.of_below hb7) (fun _ e => e.elim))
    obtain ⟨ya, yc, ey⟩ := own_shape o7
    subst ey
    clear o7 g7 hb7
    go_simp
    refine hK.out _ _ ⟨p07, p17⟩ (fun hHeld => ?_)
    clear hK KK
    try simp only [Act.put, p1q, p2q, p3q, p4q, p5q, p6q]
    refine runO 5 (by kernel_rfl) rfl (by rfl) (fun KK hK => ?_)
    go_simp
    go_at_call 56
    refine (cloneI24 HI7.out.oc (by omega)).mono ?_
    rintro e8 w8 ⟨u8, rfl, o8, g8⟩
    have p08 := (HQ7.out.below g8 HQ7.out.lt).cell (j := 0) rfl
    have p18 := (HQ7.out.below g8 HQ7.out.lt).cell (j := 1) rfl
    have HQ8 := keepG (HQ7.out.below g8 HQ7.out.lt)
    have HB8 := keepG (HB7.out.trans (g8.mono HB7.out.size))
    have HO8 := keepG (own_below HO7.out g8 (Nat.le_refl _))
    have HR8 := keepG o8
    have HP8 := keepG (HP7.out.below g8 HP7.out.lt)
    have t0 := HP8.out.cell (j := 0) rfl
    have t1 := HP8.out.cell (j := 1) rfl
    have s0 := HP8.out.frozen 0
    have s1 := HP8.out.frozen 1
    obtain ⟨za, zc, ez⟩ := own_shape o8
    subst ez
    have hz7 := HB7.out.size
    have hz5 := HB5.out.size
    have hz6 : W2.heap.size <= w7.heap.size := HZ67.out
    clear o8 g8
    go_simp
    refine hK.out _ _ ⟨p08, p18⟩ (fun hHeld => ?_)
    clear hK KK
    try simp only [Act.put, p1q, p2q, p3q, p4q, p5q, p6q]
    refine tkGo [6] ?_
    repeat (refine tkO (v := ?_) rfl ?_ ?_; rotate_left; (intro wy hSw; (try dsimp only at hSw); go_simp; (first | done | with_reducible rfl)); try simp only [Act.put, p1q, p2q, p3q, p4q, p5q, p6q])
    refine tkEnd ?_
    refine runO 7 (by kernel_rfl) rfl (by rfl) (fun KK hK => ?_)
    go_simp
    obtain ⟨k1, k2⟩ := two_setsM (wr := w8) (u := .slice ya qms.length yc) (v := .slice za qxs.length zc) HP8.out rfl HB8.out (Nat.le_refl _)
    have hne : ∀ k, k = w.heap.size -> ¬ (Value.slice ya qms.length yc).ownBlock = some k := fun k e g => by subst e; exact own_type10 HO8.out HP8.out (by decide) g
    have hne2 : ∀ k, k = w.heap.size -> ¬ (Value.slice za qxs.length zc).ownBlock = some k := fun k e g => by subst e; exact own_type10 HR8.out HP8.out (by decide) g
    have HOA := keepG (own_chg (own_chg HO8.out (Chg.set w8 w.heap.size 0 (.slice ya qms.length yc)) (fun k hk e => hne k e hk)) (Chg.set _ w.heap.size 1 (.slice za qxs.length zc)) (fun k hk e => hne k e hk))
    have HOB := keepG (own_chg (own_chg HR8.out (Chg.set w8 w.heap.size 0 (.slice ya qms.length yc)) (fun k hk e => hne2 k e hk)) (Chg.set _ w.heap.size 1 (.slice za qxs.length zc)) (fun k hk e => hne2 k e hk))
    have HK1 := keepG k1
    have HK2 := keepG k2
    have hxz := HBX.out.size
    have HQ9 := keepG ((HQ8.out.far (i := 0) (v := .slice ya qms.length yc) (b' := w.heap.size) (by have := HpX.out.lt; have := HBW.out.size; have := HB5L.out; omega)).far (i := 1) (v := .slice za qxs.length zc) (b' := w.heap.size) (by have := HpX.out.lt; have := HB5L.out; omega))
    have p09 := HQ9.out.cell (j := 0) rfl
    have p19 := HQ9.out.cell (j := 1) rfl
    clear k1 k2 hne hne2
    refine hK.out _ _ ⟨p09, p19⟩ (fun hHeld => ?_)
    clear hK KK
    try simp only [Act.put, p1q, p2q, p3q, p4q, p5q, p6q]
    refine tkGo [8] ?_
    repeat (refine tkO (v := ?_) rfl ?_ ?_; rotate_left; (intro wy hSw; (try dsimp only at hSw); go_simp; (first | done | with_reducible rfl)); try simp only [Act.put, p1q, p2q, p3q, p4q, p5q, p6q])
    refine tkEnd ?_
    refine wpAnyH_done (by kernel_rfl) ?_ _
    clear hHeld
    go_wp2
    refine box_retM rfl rfl rfl HK1.out (HYES.out HST.out _ _ _ ?_ ?_ HK2.out)
    ·rw [HE3.out]; exact own_lowG HOA.out (by have := HB6.out.size; show w.heap.size <= W2.drew.heap.size; exact this)
    ·rw [HE4.out]; exact own_lowG HOB.out HB7.out.size
   ·rw [HIL.out.2 hs] at HF
    go_wp2_with (go_at_call 54; go_must (refine HF.out.mono ?_); rintro e5 w5 ⟨rfl, g5⟩; go_must (have HB5 := keepG (HB.out.trans (g5.mono HB.out.size)); clear g5))
    go_roundw
    case rel => exact ⟨1, by omega, by go_num, (show 1 <= 1 -> _ from fun _ => hs), (show 2 <= 1 -> _ from fun h => by omega), HB5.out⟩
    case measure => simp [intOf]
  by_cases hj1 : j = 1
  ·subst hj1
   have HF := keepG (lfind (own_seesG pwC_len Pw.nil (HM0.out wr HBW.out).ret) (show T.length <= 1000 by omega) n rfl)
   try simp only at HF
   by_cases hs : r.st n = 1
   ·obtain ⟨i, hi, hn, hz⟩ := HIT.out.1 hs
    rw [hz] at HF
    have hi0 : (i : Int) ≥ 0 := by omega
    have hiI : (i : Int) < T.length := by omega
    have hmd := HMT.out i hi
    obtain ⟨g, ea, hgl, hat⟩ : ∃ g, ta = some ⟨g, 0, none⟩ /\ g < w.heap.size /\ ∀ wx, Below w.heap.size w wx -> (wx.cell? ⟨g, i * 4 + 1, none⟩ = some (T.getD i Pw.nil).md.um /\ wx.cell? ⟨g, i * 4 + 2, none⟩ = some (T.getD i Pw.nil).md.uc) := by
     have h1 := HM0.out w (Below.refl _ _)
     obtain ⟨g, cap, e, _, hgl, _, _, hat⟩ := own_atG pwC_len Pw.nil h1.ret (by show 0 < T.length; omega)
     simp only at e
     injection e with e1 _ e2
     refine ⟨g, e1, hgl, fun wx hb => ?_⟩
     have hc : ∀ j, wx.cell? ⟨g, j, none⟩ = w.cell? ⟨g, j, none⟩ := fun j => hb.cell (p := ⟨g, j, none⟩) hgl
     rw [hc, hc]
     exact ⟨(hat i hi 1 (by omega)).1, (hat i hi 2 (by omega)).1⟩
    subst ea
    have hmem := HMM.out _ (List.mem_append_right L (getD_memP T i hi))
    obtain ⟨q, HQ⟩ : ∃ q, Hid (T.getD i Pw.nil = q) := ⟨_, rfl⟩
    rw [HQ.out] at hmd hat hmem hn
    have hin := HMS.out _ hmem
    obtain ⟨qn, ⟨um, uc, qms, qxs⟩, qg⟩ := q
    obtain ⟨a1, c1, e1⟩ := own_shape hin.om
    obtain ⟨a2, c2, e2⟩ := own_shape hin.oc
    try simp only at e1 e2 hn hmd hat
    have hn := hn.symm
    subst e1 e2 hn
    have e3 : (r.pg n).ms = qms := hmd.1
    have e4 : (r.pg n).xs = qxs := hmd.2.1
    have HE3 := keepG e3
    have HE4 := keepG e4
    have hm4 : qms.length <= 4 := by
     have := hk.ms (r.pg n) (by
      have hin2 := Rg.st_in (r := r) (n := n) (by rw [hs]; decide)
      unfold Rg.pg
      rw [if_pos hin2.1]
      have hlt2 : (n - 1).toNat < r.ps.length := by omega
      rw [List.getD_eq_getElem?_getD, List.getElem?_eq_getElem hlt2]
      exact List.getElem_mem _)
     rw [e3] at this
     exact nodup_le 4 qms this.1 (fun x hx => by have := this.2 x hx; have := hk.mp; omega)
    have hx64 : qxs.length <= 64 := hin.wx
    have HIN := keepG hin
    have HAT := keepG hat
    have HST : Hid (r.st n <= 1) := (show r.st n <= 1 by omega)
    clear hat hmem hin hmd e3 e4 hs hz
    go_wp2_with (first
     | (go_at_call 54; go_must (refine HF.out.mono ?_); rintro e5 w5 ⟨rfl, g5⟩; go_must (have HB5 := keepG (HBW.out.trans (g5.mono HBW.out.size)); have HP5 := keepG (HPX.out.below g5 HPX.out.lt); obtain ⟨m0, m1⟩ := HAT.out w5 HB5.out; obtain ⟨W1, W2, HW1, HW2, ⟨n0, n1⟩, ⟨f0, f1⟩, HP2, HB2⟩ := boxM24 w5 (.slice a1 qms.length c1) (.slice a2 qxs.length c2); have HB6 := keepG (HB5.out.trans (HB2.out.mono HB5.out.size)); have HP6 := keepG (HP5.out.below HB2.out HP5.out.lt); have p0 := HP2.out.cell (j := 0) rfl; have p1 := HP2.out.cell (j := 1) rfl; have HI6 := keepG (HIN.out.chg (G := fun _ => False) (Chg.of_below HB6.out) (fun _ e => e.elim)); have HB5L : Hid (w.heap.size < w5.heap.size) := Nat.lt_of_lt_of_le HPX.out.lt g5.size; clear g5 t0 t1 s0 s1 v0 v1))
     | (rw [HW1.out])
     | (rw [HW2.out]))
    refine wp_region_held_drew (S := fun w' => w'.cell? ⟨w5.heap.size, 0, none⟩ = some (.slice a1 qms.length c1) /\ w'.cell? ⟨w5.heap.size, 1, none⟩ = some (.slice a2 qxs.length c2)) (by kernel_rfl) ⟨p0, p1⟩ (fun hHeld => ?_)
    refine tkGo [0, 1, 3, 4] ?_
    repeat (refine tkO (v := ?_) rfl ?_ ?_; rotate_left; (intro wy hSw; (try dsimp only at hSw); go_simp; (first | done | with_reducible rfl)); try simp only [Act.put, p1q, p2q, p3q, p4q, p5q, p6q])
    refine tkEnd ?_
    refine runO 2 (by kernel_rfl) rfl (by rfl) (fun KK hK => ?_)
    go_simp
    go_at_call 55
    refine (cloneN24 (w := W2.drew) (own_below HI6.out.om (below_drG (Below.refl _ _)) (Nat.le_refl _)) (by omega)).mono ?_
    rintro e7 w7 ⟨u7, rfl, o7, g7⟩
    have hb7 : Below W2.heap.size W2 w7 := (below_drG (Below.refl _ _)).trans g7
    have p07 := (HP2.out.below hb7 HP2.out.lt).cell (j := 0) rfl
    have p17 := (HP2.out.below hb7 HP2.out.lt).cell (j := 1) rfl
    have HB7 := keepG (HB6.out.trans (hb7.mono HB6.out.size))
    have HO7 := keepG o7
    have HP7 := keepG (HP6.out.below hb7 HP6.out.lt)
    have HQ7 := keepG (HP2.out.below hb7 HP2.out.lt)
    have HZ67 : Hid (W2.heap.size <= w7.heap.size) := hb7.size
    have HI7 := keepG (HI6.out.chg (G := fun _ => False) (Chg.of_below hb7) (fun _ e => e.elim))
    obtain ⟨ya, yc, ey⟩ := own_shape o7
    subst ey
    clear o7 g7 hb7
    go_simp
    refine hK.out _ _ ⟨p07, p17⟩ (fun hHeld => ?_)
    clear hK KK
    try simp only [Act.put, p1q, p2q, p3q, p4q, p5q, p6q]
    refine runO 5 (by kernel_rfl) rfl (by rfl) (fun KK hK => ?_)
    go_simp
    go_at_call 56
    refine (cloneI24 HI7.out.oc (by omega)).mono ?_
    rintro e8 w8 ⟨u8, rfl, o8, g8⟩
    have p08 := (HQ7.out.below g8 HQ7.out.lt).cell (j := 0) rfl
    have p18 := (HQ7.out.below g8 HQ7.out.lt).cell (j := 1) rfl
    have HQ8 := keepG (HQ7.out.below g8 HQ7.out.lt)
    have HB8 := keepG (HB7.out.trans (g8.mono HB7.out.size))
    have HO8 := keepG (own_below HO7.out g8 (Nat.le_refl _))
    have HR8 := keepG o8
    have HP8 := keepG (HP7.out.below g8 HP7.out.lt)
    have t0 := HP8.out.cell (j := 0) rfl
    have t1 := HP8.out.cell (j := 1) rfl
    have s0 := HP8.out.frozen 0
    have s1 := HP8.out.frozen 1
    obtain ⟨za, zc, ez⟩ := own_shape o8
    subst ez
    have hz7 := HB7.out.size
    have hz5 := HB5.out.size
    have hz6 : W2.heap.size <= w7.heap.size := HZ67.out
    clear o8 g8
    go_simp
    refine hK.out _ _ ⟨p08, p18⟩ (fun hHeld => ?_)
    clear hK KK
    try simp only [Act.put, p1q, p2q, p3q, p4q, p5q, p6q]
    refine tkGo [6] ?_
    repeat (refine tkO (v := ?_) rfl ?_ ?_; rotate_left; (intro wy hSw; (try dsimp only at hSw); go_simp; (first | done | with_reducible rfl)); try simp only [Act.put, p1q, p2q, p3q, p4q, p5q, p6q])
    refine tkEnd ?_
    refine runO 7 (by kernel_rfl) rfl (by rfl) (fun KK hK => ?_)
    go_simp
    obtain ⟨k1, k2⟩ := two_setsM (wr := w8) (u := .slice ya qms.length yc) (v := .slice za qxs.length zc) HP8.out rfl HB8.out (Nat.le_refl _)
    have hne : ∀ k, k = w.heap.size -> ¬ (Value.slice ya qms.length yc).ownBlock = some k := fun k e g => by subst e; exact own_type10 HO8.out HP8.out (by decide) g
    have hne2 : ∀ k, k = w.heap.size -> ¬ (Value.slice za qxs.length zc).ownBlock = some k := fun k e g => by subst e; exact own_type10 HR8.out HP8.out (by decide) g
    have HOA := keepG (own_chg (own_chg HO8.out (Chg.set w8 w.heap.size 0 (.slice ya qms.length yc)) (fun k hk e => hne k e hk)) (Chg.set _ w.heap.size 1 (.slice za qxs.length zc)) (fun k hk e => hne k e hk))
    have HOB := keepG (own_chg (own_chg HR8.out (Chg.set w8 w.heap.size 0 (.slice ya qms.length yc)) (fun k hk e => hne2 k e hk)) (Chg.set _ w.heap.size 1 (.slice za qxs.length zc)) (fun k hk e => hne2 k e hk))
    have HK1 := keepG k1
    have HK2 := keepG k2
    have hxz := HBX.out.size
    have HQ9 := keepG ((HQ8.out.far (i := 0) (v := .slice ya qms.length yc) (b' := w.heap.size) (by have := HpX.out.lt; have := HBW.out.size; have := HB5L.out; omega)).far (i := 1) (v := .slice za qxs.length zc) (b' := w.heap.size) (by have := HpX.out.lt; have := HB5L.out; omega))
    have p09 := HQ9.out.cell (j := 0) rfl
    have p19 := HQ9.out.cell (j := 1) rfl
    clear k1 k2 hne hne2
    refine hK.out _ _ ⟨p09, p19⟩ (fun hHeld => ?_)
    clear hK KK
    try simp only [Act.put, p1q, p2q, p3q, p4q, p5q, p6q]
    refine tkGo [8] ?_
    repeat (refine tkO (v := ?_) rfl ?_ ?_; rotate_left; (intro wy hSw; (try dsimp only at hSw); go_simp; (first | done | with_reducible rfl)); try simp only [Act.put, p1q, p2q, p3q, p4q, p5q, p6q])
    refine tkEnd ?_
    refine wpAnyH_done (by kernel_rfl) ?_ _
    clear hHeld
    go_wp2
    refine box_retM rfl rfl rfl HK1.out (HYES.out HST.out _ _ _ ?_ ?_ HK2.out)
    ·rw [HE3.out]; exact own_lowG HOA.out (by have := HB6.out.size; show w.heap.size <= W2.drew.heap.size; exact this)
    ·rw [HE4.out]; exact own_lowG HOB.out HB7.out.size
   ·rw [HIT.out.2 hs] at HF
    go_wp2_with (go_at_call 54; go_must (refine HF.out.mono ?_); rintro e5 w5 ⟨rfl, g5⟩; go_must (have HB5 := keepG (HB.out.trans (g5.mono HB.out.size)); clear g5))
    go_roundw
    case rel => exact ⟨2, by omega, by go_num, (show 1 <= 2 -> _ from fun _ => HJ1.out (Nat.le_refl _)), (show 2 <= 2 -> _ from fun _ => hs), HB5.out⟩
    case measure => simp [intOf]
  ·have hj2 : j = 2 := by omega
   subst hj2
   have HS2 : Hid (r.st n = 2) := by
    have a1 := HJ1.out (by omega)
    have a2 := HJ2.out (by omega)
    show r.st n = 2
    omega
   go_wp2
   obtain ⟨k1, k2⟩ := two_setsM (u := .slice none 0 0) (v := .slice none 0 0) HPX.out rfl HBW.out (Nat.le_refl _)
   exact box_retM rfl rfl rfl k1 (HNO.out HS2.out _ k2)
end
theorem Sees.bytes24 {w : World} {v : Value} {xs : List Int} (h : Sees .u8 w v xs) : ∀ x ∈ xs, 0 <= x /\ x <= 255 := by
 obtain ⟨a, cap, rfl, hl, hm, hn0, hw, hs⟩ := h
 exact fun x hx => by have := bounds_u8 (hw x hx); omega
structure Lz24 (w0 w : World) (b bt br bc : Nat) (G : Ft) (r : Rg) : Prop where
 reg : Lr w b bt br bc G r
 since : Since w0 G
 ok : r.Ok
 be : Below w0.heap.size w0 w
section
variable {w0 w w' : World} {b bt br bc : Nat} {G G' H : Ft} {r r' : Rg}
theorem Lz24.next (h : Lz24 w0 w b bt br bc G r) (hl : Lr w' b bt br bc G' r') (hn : Nx w w' G G') (hk : r'.Ok) : Lz24 w0 w' b bt br bc G' r' := ⟨hl, h.since.next h.be.size hn, hk, h.since.be h.be hn⟩
theorem Lz24.below (h : Lz24 w0 w b bt br bc G r) (hb : Below w.heap.size w w') : Lz24 w0 w' b bt br bc G r := ⟨h.reg.below hb, h.since, h.ok, h.be.trans (hb.mono h.be.size)⟩
theorem Lz24.keeps (h : Lz24 w0 w b bt br bc G r) (hc : Chg w w' H) (ha : Apt H G) (hs : Since w0 H) : Lz24 w0 w' b bt br bc G r := ⟨h.reg.keeps hc ha, h.since, h.ok, h.be.trans (hc.below (fun k e => hs k e) h.be.size)⟩
theorem Lz24.low (h : Lz24 w0 w b bt br bc G r) : w.cell? ⟨b, 0, none⟩ = some (.pointer (some ⟨bt, 0, none⟩)) /\ w.cell? ⟨b, 1, none⟩ = some (.pointer (some ⟨br, 0, none⟩)) /\ w.cell? ⟨b, 2, none⟩ = some (.pointer (some ⟨bc, 0, none⟩)) := ⟨h.reg.low.1, h.reg.low.2.1, h.reg.low.2.2.1⟩
theorem lz24_new (h m k : Nat) (h1 : 1 <= h) (h2 : h <= 4) (hm : m <= 4) (k1 : 1 <= k) (k2 : k <= 4) {w1 : World} (hb : Below w0.heap.size w0 w1) : Calls Tryz.prog 9 #[.int .i64 h, .int .i64 m, .int .i64 k] w1 fun e w' => ∃ b bt br bc G, e = .returned (.tuple #[.pointer (some ⟨b, 0, none⟩), .int .i64 0]) /\ Lz24 w0 w' b bt br bc G (Rg.new h m k) := by
 refine (lrnew_ok h m k h1 h2 hm k1 k2 w1).mono ?_
 rintro e w' ⟨b, bt, br, bc, G, rfl, g1, g2, g3⟩
 exact ⟨b, bt, br, bc, G, rfl, g1, fun k hk => Nat.le_trans hb.size (g2 k hk), Rg.Ok.new h1 h2 hm k1 k2, hb.trans (g3.mono hb.size)⟩
theorem infoU8W : (Tryz.prog.info? 5).map (fun i => (i.zero, i.size, i.bytes)) = some (some (.int .u8 0), 1, 1) := by kernel_rfl
theorem own_empty24 (w : World) (e : TypeId) (k : IntKind) : (w.alloc (.cells #[] e)).ownsRow w.heap.size e 1 (.slice (some ⟨w.heap.size, 0, none⟩) 0 0) ([] : List Int).length (([] : List Int).map (Value.int k)) := by
 refine ⟨rfl, .inr ⟨w.heap.size, 0, #[], rfl, Nat.le_refl _, ?_, Nat.le_refl _, by simp [maxLen], rfl, rfl⟩⟩
 show (w.heap.push _)[w.heap.size]? = _
 simp
theorem grown_new24 {w w1 : World} {o : Obj} (hg : (w.alloc o).grownBy w1 (some w.heap.size)) : Below w.heap.size w w1 :=
 ((Below.refl w.heap.size w).alloc (Nat.le_refl _) o).grown hg (by simp) (fun k hk => (by have h : w.heap.size = k := Option.some.inj hk; omega))
end
section
variable {w0 w w' : World} {b bt br bc : Nat} {G G' H : Ft} {r r' : Rg}
end
end Go.Proofs.YtibolefffjkblaaGreat
