
/-
  The landed LRU of layer 14: Do, where a key is driven out. Condition: it lies where the pointer says, its rows are the call's own; at most 16 keys.
-/
import Derived.Test.YtpbfgebecgikjaaTk
import Derived.Test.YtpbfgebecgikjaaL14LD
namespace Go.Proofs.Ytpbfgebecgikjaa
open Go.RowKit
set_option linter.unusedVariables false
set_option linter.unusedSimpArgs false
set_option maxRecDepth 100000

section
variable {w : World} {B l b cap : Nat} {v vr : Value} {S : List Pp} {R : List Int}
set_option maxHeartbeats 8000000 in
theorem lldo_evict {op key val E x okey had : Int} {f : Bool} {S' : List Pp} {O F : List Int} (HQ : Hid (doS cap S op key val = (⟨40, false, 0⟩, S))) (HOE : Hid (ordO S R = R)) (hR0 : 0 < R.length) (HK : Hid (R.getD (R.length - 1) 0 = okey)) (HV : Hid (hadS okey S = had)) (HQ2 : Hid (doS cap (dropS S okey) op key val = (⟨E, f, x⟩, S'))) (HT : Hid ((if op = 0 then f else if op = 2 ∨ op = 4 then decide (E = 0) else false) = true)) (HO : Hid (ordO S' R = O)) (HF : Hid (key :: O.filter (fun k => decide (k ≠ key)) = F)) (h : Ll w B l b cap v vr S R) (hl : S.length ≤ cap) (hl2 : (dropS S okey).length ≤ cap) (hl' : S'.length ≤ cap) (hc16 : cap ≤ 16) (hR : R.length ≤ 1000) (hOl : O.length ≤ 5000) (hB : B ≤ w.heap.size) :
    Calls Try.prog 72 #[.pointer (some ⟨l, 0, none⟩), .int .i64 op, .int .u64 key, .int .u64 val] w fun e w' => e = .returned (resG E f x true okey had) ∧ LlNext w B l b cap v vr S' F w' := by
  obtain ⟨X, HX, HrX, hbX, hzX⟩ := boxRG w
  have HHX := keepG (h.below hbX)
  have HH := keepG h
  have l0 := h.hp.cell (j := 0) rfl
  have hblt := h.bk.hp.lt
  have hllt := h.hp.lt
  have hgw0 := h.bk.row.lt
  clear h
  go_enter Try.func72, Try.ntmps72
  go_wp2_with (first
    | (go_at_call 59; rw [HX.out]; go_must (refine (ldo_as HQ HHX.out.bk hl hc16 (by omega)).mono ?_); rintro e w1 ⟨rfl, hn1⟩; go_must (obtain ⟨v1, hD1⟩ := Mid.start HH.out hbX HrX.out hn1 (resCG 40 false 0 false 0 0); obtain ⟨Y, HY⟩ : ∃ Y, Hid (w1.alloc (.cells #[.int .i64 40, .bool false, .int .u64 0, .bool false, .int .u64 0, .int .u64 0] 47) = Y) := ⟨_, rfl⟩; have HD1 : Hid (Mid w B l b cap v vr Y w1.heap.size (resCG 40 false 0 false 0 0) v1 vr S R) := by { rw [← HY.out]; exact hD1 }; clear hD1 hn1))
    | (go_at_call 73; rw [HY.out]; go_must (refine (llevict_any HD1.out.ll hl hc16 (Nat.le_trans hB HD1.out.nx.chg.size) hR hR0 HOE HK HV).mono ?_); rintro e w2 ⟨rfl, hn2⟩; go_must (obtain ⟨v2, hD2⟩ := HD1.out.book hn2; have HD2 := keepG hD2; obtain ⟨Z, HZ, hbZ, hpZ⟩ : ∃ Z, Hid (w2.alloc (.cells #[.int .u64 okey, .int .u64 had] 80) = Z) ∧ Below w2.heap.size w2 Z ∧ Hp Z w2.heap.size 80 (ppC ⟨okey, had⟩) := ⟨_, rfl, below_allocG _ _, Hp.new w2 (ppC ⟨okey, had⟩) _⟩; have HPZ := keepG hpZ; have HDZ := keepG (hD2.below hbZ); have m0 := hD2.ll.hp.cell (j := 0) rfl; have hlt2 := hD2.ll.hp.lt; clear hD2 hn2 hpZ))
    | (go_at_call 59; rw [HZ.out]; go_must (refine (ldo_as HQ2 HDZ.out.ll.bk hl2 hc16 (Nat.le_trans hB HDZ.out.nx.chg.size)).mono ?_); rintro e w3 ⟨rfl, hn3⟩; go_must (obtain ⟨v3, hD3⟩ := HDZ.out.book hn3; have HD3 := keepG hD3; have HP3 := keepG (hn3.box HPZ.out (by have := HD2.out.ll.bk.hp.lt; omega) (fun e => by have := (HD2.out.ll.bk.row.lt _ e).2; omega)); have x0 := HD3.out.b9.cell (j := 0) rfl; have xf0 := HD3.out.b9.frozen 0; have x1 := HD3.out.b9.cell (j := 1) rfl; have xf1 := HD3.out.b9.frozen 1; have x2 := HD3.out.b9.cell (j := 2) rfl; have xf2 := HD3.out.b9.frozen 2; have x3 := HD3.out.b9.cell (j := 3) rfl; have xf3 := HD3.out.b9.frozen 3; have x4 := HD3.out.b9.cell (j := 4) rfl; have xf4 := HD3.out.b9.frozen 4; have x5 := HD3.out.b9.cell (j := 5) rfl; have xf5 := HD3.out.b9.frozen 5; clear hD3 hn3)))
  obtain ⟨W6, HW6, HD6, HP6⟩ : ∃ W6, Hid (((((((w3.setCell ⟨w1.heap.size, 0, none⟩ (.int .i64 E)).setCell ⟨w1.heap.size, 1, none⟩ (.bool f)).setCell ⟨w1.heap.size, 2, none⟩ (.int .u64 x)).setCell ⟨w1.heap.size, 3, none⟩ (.bool false)).setCell ⟨w1.heap.size, 4, none⟩ (.int .u64 0)).setCell ⟨w1.heap.size, 5, none⟩ (.int .u64 0)) = W6) ∧ Hid (Mid w B l b cap v vr W6 w1.heap.size (resCG E f x false 0 0) v3 vr S' R) ∧ Hid (Hp W6 w2.heap.size 80 (ppC ⟨okey, had⟩)) := by
    obtain ⟨hs, hg⟩ := six_sets (E := E) (f := f) (v := x) (o := false) (k := 0) (u := 0) HD3.out.b9 rfl
    exact ⟨_, rfl, HD3.out.box hg hs (Nat.le_of_lt HD3.out.gt), HP3.out.grown hg (fun e => by have := HD2.out.b9.lt; have := Option.some.inj e; omega)⟩
  rw [HW6.out]
  have z3 := HD6.out.b9.cell (j := 3) rfl; have zf3 := HD6.out.b9.frozen 3; have z4 := HD6.out.b9.cell (j := 4) rfl; have zf4 := HD6.out.b9.frozen 4; have z5 := HD6.out.b9.cell (j := 5) rfl; have zf5 := HD6.out.b9.frozen 5
  have p0 := HP6.out.cell (j := 0) rfl
  have p1 := HP6.out.cell (j := 1) rfl
  have n1 : ¬ w2.heap.size = w1.heap.size := by have := HD2.out.b9.lt; omega
  have n2 : ¬ w1.heap.size = w2.heap.size := by omega
  refine wp_region_held_drew (S := fun w' => w'.cell? ⟨w2.heap.size, 0, none⟩ = some (.int .u64 okey) ∧ w'.cell? ⟨w2.heap.size, 1, none⟩ = some (.int .u64 had)) (by kernel_rfl) ⟨p0, p1⟩ (fun hHeld => ?_)
  refine tkGo [0, 1, 2, 3, 4] ?_
  repeat (refine tkOne (v := ?_) rfl (by kernel_rfl) (by kernel_rfl) (by kernel_rfl) (fun _ _ _ h => h) (by assumption) (by rfl) ?_ ?_; rotate_left; (intro wy hSw; (try dsimp only at hSw); go_simp; (first | done | with_reducible rfl)); try simp only [Act.put, List.getElem_toArray, List.getElem_cons_zero, List.getElem_cons_succ, List.setIfInBounds_toArray, List.set_cons_zero, List.set_cons_succ])
  refine tkEnd ?_
  refine wpAnyH_ready (rs := [5]) (by kernel_rfl) (by simp) ?_
  refine AllReadyH.cons rfl (fun KK hK => ?_) AllReadyH.nil
  rw [if_pos (by rfl)]
  go_simp
  refine hK.out _ _ (by go_keep) (fun hHeld => ?_)
  clear hK KK
  try simp only [Act.put, List.getElem_toArray, List.getElem_cons_zero, List.getElem_cons_succ, List.setIfInBounds_toArray, List.set_cons_zero, List.set_cons_succ]
  refine tkGo [6] ?_
  repeat (refine tkOne (v := ?_) rfl (by kernel_rfl) (by kernel_rfl) (by kernel_rfl) (fun _ _ _ h => h) (by assumption) (by rfl) ?_ ?_; rotate_left; (intro wy hSw; (try dsimp only at hSw); go_simp; (first | done | with_reducible rfl)); try simp only [Act.put, List.getElem_toArray, List.getElem_cons_zero, List.getElem_cons_succ, List.setIfInBounds_toArray, List.set_cons_zero, List.set_cons_succ])
  refine tkEnd ?_
  refine wpAnyH_ready (rs := [7]) (by kernel_rfl) (by simp) ?_
  refine AllReadyH.cons rfl (fun KK hK => ?_) AllReadyH.nil
  rw [if_pos (by rfl)]
  go_simp
  refine hK.out _ _ (by go_keep) (fun hHeld => ?_)
  clear hK KK
  try simp only [Act.put, List.getElem_toArray, List.getElem_cons_zero, List.getElem_cons_succ, List.setIfInBounds_toArray, List.set_cons_zero, List.set_cons_succ]
  refine tkGo [8] ?_
  repeat (refine tkOne (v := ?_) rfl (by kernel_rfl) (by kernel_rfl) (by kernel_rfl) (fun _ _ _ h => h) (by assumption) (by rfl) ?_ ?_; rotate_left; (intro wy hSw; (try dsimp only at hSw); go_simp; (first | done | with_reducible rfl)); try simp only [Act.put, List.getElem_toArray, List.getElem_cons_zero, List.getElem_cons_succ, List.setIfInBounds_toArray, List.set_cons_zero, List.set_cons_succ])
  refine tkEnd ?_
  refine wpAnyH_ready (rs := [9]) (by kernel_rfl) (by simp) ?_
  refine AllReadyH.cons rfl (fun KK hK => ?_) AllReadyH.nil
  rw [if_pos (by rfl)]
  go_simp
  refine hK.out _ _ (by go_keep) (fun hHeld => ?_)
  clear hK KK
  try simp only [Act.put, List.getElem_toArray, List.getElem_cons_zero, List.getElem_cons_succ, List.setIfInBounds_toArray, List.set_cons_zero, List.set_cons_succ]
  refine wpAnyH_done (by kernel_rfl) ?_ _
  obtain ⟨W9, HW9, HD9⟩ : ∃ W9, Hid ((((W6.setCell ⟨w1.heap.size, 3, none⟩ (.bool true)).setCell ⟨w1.heap.size, 4, none⟩ (.int .u64 okey)).setCell ⟨w1.heap.size, 5, none⟩ (.int .u64 had)).drew = W9) ∧ Hid (Mid w B l b cap v vr W9 w1.heap.size (resCG E f x true okey had) v3 vr S' R) :=
    ⟨_, rfl, HD6.out.box (cs' := resCG E f x true okey had) (grown_drew (grown_sets w1.heap.size [.bool true, .int .u64 okey, .int .u64 had] W6 3)) (((HD6.out.b9.set 3 (.bool true)).set 4 (.int .u64 okey)).set 5 (.int .u64 had)).drew (Nat.le_of_lt HD6.out.gt)⟩
  rw [HW9.out]
  clear HP6 HD6 p0 p1 n1 n2 HW6 HP3 HD3 HPZ HDZ HD2 HD1 m0 hlt2 hHeld z3 zf3 z4 zf4 z5 zf5 x0 xf0 x1 xf1 x2 xf2 x3 xf3 x4 xf4 x5 xf5
  go_wp2_with (first
    | (go_at_call 74; skip; go_must (refine (llorder_any (O := O) HD9.out.ll (by omega) hR HO).mono ?_); rintro e w2 ⟨u2, rfl, ho2, hb2⟩; go_must (have HD2 := keepG (HD9.out.below hb2); have HD3 := keepG (HD2.out.recent ho2 (Nat.le_trans (Nat.le_refl _) HD9.out.nx.chg.size) (Nat.le_trans hB HD9.out.nx.chg.size)); obtain ⟨ua, uc, rfl⟩ := own_shape ho2; have HO3 := keepG HD3.out.ll.rc; have m1 := HD2.out.ll.hp.cell (j := 1) rfl; have mf1 := HD2.out.ll.hp.frozen 1; have x0 := HD2.out.b9.cell (j := 0) rfl; have xf0 := HD2.out.b9.frozen 0; have x1 := HD2.out.b9.cell (j := 1) rfl; have xf1 := HD2.out.b9.frozen 1; have x2 := HD2.out.b9.cell (j := 2) rfl; have xf2 := HD2.out.b9.frozen 2; have x3 := HD2.out.b9.cell (j := 3) rfl; have xf3 := HD2.out.b9.frozen 3; have x4 := HD2.out.b9.cell (j := 4) rfl; have xf4 := HD2.out.b9.frozen 4; have x5 := HD2.out.b9.cell (j := 5) rfl; have xf5 := HD2.out.b9.frozen 5; have ne1 : ¬ l = w1.heap.size := (by have := HD2.out.gt; omega); have ne2 : ¬ w1.heap.size = l := (by have := HD2.out.gt; omega); clear ho2 hb2))
    | (go_at_call 75; go_must (refine (ltouches_any op E f x true okey had HT).mono ?_); rintro e w4 ⟨rfl, hb4⟩; go_must (have HD4 := keepG (HD3.out.below hb4); have HO4 := keepG (own_below HO3.out hb4 (Nat.le_refl _)); clear hb4; clear x0 xf0 x1 xf1 x2 xf2 x3 xf3 x4 xf4 x5 xf5 m1 mf1; have m1 := HD4.out.ll.hp.cell (j := 1) rfl; have x0 := HD4.out.b9.cell (j := 0) rfl; have xf0 := HD4.out.b9.frozen 0; have x1 := HD4.out.b9.cell (j := 1) rfl; have xf1 := HD4.out.b9.frozen 1; have x2 := HD4.out.b9.cell (j := 2) rfl; have xf2 := HD4.out.b9.frozen 2; have x3 := HD4.out.b9.cell (j := 3) rfl; have xf3 := HD4.out.b9.frozen 3; have x4 := HD4.out.b9.cell (j := 4) rfl; have xf4 := HD4.out.b9.frozen 4; have x5 := HD4.out.b9.cell (j := 5) rfl; have xf5 := HD4.out.b9.frozen 5; have y0 := HD4.out.b8.cell (j := 0) rfl; have yf0 := HD4.out.b8.frozen 0; have y1 := HD4.out.b8.cell (j := 1) rfl; have yf1 := HD4.out.b8.frozen 1; have y2 := HD4.out.b8.cell (j := 2) rfl; have yf2 := HD4.out.b8.frozen 2; have y3 := HD4.out.b8.cell (j := 3) rfl; have yf3 := HD4.out.b8.frozen 3; have y4 := HD4.out.b8.cell (j := 4) rfl; have yf4 := HD4.out.b8.frozen 4; have y5 := HD4.out.b8.cell (j := 5) rfl; have yf5 := HD4.out.b8.frozen 5))
    | (go_at_call 76; go_must (refine (lfront_any key (own_seesG uC_len 0 HO4.out) (by omega) HF).mono ?_); rintro e w5 ⟨u5, rfl, ho5, hb5⟩; go_must (have HD5 := keepG (HD4.out.below hb5); have HD6 := keepG (HD5.out.recent ho5 (Nat.le_trans (Nat.le_refl _) HD4.out.nx.chg.size) (Nat.le_trans hB HD4.out.nx.chg.size)); obtain ⟨ta, tc, rfl⟩ := own_shape ho5; clear x0 xf0 y0 yf0 x1 xf1 y1 yf1 x2 xf2 y2 yf2 x3 xf3 y3 yf3 x4 xf4 y4 yf4 x5 xf5 y5 yf5 m1; have m1 := HD5.out.ll.hp.cell (j := 1) rfl; have mf1 := HD5.out.ll.hp.frozen 1; have x0 := HD5.out.b9.cell (j := 0) rfl; have xf0 := HD5.out.b9.frozen 0; have x1 := HD5.out.b9.cell (j := 1) rfl; have xf1 := HD5.out.b9.frozen 1; have x2 := HD5.out.b9.cell (j := 2) rfl; have xf2 := HD5.out.b9.frozen 2; have x3 := HD5.out.b9.cell (j := 3) rfl; have xf3 := HD5.out.b9.frozen 3; have x4 := HD5.out.b9.cell (j := 4) rfl; have xf4 := HD5.out.b9.frozen 4; have x5 := HD5.out.b9.cell (j := 5) rfl; have xf5 := HD5.out.b9.frozen 5; have y0 := HD5.out.b8.cell (j := 0) rfl; have yf0 := HD5.out.b8.frozen 0; have y1 := HD5.out.b8.cell (j := 1) rfl; have yf1 := HD5.out.b8.frozen 1; have y2 := HD5.out.b8.cell (j := 2) rfl; have yf2 := HD5.out.b8.frozen 2; have y3 := HD5.out.b8.cell (j := 3) rfl; have yf3 := HD5.out.b8.frozen 3; have y4 := HD5.out.b8.cell (j := 4) rfl; have yf4 := HD5.out.b8.frozen 4; have y5 := HD5.out.b8.cell (j := 5) rfl; have yf5 := HD5.out.b8.frozen 5; have ne3 : ¬ l = w.heap.size := (by omega); have ne4 : ¬ w.heap.size = l := (by omega); clear ho5 hb5)))
  exact HD6.out.fin
end
end Go.Proofs.Ytpbfgebecgikjaa
