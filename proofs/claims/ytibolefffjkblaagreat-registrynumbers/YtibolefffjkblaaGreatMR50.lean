/-
  W24Aw
  W24Nu
  W24NuW
-/
import Derived.Test.YtibolefffjkblaaGreatMR0
import Derived.Test.YtibolefffjkblaaGreatMR49
import Derived.Test.YtibolefffjkblaaGreatMR48
import Derived.Lib.SlBytesConst
namespace Go.Proofs.YtibolefffjkblaaGreat
open Go.RowKit
set_option linter.unusedVariables false
set_option linter.unusedSimpArgs false
set_option maxRecDepth 100000
def bs5 : List Int := [84, 80, 1, 1, 2, 2, 0, 0, 0, 8, 10, 22, 0, 0, 0, 0]
theorem five_dec : (decL bs5).2.2 = 0 /\ (decL bs5).1.1 = [2] := by decide +kernel
theorem five_jud : (judgeR (decL bs5).1.1 (decL bs5).1.2).2 = 0 := by decide +kernel
def rg5 : Rg := ⟨3, Tb.new 2, Ck.new 1, [⟨[2], (decL bs5).1.2, 0, 0⟩], []⟩
theorem five_load : (Rg.new 2 3 1).loadB bs5 = (1, 0, rg5) := by
 have e : errB bs5 = 0 := by unfold errB; rw [if_neg (by rw [five_dec.1]; decide)]; exact five_jud
 unfold Rg.loadB
 rw [e, five_dec.2]
 rfl
theorem five_put : ∃ t', (rg5.tb.put false 0 1) = (1, 0, t') /\ rg5.put false 0 1 = (1, 0, ⟨3, t', Ck.new 1, rg5.ps, []⟩) := ⟨_, rfl, rfl⟩
theorem sees_marked (w : World) (t : TypeId) (xs : List Int) (fr : Nat × Nat) (h : ∀ x ∈ xs, 0 <= x /\ x <= 255) (hl : xs.length <= 1000) : Sees .u8 (w.alloc (.cells (xs.map (Value.int .u8)).toArray t fr)) (.slice (some ⟨w.heap.size, 0, none⟩) xs.length xs.length) xs := by
 refine ⟨_, _, rfl, Nat.le_refl _, by unfold maxLen; omega, (fun e => by cases e), wf_bytes h, fun _ => ⟨w.heap.size, 0, rfl, by simp, fun i hi => ?_⟩⟩
 have e : (w.alloc (.cells (xs.map (Value.int .u8)).toArray t fr)).heap[w.heap.size]? = some (.cells (xs.map (Value.int .u8)).toArray t fr) := by
  show (w.heap.push _)[w.heap.size]? = _
  simp
 have e2 : (xs.map (Value.int .u8)).toArray[i]? = some (.int .u8 (xs.getD i 0)) := by
  simp [List.getD, hi]
 rw [Nat.zero_add]
 unfold World.cell?
 simp only [e, e2]
 rfl
theorem lfive (w : World) : Calls Tryz.prog 29 #[] w fun e w' => ∃ u, e = .returned u /\ Sees .u8 w' u bs5 /\ Below w.heap.size w w' := by
 obtain ⟨Z, hcv, HS, HB⟩ : ∃ Z, (convert 32 32 (.slice (some ⟨w.heap.size, 0, none⟩) 16 16)).run Tryz.prog (w.alloc (.cells #[.int .u8 84, .int .u8 80, .int .u8 1, .int .u8 1, .int .u8 2, .int .u8 2, .int .u8 0, .int .u8 0, .int .u8 0, .int .u8 8, .int .u8 10, .int .u8 22, .int .u8 0, .int .u8 0, .int .u8 0, .int .u8 0] 5)) = .ok (.slice (some ⟨w.heap.size, 0, none⟩) 16 16) Z /\ Hid (Sees .u8 Z (.slice (some ⟨w.heap.size, 0, none⟩) 16 16) bs5) /\ Hid (Below w.heap.size w Z) := ⟨_, Go.Lib.run_convert_bytes_const (P := Tryz.prog) w 32 5 (bs5.map (Value.int .u8)).toArray 16 16 Tryz.underlying32 Tryz.underlying5, sees_marked w 5 bs5 (16, 17) (by decide) (by decide), below_allocG w _⟩
 go_enter Tryz.func29, Tryz.ntmps29
 go_wp2
 go_ret
 exact ⟨_, rfl, HS.out, HB.out⟩
set_option maxHeartbeats 3200000 in
theorem awake24_any (w : World) : Calls Tryz.prog 8 #[] w fun e w' => e = .returned (.bool true) /\ Below w.heap.size w w' := by
 obtain ⟨t', ht, hp⟩ := five_put
 have HLD := keepG five_load
 have HPT := keepG hp
 have HN : Hid ((if inM (⟨3, t', Ck.new 1, rg5.ps, []⟩ : Rg).mp 2 = true then ((⟨3, t', Ck.new 1, rg5.ps, []⟩ : Rg).names 2, (0 : Int)) else (0, 2)) = (1, 0)) := by
  show _ = _
  rfl
 have hok5 : rg5.Ok := by
  have := (Rg.Ok.new (h := 2) (m := 3) (k := 1) (by omega) (by omega) (by omega) (by omega) (by omega)).loadB bs5
  rw [five_load] at this
  exact this
 have hokP : (⟨3, t', Ck.new 1, rg5.ps, []⟩ : Rg).Ok := by
  have := hok5.put false 0 1
  rw [hp] at this
  exact this
 have HBS : Hid (∀ x ∈ bs5, 0 <= x /\ x <= 255) := by
  show ∀ x ∈ bs5, 0 <= x /\ x <= 255
  decide
 have HOK5 := keepG hok5
 have HOKP := keepG hokP
 clear ht hp hok5 hokP
 go_enter Tryz.func8, Tryz.ntmps8
 go_wp2_with (first
  | (go_at_call 9; go_must (refine (lz24_new (w0 := w) 2 3 1 (by omega) (by omega) (by omega) (by omega) (by omega) (Below.refl _ _)).mono ?_); rintro e w1 ⟨b, bt, br, bc, G, rfl, hL⟩; go_must (have HL := keepG hL; clear hL))
  | (go_at_call 29; go_must (refine (lfive _).mono ?_); rintro e w2 ⟨u, rfl, hs, hb⟩; go_must (have HL2 := keepG (HL.out.below hb); have HS := keepG hs; obtain ⟨ua, uc, eu⟩ : ∃ ua uc, u = .slice ua bs5.length uc := (by obtain ⟨a, c, e, _⟩ := hs; exact ⟨a, c, e⟩); subst eu; clear hb hs))
  | (go_at_call 25; go_must (refine (HL2.out.reg.load HL2.out.ok (by simp [Rg.new]) HS.out HBS.out HLD).mono ?_); rintro e w3 ⟨rfl, G3, hl, hn⟩; go_must (have HL3 := keepG (HL2.out.next hl hn HOK5.out); clear hl hn))
  | (go_at_call 19; go_must (refine (HL3.out.reg.attach HL3.out.ok (by decide) 0 1 HPT).mono ?_); rintro e w4 ⟨rfl, G4, hl, hn⟩; go_must (have HL4 := keepG (HL3.out.next hl hn HOKP.out); have c1 := HL4.out.low.2.1; clear hl hn))
  | (go_at_call 18; go_must (refine (HL4.out.reg.count HL4.out.ok 2 HN).mono ?_); rintro e w5 ⟨rfl, hb⟩; go_must (have HL5 := keepG (HL4.out.below hb); clear hb)))
 go_ret
 exact ⟨rfl, HL5.out.be⟩
set_option maxHeartbeats 3200000 in
theorem wints24 {w : World} {va vb : Value} {A : List Int} (ha : Sees .i64 w va A) (hb : Sees .i64 w vb A) : Calls Tryz.prog 27 #[va, vb] w fun e w' => e = .returned (.bool true) /\ Below w.heap.size w w' := by
 have HA := keepG (fun (wr : World) (hc : Below w.heap.size w wr) => ha.below hc (Nat.le_refl _))
 have HB := keepG (fun (wr : World) (hc : Below w.heap.size w wr) => hb.below hc (Nat.le_refl _))
 obtain ⟨a1, c1, rfl, hc1, hm1, _⟩ := ha
 obtain ⟨a2, c2, rfl, hc2, hm2, _⟩ := hb
 unfold maxLen at hm1 hm2
 have hAl : A.length <= 9223372036854775807 := by omega
 go_enter Tryz.func27, Tryz.ntmps27
 go_wp2
 go_loopw [5] (fun i wr => ∃ j : Nat, j <= A.length /\ i = .int .i64 j /\ Hid (Below w.heap.size w wr)) (fun i _ => A.length - (intOf i).toNat)
 case atStart => exact ⟨0, by omega, rfl, Below.refl _ _⟩
 case round =>
  obtain ⟨j, hj, rfl, HBW⟩ := hrel
  rename World => wr
  by_cases hlt : j < A.length
  ·have hltI : (j : Int) < A.length := by omega
   obtain ⟨p1, o1, ev1, hat1⟩ : ∃ p1 o1, a1 = some ⟨p1, o1, none⟩ /\ wr.cell? ⟨p1, o1 + j, none⟩ = some (.int .i64 (A.getD j 0)) := by
    obtain ⟨a, c, e, _, _, _, _, h⟩ := HA.out wr HBW.out
    injection e with e _ _
    subst e
    obtain ⟨p, o, rfl, _, h⟩ := h (fun e => by rw [e] at hlt; simp at hlt)
    exact ⟨p, o, rfl, h j hlt⟩
   obtain ⟨p2, o2, ev2, hat2⟩ : ∃ p1 o1, a2 = some ⟨p1, o1, none⟩ /\ wr.cell? ⟨p1, o1 + j, none⟩ = some (.int .i64 (A.getD j 0)) := by
    obtain ⟨a, c, e, _, _, _, _, h⟩ := HB.out wr HBW.out
    injection e with e _ _
    subst e
    obtain ⟨p, o, rfl, _, h⟩ := h (fun e => by rw [e] at hlt; simp at hlt)
    exact ⟨p, o, rfl, h j hlt⟩
   subst ev1 ev2
   obtain ⟨x, HX⟩ : ∃ x, Hid (A.getD j 0 = x) := ⟨_, rfl⟩
   rw [HX.out] at hat1 hat2
   have HBd := keepG (below_drG HBW.out)
   go_wp2
   refine wp_region_held_drew (S := fun w' => w'.cell? ⟨p1, o1 + j, none⟩ = some (.int .i64 x) /\ w'.cell? ⟨p2, o2 + j, none⟩ = some (.int .i64 x)) (by kernel_rfl) ⟨hat1, hat2⟩ (fun hHeld => ?_)
   refine tkGo [0, 1, 2, 3, 4, 5, 6, 7, 8] ?_
   repeat (refine tkO (v := ?_) rfl ?_ ?_; rotate_left; (intro wy hSw; (try dsimp only at hSw); go_simp; (first | done | with_reducible rfl)); try simp only [Act.put, p1q, p2q, p3q, p4q, p5q, p6q])
   refine tkEnd ?_
   refine wpAnyH_done (by kernel_rfl) ?_ _
   clear hHeld
   go_wp2
   go_roundw
   case rel => exact ⟨j + 1, by omega, by go_num, HBd.out⟩
   case measure => simp [intOf]; omega
  ·have hltI : ¬ (j : Int) < A.length := by omega
   go_wp2
   go_ret
   exact ⟨rfl, HBW.out⟩
def z130 : List Value := bC (List.replicate 130 false)
theorem run_makeB130 (w : World) : (Instr.makeSlice 37 (.int .i64 130) (.int .i64 130)).run Tryz.prog w = .ok (.slice (some ⟨w.heap.size, 0, none⟩) 130 130) (w.alloc (.cells z130.toArray 4)) := by
 have hib : (Tryz.prog.info? 4).map (fun i => (i.zero, i.size, i.bytes)) = some (some (.bool false), 1, 1) := by kernel_rfl
 obtain ⟨i, h1, h2, h3, h4⟩ := info_parts hib
 have := run_make (P := Tryz.prog) w 37 4 i _ Tryz.underlying37 h1 h2 .i64 .i64 130 130 (by omega) (Int.le_refl _) (by rw [h4]; omega) (by omega)
 rw [h3] at this
 have e0 : madeCells (Value.bool false).cells (Int.toNat 130 * 1) = z130.toArray := by kernel_rfl
 rw [e0] at this
 exact this
structure Nu (w0 wr : World) (b bt br bc : Nat) (G : Ft) (r : Rg) (rb : Nat) : Prop where
 lz : Lz24 w0 wr b bt br bc G r
 row : Hp wr rb 4 (bC (rtB r))
 ap : ¬ G rb
 new : w0.heap.size <= rb
section
variable {w0 wr wr' : World} {b bt br bc rb : Nat} {G G' : Ft} {r r' : Rg}
theorem Nu.below (h : Nu w0 wr b bt br bc G r rb) (hb : Below wr.heap.size wr wr') : Nu w0 wr' b bt br bc G r rb := ⟨h.lz.below hb, h.row.below hb h.row.lt, h.ap, h.new⟩
theorem Nu.next (h : Nu w0 wr b bt br bc G r rb) (hl : Lz24 w0 wr' b bt br bc G' r') (hn : Nx wr wr' G G') : Lz24 w0 wr' b bt br bc G' r' /\ Hp wr' rb 4 (bC (rtB r)) /\ ¬ G' rb := ⟨hl, h.row.chg hn.chg h.ap, fun e => (hn.new rb e).elim h.ap (fun q => by have := h.row.lt; omega)⟩
theorem Nu.at (h : Hp wr rb 4 (bC (rtB r))) {n : Nat} (hn : n < 130) : wr.cell? ⟨rb, n, none⟩ = some (.bool (rtd r n)) := h.cell (by simp [bC, rtB, hn])
theorem Nu.set (hl : Lz24 w0 wr b bt br bc G r') (h : Hp wr rb 4 (bC (rtB r))) (ha : ¬ G rb) (hn : w0.heap.size <= rb) {m : Nat} (e : rtB r' = (rtB r).set m true) : Nu w0 (wr.setCell ⟨rb, m, none⟩ (.bool true)) b bt br bc G r' rb := by
 have hp := h.set m (.bool true)
 have e2 : (bC (rtB r)).set m (.bool true) = bC (rtB r') := by rw [e]; simp [bC, List.map_set]
 rw [e2] at hp
 exact ⟨hl.keeps (Chg.set wr rb m _) (fun k e => by rw [e]; exact ha) (fun k e => by rw [e]; exact hn), hp, ha, hn⟩
end
set_option maxHeartbeats 12800000 in
theorem numbers_walk (v : Value) (xs : List Ow24) (w : World) (hsc : Scr24 w v xs) : Calls Tryz.prog 7 #[v] w fun e w' => e = .returned (.bool true) /\ Below w.heap.size w w' := by
 obtain ⟨i0, hi0, hz0, hzs, hzb⟩ := info_parts infoIntN
 have HSC := keepG hsc
 obtain ⟨a, cap, rfl, hlc, hmx⟩ := hsc.sees.shape
 have hmk := run_makeB130
 clear hsc
 go_enter Tryz.func7, Tryz.ntmps7
 go_wp2_with (first
  | (go_at_call 8; go_must (refine (awake24_any _).mono ?_); rintro e wa ⟨rfl, hb⟩; go_must (have HBA := keepG hb; clear hb))
  | (go_at_call 9; go_must (refine (lz24_new (w0 := w) 3 4 2 (by omega) (by omega) (by omega) (by omega) (by omega) HBA.out).mono ?_); rintro e wn ⟨b, bt, br, bc, G0, rfl, hL⟩; go_must (obtain ⟨WR, HWR, HNU⟩ : ∃ WR, Hid (wn.alloc (.cells z130.toArray 4) = WR) /\ Hid (Nu w WR b bt br bc G0 (Rg.new 3 4 2) wn.heap.size) := ⟨_, rfl, hL.below (below_allocG _ _), (by rw [rtB_new]; exact Hp.new wn _ _), fun e => (by have := hL.reg.lies _ e; omega), hL.be.size⟩; clear hL))
  | (rw [HWR.out]))
 obtain ⟨rb, HRB⟩ : ∃ rb, Hid (wn.heap.size = rb) := ⟨_, rfl⟩
 rw [HRB.out] at HNU ⊢
 go_loopw [5, 6, 8] (fun la ve i wr => ∃ j : Nat, j <= xs.length /\ j <= 120 /\ ∃ G r, i = .int .i64 j /\ la = .int .i64 r.ps.length /\ ve = .int .i64 r.tb.last /\ Hid (r.Few j) /\ Hid (Nu w wr b bt br bc G r rb)) (fun _ _ i _ => xs.length - (intOf i).toNat)
 case atStart => exact ⟨0, by omega, by omega, G0, Rg.new 3 4 2, rfl, rfl, rfl, Rg.Few.new _ _ _, HNU.out⟩
 case round =>
  rename_i la ve wr
  obtain ⟨j, hj, hj2, G, r, rfl, rfl, rfl, HF, HN⟩ := hrel
  by_cases hlt : j < xs.length /\ j < 120
  ·obtain ⟨hltN, h120⟩ := hlt
   have hltI : (j : Int) < xs.length := by omega
   have h120I : (j : Int) < 120 := by omega
   obtain ⟨o, HOO⟩ : ∃ o, Hid (xs.getD j Ow24.nil = o) := ⟨_, rfl⟩
   obtain ⟨p, off, ea, ⟨d0, d1, d2, d3⟩, hsee, hwx, hln⟩ := HSC.out.at HN.out.lz.be hltN HOO.out
   subst ea
   obtain ⟨ok, ox, op, ou, ows⟩ := o
   simp only at d0 d1 d2 d3 hsee hwx hln
   obtain ⟨ua, uc, eu⟩ : ∃ ua uc, ou = .slice ua ows.length uc := by obtain ⟨a, c, e, _⟩ := hsee; exact ⟨a, c, e⟩
   subst eu
   obtain ⟨W1, W2, HW1, HW2, ⟨n0, n1, n2, n3⟩, ⟨f0, f1, f2, f3⟩, HP2, HB2⟩ := box_op24 wr ok ox op ua ows.length uc
   have HN2 := keepG (HN.out.below HB2.out)
   have HS2 := keepG (hsee.below HB2.out (Nat.le_refl _))
   have b0 := HP2.out.cell (j := 0) rfl
   have b1 := HP2.out.cell (j := 1) rfl
   have b2 := HP2.out.cell (j := 2) rfl
   have b3 := HP2.out.cell (j := 3) rfl
   have hbz := HB2.out.size
   have hbox := HP2.out.lt
   obtain ⟨⟨n, E, r'⟩, HQ⟩ : ∃ q, Hid (r.play ok ox op ows = q) := ⟨_, rfl⟩
   have HFW := keepG (play_few HF.out HQ.out)
   have HPL := keepG (play24 HN2.out.lz HF.out (by omega) ok ox op HS2.out hln hwx HQ)
   have HAFT : Hid (∀ G' w3, Lz24 w w3 b bt br bc G' r' -> Nx W2 w3 G G' -> (Hp w3 rb 4 (bC (rtB r)) /\ ¬ G' rb) /\ Hp w3 wr.heap.size 34 [.int .i64 ok, .int .i64 ox, .int .i64 op, .slice ua ows.length uc]) := by
    intro G' w3 hl hn
    obtain ⟨-, k1, k2⟩ := HN2.out.next hl hn
    exact ⟨⟨k1, k2⟩, HP2.out.chg hn.chg (fun e => by have := HN.out.lz.reg.lies _ e; omega)⟩
   clear hsee
   by_cases hE : E = 0
   ·have HEE := keepG hE
    subst hE
    by_cases k0 : ok = 0
    ·as_aux_lemma =>
      subst k0
      obtain ⟨en, e1, e2, e3⟩ := play_load HQ.out
      have HLE := keepG e1
      have HVE : Hid (r'.tb.last = r.tb.last) := by show _ = _; rw [e2]
      have HRT := keepG e3
      subst en
      have hb0 : ((r.ps.length : Int) + 1 != (r.ps.length : Int) + 1) = false := by simp
      have hw1 : IntKind.i64.wrap ((r.ps.length : Int) + 1) = (r.ps.length : Int) + 1 := by rw [IntKind.wrap_i64]; have := HF.out.ps; omega
      clear e1 e2 e3
      go_wp2_with (first
       | (rw [HW1.out])
       | (rw [HW2.out])
       | (go_at_call 14; go_must (refine HPL.out.mono ?_); rintro e3 w3 ⟨rfl, G', hl3, hn3⟩; go_must (obtain ⟨⟨r3, a3⟩, p3⟩ := HAFT.out G' w3 hl3 hn3; have HL3 := keepG hl3; have HR3 := keepG r3; have HA3 := keepG a3; have HP3 := keepG p3; clear b0 b1 b2 b3; have b0 := HP3.out.cell (j := 0) rfl; have b2 := HP3.out.cell (j := 2) rfl; clear hl3 hn3 r3 a3 p3)))
      have HNL : Hid (Nu w w3 b bt br bc G' r' rb) := ⟨HL3.out, by rw [HRT.out]; exact HR3.out, HA3.out, HN.out.new⟩
      have hl130 : r'.ps.length <= 120 := by have := HFW.out.ps; omega
      have hvb : (r'.tb.last != r.tb.last) = false := by rw [HVE.out]; simp
      go_loopw [12, 13] (fun u kk wq => ∃ d : Nat, d <= r'.ps.length /\ kk = .int .i64 ((d : Int) + 1) /\ Hid (RoN wq w3.heap.size u (lvT r' d)) /\ Hid (Below w3.heap.size w3 wq)) (fun _ kk _ => r'.ps.length + 1 - (intOf kk).toNat)
      case atStart => exact ⟨0, by omega, rfl, RoN.nil _ _, Below.refl _ _⟩
      case round =>
       rename World => wq
       obtain ⟨d, hd, rfl, HO, HBQ⟩ := hrel
       obtain ⟨va, vc, ev⟩ := own_shape HO.out
       subst ev
       have HNQ := keepG (HNL.out.below HBQ.out)
       by_cases hdl : d < r'.ps.length
       ·have hdI : (d : Int) + 1 <= (r.ps.length : Int) + 1 := by have := HLE.out; omega
        have hdc : wq.cell? ⟨rb, d + 1, none⟩ = some (.bool (rtd r' (d + 1))) := Nu.at HNQ.out.row (by omega)
        have hd0 : (0 : Int) <= (d : Int) + 1 := by omega
        have hd1 : (d : Int) + 1 < 130 := by omega
        have hdn : ((d : Int) + 1).toNat = d + 1 := by omega
        have HM := keepG (lvT_more r' d)
        have hYl := lvT_len r' d
        obtain ⟨Y, HY⟩ : ∃ Y, Hid (lvT r' d = Y) := ⟨_, rfl⟩
        rw [HY.out] at HM HO hYl ⊢
        by_cases hst : r'.st ((d : Int) + 1) = 0
        ·have hrt : rtd r' (d + 1) = false := decide_eq_false (fun g => g.2.2 (by push_cast; exact hst))
         rw [hrt] at hdc
         have HM2 : Hid (lvT r' (d + 1) = Y ++ [(d : Int) + 1]) := by show _ = _; rw [HM.out, if_pos hst]
         clear hst hrt
         have hzq := HBQ.out.size
         go_wp2_with (at_builtin; go_must (refine wpList_append_wide _ rfl _ _ 38 rfl w3.heap.size 3 i0 (.int .i64 0) 1 8 Tryz.underlying38 hi0 hz0 hzs hzb rfl (by decide) _ _ _ rfl (HO.out.alloc _) ⟨_, 0, none⟩ 1 1 [.int .i64 ((d : Int) + 1)] rfl rfl (cell_one_new _ _ _) (one_cell _ _) (by unfold maxLen; omega) (by omega) (by simp; omega) ?_); intro v' w5 hown' hgrow _; go_must (have HR5 := keepG (HO.out.more HBQ.out (Nat.le_refl _) hown' hgrow); clear hown' hgrow))
         go_roundw
         case rel => exact ⟨d + 1, by omega, by go_num, by rw [HM2.out]; exact HR5.out.1, HR5.out.2⟩
         case measure => simp [intOf]; omega
        ·have hrt : rtd r' (d + 1) = true := decide_eq_true ⟨by omega, by omega, by push_cast; exact hst⟩
         rw [hrt] at hdc
         have HM2 : Hid (lvT r' (d + 1) = Y) := by show _ = _; rw [HM.out, if_neg hst]
         clear hst hrt
         go_wp2
         go_roundw
         case rel => exact ⟨d + 1, by omega, by go_num, by rw [HM2.out]; exact HO.out, HBQ.out⟩
         case measure => simp [intOf]; omega
       ·have hdI : ¬ (d : Int) + 1 <= (r.ps.length : Int) + 1 := by have := HLE.out; omega
        have HLV : Hid (lvT r' d = r'.live) := by
         show _ = _
         rw [show d = r'.ps.length by omega, lvT_all]
        rw [HLV.out] at HO ⊢
        have HWF : Hid (∀ x ∈ r'.live, (Lit.int .i64 x).wf = true) := fun x hx => by
         have := Rg.st_in (r := r') (n := x) (by rw [Rg.live_mem.1 hx]; decide)
         exact wf_smallR (by omega) (by omega)
        have HSA := keepG (Sees.own HO.out HWF.out)
        obtain ⟨lv, HLVN⟩ : ∃ lv, Hid (r'.live = lv) := ⟨_, rfl⟩
        have HLIVE := keepG (HNQ.out.lz.reg.live HNQ.out.lz.ok)
        rw [HLVN.out] at HSA HWF HLIVE ⊢
        clear HO HLV
        go_wp2_with (first
         | (go_at_call 15; go_must (refine HLIVE.out.mono ?_); rintro e6 w6 ⟨u6, rfl, hu6, hb6⟩; go_must (have HSB := keepG (Sees.own hu6 HWF.out); have HSA6 := keepG (HSA.out.below hb6 (Nat.le_refl _)); have HN6 := keepG (HNQ.out.below hb6); obtain ⟨ya, yc, ey⟩ := own_shape hu6; subst ey; clear hu6 hb6))
         | (go_at_call 27; go_must (refine (wints24 HSB.out HSA6.out).mono ?_); rintro e7 w7 ⟨rfl, hb7⟩; go_must (have HN7 := keepG (HN6.out.below hb7); have k0 := HN7.out.lz.low.1; clear hb7))
         | (go_at_call 28; go_must (refine HN7.out.lz.reg.last.mono ?_); rintro e8 w8 ⟨rfl, rfl⟩))
        go_roundw
        case rel => exact ⟨j + 1, by omega, by omega, G', r', by go_num, (by rw [HLE.out]; push_cast; rfl), by rw [HVE.out], HFW.out, HN7.out⟩
        case measure => simp [intOf]; omega
    by_cases k1 : ok = 1
    ·as_aux_lemma =>
      subst k1
      obtain ⟨en, e1, e2, e3, e4⟩ := play_put (.inl rfl) HQ.out
      have HLE := keepG e2
      have HVE := keepG e1
      have HRT := keepG e3
      subst en
      have hb0 : (r.tb.last + 1 != r.tb.last + 1) = false := by simp
      have hw1 : IntKind.i64.wrap (r.tb.last + 1) = r.tb.last + 1 := by rw [IntKind.wrap_i64]; have := HF.out.la; have := HN.out.lz.ok.tb.last; omega
      obtain ⟨m, rfl⟩ : ∃ m : Nat, op = m := ⟨op.toNat, by omega⟩
      have hrt : rtd r m = false := decide_eq_false (fun g => g.2.2 e4.2.2)
      have hm130 : m < 130 := by have := HF.out.ps; omega
      have hm130I : (m : Int) < 130 := by omega
      have hp1 : ¬ (m : Int) < 1 := by omega
      have hp2 : ¬ (m : Int) > r.ps.length := by omega
      have hp1d : decide ((m : Int) < 1) = false := decide_eq_false hp1
      have hp2d : decide ((m : Int) > r.ps.length) = false := decide_eq_false hp2
      have hp4 : ¬ r.ps.length < m := by omega
      have hp4d : decide (r.ps.length < m) = false := decide_eq_false hp4
      have hp3d : decide ((r.ps.length : Int) < m) = false := decide_eq_false hp2
      clear e1 e2 e3
      go_wp2_with (first
       | (rw [HW1.out])
       | (rw [HW2.out])
       | (go_at_call 14; go_must (refine HPL.out.mono ?_); rintro e3 w3 ⟨rfl, G', hl3, hn3⟩; go_must (obtain ⟨⟨r3, a3⟩, p3⟩ := HAFT.out G' w3 hl3 hn3; have HL3 := keepG hl3; have HR3 := keepG r3; have HA3 := keepG a3; have HP3 := keepG p3; clear b0 b1 b2 b3; have b0 := HP3.out.cell (j := 0) rfl; have b2 := HP3.out.cell (j := 2) rfl; have dd := Nu.at r3 hm130; rw [hrt] at dd; clear hl3 hn3 r3 a3 p3)))
      have HNL : Hid (Nu w w3 b bt br bc G' r' rb) := ⟨HL3.out, by rw [HRT.out]; exact HR3.out, HA3.out, HN.out.new⟩
      have hl130 : r'.ps.length <= 120 := by have := HFW.out.ps; omega
      have hvb : (r'.tb.last != r.tb.last + 1) = false := by rw [HVE.out]; simp
      go_loopw [12, 13] (fun u kk wq => ∃ d : Nat, d <= r'.ps.length /\ kk = .int .i64 ((d : Int) + 1) /\ Hid (RoN wq w3.heap.size u (lvT r' d)) /\ Hid (Below w3.heap.size w3 wq)) (fun _ kk _ => r'.ps.length + 1 - (intOf kk).toNat)
      case atStart => exact ⟨0, by omega, rfl, RoN.nil _ _, Below.refl _ _⟩
      case round =>
       rename World => wq
       obtain ⟨d, hd, rfl, HO, HBQ⟩ := hrel
       obtain ⟨va, vc, ev⟩ := own_shape HO.out
       subst ev
       have HNQ := keepG (HNL.out.below HBQ.out)
       by_cases hdl : d < r'.ps.length
       ·have hdI : (d : Int) + 1 <= (r.ps.length : Int) := by have := HLE.out; omega
        have hdc : wq.cell? ⟨rb, d + 1, none⟩ = some (.bool (rtd r' (d + 1))) := Nu.at HNQ.out.row (by omega)
        have hd0 : (0 : Int) <= (d : Int) + 1 := by omega
        have hd1 : (d : Int) + 1 < 130 := by omega
        have hdn : ((d : Int) + 1).toNat = d + 1 := by omega
        have HM := keepG (lvT_more r' d)
        have hYl := lvT_len r' d
        obtain ⟨Y, HY⟩ : ∃ Y, Hid (lvT r' d = Y) := ⟨_, rfl⟩
        rw [HY.out] at HM HO hYl ⊢
        by_cases hst : r'.st ((d : Int) + 1) = 0
        ·have hrt : rtd r' (d + 1) = false := decide_eq_false (fun g => g.2.2 (by push_cast; exact hst))
         rw [hrt] at hdc
         have HM2 : Hid (lvT r' (d + 1) = Y ++ [(d : Int) + 1]) := by show _ = _; rw [HM.out, if_pos hst]
         clear hst hrt
         have hzq := HBQ.out.size
         go_wp2_with (at_builtin; go_must (refine wpList_append_wide _ rfl _ _ 38 rfl w3.heap.size 3 i0 (.int .i64 0) 1 8 Tryz.underlying38 hi0 hz0 hzs hzb rfl (by decide) _ _ _ rfl (HO.out.alloc _) ⟨_, 0, none⟩ 1 1 [.int .i64 ((d : Int) + 1)] rfl rfl (cell_one_new _ _ _) (one_cell _ _) (by unfold maxLen; omega) (by omega) (by simp; omega) ?_); intro v' w5 hown' hgrow _; go_must (have HR5 := keepG (HO.out.more HBQ.out (Nat.le_refl _) hown' hgrow); clear hown' hgrow))
         go_roundw
         case rel => exact ⟨d + 1, by omega, by go_num, by rw [HM2.out]; exact HR5.out.1, HR5.out.2⟩
         case measure => simp [intOf]; omega
        ·have hrt : rtd r' (d + 1) = true := decide_eq_true ⟨by omega, by omega, by push_cast; exact hst⟩
         rw [hrt] at hdc
         have HM2 : Hid (lvT r' (d + 1) = Y) := by show _ = _; rw [HM.out, if_neg hst]
         clear hst hrt
         go_wp2
         go_roundw
         case rel => exact ⟨d + 1, by omega, by go_num, by rw [HM2.out]; exact HO.out, HBQ.out⟩
         case measure => simp [intOf]; omega
       ·have hdI : ¬ (d : Int) + 1 <= (r.ps.length : Int) := by have := HLE.out; omega
        have HLV : Hid (lvT r' d = r'.live) := by
         show _ = _
         rw [show d = r'.ps.length by omega, lvT_all]
        rw [HLV.out] at HO ⊢
        have HWF : Hid (∀ x ∈ r'.live, (Lit.int .i64 x).wf = true) := fun x hx => by
         have := Rg.st_in (r := r') (n := x) (by rw [Rg.live_mem.1 hx]; decide)
         exact wf_smallR (by omega) (by omega)
        have HSA := keepG (Sees.own HO.out HWF.out)
        obtain ⟨lv, HLVN⟩ : ∃ lv, Hid (r'.live = lv) := ⟨_, rfl⟩
        have HLIVE := keepG (HNQ.out.lz.reg.live HNQ.out.lz.ok)
        rw [HLVN.out] at HSA HWF HLIVE ⊢
        clear HO HLV
        go_wp2_with (first
         | (go_at_call 15; go_must (refine HLIVE.out.mono ?_); rintro e6 w6 ⟨u6, rfl, hu6, hb6⟩; go_must (have HSB := keepG (Sees.own hu6 HWF.out); have HSA6 := keepG (HSA.out.below hb6 (Nat.le_refl _)); have HN6 := keepG (HNQ.out.below hb6); obtain ⟨ya, yc, ey⟩ := own_shape hu6; subst ey; clear hu6 hb6))
         | (go_at_call 27; go_must (refine (wints24 HSB.out HSA6.out).mono ?_); rintro e7 w7 ⟨rfl, hb7⟩; go_must (have HN7 := keepG (HN6.out.below hb7); have k0 := HN7.out.lz.low.1; clear hb7))
         | (go_at_call 28; go_must (refine HN7.out.lz.reg.last.mono ?_); rintro e8 w8 ⟨rfl, rfl⟩))
        go_roundw
        case rel => exact ⟨j + 1, by omega, by omega, G', r', by go_num, (by rw [HLE.out]), by rw [HVE.out], HFW.out, HN7.out⟩
        case measure => simp [intOf]; omega
    by_cases k2 : ok = 2
    ·as_aux_lemma =>
      subst k2
      obtain ⟨en, e1, e2, e3, e4⟩ := play_put (.inr rfl) HQ.out
      have HLE := keepG e2
      have HVE := keepG e1
      have HRT := keepG e3
      subst en
      have hb0 : (r.tb.last + 1 != r.tb.last + 1) = false := by simp
      have hw1 : IntKind.i64.wrap (r.tb.last + 1) = r.tb.last + 1 := by rw [IntKind.wrap_i64]; have := HF.out.la; have := HN.out.lz.ok.tb.last; omega
      obtain ⟨m, rfl⟩ : ∃ m : Nat, op = m := ⟨op.toNat, by omega⟩
      have hrt : rtd r m = false := decide_eq_false (fun g => g.2.2 e4.2.2)
      have hm130 : m < 130 := by have := HF.out.ps; omega
      have hm130I : (m : Int) < 130 := by omega
      have hp1 : ¬ (m : Int) < 1 := by omega
      have hp2 : ¬ (m : Int) > r.ps.length := by omega
      have hp1d : decide ((m : Int) < 1) = false := decide_eq_false hp1
      have hp2d : decide ((m : Int) > r.ps.length) = false := decide_eq_false hp2
      have hp4 : ¬ r.ps.length < m := by omega
      have hp4d : decide (r.ps.length < m) = false := decide_eq_false hp4
      have hp3d : decide ((r.ps.length : Int) < m) = false := decide_eq_false hp2
      clear e1 e2 e3
      go_wp2_with (first
       | (rw [HW1.out])
       | (rw [HW2.out])
       | (go_at_call 14; go_must (refine HPL.out.mono ?_); rintro e3 w3 ⟨rfl, G', hl3, hn3⟩; go_must (obtain ⟨⟨r3, a3⟩, p3⟩ := HAFT.out G' w3 hl3 hn3; have HL3 := keepG hl3; have HR3 := keepG r3; have HA3 := keepG a3; have HP3 := keepG p3; clear b0 b1 b2 b3; have b0 := HP3.out.cell (j := 0) rfl; have b2 := HP3.out.cell (j := 2) rfl; have dd := Nu.at r3 hm130; rw [hrt] at dd; clear hl3 hn3 r3 a3 p3)))
      have HNL : Hid (Nu w w3 b bt br bc G' r' rb) := ⟨HL3.out, by rw [HRT.out]; exact HR3.out, HA3.out, HN.out.new⟩
      have hl130 : r'.ps.length <= 120 := by have := HFW.out.ps; omega
      have hvb : (r'.tb.last != r.tb.last + 1) = false := by rw [HVE.out]; simp
      go_loopw [12, 13] (fun u kk wq => ∃ d : Nat, d <= r'.ps.length /\ kk = .int .i64 ((d : Int) + 1) /\ Hid (RoN wq w3.heap.size u (lvT r' d)) /\ Hid (Below w3.heap.size w3 wq)) (fun _ kk _ => r'.ps.length + 1 - (intOf kk).toNat)
      case atStart => exact ⟨0, by omega, rfl, RoN.nil _ _, Below.refl _ _⟩
      case round =>
       rename World => wq
       obtain ⟨d, hd, rfl, HO, HBQ⟩ := hrel
       obtain ⟨va, vc, ev⟩ := own_shape HO.out
       subst ev
       have HNQ := keepG (HNL.out.below HBQ.out)
       by_cases hdl : d < r'.ps.length
       ·have hdI : (d : Int) + 1 <= (r.ps.length : Int) := by have := HLE.out; omega
        have hdc : wq.cell? ⟨rb, d + 1, none⟩ = some (.bool (rtd r' (d + 1))) := Nu.at HNQ.out.row (by omega)
        have hd0 : (0 : Int) <= (d : Int) + 1 := by omega
        have hd1 : (d : Int) + 1 < 130 := by omega
        have hdn : ((d : Int) + 1).toNat = d + 1 := by omega
        have HM := keepG (lvT_more r' d)
        have hYl := lvT_len r' d
        obtain ⟨Y, HY⟩ : ∃ Y, Hid (lvT r' d = Y) := ⟨_, rfl⟩
        rw [HY.out] at HM HO hYl ⊢
        by_cases hst : r'.st ((d : Int) + 1) = 0
        ·have hrt : rtd r' (d + 1) = false := decide_eq_false (fun g => g.2.2 (by push_cast; exact hst))
         rw [hrt] at hdc
         have HM2 : Hid (lvT r' (d + 1) = Y ++ [(d : Int) + 1]) := by show _ = _; rw [HM.out, if_pos hst]
         clear hst hrt
         have hzq := HBQ.out.size
         go_wp2_with (at_builtin; go_must (refine wpList_append_wide _ rfl _ _ 38 rfl w3.heap.size 3 i0 (.int .i64 0) 1 8 Tryz.underlying38 hi0 hz0 hzs hzb rfl (by decide) _ _ _ rfl (HO.out.alloc _) ⟨_, 0, none⟩ 1 1 [.int .i64 ((d : Int) + 1)] rfl rfl (cell_one_new _ _ _) (one_cell _ _) (by unfold maxLen; omega) (by omega) (by simp; omega) ?_); intro v' w5 hown' hgrow _; go_must (have HR5 := keepG (HO.out.more HBQ.out (Nat.le_refl _) hown' hgrow); clear hown' hgrow))
         go_roundw
         case rel => exact ⟨d + 1, by omega, by go_num, by rw [HM2.out]; exact HR5.out.1, HR5.out.2⟩
         case measure => simp [intOf]; omega
        ·have hrt : rtd r' (d + 1) = true := decide_eq_true ⟨by omega, by omega, by push_cast; exact hst⟩
         rw [hrt] at hdc
         have HM2 : Hid (lvT r' (d + 1) = Y) := by show _ = _; rw [HM.out, if_neg hst]
         clear hst hrt
         go_wp2
         go_roundw
         case rel => exact ⟨d + 1, by omega, by go_num, by rw [HM2.out]; exact HO.out, HBQ.out⟩
         case measure => simp [intOf]; omega
       ·have hdI : ¬ (d : Int) + 1 <= (r.ps.length : Int) := by have := HLE.out; omega
        have HLV : Hid (lvT r' d = r'.live) := by
         show _ = _
         rw [show d = r'.ps.length by omega, lvT_all]
        rw [HLV.out] at HO ⊢
        have HWF : Hid (∀ x ∈ r'.live, (Lit.int .i64 x).wf = true) := fun x hx => by
         have := Rg.st_in (r := r') (n := x) (by rw [Rg.live_mem.1 hx]; decide)
         exact wf_smallR (by omega) (by omega)
        have HSA := keepG (Sees.own HO.out HWF.out)
        obtain ⟨lv, HLVN⟩ : ∃ lv, Hid (r'.live = lv) := ⟨_, rfl⟩
        have HLIVE := keepG (HNQ.out.lz.reg.live HNQ.out.lz.ok)
        rw [HLVN.out] at HSA HWF HLIVE ⊢
        clear HO HLV
        go_wp2_with (first
         | (go_at_call 15; go_must (refine HLIVE.out.mono ?_); rintro e6 w6 ⟨u6, rfl, hu6, hb6⟩; go_must (have HSB := keepG (Sees.own hu6 HWF.out); have HSA6 := keepG (HSA.out.below hb6 (Nat.le_refl _)); have HN6 := keepG (HNQ.out.below hb6); obtain ⟨ya, yc, ey⟩ := own_shape hu6; subst ey; clear hu6 hb6))
         | (go_at_call 27; go_must (refine (wints24 HSB.out HSA6.out).mono ?_); rintro e7 w7 ⟨rfl, hb7⟩; go_must (have HN7 := keepG (HN6.out.below hb7); have k0 := HN7.out.lz.low.1; clear hb7))
         | (go_at_call 28; go_must (refine HN7.out.lz.reg.last.mono ?_); rintro e8 w8 ⟨rfl, rfl⟩))
        go_roundw
        case rel => exact ⟨j + 1, by omega, by omega, G', r', by go_num, (by rw [HLE.out]), by rw [HVE.out], HFW.out, HN7.out⟩
        case measure => simp [intOf]; omega
    by_cases k4 : ok = 4
    ·as_aux_lemma =>
      subst k4
      obtain ⟨e1, e2, e3, e4⟩ := play_ret HN.out.lz.ok HQ.out (by have := HF.out.ps; omega)
      have HLE := keepG e1
      have HVE : Hid (r'.tb.last = r.tb.last) := by show _ = _; rw [e2]
      have HRT := keepG e3
      obtain ⟨m, rfl⟩ : ∃ m : Nat, op = m := ⟨op.toNat, by omega⟩
      have hrt : rtd r m = false := decide_eq_false (fun g => g.2.2 e4.2.2)
      have hm130 : m < 130 := by have := HF.out.ps; omega
      have hm130I : (m : Int) < 130 := by omega
      have hp1 : ¬ (m : Int) < 1 := by omega
      have hp2 : ¬ (m : Int) > r.ps.length := by omega
      have hp1d : decide ((m : Int) < 1) = false := decide_eq_false hp1
      have hp2d : decide ((m : Int) > r.ps.length) = false := decide_eq_false hp2
      have hp4 : ¬ r.ps.length < m := by omega
      have hp4d : decide (r.ps.length < m) = false := decide_eq_false hp4
      have hp3d : decide ((r.ps.length : Int) < m) = false := decide_eq_false hp2
      have HRT2 : Hid (rtB r' = (rtB r).set m true) := (show rtB r' = (rtB r).set m true by simpa using HRT.out)
      clear e1 e2 e3
      go_wp2_with (first
       | (rw [HW1.out])
       | (rw [HW2.out])
       | (go_at_call 14; go_must (refine HPL.out.mono ?_); rintro e3 w3 ⟨rfl, G', hl3, hn3⟩; go_must (obtain ⟨⟨r3, a3⟩, p3⟩ := HAFT.out G' w3 hl3 hn3; have HL3 := keepG hl3; have HR3 := keepG r3; have HA3 := keepG a3; have HP3 := keepG p3; clear b0 b1 b2 b3; have b0 := HP3.out.cell (j := 0) rfl; have b2 := HP3.out.cell (j := 2) rfl; have dd := Nu.at r3 hm130; rw [hrt] at dd; have df := r3.frozen m; obtain ⟨W4, HW4, HNL⟩ : ∃ W4, Hid (w3.setCell ⟨rb, m, none⟩ (.bool true) = W4) /\ Hid (Nu w W4 b bt br bc G' r' rb) := ⟨_, rfl, Nu.set hl3 r3 a3 HN.out.new HRT2.out⟩; clear hl3 hn3 r3 a3 p3))
       | (rw [HW4.out]))
      have hl130 : r'.ps.length <= 120 := by have := HFW.out.ps; omega
      have hvb : (r'.tb.last != r.tb.last) = false := by rw [HVE.out]; simp
      go_loopw [12, 13] (fun u kk wq => ∃ d : Nat, d <= r'.ps.length /\ kk = .int .i64 ((d : Int) + 1) /\ Hid (RoN wq W4.heap.size u (lvT r' d)) /\ Hid (Below W4.heap.size W4 wq)) (fun _ kk _ => r'.ps.length + 1 - (intOf kk).toNat)
      case atStart => exact ⟨0, by omega, rfl, RoN.nil _ _, Below.refl _ _⟩
      case round =>
       rename World => wq
       obtain ⟨d, hd, rfl, HO, HBQ⟩ := hrel
       obtain ⟨va, vc, ev⟩ := own_shape HO.out
       subst ev
       have HNQ := keepG (HNL.out.below HBQ.out)
       by_cases hdl : d < r'.ps.length
       ·have hdI : (d : Int) + 1 <= (r.ps.length : Int) := by have := HLE.out; omega
        have hdc : wq.cell? ⟨rb, d + 1, none⟩ = some (.bool (rtd r' (d + 1))) := Nu.at HNQ.out.row (by omega)
        have hd0 : (0 : Int) <= (d : Int) + 1 := by omega
        have hd1 : (d : Int) + 1 < 130 := by omega
        have hdn : ((d : Int) + 1).toNat = d + 1 := by omega
        have HM := keepG (lvT_more r' d)
        have hYl := lvT_len r' d
        obtain ⟨Y, HY⟩ : ∃ Y, Hid (lvT r' d = Y) := ⟨_, rfl⟩
        rw [HY.out] at HM HO hYl ⊢
        by_cases hst : r'.st ((d : Int) + 1) = 0
        ·have hrt : rtd r' (d + 1) = false := decide_eq_false (fun g => g.2.2 (by push_cast; exact hst))
         rw [hrt] at hdc
         have HM2 : Hid (lvT r' (d + 1) = Y ++ [(d : Int) + 1]) := by show _ = _; rw [HM.out, if_pos hst]
         clear hst hrt
         have hzq := HBQ.out.size
         go_wp2_with (at_builtin; go_must (refine wpList_append_wide _ rfl _ _ 38 rfl W4.heap.size 3 i0 (.int .i64 0) 1 8 Tryz.underlying38 hi0 hz0 hzs hzb rfl (by decide) _ _ _ rfl (HO.out.alloc _) ⟨_, 0, none⟩ 1 1 [.int .i64 ((d : Int) + 1)] rfl rfl (cell_one_new _ _ _) (one_cell _ _) (by unfold maxLen; omega) (by omega) (by simp; omega) ?_); intro v' w5 hown' hgrow _; go_must (have HR5 := keepG (HO.out.more HBQ.out (Nat.le_refl _) hown' hgrow); clear hown' hgrow))
         go_roundw
         case rel => exact ⟨d + 1, by omega, by go_num, by rw [HM2.out]; exact HR5.out.1, HR5.out.2⟩
         case measure => simp [intOf]; omega
        ·have hrt : rtd r' (d + 1) = true := decide_eq_true ⟨by omega, by omega, by push_cast; exact hst⟩
         rw [hrt] at hdc
         have HM2 : Hid (lvT r' (d + 1) = Y) := by show _ = _; rw [HM.out, if_neg hst]
         clear hst hrt
         go_wp2
         go_roundw
         case rel => exact ⟨d + 1, by omega, by go_num, by rw [HM2.out]; exact HO.out, HBQ.out⟩
         case measure => simp [intOf]; omega
       ·have hdI : ¬ (d : Int) + 1 <= (r.ps.length : Int) := by have := HLE.out; omega
        have HLV : Hid (lvT r' d = r'.live) := by
         show _ = _
         rw [show d = r'.ps.length by omega, lvT_all]
        rw [HLV.out] at HO ⊢
        have HWF : Hid (∀ x ∈ r'.live, (Lit.int .i64 x).wf = true) := fun x hx => by
         have := Rg.st_in (r := r') (n := x) (by rw [Rg.live_mem.1 hx]; decide)
         exact wf_smallR (by omega) (by omega)
        have HSA := keepG (Sees.own HO.out HWF.out)
        obtain ⟨lv, HLVN⟩ : ∃ lv, Hid (r'.live = lv) := ⟨_, rfl⟩
        have HLIVE := keepG (HNQ.out.lz.reg.live HNQ.out.lz.ok)
        rw [HLVN.out] at HSA HWF HLIVE ⊢
        clear HO HLV
        go_wp2_with (first
         | (go_at_call 15; go_must (refine HLIVE.out.mono ?_); rintro e6 w6 ⟨u6, rfl, hu6, hb6⟩; go_must (have HSB := keepG (Sees.own hu6 HWF.out); have HSA6 := keepG (HSA.out.below hb6 (Nat.le_refl _)); have HN6 := keepG (HNQ.out.below hb6); obtain ⟨ya, yc, ey⟩ := own_shape hu6; subst ey; clear hu6 hb6))
         | (go_at_call 27; go_must (refine (wints24 HSB.out HSA6.out).mono ?_); rintro e7 w7 ⟨rfl, hb7⟩; go_must (have HN7 := keepG (HN6.out.below hb7); have k0 := HN7.out.lz.low.1; clear hb7))
         | (go_at_call 28; go_must (refine HN7.out.lz.reg.last.mono ?_); rintro e8 w8 ⟨rfl, rfl⟩))
        go_roundw
        case rel => exact ⟨j + 1, by omega, by omega, G', r', by go_num, (by rw [HLE.out]), by rw [HVE.out], HFW.out, HN7.out⟩
        case measure => simp [intOf]; omega
    ·as_aux_lemma =>
      have q0 : (ok == 0) = false := by simpa using k0
      have q1 : (ok == 1) = false := by simpa using k1
      have q2 : (ok == 2) = false := by simpa using k2
      have q4 : (ok == 4) = false := by simpa using k4
      obtain ⟨e1, e2, e3⟩ := play_rest HN.out.lz.ok HQ.out k0 k1 k2 k4
      have HLE := keepG e1
      have HVE := keepG e2
      have HRT := keepG e3
      clear e1 e2 e3 k0 k1 k2 k4
      go_wp2_with (first
       | (rw [HW1.out])
       | (rw [HW2.out])
       | (go_at_call 14; go_must (refine HPL.out.mono ?_); rintro e3 w3 ⟨rfl, G', hl3, hn3⟩; go_must (obtain ⟨⟨r3, a3⟩, p3⟩ := HAFT.out G' w3 hl3 hn3; have HL3 := keepG hl3; have HR3 := keepG r3; have HA3 := keepG a3; have HP3 := keepG p3; clear b0 b1 b2 b3; have b0 := HP3.out.cell (j := 0) rfl; have b2 := HP3.out.cell (j := 2) rfl; clear hl3 hn3 r3 a3 p3)))
      have HNL : Hid (Nu w w3 b bt br bc G' r' rb) := ⟨HL3.out, by rw [HRT.out]; exact HR3.out, HA3.out, HN.out.new⟩
      have hl130 : r'.ps.length <= 120 := by have := HFW.out.ps; omega
      have hvb : (r'.tb.last != r.tb.last) = false := by rw [HVE.out]; simp
      go_loopw [12, 13] (fun u kk wq => ∃ d : Nat, d <= r'.ps.length /\ kk = .int .i64 ((d : Int) + 1) /\ Hid (RoN wq w3.heap.size u (lvT r' d)) /\ Hid (Below w3.heap.size w3 wq)) (fun _ kk _ => r'.ps.length + 1 - (intOf kk).toNat)
      case atStart => exact ⟨0, by omega, rfl, RoN.nil _ _, Below.refl _ _⟩
      case round =>
       rename World => wq
       obtain ⟨d, hd, rfl, HO, HBQ⟩ := hrel
       obtain ⟨va, vc, ev⟩ := own_shape HO.out
       subst ev
       have HNQ := keepG (HNL.out.below HBQ.out)
       by_cases hdl : d < r'.ps.length
       ·have hdI : (d : Int) + 1 <= (r.ps.length : Int) := by have := HLE.out; omega
        have hdc : wq.cell? ⟨rb, d + 1, none⟩ = some (.bool (rtd r' (d + 1))) := Nu.at HNQ.out.row (by omega)
        have hd0 : (0 : Int) <= (d : Int) + 1 := by omega
        have hd1 : (d : Int) + 1 < 130 := by omega
        have hdn : ((d : Int) + 1).toNat = d + 1 := by omega
        have HM := keepG (lvT_more r' d)
        have hYl := lvT_len r' d
        obtain ⟨Y, HY⟩ : ∃ Y, Hid (lvT r' d = Y) := ⟨_, rfl⟩
        rw [HY.out] at HM HO hYl ⊢
        by_cases hst : r'.st ((d : Int) + 1) = 0
        ·have hrt : rtd r' (d + 1) = false := decide_eq_false (fun g => g.2.2 (by push_cast; exact hst))
         rw [hrt] at hdc
         have HM2 : Hid (lvT r' (d + 1) = Y ++ [(d : Int) + 1]) := by show _ = _; rw [HM.out, if_pos hst]
         clear hst hrt
         have hzq := HBQ.out.size
         go_wp2_with (at_builtin; go_must (refine wpList_append_wide _ rfl _ _ 38 rfl w3.heap.size 3 i0 (.int .i64 0) 1 8 Tryz.underlying38 hi0 hz0 hzs hzb rfl (by decide) _ _ _ rfl (HO.out.alloc _) ⟨_, 0, none⟩ 1 1 [.int .i64 ((d : Int) + 1)] rfl rfl (cell_one_new _ _ _) (one_cell _ _) (by unfold maxLen; omega) (by omega) (by simp; omega) ?_); intro v' w5 hown' hgrow _; go_must (have HR5 := keepG (HO.out.more HBQ.out (Nat.le_refl _) hown' hgrow); clear hown' hgrow))
         go_roundw
         case rel => exact ⟨d + 1, by omega, by go_num, by rw [HM2.out]; exact HR5.out.1, HR5.out.2⟩
         case measure => simp [intOf]; omega
        ·have hrt : rtd r' (d + 1) = true := decide_eq_true ⟨by omega, by omega, by push_cast; exact hst⟩
         rw [hrt] at hdc
         have HM2 : Hid (lvT r' (d + 1) = Y) := by show _ = _; rw [HM.out, if_neg hst]
         clear hst hrt
         go_wp2
         go_roundw
         case rel => exact ⟨d + 1, by omega, by go_num, by rw [HM2.out]; exact HO.out, HBQ.out⟩
         case measure => simp [intOf]; omega
       ·have hdI : ¬ (d : Int) + 1 <= (r.ps.length : Int) := by have := HLE.out; omega
        have HLV : Hid (lvT r' d = r'.live) := by
         show _ = _
         rw [show d = r'.ps.length by omega, lvT_all]
        rw [HLV.out] at HO ⊢
        have HWF : Hid (∀ x ∈ r'.live, (Lit.int .i64 x).wf = true) := fun x hx => by
         have := Rg.st_in (r := r') (n := x) (by rw [Rg.live_mem.1 hx]; decide)
         exact wf_smallR (by omega) (by omega)
        have HSA := keepG (Sees.own HO.out HWF.out)
        obtain ⟨lv, HLVN⟩ : ∃ lv, Hid (r'.live = lv) := ⟨_, rfl⟩
        have HLIVE := keepG (HNQ.out.lz.reg.live HNQ.out.lz.ok)
        rw [HLVN.out] at HSA HWF HLIVE ⊢
        clear HO HLV
        go_wp2_with (first
         | (go_at_call 15; go_must (refine HLIVE.out.mono ?_); rintro e6 w6 ⟨u6, rfl, hu6, hb6⟩; go_must (have HSB := keepG (Sees.own hu6 HWF.out); have HSA6 := keepG (HSA.out.below hb6 (Nat.le_refl _)); have HN6 := keepG (HNQ.out.below hb6); obtain ⟨ya, yc, ey⟩ := own_shape hu6; subst ey; clear hu6 hb6))
         | (go_at_call 27; go_must (refine (wints24 HSB.out HSA6.out).mono ?_); rintro e7 w7 ⟨rfl, hb7⟩; go_must (have HN7 := keepG (HN6.out.below hb7); have k0 := HN7.out.lz.low.1; clear hb7))
         | (go_at_call 28; go_must (refine HN7.out.lz.reg.last.mono ?_); rintro e8 w8 ⟨rfl, rfl⟩))
        go_roundw
        case rel => exact ⟨j + 1, by omega, by omega, G', r', by go_num, (by rw [HLE.out]), by rw [HVE.out], HFW.out, HN7.out⟩
        case measure => simp [intOf]; omega
   ·have hEb : (E != 0) = true := by simpa using hE
    obtain ⟨e1, e2⟩ := play_err HQ.out hE
    subst e1 e2
    clear hE
    go_wp2_with (first
     | (rw [HW1.out])
     | (rw [HW2.out])
     | (go_at_call 14; go_must (refine HPL.out.mono ?_); rintro e3 w3 ⟨rfl, G', hl3, hn3⟩; go_must (obtain ⟨⟨r3, a3⟩, p3⟩ := HAFT.out G' w3 hl3 hn3; have HL3 := keepG hl3; have HR3 := keepG r3; have HA3 := keepG a3; have HP3 := keepG p3; clear b0 b1 b2 b3; have b0 := HP3.out.cell (j := 0) rfl; have b2 := HP3.out.cell (j := 2) rfl; clear hl3 hn3 r3 a3 p3)))
    go_roundw
    case rel => exact ⟨j + 1, by omega, by omega, G', r', by go_num, rfl, rfl, HFW.out, HL3.out, HR3.out, HA3.out, HN.out.new⟩
    case measure => simp [intOf]; omega
  ·have HBE := keepG HN.out.lz.be
   by_cases h1 : (j : Int) < xs.length
   ·have h2 : ¬ (j : Int) < 120 := by omega
    go_wp2
    go_ret
    exact ⟨rfl, HBE.out⟩
   ·go_wp2
    go_ret
    exact ⟨rfl, HBE.out⟩
theorem registryNumbers_walk (sv : Value) (is : List Ow24) (w : World) (hs : Scq24 w sv is) (hl : is.length * 48 <= 140737488351232 /\ ∀ x ∈ is, x.ws.length <= 140737488351232) : Calls Tryz.prog 7 #[sv] w fun e w' => e = .returned (.bool true) /\ Below w.heap.size w w' := numbers_walk sv is w (hs.scr hl)
end Go.Proofs.YtibolefffjkblaaGreat
