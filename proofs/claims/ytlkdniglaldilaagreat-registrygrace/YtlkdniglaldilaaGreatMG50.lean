/-
  W24Aw
  W24Gr
  W24GrW
-/
import Derived.Test.YtlkdniglaldilaaGreatMG49
import Derived.Test.YtlkdniglaldilaaGreatMG0
import Derived.Test.YtlkdniglaldilaaGreatMG48
import Derived.Lib.SlBytesConst
import Derived.Lib.MinMax
namespace Go.Proofs.YtlkdniglaldilaaGreat
open Go.RowKit
set_option linter.unusedVariables false
set_option linter.unusedSimpArgs false
set_option maxRecDepth 100000
def bs5 : List Int := [84, 80, 1, 1, 2, 2, 0, 0, 0, 8, 10, 22, 0, 0, 0, 0]
theorem five_dec : (decL bs5).2.2 = 0 /\ (decL bs5).1.1 = [2] := by decide +kernel
theorem five_jud : (judgeR (decL bs5).1.1 (decL bs5).1.2).2 = 0 := by decide +kernel
def rg5 : Rg := ⟨3, Tb.new 2, Ck.new 1, [⟨[2], (decL bs5).1.2, 0, 0⟩], []⟩
theorem five_load : (Rg.new 2 3 1).loadB bs5 = (1, 0, rg5) := by
 have e : errB bs5 = 0 := by unfold errB; rw [if_neg (by rw [five_dec.1]; decide)]; exact five_jud
 unfold Rg.loadB
 rw [e, five_dec.2]
 rfl
theorem five_put : ∃ t', (rg5.tb.put false 0 1) = (1, 0, t') /\ rg5.put false 0 1 = (1, 0, ⟨3, t', Ck.new 1, rg5.ps, []⟩) := ⟨_, rfl, rfl⟩
theorem sees_marked (w : World) (t : TypeId) (xs : List Int) (fr : Nat × Nat) (h : ∀ x ∈ xs, 0 <= x /\ x <= 255) (hl : xs.length <= 1000) : Sees .u8 (w.alloc (.cells (xs.map (Value.int .u8)).toArray t fr)) (.slice (some ⟨w.heap.size, 0, none⟩) xs.length xs.length) xs := by
 refine ⟨_, _, rfl, Nat.le_refl _, by unfold maxLen; omega, (fun e => by cases e), wf_bytes h, fun _ => ⟨w.heap.size, 0, rfl, by simp, fun i hi => ?_⟩⟩
 have e : (w.alloc (.cells (xs.map (Value.int .u8)).toArray t fr)).heap[w.heap.size]? = some (.cells (xs.map (Value.int .u8)).toArray t fr) := by
  show (w.heap.push _)[w.heap.size]? = _
  simp
 have e2 : (xs.map (Value.int .u8)).toArray[i]? = some (.int .u8 (xs.getD i 0)) := by
  simp [List.getD, hi]
 rw [Nat.zero_add]
 unfold World.cell?
 simp only [e, e2]
 rfl
theorem lfive (w : World) : Calls Tryz.prog 18 #[] w fun e w' => ∃ u, e = .returned u /\ Sees .u8 w' u bs5 /\ Below w.heap.size w w' := by
 obtain ⟨Z, hcv, HS, HB⟩ : ∃ Z, (convert 29 29 (.slice (some ⟨w.heap.size, 0, none⟩) 16 16)).run Tryz.prog (w.alloc (.cells #[.int .u8 84, .int .u8 80, .int .u8 1, .int .u8 1, .int .u8 2, .int .u8 2, .int .u8 0, .int .u8 0, .int .u8 0, .int .u8 8, .int .u8 10, .int .u8 22, .int .u8 0, .int .u8 0, .int .u8 0, .int .u8 0] 5)) = .ok (.slice (some ⟨w.heap.size, 0, none⟩) 16 16) Z /\ Hid (Sees .u8 Z (.slice (some ⟨w.heap.size, 0, none⟩) 16 16) bs5) /\ Hid (Below w.heap.size w Z) := ⟨_, Go.Lib.run_convert_bytes_const (P := Tryz.prog) w 29 5 (bs5.map (Value.int .u8)).toArray 16 16 Tryz.underlying29 Tryz.underlying5, sees_marked w 5 bs5 (16, 17) (by decide) (by decide), below_allocG w _⟩
 go_enter Tryz.func18, Tryz.ntmps18
 go_wp2
 go_ret
 exact ⟨_, rfl, HS.out, HB.out⟩
set_option maxHeartbeats 3200000 in
theorem awake24_any (w : World) : Calls Tryz.prog 5 #[] w fun e w' => e = .returned (.bool true) /\ Below w.heap.size w w' := by
 obtain ⟨t', ht, hp⟩ := five_put
 have HLD := keepG five_load
 have HPT := keepG hp
 have HN : Hid ((if inM (⟨3, t', Ck.new 1, rg5.ps, []⟩ : Rg).mp 2 = true then ((⟨3, t', Ck.new 1, rg5.ps, []⟩ : Rg).names 2, (0 : Int)) else (0, 2)) = (1, 0)) := by
  show _ = _
  rfl
 have hok5 : rg5.Ok := by
  have := (Rg.Ok.new (h := 2) (m := 3) (k := 1) (by omega) (by omega) (by omega) (by omega) (by omega)).loadB bs5
  rw [five_load] at this
  exact this
 have hokP : (⟨3, t', Ck.new 1, rg5.ps, []⟩ : Rg).Ok := by
  have := hok5.put false 0 1
  rw [hp] at this
  exact this
 have HBS : Hid (∀ x ∈ bs5, 0 <= x /\ x <= 255) := by
  show ∀ x ∈ bs5, 0 <= x /\ x <= 255
  decide
 have HOK5 := keepG hok5
 have HOKP := keepG hokP
 clear ht hp hok5 hokP
 go_enter Tryz.func5, Tryz.ntmps5
 go_wp2_with (first
  | (go_at_call 6; go_must (refine (lz24_new (w0 := w) 2 3 1 (by omega) (by omega) (by omega) (by omega) (by omega) (Below.refl _ _)).mono ?_); rintro e w1 ⟨b, bt, br, bc, G, rfl, hL⟩; go_must (have HL := keepG hL; clear hL))
  | (go_at_call 18; go_must (refine (lfive _).mono ?_); rintro e w2 ⟨u, rfl, hs, hb⟩; go_must (have HL2 := keepG (HL.out.below hb); have HS := keepG hs; obtain ⟨ua, uc, eu⟩ : ∃ ua uc, u = .slice ua bs5.length uc := (by obtain ⟨a, c, e, _⟩ := hs; exact ⟨a, c, e⟩); subst eu; clear hb hs))
  | (go_at_call 17; go_must (refine (HL2.out.reg.load HL2.out.ok (by simp [Rg.new]) HS.out HBS.out HLD).mono ?_); rintro e w3 ⟨rfl, G3, hl, hn⟩; go_must (have HL3 := keepG (HL2.out.next hl hn HOK5.out); clear hl hn))
  | (go_at_call 13; go_must (refine (HL3.out.reg.attach HL3.out.ok (by decide) 0 1 HPT).mono ?_); rintro e w4 ⟨rfl, G4, hl, hn⟩; go_must (have HL4 := keepG (HL3.out.next hl hn HOKP.out); have c1 := HL4.out.low.2.1; clear hl hn))
  | (go_at_call 12; go_must (refine (HL4.out.reg.count HL4.out.ok 2 HN).mono ?_); rintro e w5 ⟨rfl, hb⟩; go_must (have HL5 := keepG (HL4.out.below hb); clear hb)))
 go_ret
 exact ⟨rfl, HL5.out.be⟩
def w130 : List Value := (List.replicate 130 (none : Option Wb)).map wtC
theorem run_makeW130 (w : World) : (Instr.makeSlice 51 (.int .i64 130) (.int .i64 130)).run Tryz.prog w = .ok (.slice (some ⟨w.heap.size, 0, none⟩) 130 130) (w.alloc (.cells w130.toArray 28)) := by
 have hib : (Tryz.prog.info? 28).map (fun i => (i.zero, i.size, i.bytes)) = some (some (.slice none 0 0), 1, 24) := by kernel_rfl
 obtain ⟨i, h1, h2, h3, h4⟩ := info_parts hib
 have := run_make (P := Tryz.prog) w 51 28 i _ Tryz.underlying51 h1 h2 .i64 .i64 130 130 (by omega) (Int.le_refl _) (by rw [h4]; omega) (by omega)
 rw [h3] at this
 have e0 : madeCells (Value.slice none 0 0).cells (Int.toNat 130 * 1) = w130.toArray := by kernel_rfl
 rw [e0] at this
 exact this
theorem Lr.few24g {w : World} {b bt br bc : Nat} {G : Ft} {r : Rg} (h : Lr w b bt br bc G r) (hk : r.Ok) : r.live.length + r.ln.length <= 16 := by
 obtain ⟨F, gc, P, ul, L, ut, T, M, h1, rfl, h2, h3⟩ := h.ex
 have := (h2.lens hk).1
 rw [<- h2.liv, <- h2.ret, List.length_map, List.length_map]
 exact this
structure Gw (w0 wr : World) (b bt br bc : Nat) (G : Ft) (r : Rg) (rb : Nat) (W : List (Option Wb)) : Prop where
 lz : Lz24 w0 wr b bt br bc G r
 row : Hp wr rb 28 (W.map wtC)
 ap : ¬ G rb
 new : w0.heap.size <= rb
 box : ∀ (n : Nat) t, W.getD n none = some t -> Hp wr t.k 4 [.bool t.x, .bool t.y] /\ ¬ G t.k /\ w0.heap.size <= t.k /\ t.k ≠ rb
 dis : ∀ (n m : Nat) t s, W.getD n none = some t -> W.getD m none = some s -> n ≠ m -> t.k ≠ s.k
section
variable {w0 wr wr' : World} {b bt br bc rb : Nat} {G G' : Ft} {r r' : Rg} {W : List (Option Wb)}
theorem Gw.below (h : Gw w0 wr b bt br bc G r rb W) (hb : Below wr.heap.size wr wr') : Gw w0 wr' b bt br bc G r rb W := ⟨h.lz.below hb, h.row.below hb h.row.lt, h.ap, h.new, fun n t ht => by obtain ⟨g1, g2⟩ := h.box n t ht; exact ⟨g1.below hb g1.lt, g2⟩, h.dis⟩
theorem Gw.next (h : Gw w0 wr b bt br bc G r rb W) (hl : Lz24 w0 wr' b bt br bc G' r') (hn : Nx wr wr' G G') : Gw w0 wr' b bt br bc G' r' rb W :=
 ⟨hl, h.row.chg hn.chg h.ap, fun e => (hn.new rb e).elim h.ap (fun q => by have := h.row.lt; omega), h.new, fun n t ht => by
  obtain ⟨g1, g2, g3⟩ := h.box n t ht
  exact ⟨g1.chg hn.chg g2, fun e => (hn.new t.k e).elim g2 (fun q => by have := g1.lt; omega), g3⟩, h.dis⟩
theorem Gw.at (h : Gw w0 wr b bt br bc G r rb W) (hl : W.length = 130) {n : Nat} (hn : n < 130) : wr.cell? ⟨rb, n, none⟩ = some (wtC (W.getD n none)) := h.row.cell (by simp [List.getD, hl, hn])
theorem Hp.at2 {w : World} {k : Nat} {x y : Bool} (h : Hp w k 4 [.bool x, .bool y]) {i : Nat} (hi : i < 2) : ∃ c, w.cell? ⟨k, i, none⟩ = some (.bool c) /\ w.frozen? ⟨k, i, none⟩ = false := by
 rcases (show i = 0 ∨ i = 1 by omega) with rfl | rfl
 ·exact ⟨x, h.cell (j := 0) rfl, h.frozen 0⟩
 ·exact ⟨y, h.cell (j := 1) rfl, h.frozen 1⟩
theorem gw_new (h : Lz24 w0 wr b bt br bc G r) : Gw w0 (wr.alloc (.cells w130.toArray 28)) b bt br bc G r wr.heap.size (List.replicate 130 none) := by
 have e0 : ∀ n, (List.replicate 130 (none : Option Wb)).getD n none = none := fun n => by
  rw [List.getD_eq_getElem?_getD, List.getElem?_replicate]; split <;> rfl
 refine ⟨h.below (below_allocG _ _), Hp.new wr _ _, fun e => (by have := h.reg.lies _ e; omega), h.be.size, fun n t ht => ?_, fun n m t s ht => ?_⟩
 ·rw [e0] at ht; cases ht
 ·rw [e0] at ht; cases ht
theorem Gw.put (h : Gw w0 wr b bt br bc G r rb W) {n : Nat} (hl : W.length = 130) (hn : n < 130) {t : Wb} (ht : W.getD n none = some t) {i : Nat} (hi : i < 2) : Gw w0 (wr.setCell ⟨t.k, i, none⟩ (.bool false)) b bt br bc G r rb (W.set n (some (t.off i))) := by
 obtain ⟨g1, g2, g3, g4⟩ := h.box n t ht
 have hc := Chg.set wr t.k i (.bool false)
 have hW : (W.set n (some (t.off i))).map wtC = W.map wtC := by
  rw [List.map_set]
  refine List.ext_getElem (by simp) (fun m a1 a2 => ?_)
  rw [List.getElem_set]
  by_cases e : n = m
  ·subst e
   rw [if_pos rfl, List.getElem_map]
   have e1 : W.getD n none = W[n]'(by omega) := by simp [List.getD, show n < W.length by omega]
   rw [<- e1, ht]
   simp [wtC, Wb.off_k]
  ·rw [if_neg e]
 refine ⟨h.lz.keeps hc (fun k e => by rw [e]; exact g2) (fun k e => by rw [e]; exact g3), by rw [hW]; exact h.row.chg hc (fun e => g4 e.symm), h.ap, h.new, fun m s hs => ?_, fun m m' s s' hs hs' hne => ?_⟩
 ·rw [getD_set_W _ _ _ _ (by omega)] at hs
  by_cases e : m = n
  ·rw [if_pos e] at hs
   injection hs with hs
   subst hs
   refine ⟨?_, by rw [Wb.off_k]; exact ⟨g2, g3, g4⟩⟩
   rw [Wb.off_k]
   have hp := g1.set i (.bool false)
   have e3 : ([.bool t.x, .bool t.y] : List Value).set i (.bool false) = [.bool (t.off i).x, .bool (t.off i).y] := by
    rcases (show i = 0 ∨ i = 1 by omega) with rfl | rfl <;> rfl
   rw [e3] at hp
   exact hp
  ·rw [if_neg e] at hs
   obtain ⟨a1, a2⟩ := h.box m s hs
   exact ⟨a1.chg hc (fun e2 => h.dis m n s t hs ht e e2), a2⟩
 ·rw [getD_set_W _ _ _ _ (by omega)] at hs hs'
  by_cases e : m = n
  ·rw [if_pos e] at hs
   injection hs with hs
   subst hs
   rw [if_neg (fun g => hne (by omega))] at hs'
   rw [Wb.off_k]
   exact h.dis n m' t s' ht hs' (fun g => hne (by omega))
  ·rw [if_neg e] at hs
   by_cases e' : m' = n
   ·rw [if_pos e'] at hs'
    injection hs' with hs'
    subst hs'
    rw [Wb.off_k]
    exact h.dis m n s t hs ht e
   ·rw [if_neg e'] at hs'
    exact h.dis m m' s s' hs hs' hne
theorem Gw.add (h : Gw w0 wr b bt br bc G r rb W) (hl : W.length = 130) {q : Nat} (hq : q < 130) (x y : Bool) : ∃ X5 X6, Hid (wr.alloc (.cells #[.bool x, .bool y] 4) = X5) /\ Hid (X5.setCell ⟨rb, q, none⟩ (.slice (some ⟨wr.heap.size, 0, none⟩) 2 2) = X6) /\ X5.frozen? ⟨rb, q, none⟩ = false /\ X5.cell? ⟨rb, q, none⟩ = some (wtC (W.getD q none)) /\ Hid (Gw w0 X6 b bt br bc G r rb (W.set q (some ⟨wr.heap.size, x, y⟩))) := by
 have hb := below_allocG wr (.cells #[.bool x, .bool y] 4)
 have h5 := h.below hb
 have hc := Chg.set (wr.alloc (.cells #[.bool x, .bool y] 4)) rb q (.slice (some ⟨wr.heap.size, 0, none⟩) 2 2)
 have hz := h.row.lt
 refine ⟨_, _, rfl, rfl, h5.row.frozen q, h5.at hl hq, ⟨h5.lz.keeps hc (fun k e => by rw [e]; exact h.ap) (fun k e => by rw [e]; exact h.new), ?_, h.ap, h.new, fun m s hs => ?_, fun m m' s s' hs hs' hne => ?_⟩⟩
 ·have hp := h5.row.set q (.slice (some ⟨wr.heap.size, 0, none⟩) 2 2)
  rw [List.map_set]
  exact hp
 ·rw [getD_set_W _ _ _ _ (by omega)] at hs
  by_cases e : m = q
  ·rw [if_pos e] at hs
   injection hs with hs
   subst hs
   refine ⟨(Hp.new wr [.bool x, .bool y] 4).chg hc (fun e => by have e : wr.heap.size = rb := e; omega), fun e => ?_, h.lz.be.size, fun e => ?_⟩
   ·have := h.lz.reg.lies _ e
    have this : wr.heap.size < wr.heap.size := this
    omega
   ·have e : wr.heap.size = rb := e
    omega
  ·rw [if_neg e] at hs
   obtain ⟨a1, a2, a3, a4⟩ := h5.box m s hs
   exact ⟨a1.chg hc (fun e2 => a4 e2), a2, a3, a4⟩
 ·rw [getD_set_W _ _ _ _ (by omega)] at hs hs'
  by_cases e : m = q
  ·rw [if_pos e] at hs
   injection hs with hs
   subst hs
   rw [if_neg (fun g => hne (by omega))] at hs'
   have := (h.box m' s' hs').1.lt
   show wr.heap.size ≠ s'.k
   omega
  ·rw [if_neg e] at hs
   by_cases e' : m' = q
   ·rw [if_pos e'] at hs'
    injection hs' with hs'
    subst hs'
    have := (h.box m s hs).1.lt
    show s.k ≠ wr.heap.size
    omega
   ·rw [if_neg e'] at hs'
    exact h.dis m m' s s' hs hs' hne
end
set_option maxHeartbeats 25600000 in
theorem grace_walk (v : Value) (xs : List Ow24) (w : World) (hsc : Scr24 w v xs) : Calls Tryz.prog 4 #[v] w fun e w' => e = .returned (.bool true) /\ Below w.heap.size w w' := by
 have HSC := keepG hsc
 obtain ⟨a, cap, rfl, hlc, hmx⟩ := hsc.sees.shape
 have hmk := run_makeW130
 clear hsc
 go_enter Tryz.func4, Tryz.ntmps4
 go_wp2_with (first
  | (go_at_call 5; go_must (refine (awake24_any _).mono ?_); rintro e wa ⟨rfl, hb⟩; go_must (have HBA := keepG hb; clear hb))
  | (go_at_call 6; go_must (refine (lz24_new (w0 := w) 3 4 2 (by omega) (by omega) (by omega) (by omega) (by omega) HBA.out).mono ?_); rintro e wn ⟨b, bt, br, bc, G0, rfl, hL⟩; go_must (obtain ⟨WR, HWR, HNU⟩ : ∃ WR, Hid (wn.alloc (.cells w130.toArray 28) = WR) /\ Hid (Gw w WR b bt br bc G0 (Rg.new 3 4 2) wn.heap.size (List.replicate 130 none)) := ⟨_, rfl, gw_new hL⟩; clear hL))
  | (rw [HWR.out]))
 obtain ⟨rb, HRB⟩ : ∃ rb, Hid (wn.heap.size = rb) := ⟨_, rfl⟩
 rw [HRB.out] at HNU ⊢
 go_loopw [6] (fun i wr => ∃ j : Nat, j <= xs.length /\ j <= 120 /\ ∃ G r W, i = .int .i64 j /\ Hid (r.Few j) /\ Hid (Gw w wr b bt br bc G r rb W) /\ Hid (Gq r W)) (fun i _ => xs.length - (intOf i).toNat)
 case atStart => exact ⟨0, by omega, by omega, G0, Rg.new 3 4 2, _, rfl, Rg.Few.new _ _ _, HNU.out, Gq.new 3 4⟩
 case round =>
  rename World => wr
  obtain ⟨j, hj, hj2, G, r, W, rfl, HF, HN, HGQ⟩ := hrel
  by_cases hlt : j < xs.length /\ j < 120
  ·obtain ⟨hltN, h120⟩ := hlt
   have hltI : (j : Int) < xs.length := by omega
   have h120I : (j : Int) < 120 := by omega
   obtain ⟨o, HOO⟩ : ∃ o, Hid (xs.getD j Ow24.nil = o) := ⟨_, rfl⟩
   obtain ⟨p, off, ea, ⟨d0, d1, d2, d3⟩, hsee, hwx, hln⟩ := HSC.out.at HN.out.lz.be hltN HOO.out
   subst ea
   obtain ⟨ok, ox, op, ou, ows⟩ := o
   simp only at d0 d1 d2 d3 hsee hwx hln
   obtain ⟨ua, uc, eu⟩ : ∃ ua uc, ou = .slice ua ows.length uc := by obtain ⟨a, c, e, _⟩ := hsee; exact ⟨a, c, e⟩
   subst eu
   obtain ⟨W1, W2, HW1, HW2, ⟨n0, n1, n2, n3⟩, ⟨f0, f1, f2, f3⟩, HP2, HB2⟩ := box_op24 wr ok ox op ua ows.length uc
   have HN2 := keepG (HN.out.below HB2.out)
   have HS2 := keepG (hsee.below HB2.out (Nat.le_refl _))
   have b0 := HP2.out.cell (j := 0) rfl
   have b1 := HP2.out.cell (j := 1) rfl
   have b2 := HP2.out.cell (j := 2) rfl
   have b3 := HP2.out.cell (j := 3) rfl
   have hbz := HB2.out.size
   have hbox := HP2.out.lt
   have hps : r.ps.length <= 120 := by have := HF.out.ps; omega
   have hnw : r.ck.now <= 1000000000000000 := by have := HF.out.nw; omega
   have HNG : Hid (¬ G wr.heap.size) := fun e => by have := HN.out.lz.reg.lies _ e; omega
   clear hsee
   by_cases k4 : ok = 4
   ·subst k4
    obtain ⟨⟨n, E, r'⟩, HQ⟩ : ∃ q, Hid (r.ret op = q) := ⟨_, rfl⟩
    have HFW : Hid (r'.Few (j + 1)) := play_few (k := 4) (x := 0) (p := op) (ws := []) HF.out HQ.out
    have HOK : Hid r'.Ok := play_ok (k := 4) (x := 0) (p := op) (ws := []) HN2.out.lz.ok HQ.out
    have HRT := keepG (HN2.out.lz.reg.retire HN2.out.lz.ok (by omega) hnw op HQ)
    by_cases hE : E = 0
    ·as_aux_lemma =>
      subst hE
      obtain ⟨⟨hp1, hp2⟩, hpn, hgq⟩ := HGQ.out.ret HN2.out.lz.ok hps HQ.out
      obtain ⟨q, rfl⟩ : ∃ q : Nat, op = q := ⟨op.toNat, by omega⟩
      rw [show ((q : Nat) : Int).toNat = q by omega] at hpn hgq
      have HGR := keepG hgq
      obtain ⟨y0, HY0⟩ : ∃ y, Hid (r'.ck.at 0 = y) := ⟨_, rfl⟩
      obtain ⟨y1, HY1⟩ : ∃ y, Hid (r'.ck.at 1 = y) := ⟨_, rfl⟩
      obtain ⟨x0, HX0⟩ : ∃ x, Hid ((y0 != 0) = x) := ⟨_, rfl⟩
      obtain ⟨x1, HX1⟩ : ∃ x, Hid ((y1 != 0) = x) := ⟨_, rfl⟩
      have hq130 : q < 130 := by omega
      have hq1 : ¬ (q : Int) < 1 := by omega
      have hq2 : (q : Int) < 130 := by omega
      have K1 : Hid True := trivial
      have K2 : Hid True := trivial
      clear hgq
      go_wp2_with (first
       | (rw [HW1.out])
       | (rw [HW2.out])
       | (go_at_call 14; go_must (refine HRT.out.mono ?_); rintro e3 w3 ⟨rfl, G', hl3, hn3⟩; go_must (have HN3 := keepG (HN2.out.next (HN2.out.lz.next hl3 hn3 HOK.out) hn3); have HP3 := keepG (HP2.out.chg hn3.chg (fun e => HNG.out e)); clear b0 b1 b2 b3; have b2 := HP3.out.cell (j := 2) rfl; have wc := HN3.out.at (HGQ.out.len) hq130; rw [hpn] at wc; simp only [wtC] at wc; have lo := HN3.out.lz.low.2.2; obtain ⟨X5, X6, HX5, HX6, fz, cb, HX7⟩ := HN3.out.add HGQ.out.len hq130 x0 x1; rw [hpn] at cb; simp only [wtC] at cb; clear hl3 hn3))
       | (go_at_call 15; (have hq := K1; clear hq); go_must (refine (HN3.out.lz.reg.inn 0 HY0 HX0).mono ?_); rintro e4 w4 ⟨rfl, rfl⟩; go_must (clear K1))
       | (go_at_call 15; (have hq := K2; clear hq); go_must (refine (HN3.out.lz.reg.inn 1 HY1 HX1).mono ?_); rintro e5 w5 ⟨rfl, rfl⟩; go_must (clear K2))
       | (rw [HX5.out])
       | (rw [HX6.out]))
      go_roundw
      case rel => exact ⟨j + 1, by omega, by omega, G', r', _, by go_num, HFW.out, HX7.out, by have h := HGR.out w3.heap.size; rw [HY0.out, HY1.out, HX0.out, HX1.out] at h; exact h⟩
      case measure => simp [intOf]; omega
    ·as_aux_lemma =>
      have hEb : (E != 0) = true := by simpa using hE
      have hr : r' = r := (play_err (k := 4) (x := 0) (p := op) (ws := []) HQ.out hE).2
      have HGR : Hid (Gq r' W) := by rw [hr]; exact HGQ.out
      clear hr
      go_wp2_with (first
       | (rw [HW1.out])
       | (rw [HW2.out])
       | (go_at_call 14; go_must (refine HRT.out.mono ?_); rintro e3 w3 ⟨rfl, G', hl3, hn3⟩; go_must (have HN3 := keepG (HN2.out.next (HN2.out.lz.next hl3 hn3 HOK.out) hn3); clear hl3 hn3)))
      go_roundw
      case rel => exact ⟨j + 1, by omega, by omega, G', r', W, by go_num, HFW.out, HN3.out, HGR.out⟩
      case measure => simp [intOf]; omega
   by_cases k5 : ok = 5
   ·as_aux_lemma =>
     subst k5
     obtain ⟨⟨A, r'⟩, HQS⟩ : ∃ q, Hid (r.settle ox = q) := ⟨_, rfl⟩
     have eA : A = r.goes ox := by have h := HQS.out; unfold Rg.settle at h; injection h with h1 _; exact h1.symm
     have HOK : Hid r'.Ok := by have h := HN.out.lz.ok.settle ox; rw [HQS.out] at h; exact h
     have HFW : Hid (r'.Few (j + 1)) := by
      have h : (r.settle ox).2.Few (j + 1) := HF.out.play 5 ox op ows
      rw [HQS.out] at h
      exact h
     have HGR : Hid (Gq r' W) := by have h := HGQ.out.settle HN.out.lz.ok ox; rw [HQS.out] at h; exact h
     have HIN : Hid (∀ x ∈ A, (1 <= x /\ x <= 120) /\ ∃ t, W.getD x.toNat none = some t /\ t.x = false /\ t.y = false) := by
      rw [eA]
      exact fun x hx => HGQ.out.goes HN.out.lz.ok hps hx
     have hmost : ¬ (A.length : Int) > max 0 ox := by have := goes_most r ox; rw [eA]; omega
     have hmostB : decide ((A.length : Int) > max 0 ox) = false := decide_eq_false hmost
     clear eA
     go_wp2_with (first
      | (rw [HW1.out])
      | (rw [HW2.out])
      | (go_at_call 7; go_must (refine (HN2.out.lz.reg.settle HN2.out.lz.ok ox HQS).mono ?_); rintro e3 w3 ⟨u3, rfl, ho3, G', hl3, hn3, ha3⟩; go_must (have HN3 := keepG (HN2.out.next (HN2.out.lz.next hl3 hn3 HOK.out) hn3); have HP3 := keepG (HP2.out.chg hn3.chg (fun e => HNG.out e)); have HO3 := keepG ho3; obtain ⟨sa, sc, es⟩ := own_shape ho3; subst es; clear hl3 hn3 ha3 ho3)))
     go_loopw [15] (fun dd wq => ∃ d : Nat, d <= A.length /\ dd = .int .i64 d /\ wq = w3) (fun dd _ => A.length - (intOf dd).toNat)
     case atStart => exact ⟨0, by omega, rfl, rfl⟩
     case round =>
      rename World => wl
      obtain ⟨d, hd, rfl, rfl⟩ := hrel
      by_cases hdl : d < A.length
      ·have hdlI : (d : Int) < A.length := by omega
       obtain ⟨pp, cap, ev, _, _, _, _, hcl, _⟩ := HO3.out.cells (by omega)
       injection ev with ev1 _ ev2
       subst ev1 ev2
       have hck2 := (hcl d hdl).1
       clear hcl
       obtain ⟨hx, t, ht, ht1, ht2⟩ := HIN.out (A.getD d 0) (by simp [List.getD, hdl])
       obtain ⟨q, hq⟩ : ∃ q : Nat, A.getD d 0 = q := ⟨(A.getD d 0).toNat, by omega⟩
       rw [hq] at hck2 hx ht
       rw [show ((q : Nat) : Int).toNat = q by omega] at ht
       have hq1 : ¬ (q : Int) < 1 := by omega
       have hq2 : (q : Int) < 130 := by omega
       have hq3 : q < 130 := by omega
       have wc := HN3.out.at HGQ.out.len hq3
       rw [ht] at wc
       simp only [wtC] at wc
       obtain ⟨hpt, -⟩ := HN3.out.box q t ht
       have t0 := hpt.cell (j := 0) rfl
       have t1 := hpt.cell (j := 1) rfl
       rw [ht1] at t0
       rw [ht2] at t1
       go_wp2
       go_roundw
       case rel => exact ⟨d + 1, by omega, by go_num, by first | rfl | trivial⟩
       case measure => simp [intOf]; omega
      ·have hdlI : ¬ (d : Int) < A.length := by omega
       have hde : d = A.length := by omega
       subst hde
       have b1 := HP3.out.cell (j := 1) rfl
       go_wp2
       go_roundw
       case rel => exact ⟨j + 1, by omega, by omega, G', r', W, by go_num, HFW.out, HN3.out, HGR.out⟩
       case measure => simp [intOf]; omega
   by_cases k7 : ok = 7
   ·subst k7
    obtain ⟨⟨E, r'⟩, HQ⟩ : ∃ q, Hid (r.leave [ox] = q) := ⟨_, rfl⟩
    have HPQ : Hid (r.play 7 ox 0 [] = (0, E, r')) := by show ((0 : Int), (r.leave [ox]).1, (r.leave [ox]).2) = _; rw [HQ.out]
    have HFW : Hid (r'.Few (j + 1)) := play_few HF.out HPQ.out
    have HOK : Hid r'.Ok := play_ok HN2.out.lz.ok HPQ.out
    obtain ⟨Z, HZ, HBZ, HSZ⟩ := lit_oneR W2 ox hwx
    have HNZ := keepG (HN2.out.below HBZ.out)
    have HPZ := keepG (HP2.out.below HBZ.out HP2.out.lt)
    have HAP : Hid (Apt G (fun k => k = W2.heap.size)) := fun k e1 e2 => by have := HN2.out.lz.reg.lies k e1; omega
    have c0 := HN2.out.lz.low.2.2
    have z0 := HNZ.out.lz.low.2.2
    have z1 := HPZ.out.cell (j := 1) rfl
    by_cases hE : E = 0
    ·as_aux_lemma =>
      subst hE
      obtain ⟨i, ei, hi, hr⟩ := leave_ok HGQ.out.two HQ.out
      subst ei
      have HGR : Hid (Gq r' (offW W i 130)) := by rw [hr]; exact HGQ.out.leave i hi
      have hi1 : ¬ (i : Int) < 0 := by omega
      have hi2 : ¬ (i : Int) > 1 := by omega
      have hi2b : decide ((i : Int) > 1) = false := decide_eq_false hi2
      have HBX : Hid (∀ n t, W.getD n none = some t -> t.k < wr.heap.size) := fun n t ht => (HN.out.box n t ht).1.lt
      clear hr
      go_wp2_with (first
       | (rw [HW1.out])
       | (rw [HW2.out]))
      refine wp_region_held_drew (S := fun w' => w'.cell? ⟨b, 2, none⟩ = some (.pointer (some ⟨bc, 0, none⟩)) /\ w'.cell? ⟨wr.heap.size, 1, none⟩ = some (.int .i64 i)) (by kernel_rfl) ⟨c0, b1⟩ (fun hHeld => ?_)
      refine tkGo [0, 1, 2, 3, 4, 5] ?_
      repeat (refine tkO (v := ?_) rfl ?_ ?_; rotate_left; (intro wy hSw; (try dsimp only at hSw); go_simp; (first | done | with_reducible rfl)); try simp only [Act.put, p1q, p2q, p3q, p4q, p5q, p6q])
      refine tkEnd ?_
      refine runO 6 (by kernel_rfl) rfl (by rfl) (fun KK hK => ?_)
      go_simp
      rw [HZ.out]
      refine hK.out _ _ ⟨z0, z1⟩ (fun hHeld => ?_)
      clear hK KK
      try simp only [Act.put, p1q, p2q, p3q, p4q, p5q, p6q]
      refine runO 7 (by kernel_rfl) rfl (by rfl) (fun KK hK => ?_)
      go_simp
      go_at_call 16
      refine ((HNZ.out.lz.below (below_drG (Below.refl _ _))).reg.leave HNZ.out.lz.ok (HSZ.out.below (below_drG (Below.refl _ _)) (Nat.le_refl _)) (fun _ k e g => HAP.out k e (Option.some.inj g).symm) HQ).mono ?_
      rintro e1 w1 ⟨rfl, G2, hl2, hn2⟩
      have HN3 : Hid (Gw w w1 b bt br bc G2 r' rb W) := (HNZ.out.below (below_drG (Below.refl _ _))).next ((HNZ.out.lz.below (below_drG (Below.refl _ _))).next hl2 hn2 HOK.out) hn2
      have HP3 := keepG ((HPZ.out.below (below_drG (Below.refl _ _)) HPZ.out.lt).chg hn2.chg (fun e => HNG.out e))
      have y0 := HN3.out.lz.low.2.2
      have y1 := HP3.out.cell (j := 1) rfl
      clear hl2 hn2
      go_simp
      refine hK.out _ _ ⟨y0, y1⟩ (fun hHeld => ?_)
      clear hK KK
      try simp only [Act.put, p1q, p2q, p3q, p4q, p5q, p6q]
      refine tkGo [8] ?_
      repeat (refine tkO (v := ?_) rfl ?_ ?_; rotate_left; (intro wy hSw; (try dsimp only at hSw); go_simp; (first | done | with_reducible rfl)); try simp only [Act.put, p1q, p2q, p3q, p4q, p5q, p6q])
      refine tkEnd ?_
      refine wpAnyH_done (by kernel_rfl) ?_ _
      clear hHeld c0 b0 b1 b2 b3 z0 z1
      go_wp2
      go_loopw [16] (fun kk wq => ∃ k : Nat, k <= 130 /\ kk = .int .i64 k /\ Hid (Gw w wq b bt br bc G2 r' rb (offW W i k)) /\ Hid (Hp wq wr.heap.size 31 [.int .i64 7, .int .i64 i, .int .i64 op, .slice ua ows.length uc])) (fun kk _ => 130 - (intOf kk).toNat)
      case atStart => exact ⟨0, by omega, rfl, by rw [offW_zero]; exact HN3.out, HP3.out⟩
      case round =>
       rename World => wq
       obtain ⟨k, hk, rfl, HNK, HPK⟩ := hrel
       by_cases hk2 : k < 130
       ·have hkI : (k : Int) < 130 := by omega
        have hlen : (offW W i k).length = 130 := by rw [offW_len]; exact HGQ.out.len
        have hat : (offW W i k).getD k none = W.getD k none := by rw [offW_at, if_neg (by omega)]
        have hmore := offW_more W i (j := k) (by rw [HGQ.out.len]; exact hk2)
        have wc := HNK.out.at hlen hk2
        rw [hat] at wc
        obtain ⟨ot, hot⟩ : ∃ ot, W.getD k none = ot := ⟨_, rfl⟩
        rw [hot] at wc hat hmore
        cases ot with
        | none =>
         simp only [wtC] at wc
         have HNE : Hid (Gw w wq b bt br bc G2 r' rb (offW W i (k + 1))) := by
          have e : (offW W i k).set k none = offW W i k := by
           refine List.ext_getElem (by simp) (fun n g1 g2 => ?_)
           rw [List.getElem_set]
           by_cases e : k = n
           ·subst e
            rw [if_pos rfl]
            rw [List.getD_eq_getElem?_getD, List.getElem?_eq_getElem g2] at hat
            exact hat.symm
           ·rw [if_neg e]
          have e2 : offW W i (k + 1) = offW W i k := by rw [hmore]; exact e
          show Gw _ _ _ _ _ _ _ _ _ _
          rw [e2]; exact HNK.out
         clear hmore
         go_wp2
         go_roundw
         case rel => exact ⟨k + 1, by omega, by go_num, HNE.out, HPK.out⟩
         case measure => simp [intOf]; omega
        | some t =>
         simp only [wtC] at wc
         obtain ⟨hpt, hgt, hwt, hrt⟩ := HNK.out.box k t hat
         have hbt := HBX.out k t hot
         have y1 := HPK.out.cell (j := 1) rfl
         obtain ⟨X, HX, HNX, HPX⟩ : ∃ X, Hid ((wq.setCell ⟨t.k, i, none⟩ (.bool false)).drew = X) /\ Hid (Gw w X b bt br bc G2 r' rb (offW W i (k + 1))) /\ Hid (Hp X wr.heap.size 31 [.int .i64 7, .int .i64 i, .int .i64 op, .slice ua ows.length uc]) := by
          have h := HNK.out.put (n := k) hlen hk2 hat hi
          have e : (some t).map (fun s : Wb => s.off i) = some (t.off i) := rfl
          have hp := HPK.out.chg (Chg.set wq t.k i (.bool false)) (fun e => by have e : wr.heap.size = t.k := e; omega)
          refine ⟨_, rfl, ?_, hp.below (below_drG (Below.refl _ _)) hp.lt⟩
          rw [hmore]
          exact h.below (below_drG (Below.refl _ _))
         have x1 := HPX.out.cell (j := 1) rfl
         have xc := HNX.out.at (by rw [offW_len]; exact HGQ.out.len) hk2
         rw [offW_at, if_pos (by omega), hot] at xc
         simp only [Option.map, wtC, Wb.off_k] at xc
         have hit : (i : Int) < 2 := by omega
         obtain ⟨tb, ht1, ht2⟩ := hpt.at2 hi
         clear hmore
         go_wp2
         refine wp_region_held_drew (S := fun w' => w'.cell? ⟨rb, k, none⟩ = some (.slice (some ⟨t.k, 0, none⟩) 2 2) /\ w'.cell? ⟨wr.heap.size, 1, none⟩ = some (.int .i64 i)) (by kernel_rfl) ⟨wc, y1⟩ (fun hHeld => ?_)
         refine tkGo [0, 1, 2, 3, 4, 5, 6] ?_
         repeat (refine tkO (v := ?_) rfl ?_ ?_; rotate_left; (intro wy hSw; (try dsimp only at hSw); go_simp; (first | done | with_reducible rfl)); try simp only [Act.put, p1q, p2q, p3q, p4q, p5q, p6q])
         refine tkEnd ?_
         refine runO 7 (by kernel_rfl) rfl (by rfl) (fun KK hK => ?_)
         go_simp
         rw [HX.out]
         refine hK.out _ _ ⟨xc, x1⟩ (fun hHeld => ?_)
         clear hK KK
         try simp only [Act.put, p1q, p2q, p3q, p4q, p5q, p6q]
         refine wpAnyH_done (by kernel_rfl) ?_ _
         clear hHeld
         go_wp2
         go_roundw
         case rel => exact ⟨k + 1, by omega, by go_num, HNX.out, HPX.out⟩
         case measure => simp [intOf]; omega
       ·have hkI : ¬ (k : Int) < 130 := by omega
        have hke : k = 130 := by omega
        subst hke
        go_wp2
        go_roundw
        case rel => exact ⟨j + 1, by omega, by omega, G2, r', _, by go_num, HFW.out, HNK.out, HGR.out⟩
        case measure => simp [intOf]; omega
    ·as_aux_lemma =>
      have hEb : (E != 0) = true := by simpa using hE
      have hr : r' = r := leave_err HQ.out hE
      have HGR : Hid (Gq r' W) := by rw [hr]; exact HGQ.out
      clear hr
      go_wp2_with (first
       | (rw [HW1.out])
       | (rw [HW2.out]))
      refine wp_region_held_drew (S := fun w' => w'.cell? ⟨b, 2, none⟩ = some (.pointer (some ⟨bc, 0, none⟩)) /\ w'.cell? ⟨wr.heap.size, 1, none⟩ = some (.int .i64 ox)) (by kernel_rfl) ⟨c0, b1⟩ (fun hHeld => ?_)
      refine tkGo [0, 1, 2, 3, 4, 5] ?_
      repeat (refine tkO (v := ?_) rfl ?_ ?_; rotate_left; (intro wy hSw; (try dsimp only at hSw); go_simp; (first | done | with_reducible rfl)); try simp only [Act.put, p1q, p2q, p3q, p4q, p5q, p6q])
      refine tkEnd ?_
      refine runO 6 (by kernel_rfl) rfl (by rfl) (fun KK hK => ?_)
      go_simp
      rw [HZ.out]
      refine hK.out _ _ ⟨z0, z1⟩ (fun hHeld => ?_)
      clear hK KK
      try simp only [Act.put, p1q, p2q, p3q, p4q, p5q, p6q]
      refine runO 7 (by kernel_rfl) rfl (by rfl) (fun KK hK => ?_)
      go_simp
      go_at_call 16
      refine ((HNZ.out.lz.below (below_drG (Below.refl _ _))).reg.leave HNZ.out.lz.ok (HSZ.out.below (below_drG (Below.refl _ _)) (Nat.le_refl _)) (fun _ k e g => HAP.out k e (Option.some.inj g).symm) HQ).mono ?_
      rintro e1 w1 ⟨rfl, G2, hl2, hn2⟩
      have HN3 : Hid (Gw w w1 b bt br bc G2 r' rb W) := (HNZ.out.below (below_drG (Below.refl _ _))).next ((HNZ.out.lz.below (below_drG (Below.refl _ _))).next hl2 hn2 HOK.out) hn2
      have HP3 := keepG ((HPZ.out.below (below_drG (Below.refl _ _)) HPZ.out.lt).chg hn2.chg (fun e => HNG.out e))
      have y0 := HN3.out.lz.low.2.2
      have y1 := HP3.out.cell (j := 1) rfl
      clear hl2 hn2
      go_simp
      refine hK.out _ _ ⟨y0, y1⟩ (fun hHeld => ?_)
      clear hK KK
      try simp only [Act.put, p1q, p2q, p3q, p4q, p5q, p6q]
      refine tkGo [8] ?_
      repeat (refine tkO (v := ?_) rfl ?_ ?_; rotate_left; (intro wy hSw; (try dsimp only at hSw); go_simp; (first | done | with_reducible rfl)); try simp only [Act.put, p1q, p2q, p3q, p4q, p5q, p6q])
      refine tkEnd ?_
      refine wpAnyH_done (by kernel_rfl) ?_ _
      clear hHeld c0 b0 b1 b2 b3 z0 z1
      go_wp2
      go_roundw
      case rel => exact ⟨j + 1, by omega, by omega, G2, r', W, by go_num, HFW.out, HN3.out, HGR.out⟩
      case measure => simp [intOf]; omega
   as_aux_lemma =>
    have q4 : (ok == 4) = false := by simpa using k4
    have q5 : (ok == 5) = false := by simpa using k5
    have q7 : (ok == 7) = false := by simpa using k7
    obtain ⟨⟨n, E, r'⟩, HQ⟩ : ∃ q, Hid (r.play ok ox op ows = q) := ⟨_, rfl⟩
    have HFW := keepG (play_few HF.out HQ.out)
    have HGR := keepG (HGQ.out.play HN2.out.lz.ok HQ.out k4 k5 k7)
    have HPL := keepG (play24 HN2.out.lz HF.out (by omega) ok ox op HS2.out hln hwx HQ)
    go_wp2_with (first
     | (rw [HW1.out])
     | (rw [HW2.out])
     | (go_at_call 8; go_must (refine HPL.out.mono ?_); rintro e3 w3 ⟨rfl, G', hl3, hn3⟩; go_must (have HN3 := keepG (HN2.out.next hl3 hn3); clear hl3 hn3)))
    go_roundw
    case rel => exact ⟨j + 1, by omega, by omega, G', r', W, by go_num, HFW.out, HN3.out, HGR.out⟩
    case measure => simp [intOf]; omega
  ·by_cases h1 : (j : Int) < xs.length
   ·have h2 : ¬ (j : Int) < 120 := by omega
    as_aux_lemma =>
     obtain ⟨⟨E1, r1⟩, HQ1⟩ : ∃ q, Hid (r.leave [(0 : Int)] = q) := ⟨_, rfl⟩
     obtain ⟨⟨E2, r2⟩, HQ2⟩ : ∃ q, Hid (r1.leave [(1 : Int)] = q) := ⟨_, rfl⟩
     have hk0 := HN.out.lz.ok
     have HK1 : Hid r1.Ok := by have h := hk0.leave [(0 : Int)]; rw [HQ1.out] at h; exact h
     have HK2 : Hid r2.Ok := by have h := HK1.out.leave [(1 : Int)]; rw [HQ2.out] at h; exact h
     have hlen : r2.ln.length <= 1000 := by
      have h1 := (HN.out.lz.reg.few24g hk0)
      have h3 : r1.ln = r.ln := (leave_out (i := 0) HGQ.out.two (by omega) HQ1.out).2.2
      have h4 : r2.ln = r1.ln := (leave_out (i := 1) (by rw [(leave_out (i := 0) HGQ.out.two (by omega) HQ1.out).1, List.length_set]; exact HGQ.out.two) (by omega) HQ2.out).2.2
      rw [h4, h3]; omega
     have hin : r2.ck.ins = [0, 0] := by
      rw [(leave_out (i := 1) (by rw [(leave_out (i := 0) HGQ.out.two (by omega) HQ1.out).1, List.length_set]; exact HGQ.out.two) (by omega) HQ2.out).1, (leave_out (i := 0) HGQ.out.two (by omega) HQ1.out).1]
      exact two_out HGQ.out.two
     obtain ⟨r3, HQ3, HL3⟩ : ∃ r3, Hid (r2.settle 1000 = (r2.ln, r3)) /\ Hid (r3.ln = []) := by
      obtain ⟨g1, g2⟩ := all_go hin hlen
      exact ⟨(r2.settle 1000).2, by show _ = _; rw [<- g1]; rfl, g2⟩
     have HK3 : Hid r3.Ok := by have h := HK2.out.settle 1000; rw [HQ3.out] at h; exact h
     clear hk0 hin
     obtain ⟨n2, HN2⟩ : ∃ n2, Hid (r2.ln.length = n2) := ⟨_, rfl⟩
     have hn2 : n2 <= 1000 := by rw [<- HN2.out]; exact hlen
     have hnn : ((n2 : Int) == (n2 : Int)) = true := by simp
     clear hlen
     obtain ⟨Z1, HZ1, HBZ1, HSZ1⟩ := lit_oneR wr 0 (WalkArith.wf_i64 (by omega))
     have HLZ1 := keepG (HN.out.lz.below HBZ1.out)
     have HAP1 : Hid (Apt G (fun k => k = wr.heap.size)) := fun k e1 e2 => by have := HN.out.lz.reg.lies k e1; omega
     have c1 := HN.out.lz.low.2.2
     have K1 : Hid True := trivial
     have K2 : Hid True := trivial
     have K3 : Hid True := trivial
     have K4 : Hid True := trivial
     go_wp2_with (first
      | (rw [HZ1.out])
      | (go_at_call 16; (have hq := K1; clear hq); go_must (refine (HLZ1.out.reg.leave HLZ1.out.ok HSZ1.out (fun _ k e g => HAP1.out k e (Option.some.inj g).symm) HQ1).mono ?_); rintro e4 w4 ⟨rfl, G4, hl4, hn4⟩; go_must (have HL4 := keepG (Lz24.next HLZ1.out hl4 hn4 HK1.out); have c4 := HL4.out.low.2.2; obtain ⟨Z2, HZ2, HBZ2, HSZ2⟩ := lit_oneR w4 1 (WalkArith.wf_i64 (by omega)); have HLZ2 := keepG (HL4.out.below HBZ2.out); have HAP2 : Hid (Apt G4 (fun k => k = w4.heap.size)) := (fun k e1 e2 => (by have := HL4.out.reg.lies k e1; omega)); clear hl4 hn4 K1))
      | (rw [HZ2.out])
      | (go_at_call 16; (have hq := K2; clear hq); go_must (refine (HLZ2.out.reg.leave HLZ2.out.ok HSZ2.out (fun _ k e g => HAP2.out k e (Option.some.inj g).symm) HQ2).mono ?_); rintro e5 w5 ⟨rfl, G5, hl5, hn5⟩; go_must (have HL5 := keepG (Lz24.next HLZ2.out hl5 hn5 HK2.out); clear hl5 hn5 K2))
      | (go_at_call 10; (have hq := K3; clear hq); go_must (refine (HL5.out.reg.retiring HL5.out.ok).mono ?_); rintro e6 w6 ⟨u6, rfl, hu6, hb6⟩; go_must (obtain ⟨a6, c6, ev⟩ := own_shape hu6; subst ev; rw [HN2.out]; have HL6 := keepG (HL5.out.below hb6); clear hu6 hb6 K3))
      | (go_at_call 7; go_must (refine (HL6.out.reg.settle HL6.out.ok 1000 HQ3).mono ?_); rintro e7 w7 ⟨u7, rfl, hu7, G7, hl7, hn7, _⟩; go_must (obtain ⟨a7, c7, ev⟩ := own_shape hu7; subst ev; rw [HN2.out]; have HL7 := keepG (Lz24.next HL6.out hl7 hn7 HK3.out); clear hu7 hl7 hn7))
      | (go_at_call 10; (have hq := K4; clear hq); go_must (refine (HL7.out.reg.retiring HL7.out.ok).mono ?_); rintro e8 w8 ⟨u8, rfl, hu8, hb8⟩; go_must (rw [HL3.out] at hu8; obtain ⟨a8, c8, ev⟩ := own_shape hu8; subst ev; have HL8 := keepG (HL7.out.below hb8); clear hu8 hb8)))
     have HBE := keepG HL8.out.be
     go_ret
     exact ⟨rfl, HBE.out⟩
   ·have h2 : True := True.intro
    as_aux_lemma =>
     obtain ⟨⟨E1, r1⟩, HQ1⟩ : ∃ q, Hid (r.leave [(0 : Int)] = q) := ⟨_, rfl⟩
     obtain ⟨⟨E2, r2⟩, HQ2⟩ : ∃ q, Hid (r1.leave [(1 : Int)] = q) := ⟨_, rfl⟩
     have hk0 := HN.out.lz.ok
     have HK1 : Hid r1.Ok := by have h := hk0.leave [(0 : Int)]; rw [HQ1.out] at h; exact h
     have HK2 : Hid r2.Ok := by have h := HK1.out.leave [(1 : Int)]; rw [HQ2.out] at h; exact h
     have hlen : r2.ln.length <= 1000 := by
      have h1 := (HN.out.lz.reg.few24g hk0)
      have h3 : r1.ln = r.ln := (leave_out (i := 0) HGQ.out.two (by omega) HQ1.out).2.2
      have h4 : r2.ln = r1.ln := (leave_out (i := 1) (by rw [(leave_out (i := 0) HGQ.out.two (by omega) HQ1.out).1, List.length_set]; exact HGQ.out.two) (by omega) HQ2.out).2.2
      rw [h4, h3]; omega
     have hin : r2.ck.ins = [0, 0] := by
      rw [(leave_out (i := 1) (by rw [(leave_out (i := 0) HGQ.out.two (by omega) HQ1.out).1, List.length_set]; exact HGQ.out.two) (by omega) HQ2.out).1, (leave_out (i := 0) HGQ.out.two (by omega) HQ1.out).1]
      exact two_out HGQ.out.two
     obtain ⟨r3, HQ3, HL3⟩ : ∃ r3, Hid (r2.settle 1000 = (r2.ln, r3)) /\ Hid (r3.ln = []) := by
      obtain ⟨g1, g2⟩ := all_go hin hlen
      exact ⟨(r2.settle 1000).2, by show _ = _; rw [<- g1]; rfl, g2⟩
     have HK3 : Hid r3.Ok := by have h := HK2.out.settle 1000; rw [HQ3.out] at h; exact h
     clear hk0 hin
     obtain ⟨n2, HN2⟩ : ∃ n2, Hid (r2.ln.length = n2) := ⟨_, rfl⟩
     have hn2 : n2 <= 1000 := by rw [<- HN2.out]; exact hlen
     have hnn : ((n2 : Int) == (n2 : Int)) = true := by simp
     clear hlen
     obtain ⟨Z1, HZ1, HBZ1, HSZ1⟩ := lit_oneR wr 0 (WalkArith.wf_i64 (by omega))
     have HLZ1 := keepG (HN.out.lz.below HBZ1.out)
     have HAP1 : Hid (Apt G (fun k => k = wr.heap.size)) := fun k e1 e2 => by have := HN.out.lz.reg.lies k e1; omega
     have c1 := HN.out.lz.low.2.2
     have K1 : Hid True := trivial
     have K2 : Hid True := trivial
     have K3 : Hid True := trivial
     have K4 : Hid True := trivial
     go_wp2_with (first
      | (rw [HZ1.out])
      | (go_at_call 16; (have hq := K1; clear hq); go_must (refine (HLZ1.out.reg.leave HLZ1.out.ok HSZ1.out (fun _ k e g => HAP1.out k e (Option.some.inj g).symm) HQ1).mono ?_); rintro e4 w4 ⟨rfl, G4, hl4, hn4⟩; go_must (have HL4 := keepG (Lz24.next HLZ1.out hl4 hn4 HK1.out); have c4 := HL4.out.low.2.2; obtain ⟨Z2, HZ2, HBZ2, HSZ2⟩ := lit_oneR w4 1 (WalkArith.wf_i64 (by omega)); have HLZ2 := keepG (HL4.out.below HBZ2.out); have HAP2 : Hid (Apt G4 (fun k => k = w4.heap.size)) := (fun k e1 e2 => (by have := HL4.out.reg.lies k e1; omega)); clear hl4 hn4 K1))
      | (rw [HZ2.out])
      | (go_at_call 16; (have hq := K2; clear hq); go_must (refine (HLZ2.out.reg.leave HLZ2.out.ok HSZ2.out (fun _ k e g => HAP2.out k e (Option.some.inj g).symm) HQ2).mono ?_); rintro e5 w5 ⟨rfl, G5, hl5, hn5⟩; go_must (have HL5 := keepG (Lz24.next HLZ2.out hl5 hn5 HK2.out); clear hl5 hn5 K2))
      | (go_at_call 10; (have hq := K3; clear hq); go_must (refine (HL5.out.reg.retiring HL5.out.ok).mono ?_); rintro e6 w6 ⟨u6, rfl, hu6, hb6⟩; go_must (obtain ⟨a6, c6, ev⟩ := own_shape hu6; subst ev; rw [HN2.out]; have HL6 := keepG (HL5.out.below hb6); clear hu6 hb6 K3))
      | (go_at_call 7; go_must (refine (HL6.out.reg.settle HL6.out.ok 1000 HQ3).mono ?_); rintro e7 w7 ⟨u7, rfl, hu7, G7, hl7, hn7, _⟩; go_must (obtain ⟨a7, c7, ev⟩ := own_shape hu7; subst ev; rw [HN2.out]; have HL7 := keepG (Lz24.next HL6.out hl7 hn7 HK3.out); clear hu7 hl7 hn7))
      | (go_at_call 10; (have hq := K4; clear hq); go_must (refine (HL7.out.reg.retiring HL7.out.ok).mono ?_); rintro e8 w8 ⟨u8, rfl, hu8, hb8⟩; go_must (rw [HL3.out] at hu8; obtain ⟨a8, c8, ev⟩ := own_shape hu8; subst ev; have HL8 := keepG (HL7.out.below hb8); clear hu8 hb8)))
     have HBE := keepG HL8.out.be
     go_ret
     exact ⟨rfl, HBE.out⟩
theorem registryGrace_walk (sv : Value) (is : List Ow24) (w : World) (hs : Scq24 w sv is) (hl : is.length * 48 <= 140737488351232 /\ ∀ x ∈ is, x.ws.length <= 140737488351232) : Calls Tryz.prog 4 #[sv] w fun e w' => e = .returned (.bool true) /\ Below w.heap.size w w' := grace_walk sv is w (hs.scr hl)
end Go.Proofs.YtlkdniglaldilaaGreat
