
/-
 The law EngineEnds where the module is good. Condition: as ever.
-/
import Derived.Test.YtmhdhekcogplhaaGreatME50
namespace Go.Proofs.YtmhdhekcogplhaaGreat
open Go.RowKit
set_option linter.unusedVariables false
set_option linter.unusedSimpArgs false
set_option maxRecDepth 100000

theorem own_shapeE {w : World} {base : Nat} {e : TypeId} {z : Nat} {v : Value} {n : Nat} {xs : List Value} (h : w.ownsRow base e z v n xs) : ∃ a c, v = .slice a n c := by
 rcases h with ⟨h1, ⟨rfl, h2⟩ | ⟨g, cap, cur, rfl, _⟩⟩
 ·subst h2; exact ⟨none, 0, rfl⟩
 ·exact ⟨_, cap, rfl⟩
theorem own_max {w : World} {base : Nat} {e : TypeId} {z : Nat} {a : Option Addr} {n c : Nat} {xs : List Value} (h : w.ownsRow base e z (.slice a n c) n xs) : n <= 9223372036854775807 := by
 rcases h with ⟨h1, ⟨e1, h2⟩ | ⟨g, cap, cur, e1, hb, hh, h3, h4, _⟩⟩
 ·omega
 ·unfold maxLen at h4; omega
theorem own_cellI {w : World} {base : Nat} {e : TypeId} {a : Option Addr} {c : Nat} {N : List Int} (h : w.ownsRow base e 1 (.slice a N.length c) N.length (N.map (Value.int .i64))) {q : Nat} (hq : q < N.length) : ∃ g, a = some ⟨g, 0, none⟩ /\ g < w.heap.size /\ w.cell? ⟨g, q, none⟩ = some (.int .i64 (N.getD q 0)) /\ N.length <= c /\ c <= 9223372036854775807 := by
 have h0 := h
 rcases h with ⟨h1, ⟨e1, h2⟩ | ⟨g, cap, cur, e1, hb, hh, h3, h4, _⟩⟩
 ·omega
 ·injection e1 with e1 e2 e3
  subst e1
  subst e3
  unfold maxLen at h4
  refine ⟨g, rfl, (Array.getElem?_eq_some_iff.1 hh).1, ?_, h3, by omega⟩
  rw [h0.cellAt q (by omega)]
  simp [List.getD, List.getElem?_eq_getElem hq]
def TraceSh (w w' : World) (T : List Ac) (m : Nat) (e : Ending) : Prop := ∃ ga lcap, e = .returned (.tuple #[.slice (some ⟨ga, 0, none⟩) (m + 1) lcap, .int .i64 0]) /\ ga < w'.heap.size /\ m + 1 <= lcap /\ lcap <= 9223372036854775807 /\ (∀ j, j < m + 1 -> ∀ i, i < 7 -> w'.cell? ⟨ga, j * 7 + i, none⟩ = (acC (T.getD j Ac.nil))[i]?) /\ Below w.heap.size w w'
theorem mtrace_sh {vm vc : Value} {ms : List Int} {xs : List In} (ev : Int × Int) (hev : (0 <= ev.1 /\ ev.1 <= 18446744073709551615) /\ 0 <= ev.2 /\ ev.2 <= 18446744073709551615) {vr : Value} {rs : List Rs} (w : World) (hm : SeesM w vm vc ms xs) (hrs : SeesR w vr rs) {K : Kn} (hK : inqR ms xs = .ok K) {T : List Ac} (HT : Hid (traceE ms xs ev 257 startE rs = T)) {m : Nat} (hl : T.length = m + 1) :
  Calls Tryz.prog 10 #[modV vm vc, evV ev, vr] w fun e w' => TraceSh w w' T m e := by
 refine (mtrace_sees ev hev w hm hrs hK HT).mono ?_
 rintro e w' ⟨v, rfl, ho, hb⟩
 obtain ⟨ga, cap, rfl, _, hg, hc, hcm, _⟩ := own_acts ho (k := 0) (by omega)
 rw [hl] at hc
 refine ⟨ga, cap, by rw [hl], hg, hc, by unfold maxLen at hcm; omega, fun j hj i hi => ?_, hb⟩
 obtain ⟨ga', cap', e', _, _, _, _, hA⟩ := own_acts ho (k := j) (by omega)
 injection e' with e1 e2 e3
 injection e1 with e1
 injection e1 with e1 e4
 subst e1
 exact hA i hi
set_option maxHeartbeats 6400000 in
theorem ends11_ok (vm vc : Value) (ms : List Int) (xs : List In) (ea eb : Int) (vr : Value) (rs : List Rs) (od : Int) (w : World) (h : SeesM w vm vc ms xs) (hr : SeesR w vr rs) (hev : (0 <= ea /\ ea <= 18446744073709551615) /\ 0 <= eb /\ eb <= 18446744073709551615) (z : ms.length * 8 <= 140737488351232 /\ xs.length * 40 <= 140737488355328 /\ rs.length * 48 <= 140737488355328) {K : Kn} (HI : Hid (inqR ms xs = .ok K)) :
  Calls Tryz.prog 5 #[runV vm vc ea eb vr od] w fun e w' => e = .returned (.bool true) /\ Below w.heap.size w w' := by
 obtain ⟨hmj, ⟨known, hKn, _⟩, hj0⟩ := judge_known HI.out
 have HJ : Hid (judgeR ms xs = (0, 0)) := hj0
 obtain ⟨ma, mcap, hvm⟩ : ∃ a c, vm = .slice a ms.length c := by obtain ⟨a, c, e, _⟩ := h.maps; exact ⟨a, c, e⟩
 have hml4 := maps_len hmj
 have hx64 := hKn.T.top
 subst hvm
 have HMs : Hid (Sees .i64 w (.slice ma ms.length mcap) ms) := h.maps
 have hmcap : mcap <= 9223372036854775807 /\ ms.length <= mcap := by obtain ⟨a, c, e, g1, g2, _⟩ := h.maps; injection e with e1 e2 e3; subst e3; unfold maxLen at g2; exact ⟨by omega, g1⟩
 obtain ⟨V, HV, HqV, hBV, hzV⟩ := boxQ w (.slice ma ms.length mcap) vc ea eb vr od
 have hz1 : ms.length * 8 <= 140737488351232 /\ xs.length * 40 <= 140737488355328 := ⟨z.1, z.2.1⟩
 have HQ : Hid (∀ wx : World, Below V.heap.size V wx -> Hp wx w.heap.size 31 (runC (.slice ma ms.length mcap) vc ea eb vr od)) := fun wx hb => HqV.out.below hb (by omega)
 have HSM : Hid (∀ wx : World, Below V.heap.size V wx -> SeesM wx (.slice ma ms.length mcap) vc ms xs) := fun wx hb => (h.below hBV).below hb
 have HQC : Hid (∀ wx : World, Below V.heap.size V wx -> wx.cell? ⟨w.heap.size, 0, none⟩ = some (.slice ma ms.length mcap) /\ wx.cell? ⟨w.heap.size, 1, none⟩ = some (vc) /\ wx.cell? ⟨w.heap.size, 2, none⟩ = some (.int .u64 ea) /\ wx.cell? ⟨w.heap.size, 3, none⟩ = some (.int .u64 eb) /\ wx.cell? ⟨w.heap.size, 4, none⟩ = some vr /\ wx.cell? ⟨w.heap.size, 5, none⟩ = some (.int .i64 od)) := fun wx hb => ⟨(HQ.out wx hb).cell rfl, (HQ.out wx hb).cell rfl, (HQ.out wx hb).cell rfl, (HQ.out wx hb).cell rfl, (HQ.out wx hb).cell rfl, (HQ.out wx hb).cell rfl⟩
 obtain ⟨c, hc⟩ : ∃ c : Nat, costA xs = c /\ c <= 256 := cost_nat xs
 have HC : Hid (((c : Nat) : Int) = costA xs) := hc.1.symm
 have hc256 := hc.2
 obtain ⟨FE, HE⟩ : ∃ FE, Hid (FE = errL xs) := ⟨_, rfl⟩
 obtain ⟨i0, hi, hz0, hzz1, hz2⟩ := info_parts Tryz.infoResE
 have HRS : Hid (SeesR w vr rs) := hr
 obtain ⟨ra, rcap, rfl⟩ : ∃ a c, vr = .slice a rs.length c := by obtain ⟨a, c, e, _⟩ := hr; exact ⟨a, c, e⟩
 have hrl : rs.length <= 9223372036854775807 := by omega
 have K1 : Hid True := trivial
 have hfld : ∀ (a : Option Addr) (n c : Nat) (a' : Option Addr) (n' c' : Nat) (wx : World), (Instr.field 25 (modV (.slice a n c) (.slice a' n' c')) 1).run Tryz.prog wx = .ok (.slice a' n' c') wx := fun _ _ _ _ _ _ _ => by kernel_rfl
 clear hc
 go_enter Tryz.func5, Tryz.ntmps5
 go_wp2_with (first
  | (go_at_call 8; rw [HV.out]; go_must (refine (awake11_any V).mono ?_); rintro e w1 ⟨rfl, hb1⟩; go_must (have hz1w := hb1.size; have HQ1 := keepJ (HQ.out w1 hb1); (have q0 := HQ1.out.cell (j := 0) rfl); (have q1 := HQ1.out.cell (j := 1) rfl); (have q2 := HQ1.out.cell (j := 2) rfl); (have q3 := HQ1.out.cell (j := 3) rfl); (have q4 := HQ1.out.cell (j := 4) rfl); (have q5 := HQ1.out.cell (j := 5) rfl);  skip))
  | (go_at_call 9; (have hq := K1; clear hq); go_must (refine (copied9_own (.slice ma ms.length mcap) vc ms xs w1 (HSM.out w1 hb1) hz1).mono ?_); rintro e w2 ⟨um, uc, rfl, hs2, ho2, hoc2, hb2⟩; go_must (have HS2 := keepJ hs2; have hB2 : Below V.heap.size V w2 := hb1.trans (hb2.mono hz1w); have hz2w := hB2.size; clear hs2 K1 ho2 hoc2 hb2))
  | (go_at_call 25; go_must (refine (ljudge_as HS2.out.maps HS2.out.code HJ).mono ?_); rintro e w3 ⟨rfl, hb3⟩; go_must (have hB3 : Below V.heap.size V w3 := hB2.trans (hb3.mono hz2w); have hz3w := hB3.size; have HQ3 := keepJ (HQ.out w3 hB3); (have q0 := HQ3.out.cell (j := 0) rfl); (have q1 := HQ3.out.cell (j := 1) rfl); (have q2 := HQ3.out.cell (j := 2) rfl); (have q3 := HQ3.out.cell (j := 3) rfl); (have q4 := HQ3.out.cell (j := 4) rfl); (have q5 := HQ3.out.cell (j := 5) rfl);  clear hb3))
  | (go_at_call 9; go_must (refine (copied9_own (.slice ma ms.length mcap) vc ms xs w3 (HSM.out w3 hB3) hz1).mono ?_); rintro e w4 ⟨um4, uc4, rfl, hs4, ho4, hoc4, hb4⟩; go_must (obtain ⟨xa4, xc4, rfl⟩ : ∃ a c, um4 = .slice a ms.length c := (by obtain ⟨a, c, e, _⟩ := hs4.maps; exact ⟨a, c, e⟩); obtain ⟨ya4, yc4, rfl⟩ : ∃ a c, uc4 = .slice a xs.length c := (by obtain ⟨a, c, e, _⟩ := hs4.code; exact ⟨a, c, e⟩); have HS4 := keepJ hs4; have hB4 : Below V.heap.size V w4 := hB3.trans (hb4.mono hz3w); have hz4w := hB4.size; clear hs4 ho4 hoc4 hb4))
  | (go_at_call 26; go_must (refine (lcost_any _ xs w4 HS4.out.code HC HE).mono ?_); rintro e w5 ⟨rfl, hb5⟩; go_must (have hB5 : Below V.heap.size V w5 := hB4.trans (hb5.mono hz4w); have hz5w := hB5.size; clear hb5)))
 go_loopw [7, 8] (fun v0 n wr => ∃ (k : Nat) (ys : List Rs) (va : Value), va = v0 /\ n = .int .i64 k /\ k <= c /\ ys.length = k /\ (∀ r ∈ ys, r.wf) /\ wr.ownsRow w5.heap.size 45 6 va ys.length (flatR ys) /\ Below w5.heap.size w5 wr) (fun _ n _ => 300 - (intOf n).toNat)
 case atStart => exact ⟨0, [], _, rfl, rfl, Nat.zero_le _, rfl, by simp, World.ownsRow_nil _ _ _ _, Below.refl _ _⟩
 case round =>
  obtain ⟨k, ys, va, rfl, rfl, hk, hyl, hyw, hown, hbr⟩ := hrel
  have hzr := hbr.size
  have hqr : Below V.heap.size V wr := hB5.trans (hbr.mono hz5w)
  by_cases hkc : k < c
  ·have hkI : (k : Int) < c := by omega
   have hkI2 : (k : Int) <= 1000 := by omega
   have hw1 : IntKind.u64.wrap (k : Int) = k := by rw [IntKind.wrap_u64]; omega
   have hw2 : IntKind.u64.wrap ((k : Int) * 977) = (k : Int) * 977 := by rw [IntKind.wrap_u64]; omega
   obtain ⟨X, HX, HrX, hbX, hzX⟩ : ∃ X, Hid (wr.alloc (.cells #[.int .i64 0, .bool false, .int .u64 ((k : Int) * 977), .bool false, .int .u64 0, .int .u64 0] 45) = X) /\ Hid (Hp X wr.heap.size 45 [.int .i64 0, .bool false, .int .u64 ((k : Int) * 977), .bool false, .int .u64 0, .int .u64 0]) /\ Below wr.heap.size wr X /\ X.heap.size = wr.heap.size + 1 := ⟨_, rfl, Hp.new wr _ _, (Below.refl _ _).alloc (Nat.le_refl _) _, by simp⟩
   have hqX : Below V.heap.size V X := hqr.trans (hbX.mono hqr.size)
   have xq4 := (HQ.out X hqX).cell (j := 4) rfl
   have o0 := HrX.out.cell (j := 0) rfl
   have p0 := HrX.out.frozen 0
   have o1 := HrX.out.cell (j := 1) rfl
   have p1 := HrX.out.frozen 1
   have o2 := HrX.out.cell (j := 2) rfl
   have p2 := HrX.out.frozen 2
   have o3 := HrX.out.cell (j := 3) rfl
   have p3 := HrX.out.frozen 3
   have o4 := HrX.out.cell (j := 4) rfl
   have p4 := HrX.out.frozen 4
   have o5 := HrX.out.cell (j := 5) rfl
   have p5 := HrX.out.frozen 5
   by_cases hu : k < rs.length
   ·have huI : (k : Int) < rs.length := by omega
    obtain ⟨rb, ro, hrb, hrlt, hat⟩ : ∃ b off, ra = some ⟨b, off, none⟩ /\ b < w.heap.size /\ AtR w b (off + k * 6) (rs.getD k Rs.nil) := by
     obtain ⟨a1, c1, e, _, _, _, _, g⟩ := HRS.out
     injection e with e1 e2 e3
     subst e1
     obtain ⟨b, off, rfl, hlt, hat⟩ := g (fun e => by rw [e] at hu; simp at hu)
     exact ⟨b, off, rfl, hlt, hat k hu⟩
    have hrwf : (rs.getD k Rs.nil).wf := by
     obtain ⟨a1, c1, e, _, _, _, hw, _⟩ := HRS.out
     refine hw _ ?_
     rw [List.getD_eq_getElem?_getD, List.getElem?_eq_getElem hu]
     exact List.getElem_mem _
    have hrc : rs.length <= rcap /\ rcap <= 9223372036854775807 := by
     obtain ⟨a1, c1, e, g1, g2, _⟩ := HRS.out
     injection e with e1 e2 e3
     subst e3
     unfold maxLen at g2
     exact ⟨g1, by omega⟩
    subst hrb
    obtain ⟨⟨rE, rf, rv, ro', rk, ru⟩, HRr⟩ : ∃ r, Hid (rs.getD k Rs.nil = r) := ⟨_, rfl⟩
    rw [HRr.out] at hat hrwf
    obtain ⟨r0, r1, r2, r3, r4, r5⟩ := hat.below (hBV.trans (hqX.mono hBV.size)) hrlt
    simp only at r0 r1 r2 r3 r4 r5
    obtain ⟨X2, HX2, HrX2, hgX2⟩ : ∃ X2, Hid ((((((X.setCell ⟨wr.heap.size, 0, none⟩ (.int .i64 rE)).setCell ⟨wr.heap.size, 1, none⟩ (.bool rf)).setCell ⟨wr.heap.size, 2, none⟩ (.int .u64 rv)).setCell ⟨wr.heap.size, 3, none⟩ (.bool ro')).setCell ⟨wr.heap.size, 4, none⟩ (.int .u64 rk)).setCell ⟨wr.heap.size, 5, none⟩ (.int .u64 ru) = X2) /\ Hid (Hp X2 wr.heap.size 45 [.int .i64 rE, .bool rf, .int .u64 rv, .bool ro', .int .u64 rk, .int .u64 ru]) /\ X.grownBy X2 (some wr.heap.size) :=
     ⟨_, rfl, by have := HrX.out.sets [.int .i64 rE, .bool rf, .int .u64 rv, .bool ro', .int .u64 rk, .int .u64 ru] 0; exact this, grown_sets wr.heap.size [.int .i64 rE, .bool rf, .int .u64 rv, .bool ro', .int .u64 rk, .int .u64 ru] X 0⟩
    have hzX' : X2.heap.size = wr.heap.size + 1 := by have h1 := HX2.out; rw [<- h1]; simp [World.setCell, hzX]
    have hb2 : Below wr.heap.size wr X2 := hbX.trans (grown_to_below hgX2 (Nat.le_refl _) (by omega))
    have hownX := own_below hown hb2 (Nat.le_refl _)
    have hBX5 : Below w5.heap.size w5 X2 := hbr.trans (hb2.mono hzr)
    have s0 := HrX2.out.cell (j := 0) rfl
    have s1 := HrX2.out.cell (j := 1) rfl
    have s2 := HrX2.out.cell (j := 2) rfl
    have s3 := HrX2.out.cell (j := 3) rfl
    have s4 := HrX2.out.cell (j := 4) rfl
    have s5 := HrX2.out.cell (j := 5) rfl
    clear hat
    go_wp2_with (first
     | (at_builtin; (try rw [HX2.out]); go_must (refine wpList_append_own _ rfl _ _ 29 rfl w5.heap.size 45 i0 _ 6 48 Tryz.underlying29 hi hz0 hzz1 hz2 rfl (by decide) _ _ _ rfl (hownX.alloc _) ⟨_, 0, none⟩ 1 1 (rsC ⟨rE, rf, rv, ro', rk, ru⟩) rfl rfl (seven_new _ _ _ _ hzX'.symm) (six_one ⟨rE, rf, rv, ro', rk, ru⟩) (by unfold maxLen; omega) (by omega) (by simp; omega) ?_); intro v' w9 hown' hgrow _; have R := res_more (r := ⟨rE, rf, rv, ro', rk, ru⟩) hownX hBX5 (by omega) hown' hgrow; clear hown' hgrow)
     | rw [HX.out]
     | rw [HX2.out])
    go_roundw
    case rel => exact ⟨k + 1, ys ++ [⟨rE, rf, rv, ro', rk, ru⟩], v', rfl, by go_num, by omega, by simp; omega, by intro r hr2; rcases List.mem_append.1 hr2 with h2 | h2; exact hyw r h2; (simp at h2; subst h2; exact hrwf), R.1, R.2⟩
    case measure => simp [intOf]; omega
   ·have huI : ¬ (k : Int) < rs.length := by omega
    have hzX' : X.heap.size = wr.heap.size + 1 := hzX
    have hownX := own_below hown hbX (Nat.le_refl _)
    have hBX5 : Below w5.heap.size w5 X := hbr.trans (hbX.mono hzr)
    go_wp2_with (first
     | (at_builtin; (try rw [HX.out]); go_must (refine wpList_append_own _ rfl _ _ 29 rfl w5.heap.size 45 i0 _ 6 48 Tryz.underlying29 hi hz0 hzz1 hz2 rfl (by decide) _ _ _ rfl (hownX.alloc _) ⟨_, 0, none⟩ 1 1 (rsC ⟨0, false, (k : Int) * 977, false, 0, 0⟩) rfl rfl (seven_new _ _ _ _ hzX'.symm) (six_one ⟨0, false, (k : Int) * 977, false, 0, 0⟩) (by unfold maxLen; omega) (by omega) (by simp; omega) ?_); intro v' w9 hown' hgrow _; have R := res_more (r := ⟨0, false, (k : Int) * 977, false, 0, 0⟩) hownX hBX5 (by omega) hown' hgrow; clear hown' hgrow)
     | rw [HX.out])
    go_roundw
    case rel => exact ⟨k + 1, ys ++ [⟨0, false, (k : Int) * 977, false, 0, 0⟩], v', rfl, by go_num, by omega, by simp; omega, by intro r hr2; rcases List.mem_append.1 hr2 with h2 | h2; exact hyw r h2; (simp at h2; subst h2; exact ⟨by show (0 : Int) <= (k : Int) * 977; omega, by show (k : Int) * 977 <= _; omega⟩), R.1, R.2⟩
    case measure => simp [intOf]; omega
  ·obtain rfl : c = k := by omega
   have herr : errL xs = 0 := check_ok.2 hKn.T
   have hcc : costC (loopsL xs) xs.length = c := by have := HC.out; unfold costA at this; rw [if_pos herr] at this; exact this.symm
   have HYs := keepJ (own_seesR hown hyw)
   obtain ⟨ya, yc, rfl⟩ : ∃ a c, va = .slice a ys.length c := by obtain ⟨a, c, e, _⟩ := HYs.out; exact ⟨a, c, e⟩
   have hTr := trace_cost (ev := (ea, eb)) hKn hev (rs := ys) (by omega) hyw
   obtain ⟨T, HT⟩ : ∃ T, Hid (traceE ms xs (ea, eb) 257 startE ys = T) := ⟨_, rfl⟩
   rw [HT.out] at hTr
   obtain ⟨m, hm⟩ : ∃ m, T.length = m + 1 := ⟨T.length - 1, by have := hTr.ne; omega⟩
   have hlen := hTr.len
   rw [hm, hcc] at hlen
   have hlastk := hTr.last
   rw [hm, show m + 1 - 1 = m by omega] at hlastk
   have hhd := hTr.hd
   have HTr := keepJ hTr
   have HHm := keepJ hm
   have HHl := keepJ hlen
   have HHk := keepJ hlastk
   have HHd := keepJ hhd
   have HHe := keepJ herr
   have HHc := keepJ hcc
   have HYL := keepJ hyl
   clear hTr hm hlen hlastk hhd herr hcc hyl
   go_wp2
   go_region_held3 (fun w' => w'.cell? ⟨w.heap.size, 0, none⟩ = some (.slice ma ms.length mcap) /\ w'.cell? ⟨w.heap.size, 1, none⟩ = some (vc) /\ w'.cell? ⟨w.heap.size, 2, none⟩ = some (.int .u64 ea) /\ w'.cell? ⟨w.heap.size, 3, none⟩ = some (.int .u64 eb) /\ w'.cell? ⟨w.heap.size, 4, none⟩ = some (.slice ra rs.length rcap) /\ w'.cell? ⟨w.heap.size, 5, none⟩ = some (.int .i64 od))
    (first | with_reducible exact hS6 | with_reducible exact hS7 | exact HQC.out wr hqr)
    (first
     | (go_at_call 9; go_must (refine (copied9_own (.slice ma ms.length mcap) vc ms xs wr.drew (HSM.out wr.drew (below_drE hqr)) hz1).mono ?_); rintro e w6 ⟨um6, uc6, rfl, hs6, ho6, hoc6, hb6'⟩; go_must (have hb6 : Below wr.heap.size wr w6 := below_undrew hb6'; have hB6 : Below V.heap.size V w6 := hqr.trans (hb6.mono hqr.size); have HS6 := keepJ hs6; have hS6 := HQC.out w6 hB6; have HY6 := keepJ (HYs.out.below hb6 (Nat.le_refl _)); clear hs6 hb6' ho6 hoc6))
     | (go_at_call 10; go_must (refine (mtrace_sh (ea, eb) hev w6 HS6.out HY6.out HI.out HT HHm.out).mono ?_); rintro e w7 ⟨ga, lcap, rfl, hgl, hlc, hlmI, hall, hb7⟩; go_must (have hB7 : Below V.heap.size V w7 := hB6.trans (hb7.mono hB6.size); have hS7 := HQC.out w7 hB7; have HAll := keepJ hall; clear hall)))
   have hlen := HHl.out
   have hm := HHm.out
   have herr := HHe.out
   have hcl : w7.cell? ⟨ga, m * 7, none⟩ = some (.int .i64 4) := by
    have := HAll.out m (by omega) 0 (by omega)
    rw [Nat.add_zero] at this
    rw [this, <- HHk.out]
    rfl
   have hcf : w7.cell? ⟨ga, 1, none⟩ = some (.int .i64 0) := by
    have := HAll.out 0 (by omega) 1 (by omega)
    rw [show 0 * 7 + 1 = 1 by omega] at this
    rw [this]
    show some (Value.int .i64 (T.getD 0 Ac.nil).pc) = _
    rw [HHd.out]
    rfl
   have hmI : (m : Int) + 1 <= c := by omega
   have hmI2 : ¬ (c : Int) < (m : Int) + 1 := by omega
   have hmI3 : ¬ (m : Int) + 1 < 1 := by omega
   have hm255 : (m : Int) <= 300 := by omega
   have HBW := keepJ hB7
   clear hS6 hS7 hb7 hown hyw
   go_wp2
   go_loopw [12] (fun i wx => ∃ j : Nat, j <= m + 1 /\ i = .int .i64 j /\ Below w7.heap.size w7 wx) (fun i _ => m + 2 - (intOf i).toNat)
   case atStart => exact ⟨0, by omega, rfl, by first | exact Below.refl _ _ | exact below_drE (Below.refl _ _)⟩
   case round =>
    obtain ⟨j, hj, rfl, hbj⟩ := hrel
    by_cases hjl : j < m + 1
    ·have hjI : (j : Int) < (m : Int) + 1 := by omega
     have hjI2 : (j : Int) <= 1000 := by omega
     obtain ⟨hp0, hp1, hAct2⟩ := HTr.out.each j (by omega)
     have hlink := HTr.out.link j
     obtain ⟨⟨ak, apc, am, ao, aq, av, an⟩, HAj⟩ : ∃ A, Hid (T.getD j Ac.nil = A) := ⟨_, rfl⟩
     rw [HAj.out] at hp0 hp1 hAct2 hlink
     simp only at hp0 hp1 hAct2 hlink
     obtain ⟨p, rfl⟩ := Int.eq_ofNat_of_zero_le hp0
     have HLink : Hid (j < m -> (T.getD (j + 1) Ac.nil).pc ∈ nextL (nth xs p) p) := fun h1 => hlink (by omega)
     have HCell : Hid (∀ wx : World, Below w7.heap.size w7 wx -> wx.cell? ⟨ga, j * 7, none⟩ = some (.int .i64 ak) /\ wx.cell? ⟨ga, j * 7 + 1, none⟩ = some (.int .i64 p) /\ wx.cell? ⟨ga, j * 7 + 2, none⟩ = some (.int .i64 am) /\ wx.cell? ⟨ga, j * 7 + 3, none⟩ = some (.int .i64 ao)) := fun wx hb => by
      have hh := fun i hi => HAll.out j (by omega) i hi
      rw [HAj.out] at hh
      exact ⟨(hb.cell (p := ⟨ga, j * 7, none⟩) hgl).trans (by have := hh 0 (by omega); rw [Nat.add_zero] at this; exact this), (hb.cell (p := ⟨ga, j * 7 + 1, none⟩) hgl).trans (hh 1 (by omega)), (hb.cell (p := ⟨ga, j * 7 + 2, none⟩) hgl).trans (hh 2 (by omega)), (hb.cell (p := ⟨ga, j * 7 + 3, none⟩) hgl).trans (hh 3 (by omega))⟩
     have HAc : Hid (∀ wx : World, Below w7.heap.size w7 wx -> wx.cell? ⟨ga, j * 7 + 1, none⟩ = some (.int .i64 p)) := fun wx hb => (HCell.out wx hb).2.1
     clear hlink
     obtain ⟨c0, c1, c2, c3⟩ := HCell.out wr hbj
     by_cases hk2 : ak = 2
     ·have k2 : (ak == 2) = true := by simp [hk2]
      obtain ⟨hmem, ho0, ho4⟩ := hAct2 hk2
      have HMem := keepJ hmem
      have HK2 := keepJ hk2
      have ho0' : ¬ ao < 0 := by omega
      have ho4' : ¬ ao ≥ 5 := by omega
      have ho5' : ¬ 5 <= ao := by omega
      clear hk2 hmem
      go_wp2
      go_loopw [13, 14] (fun th i wx => ∃ (q : Nat) (bb : Bool), q <= ms.length /\ th = .bool bb /\ i = .int .i64 q /\ (bb = true ∨ ∀ j', j' < q -> ms.getD j' 0 ≠ am) /\ Below w7.heap.size w7 wx) (fun _ i _ => ms.length + 1 - (intOf i).toNat)
      case atStart => exact ⟨0, false, Nat.zero_le _, rfl, rfl, .inr (fun j' hj' => absurd hj' (by omega)), hbj⟩
      case round =>
       obtain ⟨q, bb, hq, rfl, rfl, hth, hbx⟩ := hrel
       have HB := keepJ hbx
       obtain ⟨c0, c1, c2, c3⟩ := HCell.out wr hbx
       have hqn : Below V.heap.size V wr := HBW.out.trans (hbx.mono (by have := HBW.out.size; omega))
       obtain ⟨q0, q1, q2, q3, q4, q5⟩ := HQC.out wr hqn
       by_cases hqM : q < ms.length
       ·have hqI : (q : Int) < ms.length := by omega
        have hqI2 : (q : Int) <= 1000 := by omega
        obtain ⟨mb, mo, hma, hmlt, hmc⟩ : ∃ b off, ma = some ⟨b, off, none⟩ /\ b < w.heap.size /\ w.cell? ⟨b, off + q, none⟩ = some (.int .i64 (ms.getD q 0)) := by
         obtain ⟨a1, c1, e, _, _, _, _, g⟩ := HMs.out
         injection e with e1 e2 e3
         subst e1
         obtain ⟨b, off, rfl, hlt, hat⟩ := g (fun e => by rw [e] at hqM; simp at hqM)
         exact ⟨b, off, rfl, hlt, hat q hqM⟩
        subst hma
        have hmcell := ((hBV.trans (hqn.mono hBV.size)).cell (p := ⟨mb, mo + q, none⟩) hmlt).trans hmc
        obtain ⟨y, HY⟩ : ∃ y, Hid (ms.getD q 0 = y) := ⟨_, rfl⟩
        rw [HY.out] at hmcell
        clear hmc
        cases bb with
        | true =>
         go_wp2
         go_region
         go_wp2
         go_roundw
         case rel => exact ⟨q + 1, true, by omega, rfl, by go_num, .inl rfl, below_drE hbx⟩
         case measure => (simp [intOf]; try omega)
        | false =>
         have hno := hth.resolve_left (by simp)
         by_cases hyy : y = am
         ·subst hyy
          go_wp2
          go_region
          go_wp2
          go_roundw
          case rel => exact ⟨q + 1, true, by omega, rfl, by go_num, .inl rfl, below_drE hbx⟩
          case measure => (simp [intOf]; try omega)
         ·have hyb : (y == am) = false := by simpa using hyy
          go_wp2
          go_region
          go_wp2
          go_roundw
          case rel => exact ⟨q + 1, false, by omega, by first | rfl | (simp [hyy]), by go_num, .inr (fun j' hj' => by
           by_cases e : j' = q
           ·subst e; rw [HY.out]; exact hyy
           ·exact hno j' (by omega)), below_drE hbx⟩
          case measure => (simp [intOf]; try omega)
       ·obtain rfl : q = ms.length := by omega
        cases bb with
        | false =>
         exfalso
         have hno := hth.resolve_left (by simp)
         obtain ⟨i, hi, he⟩ := List.getElem_of_mem HMem.out
         have := hno i hi
         rw [List.getD_eq_getElem?_getD, List.getElem?_eq_getElem hi] at this
         exact this he
        | true =>
         have hask : askL xs (p : Int) = 0 := by unfold askL; rw [if_neg (by rw [herr]; simp), if_neg (by omega)]
         have HA0 : Hid ((0 : Int) = askL xs (p : Int)) := hask.symm
         obtain ⟨N, HN⟩ : ∃ N, Hid (nextA xs (p : Int) = N) := ⟨_, rfl⟩
         have HNL : Hid (N = nextL (nth xs p) p) := by show _ = _; rw [<- HN.out]; unfold nextA; rw [if_pos hask]; rfl
         have hqn : Below V.heap.size V wr := HBW.out.trans (HB.out.mono (by have := HBW.out.size; omega))
         have hS0 : wr.cell? ⟨ga, j * 7 + 1, none⟩ = some (.int .i64 p) /\ wr.cell? ⟨w.heap.size, 0, none⟩ = some (.slice ma ms.length mcap) /\ wr.cell? ⟨w.heap.size, 1, none⟩ = some (vc) /\ wr.cell? ⟨w.heap.size, 2, none⟩ = some (.int .u64 ea) /\ wr.cell? ⟨w.heap.size, 3, none⟩ = some (.int .u64 eb) /\ wr.cell? ⟨w.heap.size, 4, none⟩ = some (.slice ra rs.length rcap) /\ wr.cell? ⟨w.heap.size, 5, none⟩ = some (.int .i64 od) := ⟨HAc.out wr HB.out, HQC.out wr hqn⟩
         have HXc := keepJ (HSM.out wr hqn)
         go_wp2
         go_region_held3 (fun w' => w'.cell? ⟨ga, j * 7 + 1, none⟩ = some (.int .i64 p) /\ w'.cell? ⟨w.heap.size, 0, none⟩ = some (.slice ma ms.length mcap) /\ w'.cell? ⟨w.heap.size, 1, none⟩ = some (vc) /\ w'.cell? ⟨w.heap.size, 2, none⟩ = some (.int .u64 ea) /\ w'.cell? ⟨w.heap.size, 3, none⟩ = some (.int .u64 eb) /\ w'.cell? ⟨w.heap.size, 4, none⟩ = some (.slice ra rs.length rcap) /\ w'.cell? ⟨w.heap.size, 5, none⟩ = some (.int .i64 od))
          (first | with_reducible exact hS8 | exact hS0)
          (first | (go_at_call 27; go_must (refine (lnext_any vc xs p wr.drew HXc.out.code.drewI HA0).mono ?_); rintro e w8 ⟨u, rfl, hou', hb8'⟩; go_must (have hb8 : Below wr.heap.size wr w8 := below_undrew hb8'; have hB8 : Below w7.heap.size w7 w8 := HB.out.trans (hb8.mono HB.out.size); have hS8 : w8.cell? ⟨ga, j * 7 + 1, none⟩ = some (.int .i64 p) /\ w8.cell? ⟨w.heap.size, 0, none⟩ = some (.slice ma ms.length mcap) /\ w8.cell? ⟨w.heap.size, 1, none⟩ = some (vc) /\ w8.cell? ⟨w.heap.size, 2, none⟩ = some (.int .u64 ea) /\ w8.cell? ⟨w.heap.size, 3, none⟩ = some (.int .u64 eb) /\ w8.cell? ⟨w.heap.size, 4, none⟩ = some (.slice ra rs.length rcap) /\ w8.cell? ⟨w.heap.size, 5, none⟩ = some (.int .i64 od) := ⟨HAc.out w8 hB8, HQC.out w8 (hqn.trans (hb8.mono hqn.size))⟩; have hou : w8.ownsRow wr.heap.size 3 1 u N.length (N.map (Value.int .i64)) := (by have := hou'; rw [HN.out] at this; exact this); obtain ⟨ua, uc8, rfl⟩ := own_shapeE hou; have HOU := keepJ hou; have HB8 := keepJ hB8; clear hou hou' hb8')))
         clear hS8 hS0
         have hNI : (0 : Int) <= N.length := by omega
         have hnm : N.length <= 9223372036854775807 := own_max HOU.out
         by_cases hjm : j = m
         ·subst hjm
          by_cases hn0 : N.length = 0
          ·have hn1 : (N.length : Int) = 0 := by omega
           go_wp2
           go_loopw [17, 18] (fun th i wx => th = .bool true /\ i = .int .i64 0 /\ Below w8.heap.size w8 wx) (fun _ _ _ => 0)
           case atStart => exact ⟨rfl, rfl, by first | exact Below.refl _ _ | exact below_drE (Below.refl _ _)⟩
           case round =>
            obtain ⟨rfl, rfl, hbx⟩ := hrel
            have hB9 : Below w7.heap.size w7 wr := HB8.out.trans (hbx.mono HB8.out.size)
            go_wp2
            go_roundw
            case rel => exact ⟨j + 1, by omega, by go_num, hB9⟩
            case measure => (simp [intOf]; try omega)
          ·have hn1 : ¬ (N.length : Int) = 0 := by omega
           have hn2 : ((N.length : Int) == 0) = false := by simpa using hn1
           have hq0 : (0 : Int) < N.length := by omega
           go_wp2
           go_loopw [17, 18] (fun th i wx => th = .bool true /\ i = .int .i64 0 /\ Below w8.heap.size w8 wx) (fun _ _ _ => 0)
           case atStart => exact ⟨rfl, rfl, by first | exact Below.refl _ _ | exact below_drE (Below.refl _ _)⟩
           case round =>
            obtain ⟨rfl, rfl, hbx⟩ := hrel
            have hB9 : Below w7.heap.size w7 wr := HB8.out.trans (hbx.mono HB8.out.size)
            go_wp2
            go_roundw
            case rel => exact ⟨j + 1, by omega, by go_num, hB9⟩
            case measure => (simp [intOf]; try omega)
         ·have hjm1 : j < m := by omega
          have hjI1 : ¬ (j : Int) = m := by omega
          have hjb : ((j : Int) == m) = false := by simpa using hjI1
          have hlk := HLink.out hjm1
          have hn0 : 0 < N.length := by rw [HNL.out]; exact List.length_pos_of_mem hlk
          have hn1 : ¬ (N.length : Int) = 0 := by omega
          have hn2 : ((N.length : Int) == 0) = false := by simpa using hn1
          go_wp2
          go_loopw [17, 18] (fun th i wx => ∃ (q : Nat) (bb : Bool), q <= N.length /\ th = .bool bb /\ i = .int .i64 q /\ (bb = true ∨ (j < m /\ ∀ j', j' < q -> N.getD j' 0 ≠ (T.getD (j + 1) Ac.nil).pc)) /\ Below w8.heap.size w8 wx) (fun _ i _ => N.length + 1 - (intOf i).toNat)
          case atStart => exact ⟨0, false, Nat.zero_le _, rfl, rfl, .inr ⟨hjm1, fun j' hj' => absurd hj' (by omega)⟩, by first | exact Below.refl _ _ | exact below_drE (Below.refl _ _)⟩
          case round =>
           obtain ⟨q, bb, hq, rfl, rfl, hth, hbx⟩ := hrel
           have hB9 : Below w7.heap.size w7 wr := HB8.out.trans (hbx.mono HB8.out.size)
           have hqm : (q : Int) <= N.length := by omega
           cases bb with
           | true =>
            by_cases hqN : q < N.length
            ·have hqI : (q : Int) < N.length := by omega
             go_wp2
             go_roundw
             case rel => exact ⟨j + 1, by omega, by go_num, hB9⟩
             case measure => (simp [intOf]; try omega)
            ·have hqI : ¬ (q : Int) < N.length := by omega
             go_wp2
             go_roundw
             case rel => exact ⟨j + 1, by omega, by go_num, hB9⟩
             case measure => (simp [intOf]; try omega)
           | false =>
            obtain ⟨hj1, hno⟩ := hth.resolve_left (by simp)
            by_cases hqN : q < N.length
            ·have hqI : (q : Int) < N.length := by omega
             obtain ⟨gu, hua, hgu⟩ := own_cellI HOU.out hqN
             subst hua
             have hcu := (hbx.cell (p := ⟨gu, q, none⟩) hgu.1).trans hgu.2.1
             have hcap8 := hgu.2.2
             obtain ⟨y, HY⟩ : ∃ y, Hid (N.getD q 0 = y) := ⟨_, rfl⟩
             rw [HY.out] at hcu
             have hl1 := (hB9.cell (p := ⟨ga, (j + 1) * 7 + 1, none⟩) hgl).trans (HAll.out (j + 1) (by omega) 1 (by omega))
             obtain ⟨y', HY'⟩ : ∃ y', Hid ((T.getD (j + 1) Ac.nil).pc = y') := ⟨_, rfl⟩
             have hl2 : wr.cell? ⟨ga, (j + 1) * 7 + 1, none⟩ = some (.int .i64 y') := by rw [<- HY'.out]; exact hl1
             have hj1I : (j : Int) + 1 < (m : Int) + 1 := by omega
             have hj1J : (j : Int) + 1 <= 1000 := by omega
             clear hl1
             by_cases hyy : y = y'
             ·subst hyy
              go_wp2
              go_region
              go_wp2
              go_roundw
              case rel => exact ⟨q + 1, true, by omega, rfl, by go_num, .inl rfl, below_drE hbx⟩
              case measure => (simp [intOf]; try omega)
             ·have hyb : (y == y') = false := by simpa using hyy
              go_wp2
              go_region
              go_wp2
              go_roundw
              case rel => exact ⟨q + 1, false, by omega, by first | rfl | (simp [hyy]), by go_num, .inr ⟨hj1, fun j' hj' => by
               by_cases e : j' = q
               ·subst e; rw [HY.out, HY'.out]; exact hyy
               ·exact hno j' (by omega)⟩, below_drE hbx⟩
              case measure => (simp [intOf]; try omega)
            ·exfalso
             have hlk := HLink.out hj1
             rw [<- HNL.out] at hlk
             obtain ⟨i, hi, he⟩ := List.getElem_of_mem hlk
             have := hno i (by omega)
             rw [List.getD_eq_getElem?_getD, List.getElem?_eq_getElem hi] at this
             exact this he
     ·have k2 : (ak == 2) = false := by simpa using hk2
      have HB := keepJ hbj
      have hask : askL xs (p : Int) = 0 := by unfold askL; rw [if_neg (by rw [herr]; simp), if_neg (by omega)]
      have HA0 : Hid ((0 : Int) = askL xs (p : Int)) := hask.symm
      obtain ⟨N, HN⟩ : ∃ N, Hid (nextA xs (p : Int) = N) := ⟨_, rfl⟩
      have HNL : Hid (N = nextL (nth xs p) p) := by show _ = _; rw [<- HN.out]; unfold nextA; rw [if_pos hask]; rfl
      have hqn : Below V.heap.size V wr := HBW.out.trans (HB.out.mono (by have := HBW.out.size; omega))
      have hS0 : wr.cell? ⟨ga, j * 7 + 1, none⟩ = some (.int .i64 p) /\ wr.cell? ⟨w.heap.size, 0, none⟩ = some (.slice ma ms.length mcap) /\ wr.cell? ⟨w.heap.size, 1, none⟩ = some (vc) /\ wr.cell? ⟨w.heap.size, 2, none⟩ = some (.int .u64 ea) /\ wr.cell? ⟨w.heap.size, 3, none⟩ = some (.int .u64 eb) /\ wr.cell? ⟨w.heap.size, 4, none⟩ = some (.slice ra rs.length rcap) /\ wr.cell? ⟨w.heap.size, 5, none⟩ = some (.int .i64 od) := ⟨HAc.out wr HB.out, HQC.out wr hqn⟩
      have HXc := keepJ (HSM.out wr hqn)
      go_wp2
      go_region_held3 (fun w' => w'.cell? ⟨ga, j * 7 + 1, none⟩ = some (.int .i64 p) /\ w'.cell? ⟨w.heap.size, 0, none⟩ = some (.slice ma ms.length mcap) /\ w'.cell? ⟨w.heap.size, 1, none⟩ = some (vc) /\ w'.cell? ⟨w.heap.size, 2, none⟩ = some (.int .u64 ea) /\ w'.cell? ⟨w.heap.size, 3, none⟩ = some (.int .u64 eb) /\ w'.cell? ⟨w.heap.size, 4, none⟩ = some (.slice ra rs.length rcap) /\ w'.cell? ⟨w.heap.size, 5, none⟩ = some (.int .i64 od))
       (first | with_reducible exact hS8 | exact hS0)
       (first | (go_at_call 27; go_must (refine (lnext_any vc xs p wr.drew HXc.out.code.drewI HA0).mono ?_); rintro e w8 ⟨u, rfl, hou', hb8'⟩; go_must (have hb8 : Below wr.heap.size wr w8 := below_undrew hb8'; have hB8 : Below w7.heap.size w7 w8 := HB.out.trans (hb8.mono HB.out.size); have hS8 : w8.cell? ⟨ga, j * 7 + 1, none⟩ = some (.int .i64 p) /\ w8.cell? ⟨w.heap.size, 0, none⟩ = some (.slice ma ms.length mcap) /\ w8.cell? ⟨w.heap.size, 1, none⟩ = some (vc) /\ w8.cell? ⟨w.heap.size, 2, none⟩ = some (.int .u64 ea) /\ w8.cell? ⟨w.heap.size, 3, none⟩ = some (.int .u64 eb) /\ w8.cell? ⟨w.heap.size, 4, none⟩ = some (.slice ra rs.length rcap) /\ w8.cell? ⟨w.heap.size, 5, none⟩ = some (.int .i64 od) := ⟨HAc.out w8 hB8, HQC.out w8 (hqn.trans (hb8.mono hqn.size))⟩; have hou : w8.ownsRow wr.heap.size 3 1 u N.length (N.map (Value.int .i64)) := (by have := hou'; rw [HN.out] at this; exact this); obtain ⟨ua, uc8, rfl⟩ := own_shapeE hou; have HOU := keepJ hou; have HB8 := keepJ hB8; clear hou hou' hb8')))
      clear hS8 hS0
      have hNI : (0 : Int) <= N.length := by omega
      have hnm : N.length <= 9223372036854775807 := own_max HOU.out
      by_cases hjm : j = m
      ·subst hjm
       by_cases hn0 : N.length = 0
       ·have hn1 : (N.length : Int) = 0 := by omega
        go_wp2
        go_loopw [17, 18] (fun th i wx => th = .bool true /\ i = .int .i64 0 /\ Below w8.heap.size w8 wx) (fun _ _ _ => 0)
        case atStart => exact ⟨rfl, rfl, by first | exact Below.refl _ _ | exact below_drE (Below.refl _ _)⟩
        case round =>
         obtain ⟨rfl, rfl, hbx⟩ := hrel
         have hB9 : Below w7.heap.size w7 wr := HB8.out.trans (hbx.mono HB8.out.size)
         go_wp2
         go_roundw
         case rel => exact ⟨j + 1, by omega, by go_num, hB9⟩
         case measure => (simp [intOf]; try omega)
       ·have hn1 : ¬ (N.length : Int) = 0 := by omega
        have hn2 : ((N.length : Int) == 0) = false := by simpa using hn1
        have hq0 : (0 : Int) < N.length := by omega
        go_wp2
        go_loopw [17, 18] (fun th i wx => th = .bool true /\ i = .int .i64 0 /\ Below w8.heap.size w8 wx) (fun _ _ _ => 0)
        case atStart => exact ⟨rfl, rfl, by first | exact Below.refl _ _ | exact below_drE (Below.refl _ _)⟩
        case round =>
         obtain ⟨rfl, rfl, hbx⟩ := hrel
         have hB9 : Below w7.heap.size w7 wr := HB8.out.trans (hbx.mono HB8.out.size)
         go_wp2
         go_roundw
         case rel => exact ⟨j + 1, by omega, by go_num, hB9⟩
         case measure => (simp [intOf]; try omega)
      ·have hjm1 : j < m := by omega
       have hjI1 : ¬ (j : Int) = m := by omega
       have hjb : ((j : Int) == m) = false := by simpa using hjI1
       have hlk := HLink.out hjm1
       have hn0 : 0 < N.length := by rw [HNL.out]; exact List.length_pos_of_mem hlk
       have hn1 : ¬ (N.length : Int) = 0 := by omega
       have hn2 : ((N.length : Int) == 0) = false := by simpa using hn1
       go_wp2
       go_loopw [17, 18] (fun th i wx => ∃ (q : Nat) (bb : Bool), q <= N.length /\ th = .bool bb /\ i = .int .i64 q /\ (bb = true ∨ (j < m /\ ∀ j', j' < q -> N.getD j' 0 ≠ (T.getD (j + 1) Ac.nil).pc)) /\ Below w8.heap.size w8 wx) (fun _ i _ => N.length + 1 - (intOf i).toNat)
       case atStart => exact ⟨0, false, Nat.zero_le _, rfl, rfl, .inr ⟨hjm1, fun j' hj' => absurd hj' (by omega)⟩, by first | exact Below.refl _ _ | exact below_drE (Below.refl _ _)⟩
       case round =>
        obtain ⟨q, bb, hq, rfl, rfl, hth, hbx⟩ := hrel
        have hB9 : Below w7.heap.size w7 wr := HB8.out.trans (hbx.mono HB8.out.size)
        have hqm : (q : Int) <= N.length := by omega
        cases bb with
        | true =>
         by_cases hqN : q < N.length
         ·have hqI : (q : Int) < N.length := by omega
          go_wp2
          go_roundw
          case rel => exact ⟨j + 1, by omega, by go_num, hB9⟩
          case measure => (simp [intOf]; try omega)
         ·have hqI : ¬ (q : Int) < N.length := by omega
          go_wp2
          go_roundw
          case rel => exact ⟨j + 1, by omega, by go_num, hB9⟩
          case measure => (simp [intOf]; try omega)
        | false =>
         obtain ⟨hj1, hno⟩ := hth.resolve_left (by simp)
         by_cases hqN : q < N.length
         ·have hqI : (q : Int) < N.length := by omega
          obtain ⟨gu, hua, hgu⟩ := own_cellI HOU.out hqN
          subst hua
          have hcu := (hbx.cell (p := ⟨gu, q, none⟩) hgu.1).trans hgu.2.1
          have hcap8 := hgu.2.2
          obtain ⟨y, HY⟩ : ∃ y, Hid (N.getD q 0 = y) := ⟨_, rfl⟩
          rw [HY.out] at hcu
          have hl1 := (hB9.cell (p := ⟨ga, (j + 1) * 7 + 1, none⟩) hgl).trans (HAll.out (j + 1) (by omega) 1 (by omega))
          obtain ⟨y', HY'⟩ : ∃ y', Hid ((T.getD (j + 1) Ac.nil).pc = y') := ⟨_, rfl⟩
          have hl2 : wr.cell? ⟨ga, (j + 1) * 7 + 1, none⟩ = some (.int .i64 y') := by rw [<- HY'.out]; exact hl1
          have hj1I : (j : Int) + 1 < (m : Int) + 1 := by omega
          have hj1J : (j : Int) + 1 <= 1000 := by omega
          clear hl1
          by_cases hyy : y = y'
          ·subst hyy
           go_wp2
           go_region
           go_wp2
           go_roundw
           case rel => exact ⟨q + 1, true, by omega, rfl, by go_num, .inl rfl, below_drE hbx⟩
           case measure => (simp [intOf]; try omega)
          ·have hyb : (y == y') = false := by simpa using hyy
           go_wp2
           go_region
           go_wp2
           go_roundw
           case rel => exact ⟨q + 1, false, by omega, by first | rfl | (simp [hyy]), by go_num, .inr ⟨hj1, fun j' hj' => by
            by_cases e : j' = q
            ·subst e; rw [HY.out, HY'.out]; exact hyy
            ·exact hno j' (by omega)⟩, below_drE hbx⟩
           case measure => (simp [intOf]; try omega)
         ·exfalso
          have hlk := HLink.out hj1
          rw [<- HNL.out] at hlk
          obtain ⟨i, hi, he⟩ := List.getElem_of_mem hlk
          have := hno i (by omega)
          rw [List.getD_eq_getElem?_getD, List.getElem?_eq_getElem hi] at this
          exact this he
    ·obtain rfl : j = m + 1 := by omega
     go_wp2
     go_ret
     exact ⟨rfl, hBV.trans ((HBW.out.trans (hbj.mono (by have := HBW.out.size; omega))).mono hBV.size)⟩
end Go.Proofs.YtmhdhekcogplhaaGreat
