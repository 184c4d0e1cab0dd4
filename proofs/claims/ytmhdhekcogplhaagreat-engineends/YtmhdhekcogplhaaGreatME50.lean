/-
  E11Awake
  W11Safe
  W11Ends
-/
import Derived.Test.YtmhdhekcogplhaaGreatME49
import Derived.Test.YtmhdhekcogplhaaGreatME34
import Derived.Test.YtmhdhekcogplhaaGreatME48
namespace Go.Proofs.YtmhdhekcogplhaaGreat
open Go.RowKit
set_option linter.unusedVariables false
set_option linter.unusedSimpArgs false
set_option maxRecDepth 100000
def asksX : List In := [⟨13, 2, 0, 0, 0⟩, ⟨14, 1, 0, 0, 0⟩, ⟨21, 0, 0, 0, 0⟩, ⟨22, 0, 0, 0, 0⟩]
def okE (e : Except (Int × Int) Kn) : Bool := match e with | .ok _ => true | .error _ => false
theorem asks_ok : ∃ K, inqR [2] asksX = .ok K := by
 have h : okE (inqR [2] asksX) = true := by decide +kernel
 cases hc : inqR [2] asksX with
 | ok K => exact ⟨K, rfl⟩
 | error e => rw [hc] at h; cases h
def asksT : List Ac := [⟨1, 0, 0, 0, 0, 0, 0⟩, ⟨1, 1, 0, 0, 0, 0, 0⟩, ⟨2, 2, 2, 0, 20, 0, 0⟩, ⟨4, 3, 0, 0, 0, 0, 9⟩]
theorem asks_trace : traceE [2] asksX (20, 3) 257 startE [⟨0, true, 9, false, 0, 0⟩] = asksT := by kernel_rfl
theorem seesN_lit (w : World) (t : TypeId) (xs : List Int) (cs : Array Value) (n g : Nat) (hg : g = w.heap.size) (hcs : cs = (xs.map (Value.int .i64)).toArray) (hn : n = xs.length) (hm : xs.length <= 1048576) (hw : ∀ x ∈ xs, (Lit.int .i64 x).wf = true) : Sees .i64 (w.alloc (.cells cs t)) (.slice (some ⟨g, 0, none⟩) n n) xs := by
 subst hg hcs hn
 refine ⟨_, xs.length, rfl, Nat.le_refl _, by unfold maxLen; omega, fun h => (by cases h), hw, fun hne => ⟨_, 0, rfl, by simp, fun i hi => ?_⟩⟩
 rw [World.cell?_alloc_at _ _ _ _ rfl]
 simp [List.getD, List.getElem?_eq_getElem hi]
set_option maxHeartbeats 800000 in
theorem asks11_any (w : World) : Calls Tryz.prog 31 #[] w fun e w' => ∃ m g, e = .returned (modV (.slice (some ⟨m, 0, none⟩) 1 1) (.slice (some ⟨g, 0, none⟩) 4 4)) /\ Sees .i64 w' (.slice (some ⟨m, 0, none⟩) 1 1) [2] /\ SeesI w' (.slice (some ⟨g, 0, none⟩) 4 4) asksX /\ Below w.heap.size w w' := by
 go_enter Tryz.func31, Tryz.ntmps31
 go_wp2_with fail
 have hm := ((MdC.new w (.slice (some ⟨w.heap.size + 1, 0, none⟩) 1 1) (.slice (some ⟨w.heap.size + 1 + 1, 0, none⟩) 4 4)).kept (grownA_alloc _ (.cells #[.int .i64 2] 3) none) (by simp)).kept (grownA_alloc _ (.cells #[.int .i64 13, .int .i64 2, .int .i64 0, .int .i64 0, .int .i64 0, .int .i64 14, .int .i64 1, .int .i64 0, .int .i64 0, .int .i64 0, .int .i64 21, .int .i64 0, .int .i64 0, .int .i64 0, .int .i64 0, .int .i64 22, .int .i64 0, .int .i64 0, .int .i64 0, .int .i64 0] 43) none) (by simp)
 refine bodyPost_ret (results_cell_row rfl _ _ w.heap.size _ _ (0, 0) _ rfl hm Tryz.underlying25 rfl (by kernel_rfl)) rfl ?_
 refine ⟨w.heap.size + 1, w.heap.size + 1 + 1, rfl, (seesN_lit (w.alloc _) 3 [2] _ 1 _ (by simp) rfl rfl (by decide) (by intro x hx; simp at hx; subst hx; decide)).below ((Below.refl _ _).alloc (Nat.le_refl _) _) (Nat.le_refl _), seesI_lit _ _ asksX _ _ _ (by simp) rfl rfl (by decide), (((Below.refl _ _).alloc (Nat.le_refl _) _).alloc (by simp) _).alloc (by simp; omega) _⟩
theorem seesR_lit (w : World) (t : TypeId) (r : Rs) (hr : r.wf) : SeesR (w.alloc (.cells #[.int .i64 r.E, .bool r.f, .int .u64 r.v, .bool r.o, .int .u64 r.k, .int .u64 r.u] t)) (.slice (some ⟨w.heap.size, 0, none⟩) 1 1) [r] := by
 refine ⟨_, 1, rfl, Nat.le_refl _, by unfold maxLen; omega, fun h => (by cases h), by intro x hx; simp at hx; subst hx; exact hr, fun hne => ⟨_, 0, rfl, by simp, fun k hk => ?_⟩⟩
 obtain rfl : k = 0 := by simpa using hk
 have hN := Hp.new w (rsC r) t
 exact ⟨hN.cell rfl, hN.cell rfl, hN.cell rfl, hN.cell rfl, hN.cell rfl, hN.cell rfl⟩
set_option maxHeartbeats 1600000 in
theorem awake11_any (w : World) : Calls Tryz.prog 8 #[] w fun e w' => e = .returned (.bool true) /\ Below w.heap.size w w' := by
 obtain ⟨K, hK⟩ := asks_ok
 have HK := keepJ hK
 have HT : Hid (traceE [2] asksX (20, 3) 257 startE [⟨0, true, 9, false, 0, 0⟩] = asksT) := asks_trace
 clear hK
 go_enter Tryz.func8, Tryz.ntmps8
 go_wp2_with (first
  | (go_at_call 31; go_must (refine (asks11_any w).mono ?_); rintro e w1 ⟨m, g, rfl, hm1, hx1, hb1⟩; go_must (have HM1 := keepJ hm1; have HX1 := keepJ hx1; clear hm1 hx1))
  | (go_at_call 10; go_must (refine (mtrace_ok (20, 3) (by decide) (rs := [⟨0, true, 9, false, 0, 0⟩]) _ (HM1.out.below (below_alloc10 _ _) (Nat.le_refl _)) (HX1.out.below (below_alloc10 _ _)) (seesR_lit w1 _ ⟨0, true, 9, false, 0, 0⟩ ⟨by decide, by decide⟩) HK.out HT).mono ?_); rintro e w2 ⟨v, rfl, ho, hb2'⟩; go_must (have hb2 : Below w1.heap.size w1 w2 := (below_alloc10 w1 _).trans (hb2'.mono (by simp)); have hB2 := hb1.trans (hb2.mono hb1.size); have HO := keepJ ho; obtain ⟨ga, cap, rfl, _, hga, hcap, hcm, h2⟩ := own_acts ho (k := 2) (by decide); obtain ⟨ga', cap', e', _, _, _, _, h3⟩ := own_acts ho (k := 3) (by decide); injection e' with e1 e2 e3; injection e1 with e1; injection e1 with e1 e4; subst e1; obtain ⟨a0, a1, a2, a3, a4, a5, a6⟩ := h2.seven; obtain ⟨b0, b1, b2, b3, b4, b5, b6⟩ := h3.seven; simp only [asksT, List.getD, List.getElem?_cons_succ, List.getElem?_cons_zero, Option.getD_some, Nat.reduceMul, Nat.reduceAdd, List.length_cons, List.length_nil] at a0 a1 a2 a3 a4 a5 a6 b0 b1 b2 b3 b4 b5 b6 hcap; clear ho h2 h3 hb2')))
 go_ret
 exact ⟨rfl, hB2⟩
abbrev runV (vm vc : Value) (ea eb : Int) (vr : Value) (od : Int) : Value := .agg #[vm, vc, .int .u64 ea, .int .u64 eb, vr, .int .i64 od]
abbrev runC (vm vc : Value) (ea eb : Int) (vr : Value) (od : Int) : List Value := [vm, vc, .int .u64 ea, .int .u64 eb, vr, .int .i64 od]
theorem boxQ (w : World) (vm vc : Value) (ea eb : Int) (vr : Value) (od : Int) : ∃ V, Hid (w.alloc (.cells #[vm, vc, .int .u64 ea, .int .u64 eb, vr, .int .i64 od] 31) = V) /\ Hid (Hp V w.heap.size 31 (runC vm vc ea eb vr od)) /\ Below w.heap.size w V /\ V.heap.size = w.heap.size + 1 :=
 ⟨_, rfl, Hp.new w _ _, (Below.refl _ _).alloc (Nat.le_refl _) _, by simp⟩
theorem code_shape {w : World} {v : Value} {xs : List In} (h : SeesI w v xs) (hx : 0 < xs.length) : ∃ cb co ccap, v = .slice (some ⟨cb, co, none⟩) xs.length ccap /\ cb < w.heap.size := by
 obtain ⟨a, cap, rfl, _, _, _, h4⟩ := h
 obtain ⟨b, off, rfl, hlt, _⟩ := h4 (fun e => by rw [e] at hx; simp at hx)
 exact ⟨b, off, cap, rfl, hlt⟩
theorem cost_nat (xs : List In) : ∃ c : Nat, costA xs = c /\ c <= 256 := by
 unfold costA
 split
 ·rename_i h
  have hT : Taken xs := check_ok.1 h
  have h2 := costC_le (bnd_ok hT.place) xs.length
  have h4 := hT.cost
  exact ⟨(costC (loopsL xs) xs.length).toNat, by omega, by omega⟩
 ·exact ⟨0, rfl, by omega⟩
theorem res_more {w5 X w9 : World} {B : Nat} {e : TypeId} {va v' : Value} {o : Obj} {ys : List Rs} {r : Rs} (hown : X.ownsRow B e 6 va ys.length (flatR ys)) (hb : Below B w5 X) (hB : B <= w5.heap.size) (hown' : w9.ownsRow B e 6 v' (ys.length + 1) (flatR ys ++ rsC r)) (hgrow : (X.alloc o).grownBy w9 va.ownBlock) :
  w9.ownsRow B e 6 v' (ys ++ [r]).length (flatR (ys ++ [r])) /\ Below B w5 w9 := by
 have hs := hb.size
 exact ⟨step_resE (wr := X) (v := va) hown', (hb.alloc (by omega) o).grown hgrow (by simp; omega) (fun k hk => (hown.lt k hk).1)⟩
theorem mtrace_sees {vm vc : Value} {ms : List Int} {xs : List In} (ev : Int × Int) (hev : (0 <= ev.1 /\ ev.1 <= 18446744073709551615) /\ 0 <= ev.2 /\ ev.2 <= 18446744073709551615) {vr : Value} {rs : List Rs} (w : World) (hm : SeesM w vm vc ms xs) (hrs : SeesR w vr rs) {K : Kn} (hK : inqR ms xs = .ok K) {T : List Ac} (HT : Hid (traceE ms xs ev 257 startE rs = T)) :
  Calls Tryz.prog 10 #[modV vm vc, evV ev, vr] w fun e w' => TraceOk w w' T e := by
 obtain ⟨hmj, ⟨known, hKn, _⟩, hj0⟩ := judge_known hK
 obtain ⟨cb, co, ccap, rfl, hlt⟩ := code_shape hm.code hKn.T.pos
 exact mtrace_ok ev hev w hm.maps hm.code hrs hK HT
set_option maxHeartbeats 3200000 in
theorem ends11_bad (vm vc : Value) (ms : List Int) (xs : List In) (ea eb : Int) (vr : Value) (rs : List Rs) (od : Int) (w : World) (h : SeesM w vm vc ms xs) (hr : SeesR w vr rs) (hev : (0 <= ea /\ ea <= 18446744073709551615) /\ 0 <= eb /\ eb <= 18446744073709551615) (z : ms.length * 8 <= 140737488351232 /\ xs.length * 40 <= 140737488355328 /\ rs.length * 48 <= 140737488355328) {P E : Int} (HJ : Hid (judgeR ms xs = (P, E))) (hE : E ≠ 0) :
  Calls Tryz.prog 5 #[runV vm vc ea eb vr od] w fun e w' => e = .returned (.bool true) /\ Below w.heap.size w w' := by
 have hE1 : (E == 0) = false := by simpa using hE
 have hE2 : ¬ E = 0 := hE
 obtain ⟨V, HV, HqV, hBV, hzV⟩ := boxQ w vm vc ea eb vr od
 have hz1 : ms.length * 8 <= 140737488351232 /\ xs.length * 40 <= 140737488355328 := ⟨z.1, z.2.1⟩
 have HQ : Hid (∀ wx : World, Below V.heap.size V wx -> Hp wx w.heap.size 31 (runC vm vc ea eb vr od)) := fun wx hb => HqV.out.below hb (by omega)
 have HSM : Hid (∀ wx : World, Below V.heap.size V wx -> SeesM wx vm vc ms xs) := fun wx hb => (h.below hBV).below hb
 have HQC : Hid (∀ wx : World, Below V.heap.size V wx -> wx.cell? ⟨w.heap.size, 0, none⟩ = some (vm) /\ wx.cell? ⟨w.heap.size, 1, none⟩ = some (vc) /\ wx.cell? ⟨w.heap.size, 2, none⟩ = some (.int .u64 ea) /\ wx.cell? ⟨w.heap.size, 3, none⟩ = some (.int .u64 eb) /\ wx.cell? ⟨w.heap.size, 4, none⟩ = some vr /\ wx.cell? ⟨w.heap.size, 5, none⟩ = some (.int .i64 od)) := fun wx hb => ⟨(HQ.out wx hb).cell rfl, (HQ.out wx hb).cell rfl, (HQ.out wx hb).cell rfl, (HQ.out wx hb).cell rfl, (HQ.out wx hb).cell rfl, (HQ.out wx hb).cell rfl⟩
 obtain ⟨c, hc⟩ : ∃ c : Nat, costA xs = c /\ c <= 256 := cost_nat xs
 have HC : Hid (((c : Nat) : Int) = costA xs) := hc.1.symm
 have hc256 := hc.2
 obtain ⟨FE, HE⟩ : ∃ FE, Hid (FE = errL xs) := ⟨_, rfl⟩
 obtain ⟨i0, hi, hz0, hzz1, hz2⟩ := info_parts Tryz.infoResE
 have HRS : Hid (SeesR w vr rs) := hr
 obtain ⟨ra, rcap, rfl⟩ : ∃ a c, vr = .slice a rs.length c := by obtain ⟨a, c, e, _⟩ := hr; exact ⟨a, c, e⟩
 have hrl : rs.length <= 9223372036854775807 := by omega
 have K1 : Hid True := trivial
 have hfld : ∀ (a : Option Addr) (n c : Nat) (a' : Option Addr) (n' c' : Nat) (wx : World), (Instr.field 25 (modV (.slice a n c) (.slice a' n' c')) 1).run Tryz.prog wx = .ok (.slice a' n' c') wx := fun _ _ _ _ _ _ _ => by kernel_rfl
 clear hc
 go_enter Tryz.func5, Tryz.ntmps5
 go_wp2_with (first
  | (go_at_call 8; rw [HV.out]; go_must (refine (awake11_any V).mono ?_); rintro e w1 ⟨rfl, hb1⟩; go_must (have hz1w := hb1.size; have HQ1 := keepJ (HQ.out w1 hb1); (have q0 := HQ1.out.cell (j := 0) rfl); (have q1 := HQ1.out.cell (j := 1) rfl); (have q2 := HQ1.out.cell (j := 2) rfl); (have q3 := HQ1.out.cell (j := 3) rfl); (have q4 := HQ1.out.cell (j := 4) rfl); (have q5 := HQ1.out.cell (j := 5) rfl);  skip))
  | (go_at_call 9; (have hq := K1; clear hq); go_must (refine (copied9_own vm vc ms xs w1 (HSM.out w1 hb1) hz1).mono ?_); rintro e w2 ⟨um, uc, rfl, hs2, ho2, hoc2, hb2⟩; go_must (have HS2 := keepJ hs2; have hB2 : Below V.heap.size V w2 := hb1.trans (hb2.mono hz1w); have hz2w := hB2.size; clear hs2 K1 ho2 hoc2 hb2))
  | (go_at_call 25; go_must (refine (ljudge_as HS2.out.maps HS2.out.code HJ).mono ?_); rintro e w3 ⟨rfl, hb3⟩; go_must (have hB3 : Below V.heap.size V w3 := hB2.trans (hb3.mono hz2w); have hz3w := hB3.size; have HQ3 := keepJ (HQ.out w3 hB3); (have q0 := HQ3.out.cell (j := 0) rfl); (have q1 := HQ3.out.cell (j := 1) rfl); (have q2 := HQ3.out.cell (j := 2) rfl); (have q3 := HQ3.out.cell (j := 3) rfl); (have q4 := HQ3.out.cell (j := 4) rfl); (have q5 := HQ3.out.cell (j := 5) rfl);  clear hb3))
  | (go_at_call 9; go_must (refine (copied9_own vm vc ms xs w3 (HSM.out w3 hB3) hz1).mono ?_); rintro e w4 ⟨um4, uc4, rfl, hs4, ho4, hoc4, hb4⟩; go_must (obtain ⟨xa4, xc4, rfl⟩ : ∃ a c, um4 = .slice a ms.length c := (by obtain ⟨a, c, e, _⟩ := hs4.maps; exact ⟨a, c, e⟩); obtain ⟨ya4, yc4, rfl⟩ : ∃ a c, uc4 = .slice a xs.length c := (by obtain ⟨a, c, e, _⟩ := hs4.code; exact ⟨a, c, e⟩); have HS4 := keepJ hs4; have hB4 : Below V.heap.size V w4 := hB3.trans (hb4.mono hz3w); have hz4w := hB4.size; clear hs4 ho4 hoc4 hb4))
  | (go_at_call 26; go_must (refine (lcost_any _ xs w4 HS4.out.code HC HE).mono ?_); rintro e w5 ⟨rfl, hb5⟩; go_must (have hB5 : Below V.heap.size V w5 := hB4.trans (hb5.mono hz4w); have hz5w := hB5.size; clear hb5)))
 go_loopw [7, 8] (fun v0 n wr => ∃ (k : Nat) (ys : List Rs) (va : Value), va = v0 /\ n = .int .i64 k /\ k <= c /\ ys.length = k /\ (∀ r ∈ ys, r.wf) /\ wr.ownsRow w5.heap.size 45 6 va ys.length (flatR ys) /\ Below w5.heap.size w5 wr) (fun _ n _ => 300 - (intOf n).toNat)
 case atStart => exact ⟨0, [], _, rfl, rfl, Nat.zero_le _, rfl, by simp, World.ownsRow_nil _ _ _ _, Below.refl _ _⟩
 case round =>
  obtain ⟨k, ys, va, rfl, rfl, hk, hyl, hyw, hown, hbr⟩ := hrel
  have hzr := hbr.size
  have hqr : Below V.heap.size V wr := hB5.trans (hbr.mono hz5w)
  by_cases hkc : k < c
  ·have hkI : (k : Int) < c := by omega
   have hkI2 : (k : Int) <= 1000 := by omega
   have hw1 : IntKind.u64.wrap (k : Int) = k := by rw [IntKind.wrap_u64]; omega
   have hw2 : IntKind.u64.wrap ((k : Int) * 977) = (k : Int) * 977 := by rw [IntKind.wrap_u64]; omega
   obtain ⟨X, HX, HrX, hbX, hzX⟩ : ∃ X, Hid (wr.alloc (.cells #[.int .i64 0, .bool false, .int .u64 ((k : Int) * 977), .bool false, .int .u64 0, .int .u64 0] 45) = X) /\ Hid (Hp X wr.heap.size 45 [.int .i64 0, .bool false, .int .u64 ((k : Int) * 977), .bool false, .int .u64 0, .int .u64 0]) /\ Below wr.heap.size wr X /\ X.heap.size = wr.heap.size + 1 := ⟨_, rfl, Hp.new wr _ _, (Below.refl _ _).alloc (Nat.le_refl _) _, by simp⟩
   have hqX : Below V.heap.size V X := hqr.trans (hbX.mono hqr.size)
   have xq4 := (HQ.out X hqX).cell (j := 4) rfl
   have o0 := HrX.out.cell (j := 0) rfl
   have p0 := HrX.out.frozen 0
   have o1 := HrX.out.cell (j := 1) rfl
   have p1 := HrX.out.frozen 1
   have o2 := HrX.out.cell (j := 2) rfl
   have p2 := HrX.out.frozen 2
   have o3 := HrX.out.cell (j := 3) rfl
   have p3 := HrX.out.frozen 3
   have o4 := HrX.out.cell (j := 4) rfl
   have p4 := HrX.out.frozen 4
   have o5 := HrX.out.cell (j := 5) rfl
   have p5 := HrX.out.frozen 5
   by_cases hu : k < rs.length
   ·have huI : (k : Int) < rs.length := by omega
    obtain ⟨rb, ro, hrb, hrlt, hat⟩ : ∃ b off, ra = some ⟨b, off, none⟩ /\ b < w.heap.size /\ AtR w b (off + k * 6) (rs.getD k Rs.nil) := by
     obtain ⟨a1, c1, e, _, _, _, _, g⟩ := HRS.out
     injection e with e1 e2 e3
     subst e1
     obtain ⟨b, off, rfl, hlt, hat⟩ := g (fun e => by rw [e] at hu; simp at hu)
     exact ⟨b, off, rfl, hlt, hat k hu⟩
    have hrwf : (rs.getD k Rs.nil).wf := by
     obtain ⟨a1, c1, e, _, _, _, hw, _⟩ := HRS.out
     refine hw _ ?_
     rw [List.getD_eq_getElem?_getD, List.getElem?_eq_getElem hu]
     exact List.getElem_mem _
    have hrc : rs.length <= rcap /\ rcap <= 9223372036854775807 := by
     obtain ⟨a1, c1, e, g1, g2, _⟩ := HRS.out
     injection e with e1 e2 e3
     subst e3
     unfold maxLen at g2
     exact ⟨g1, by omega⟩
    subst hrb
    obtain ⟨⟨rE, rf, rv, ro', rk, ru⟩, HRr⟩ : ∃ r, Hid (rs.getD k Rs.nil = r) := ⟨_, rfl⟩
    rw [HRr.out] at hat hrwf
    obtain ⟨r0, r1, r2, r3, r4, r5⟩ := hat.below (hBV.trans (hqX.mono hBV.size)) hrlt
    simp only at r0 r1 r2 r3 r4 r5
    obtain ⟨X2, HX2, HrX2, hgX2⟩ : ∃ X2, Hid ((((((X.setCell ⟨wr.heap.size, 0, none⟩ (.int .i64 rE)).setCell ⟨wr.heap.size, 1, none⟩ (.bool rf)).setCell ⟨wr.heap.size, 2, none⟩ (.int .u64 rv)).setCell ⟨wr.heap.size, 3, none⟩ (.bool ro')).setCell ⟨wr.heap.size, 4, none⟩ (.int .u64 rk)).setCell ⟨wr.heap.size, 5, none⟩ (.int .u64 ru) = X2) /\ Hid (Hp X2 wr.heap.size 45 [.int .i64 rE, .bool rf, .int .u64 rv, .bool ro', .int .u64 rk, .int .u64 ru]) /\ X.grownBy X2 (some wr.heap.size) :=
     ⟨_, rfl, by have := HrX.out.sets [.int .i64 rE, .bool rf, .int .u64 rv, .bool ro', .int .u64 rk, .int .u64 ru] 0; exact this, grown_sets wr.heap.size [.int .i64 rE, .bool rf, .int .u64 rv, .bool ro', .int .u64 rk, .int .u64 ru] X 0⟩
    have hzX' : X2.heap.size = wr.heap.size + 1 := by have h1 := HX2.out; rw [<- h1]; simp [World.setCell, hzX]
    have hb2 : Below wr.heap.size wr X2 := hbX.trans (grown_to_below hgX2 (Nat.le_refl _) (by omega))
    have hownX := own_below hown hb2 (Nat.le_refl _)
    have hBX5 : Below w5.heap.size w5 X2 := hbr.trans (hb2.mono hzr)
    have s0 := HrX2.out.cell (j := 0) rfl
    have s1 := HrX2.out.cell (j := 1) rfl
    have s2 := HrX2.out.cell (j := 2) rfl
    have s3 := HrX2.out.cell (j := 3) rfl
    have s4 := HrX2.out.cell (j := 4) rfl
    have s5 := HrX2.out.cell (j := 5) rfl
    clear hat
    go_wp2_with (first
     | (at_builtin; (try rw [HX2.out]); go_must (refine wpList_append_own _ rfl _ _ 29 rfl w5.heap.size 45 i0 _ 6 48 Tryz.underlying29 hi hz0 hzz1 hz2 rfl (by decide) _ _ _ rfl (hownX.alloc _) ⟨_, 0, none⟩ 1 1 (rsC ⟨rE, rf, rv, ro', rk, ru⟩) rfl rfl (seven_new _ _ _ _ hzX'.symm) (six_one ⟨rE, rf, rv, ro', rk, ru⟩) (by unfold maxLen; omega) (by omega) (by simp; omega) ?_); intro v' w9 hown' hgrow _; have R := res_more (r := ⟨rE, rf, rv, ro', rk, ru⟩) hownX hBX5 (by omega) hown' hgrow; clear hown' hgrow)
     | rw [HX.out]
     | rw [HX2.out])
    go_roundw
    case rel => exact ⟨k + 1, ys ++ [⟨rE, rf, rv, ro', rk, ru⟩], v', rfl, by go_num, by omega, by simp; omega, by intro r hr2; rcases List.mem_append.1 hr2 with h2 | h2; exact hyw r h2; (simp at h2; subst h2; exact hrwf), R.1, R.2⟩
    case measure => simp [intOf]; omega
   ·have huI : ¬ (k : Int) < rs.length := by omega
    have hzX' : X.heap.size = wr.heap.size + 1 := hzX
    have hownX := own_below hown hbX (Nat.le_refl _)
    have hBX5 : Below w5.heap.size w5 X := hbr.trans (hbX.mono hzr)
    go_wp2_with (first
     | (at_builtin; (try rw [HX.out]); go_must (refine wpList_append_own _ rfl _ _ 29 rfl w5.heap.size 45 i0 _ 6 48 Tryz.underlying29 hi hz0 hzz1 hz2 rfl (by decide) _ _ _ rfl (hownX.alloc _) ⟨_, 0, none⟩ 1 1 (rsC ⟨0, false, (k : Int) * 977, false, 0, 0⟩) rfl rfl (seven_new _ _ _ _ hzX'.symm) (six_one ⟨0, false, (k : Int) * 977, false, 0, 0⟩) (by unfold maxLen; omega) (by omega) (by simp; omega) ?_); intro v' w9 hown' hgrow _; have R := res_more (r := ⟨0, false, (k : Int) * 977, false, 0, 0⟩) hownX hBX5 (by omega) hown' hgrow; clear hown' hgrow)
     | rw [HX.out])
    go_roundw
    case rel => exact ⟨k + 1, ys ++ [⟨0, false, (k : Int) * 977, false, 0, 0⟩], v', rfl, by go_num, by omega, by simp; omega, by intro r hr2; rcases List.mem_append.1 hr2 with h2 | h2; exact hyw r h2; (simp at h2; subst h2; exact ⟨by show (0 : Int) <= (k : Int) * 977; omega, by show (k : Int) * 977 <= _; omega⟩), R.1, R.2⟩
    case measure => simp [intOf]; omega
  ·obtain rfl : c = k := by omega
   have HYs := keepJ (own_seesR hown hyw)
   obtain ⟨ya, yc, rfl⟩ : ∃ a c, va = .slice a ys.length c := by obtain ⟨a, c, e, _⟩ := HYs.out; exact ⟨a, c, e⟩
   go_wp2
   go_region_held3 (fun w' => w'.cell? ⟨w.heap.size, 0, none⟩ = some (vm) /\ w'.cell? ⟨w.heap.size, 1, none⟩ = some (vc) /\ w'.cell? ⟨w.heap.size, 2, none⟩ = some (.int .u64 ea) /\ w'.cell? ⟨w.heap.size, 3, none⟩ = some (.int .u64 eb) /\ w'.cell? ⟨w.heap.size, 4, none⟩ = some (.slice ra rs.length rcap) /\ w'.cell? ⟨w.heap.size, 5, none⟩ = some (.int .i64 od))
    (first | with_reducible exact hS6 | with_reducible exact hS7 | exact HQC.out wr hqr)
    (first
     | (go_at_call 9; go_must (refine (copied9_own vm vc ms xs wr.drew (HSM.out wr.drew (below_drE hqr)) hz1).mono ?_); rintro e w6 ⟨um6, uc6, rfl, hs6, ho6, hoc6, hb6'⟩; go_must (have hb6 : Below wr.heap.size wr w6 := below_undrew hb6'; have hB6 : Below V.heap.size V w6 := hqr.trans (hb6.mono hqr.size); have HS6 := keepJ hs6; have hS6 := HQC.out w6 hB6; have HY6 := keepJ (HYs.out.below hb6 (Nat.le_refl _)); clear hs6 hb6' ho6 hoc6))
     | (go_at_call 10; go_must (refine (mtrace_bad (ea, eb) _ w6 HS6.out.maps HS6.out.code HJ hE).mono ?_); rintro e w7 ⟨rfl, hb7⟩; go_must (have hB7 : Below V.heap.size V w7 := hB6.trans (hb7.mono hB6.size); have hS7 := HQC.out w7 hB7)))
   go_wp2
   go_ret
   exact ⟨rfl, hBV.trans (hB7.mono hBV.size)⟩
end Go.Proofs.YtmhdhekcogplhaaGreat
