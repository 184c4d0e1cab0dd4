
/-
 The law EngineSafe. Condition: the module's slices and the answers read as such, and take up no more bytes than an argument may.
-/
import Derived.Test.YtmhdhekcogplhaaGreatMS51
import Derived.Test.YtmhdhekcogplhaaGreatMS34
namespace Go.Proofs.YtmhdhekcogplhaaGreat
open Go.RowKit
set_option linter.unusedVariables false
set_option linter.unusedSimpArgs false
set_option maxRecDepth 100000

abbrev runV (vm vc : Value) (ea eb : Int) (vr : Value) (od : Int) : Value := .agg #[vm, vc, .int .u64 ea, .int .u64 eb, vr, .int .i64 od]
abbrev runC (vm vc : Value) (ea eb : Int) (vr : Value) (od : Int) : List Value := [vm, vc, .int .u64 ea, .int .u64 eb, vr, .int .i64 od]
theorem boxQ (w : World) (vm vc : Value) (ea eb : Int) (vr : Value) (od : Int) : ∃ V, Hid (w.alloc (.cells #[vm, vc, .int .u64 ea, .int .u64 eb, vr, .int .i64 od] 31) = V) /\ Hid (Hp V w.heap.size 31 (runC vm vc ea eb vr od)) /\ Below w.heap.size w V /\ V.heap.size = w.heap.size + 1 :=
 ⟨_, rfl, Hp.new w _ _, (Below.refl _ _).alloc (Nat.le_refl _) _, by simp⟩
theorem inq_err0 {vm vc : Value} {ms : List Int} {xs : List In} {w : World} (hm : Sees .i64 w vm ms) (hx : SeesI w vc xs) {P E : Int} (h : Hid (inqR ms xs = .error (P, E))) : Calls Tryz.prog 28 #[.agg #[vm, vc]] w fun e w' => e = .returned (.tuple #[.slice none 0 0, .int .i64 E]) /\ E ≠ 0 /\ Below w.heap.size w w' := by
 refine (ltypes_any vm ms vc xs w hm hx).mono ?_
 rintro e w' (⟨P', E', h1, h2, rfl, hb⟩ | ⟨K', tb, vs, h1, _⟩)
 ·rw [h.out] at h1
  injection h1 with h1
  injection h1 with h1 h3
  subst h1
  subst h3
  exact ⟨rfl, h2, hb⟩
 ·rw [h.out] at h1; cases h1
set_option maxHeartbeats 1600000 in
theorem safe11_bad (vm vc : Value) (ms : List Int) (xs : List In) (ea eb : Int) (vr : Value) (rs : List Rs) (od : Int) (w : World) (h : SeesM w vm vc ms xs) (hr : SeesR w vr rs) (hev : (0 <= ea /\ ea <= 18446744073709551615) /\ 0 <= eb /\ eb <= 18446744073709551615) (z : ms.length * 8 <= 140737488351232 /\ xs.length * 40 <= 140737488355328 /\ rs.length * 48 <= 140737488355328) {P E : Int} (HI : Hid (inqR ms xs = .error (P, E))) :
  Calls Tryz.prog 6 #[runV vm vc ea eb vr od] w fun e w' => e = .returned (.bool true) /\ Below w.heap.size w w' := by
 obtain ⟨V, HV, HqV, hBV, hzV⟩ := boxQ w vm vc ea eb vr od
 have hz1 : ms.length * 8 <= 140737488351232 /\ xs.length * 40 <= 140737488355328 := ⟨z.1, z.2.1⟩
 have HQ : Hid (∀ wx : World, Below V.heap.size V wx -> Hp wx w.heap.size 31 (runC vm vc ea eb vr od)) := fun wx hb => HqV.out.below hb (by omega)
 have HSM : Hid (∀ wx : World, Below V.heap.size V wx -> SeesM wx vm vc ms xs) := fun wx hb => (h.below hBV).below hb
 have K1 : Hid True := trivial
 go_enter Tryz.func6, Tryz.ntmps6
 go_wp2_with (first
  | (go_at_call 8; rw [HV.out]; go_must (refine (awake11_any V).mono ?_); rintro e w1 ⟨rfl, hb1⟩; go_must (have hz1w := hb1.size; have HQ1 := keepJ (HQ.out w1 hb1); (have q0 := HQ1.out.cell (j := 0) rfl); (have q1 := HQ1.out.cell (j := 1) rfl); (have q2 := HQ1.out.cell (j := 2) rfl); (have q3 := HQ1.out.cell (j := 3) rfl); (have q4 := HQ1.out.cell (j := 4) rfl); (have q5 := HQ1.out.cell (j := 5) rfl); skip))
  | (go_at_call 9; (have hq := K1; clear hq); go_must (refine (copied9_own vm vc ms xs w1 (HSM.out w1 hb1) hz1).mono ?_); rintro e w2 ⟨um, uc, rfl, hs2, ho2, hoc2, hb2⟩; go_must (have HS2 := keepJ hs2; have hB2 : Below V.heap.size V w2 := hb1.trans (hb2.mono hz1w); have hz2w := hB2.size; clear hs2 K1))
  | (go_at_call 28; go_must (refine (inq_err0 HS2.out.maps HS2.out.code HI).mono ?_); rintro e w3 ⟨rfl, hE0, hb3⟩; go_must (have hE1 : (E == 0) = false := (by simpa using hE0); have hE2 : ¬ E = 0 := hE0; have hB3 : Below V.heap.size V w3 := hB2.trans (hb3.mono hz2w); have hz3w := hB3.size))
  | (go_at_call 13; go_must (refine (new_any w3).mono ?_); rintro e w4 ⟨rfl, hs4, hz4, hb4⟩; go_must (have hB4 : Below V.heap.size V w4 := hB3.trans (hb4.mono hz3w); have hz4w := hB4.size; have HQ4 := keepJ (HQ.out w4 hB4); skip)))
 go_ret
 exact ⟨rfl, hBV.trans (hB4.mono hBV.size)⟩
theorem two_resE {Y X w3 : World} {b sb cb co ccap : Nat} {um : Value} {ms : List Int} {xs : List In} {ev : Int × Int} {M1 : Mc} {cs : List Value} {rE rv rk ru : Int} {rf ro : Bool}
  {n : Nat} (hn : n = Y.heap.size) (hX : Hp X n 45 cs) (hM : Mh Y b sb um cb co ccap ms xs ev M1) (hb : Below Y.heap.size Y X) (hB : Below w3.heap.size w3 X) (h1 : w3.heap.size <= Y.heap.size) (h2 : w3.heap.size <= Y.heap.size) (hz : X.heap.size = Y.heap.size + 1) (hl : cs.length = 6 := by rfl) :
  ∃ X2, Hid ((((((X.setCell ⟨n, 0, none⟩ (.int .i64 rE)).setCell ⟨n, 1, none⟩ (.bool rf)).setCell ⟨n, 2, none⟩ (.int .u64 rv)).setCell ⟨n, 3, none⟩ (.bool ro)).setCell ⟨n, 4, none⟩ (.int .u64 rk)).setCell ⟨n, 5, none⟩ (.int .u64 ru) = X2) /\ Hid (Hp X2 n 45 [.int .i64 rE, .bool rf, .int .u64 rv, .bool ro, .int .u64 rk, .int .u64 ru]) /\ Hid (Mh X2 b sb um cb co ccap ms xs ev M1) /\ Hid (Below w3.heap.size w3 X2) /\ Y.heap.size + 1 <= X2.heap.size := by
 subst hn
 have hg := grown_sets Y.heap.size [.int .i64 rE, .bool rf, .int .u64 rv, .bool ro, .int .u64 rk, .int .u64 ru] X 0
 have hs := hX.sets [.int .i64 rE, .bool rf, .int .u64 rv, .bool ro, .int .u64 rk, .int .u64 ru] 0
 rw [splice_all _ _ (by rw [hl]; rfl)] at hs
 have hzz := hg.size
 have hBY : Below Y.heap.size Y (X.setCells Y.heap.size 0 [.int .i64 rE, .bool rf, .int .u64 rv, .bool ro, .int .u64 rk, .int .u64 ru]) := hb.trans (grown_to_below hg (Nat.le_refl _) (by omega))
 exact ⟨_, rfl, hs, hM.below hBY, hB.trans (grown_to_below hg h1 (by omega)), by show Y.heap.size + 1 <= (X.setCells Y.heap.size 0 [.int .i64 rE, .bool rf, .int .u64 rv, .bool ro, .int .u64 rk, .int .u64 ru]).heap.size; omega⟩
theorem mem_getT {s : St} {j : Nat} (h : j < s.length) : s.getD j Ty.nil ∈ s := by
 rw [List.getD_eq_getElem?_getD, List.getElem?_eq_getElem h]
 exact List.getElem_mem _
theorem code_shape {w : World} {v : Value} {xs : List In} (h : SeesI w v xs) (hx : 0 < xs.length) : ∃ cb co ccap, v = .slice (some ⟨cb, co, none⟩) xs.length ccap /\ cb < w.heap.size := by
 obtain ⟨a, cap, rfl, _, _, _, h4⟩ := h
 obtain ⟨b, off, rfl, hlt, _⟩ := h4 (fun e => by rw [e] at hx; simp at hx)
 exact ⟨b, off, cap, rfl, hlt⟩
theorem mnew_copied {vm vc : Value} {ms : List Int} {xs : List In} (ev : Int × Int) {sb B : Nat} {ws cs : List Int} (w : World) (hm : SeesM w vm vc ms xs) (hs : Sc w sb ws cs) {K : Kn} (hK : Hid (inqR ms xs = .ok K)) (hB : sb < B) (hmb : ms.length = 0 ∨ ∀ j, vm.ownBlock = some j -> B <= j) (hcb : xs.length = 0 ∨ ∀ j, vc.ownBlock = some j -> B <= j) :
  Calls Tryz.prog 14 #[modV vm vc, evV ev, .pointer (some ⟨sb, 0, none⟩)] w fun e w' => NewOk w w' sb ms xs ev cs e := by
 obtain ⟨hmj, ⟨known, hKn, _⟩, hj0⟩ := judge_known hK.out
 obtain ⟨cb, co, ccap, rfl, hlt⟩ := code_shape hm.code hKn.T.pos
 have hml := maps_len hmj
 refine mnew_ok ev sb w hm.maps hm.code hs hj0 (by omega) (hmb.imp (fun e => List.eq_nil_of_length_eq_zero e) fun h e => by have := h _ e; omega) ?_ ⟨hKn.T.pos, hKn.T.top⟩
 rcases hcb with h | h
 ·have := hKn.T.pos; omega
 ·have := h cb rfl; omega
set_option maxHeartbeats 6400000 in
theorem safe11_ok (vm vc : Value) (ms : List Int) (xs : List In) (ea eb : Int) (vr : Value) (rs : List Rs) (od : Int) (w : World) (h : SeesM w vm vc ms xs) (hr : SeesR w vr rs) (hev : (0 <= ea /\ ea <= 18446744073709551615) /\ 0 <= eb /\ eb <= 18446744073709551615) (z : ms.length * 8 <= 140737488351232 /\ xs.length * 40 <= 140737488355328 /\ rs.length * 48 <= 140737488355328) {K : Kn} (HI : Hid (inqR ms xs = .ok K)) :
  Calls Tryz.prog 6 #[runV vm vc ea eb vr od] w fun e w' => e = .returned (.bool true) /\ Below w.heap.size w w' := by
 obtain ⟨hmj, ⟨known, hKn, hPull⟩, hj0⟩ := judge_known HI.out
 obtain ⟨V, HV, HqV, hBV, hzV⟩ := boxQ w vm vc ea eb vr od
 have hz1 : ms.length * 8 <= 140737488351232 /\ xs.length * 40 <= 140737488355328 := ⟨z.1, z.2.1⟩
 have HQ : Hid (∀ wx : World, Below V.heap.size V wx -> Hp wx w.heap.size 31 (runC vm vc ea eb vr od)) := fun wx hb => HqV.out.below hb (by omega)
 have HSM : Hid (∀ wx : World, Below V.heap.size V wx -> SeesM wx vm vc ms xs) := fun wx hb => (h.below hBV).below hb
 have HQC : Hid (∀ wx : World, Below V.heap.size V wx -> wx.cell? ⟨w.heap.size, 0, none⟩ = some (vm) /\ wx.cell? ⟨w.heap.size, 1, none⟩ = some (vc) /\ wx.cell? ⟨w.heap.size, 2, none⟩ = some (.int .u64 ea) /\ wx.cell? ⟨w.heap.size, 3, none⟩ = some (.int .u64 eb) /\ wx.cell? ⟨w.heap.size, 4, none⟩ = some (vr) /\ wx.cell? ⟨w.heap.size, 5, none⟩ = some (.int .i64 od)) := fun wx hb => ⟨(HQ.out wx hb).cell rfl, (HQ.out wx hb).cell rfl, (HQ.out wx hb).cell rfl, (HQ.out wx hb).cell rfl, (HQ.out wx hb).cell rfl, (HQ.out wx hb).cell rfl⟩
 have K1 : Hid True := trivial
 go_enter Tryz.func6, Tryz.ntmps6
 go_wp2_with (first
  | (go_at_call 8; rw [HV.out]; go_must (refine (awake11_any V).mono ?_); rintro e w1 ⟨rfl, hb1⟩; go_must (have hz1w := hb1.size; have HQ1 := keepJ (HQ.out w1 hb1); (have q0 := HQ1.out.cell (j := 0) rfl); (have q1 := HQ1.out.cell (j := 1) rfl); (have q2 := HQ1.out.cell (j := 2) rfl); (have q3 := HQ1.out.cell (j := 3) rfl); (have q4 := HQ1.out.cell (j := 4) rfl); (have q5 := HQ1.out.cell (j := 5) rfl); skip))
  | (go_at_call 9; (have hq := K1; clear hq); go_must (refine (copied9_own vm vc ms xs w1 (HSM.out w1 hb1) hz1).mono ?_); rintro e w2 ⟨um, uc, rfl, hs2, ho2, hoc2, hb2⟩; go_must (have HS2 := keepJ hs2; have hB2 : Below V.heap.size V w2 := hb1.trans (hb2.mono hz1w); have hz2w := hB2.size; clear hs2 K1))
  | (go_at_call 28; go_must (refine (ltypes_as HS2.out.maps HS2.out.code HI).mono ?_); rintro e w3 ⟨tb, vs, rfl, hR3, hKl, hMK, hb3⟩; go_must (have hB3 : Below V.heap.size V w3 := hB2.trans (hb3.mono hz2w); have hz3w := hB3.size; have HR3 := keepJ hR3; clear hR3))
  | (go_at_call 13; go_must (refine (new_any w3).mono ?_); rintro e w4 ⟨rfl, hs4, hz4, hb4⟩; go_must (have hB4 : Below V.heap.size V w4 := hB3.trans (hb4.mono hz3w); have hz4w := hB4.size; have HQ4 := keepJ (HQ.out w4 hB4); skip)))
 have HSC4 := keepJ hs4
 go_region_held3 (fun w' => w'.cell? ⟨w.heap.size, 0, none⟩ = some (vm) /\ w'.cell? ⟨w.heap.size, 1, none⟩ = some (vc) /\ w'.cell? ⟨w.heap.size, 2, none⟩ = some (.int .u64 ea) /\ w'.cell? ⟨w.heap.size, 3, none⟩ = some (.int .u64 eb) /\ w'.cell? ⟨w.heap.size, 4, none⟩ = some (vr) /\ w'.cell? ⟨w.heap.size, 5, none⟩ = some (.int .i64 od))
  (first | with_reducible exact hS5 | with_reducible exact hS6 | exact HQC.out w4 hB4)
  (first
   | (go_at_call 9; go_must (refine (copied9_own vm vc ms xs w4.drew (HSM.out w4.drew (below_drE hB4)) hz1).mono ?_); rintro e w5 ⟨um5, uc5, rfl, hs5, ho5, hoc5, hb5'⟩; go_must (have hb5 : Below w4.heap.size w4 w5 := below_undrew hb5'; have hB5 : Below V.heap.size V w5 := hB4.trans (hb5.mono hz4w); have hz5w := hb5.size; have HS5 := keepJ hs5; have hS5 := HQC.out w5 hB5; have HSC5 := keepJ (HSC4.out.below hb5 HSC4.out.lt); have hob5 := ho5.blocks; have hoc6 := hoc5.blocks; clear hs5 hb5' ho5 hoc5))
   | (go_at_call 14; go_must (refine (mnew_copied (ea, eb) w5 HS5.out HSC5.out HI (B := w4.heap.size) (by omega) hob5 hoc6).mono ?_); rintro e w6 ⟨b, cb, ccap, um6, rfl, hbb, hmh, hch, hcc, hub⟩; go_must (have HMH := keepJ hmh; have hz6 := hch.size; have hB6 : Below w3.heap.size w3 w6 := (hb4.trans (hb5.mono (by omega))).trans (hch.below (fun k e => by omega) (by omega)); have hBV6 : Below V.heap.size V w6 := hB3.trans (hB6.mono hz3w); have hS6 := HQC.out w6 hBV6; clear hmh)))
 have hb6 := HMH.out.ma.hp.lt
 have hs6 := HMH.out.sc.lt
 have hnbw : w.heap.size + 1 <= b := by omega
 have hxl : xs.length <= 64 := hKn.T.top
 have HRS : Hid (SeesR w vr rs) := hr
 obtain ⟨ra, rcap, rfl⟩ : ∃ a c, vr = .slice a rs.length c := by obtain ⟨a, c, e, _⟩ := hr; exact ⟨a, c, e⟩
 have hrl : rs.length <= 9223372036854775807 := by omega
 clear hS5 hS6 hch hub hr hb1 hb2 hoc2 ho2 hob5 hoc6
 go_wp2
 go_loopw [8, 9] (fun u n wr => ∃ (us k : Nat) (M : Mc), u = .int .i64 us /\ n = .int .i64 k /\ us <= k /\ Safe xs ms.length known M /\ M.mode = 0 /\ Mh wr b w3.heap.size um6 cb 0 ccap ms xs (ea, eb) M /\ pot xs M <= 256 /\ M.steps = k /\ Below w3.heap.size w3 wr /\ w6.heap.size <= wr.heap.size) (fun _ n _ => 800 - (intOf n).toNat)
 case atStart =>
  exact ⟨0, 0, startE, rfl, rfl, Nat.le_refl _, safe_start hKn, rfl, HMH.out, Int.le_trans (pot_start hKn.T) (cost_256 hKn.T), rfl, hB6, Nat.le_refl _⟩
 case round =>
  obtain ⟨us, k, M, rfl, rfl, hus, hS, m0, hmh, hpot, hk, hbr, hzr⟩ := hrel
  have hpl := hS.pot_le hKn.T
  rw [if_pos m0] at hpl
  have hst : M.steps <= 255 := by omega
  have hkI : (k : Int) < 768 := by omega
  have hkI2 : (k : Int) <= 1000 := by omega
  have husI : (us : Int) <= 1000 := by omega
  have hpcI : (M.pc : Int) < xs.length := by have := hS.pc; omega
  have hpc64 : (M.pc : Int) <= 100 := by have := hS.pc; omega
  have hKK : (K.getD M.pc kn0).1 = true /\ (K.getD M.pc kn0).2 = known.getD M.pc [] := by
   have := hPull.low M.pc hS.pc
   have hne := hS.kn
   rw [this] at hne ⊢
   split at hne
   ·rename_i e
    exact ⟨e, by rw [if_pos e]⟩
   ·exact absurd rfl hne
  obtain ⟨g, gcap, c0, hgc, hgm, hg, htb, h8, hAt⟩ := HR3.out.open (j := M.pc) hS.pc (by rw [hKl]; exact Nat.le_refl _) hKK.1
  rw [hKK.2] at h8 hAt
  have hgt : g < w3.heap.size := hg
  have htbl : tb < w3.heap.size := by omega
  have HAt := keepJ hAt
  have HC0 := keepJ c0
  clear hAt c0
  have HMr := keepJ hmh
  have hrow := (hbr.cell (p := ⟨tb, M.pc, none⟩) htbl).trans HC0.out
  have hqr : Below V.heap.size V wr := hB3.trans (hbr.mono hz3w)
  go_wp2_with (first
   | (go_at_call 29; go_must (refine (mat_any wr HMr.out.ma).mono ?_); rintro e w7 ⟨rfl, rfl⟩)
   | (go_at_call 30; go_must (refine (mregs_any HMr.out.ma).mono ?_); rintro e w7 ⟨rv, rfl, hown7, hb7⟩; go_must (obtain ⟨ub, ucap, rfl, hub7, hubl, huc⟩ := own_block hown7 (by omega); have HO7 := keepJ hown7; have hz7 := hb7.size; clear hown7)))
  have HM7 := keepJ (HMr.out.below hb7)
  have hB7 : Below w3.heap.size w3 w7 := hbr.trans (hb7.mono hbr.size)
  have HRg : Hid (∀ wx : World, Below w7.heap.size w7 wx -> ∀ j, j < 8 -> wx.cell? ⟨ub, j, none⟩ = some (.int .u64 (M.regs.getD j 0))) := fun wx hb j hj => by
   rw [hb.cell (p := ⟨ub, j, none⟩) hubl]
   have := HO7.out.cellAt j (by omega)
   rw [this]
   exact nums_get (by rw [hS.wr.1]; exact hj)
  have hucm : 8 <= ucap := huc
  clear hrow
  go_loopw [12] (fun i wq => ∃ j : Nat, j <= 8 /\ i = .int .i64 j /\ Below w7.heap.size w7 wq) (fun i _ => 8 - (intOf i).toNat)
  case atStart => exact ⟨0, by omega, rfl, Below.refl _ _⟩
  case round =>
   obtain ⟨j, hj, rfl, hbq⟩ := hrel
   have hzq := hbq.size
   have hB7q : Below w3.heap.size w3 wr := hB7.trans (hbq.mono hB7.size)
   have hrow := (hB7q.cell (p := ⟨tb, M.pc, none⟩) htbl).trans HC0.out
   by_cases hj8 : j < 8
   ·have hjI : (j : Int) < 8 := by omega
    have hreg := HRg.out wr hbq j hj8
    have hok := hS.hold j hj8
    obtain ⟨v, HV1⟩ : ∃ v, Hid (M.regs.getD j 0 = v) := ⟨_, rfl⟩
    have hat := (HAt.out j hj8)
    have hmade := (hKn.made hS.pc hS.kn).2 ((known.getD M.pc []).getD j Ty.nil) (mem_getT (by omega))
    obtain ⟨⟨tk, tl, th, tm⟩, HT⟩ : ∃ t, Hid ((known.getD M.pc []).getD j Ty.nil = t) := ⟨_, rfl⟩
    rw [HT.out] at hat hok hmade
    rw [HV1.out] at hreg hok
    obtain ⟨t0, t1, t2, t3⟩ := hat
    have t0 := (hB7q.cell (p := ⟨g, j * 4, none⟩) hgt).trans t0
    have t1 := (hB7q.cell (p := ⟨g, j * 4 + 1, none⟩) hgt).trans t1
    have t2 := (hB7q.cell (p := ⟨g, j * 4 + 2, none⟩) hgt).trans t2
    have t3 := (hB7q.cell (p := ⟨g, j * 4 + 3, none⟩) hgt).trans t3
    simp only at t0 t1 t2 t3
    obtain ⟨Z, HZ, hBZ, x0, x1, x2, x3, zr⟩ : ∃ Z, Hid (wr.alloc (.cells #[.int .i64 tk, .int .u64 tl, .int .u64 th, .int .i64 tm] 99) = Z) /\ Below wr.heap.size wr Z /\ Z.cell? ⟨wr.heap.size, 0, none⟩ = some (.int .i64 tk) /\ Z.cell? ⟨wr.heap.size, 1, none⟩ = some (.int .u64 tl) /\ Z.cell? ⟨wr.heap.size, 2, none⟩ = some (.int .u64 th) /\ Z.cell? ⟨wr.heap.size, 3, none⟩ = some (.int .i64 tm) /\ Z.cell? ⟨ub, j, none⟩ = some (.int .u64 v) := by
     have hN := Hp.new wr [.int .i64 tk, .int .u64 tl, .int .u64 th, .int .i64 tm] 99
     exact ⟨_, rfl, (Below.refl _ _).alloc (Nat.le_refl _) _, hN.cell rfl, hN.cell rfl, hN.cell rfl, hN.cell rfl, (((Below.refl wr.heap.size wr).alloc (Nat.le_refl _) _).cell (p := ⟨ub, j, none⟩) (show ub < wr.heap.size by omega)).trans hreg⟩
    have hBq' : Below w7.heap.size w7 Z := hbq.trans (hBZ.mono hzq)
    have hgm' : gcap <= 9223372036854775807 := hgm
    clear hreg
    rcases hmade with ⟨e1, e2, e3, e4⟩ | ⟨e1, a1, a2, a3, e4⟩ | ⟨e1, e2, e3, b1, b2⟩
    ·simp only at e1 e2 e3 e4
     subst e1 e2 e3 e4
     clear hok
     go_wp2
     rw [HZ.out]
     go_region
     go_wp2
     go_roundw
     case rel => exact ⟨j + 1, by omega, by go_num, below_drE hBq'⟩
     case measure => simp [intOf]; omega
    ·simp only at e1 e4 a1 a2 a3
     subst e1 e4
     have hh := hok.1 rfl
     simp only at hh
     have hl1 : ¬ v < tl := by omega
     have hl2 : ¬ th < v := by omega
     have hl3 : ¬ v > th := by omega
     have hl4 : decide (v < tl) = false := decide_eq_false hl1
     have hl5 : decide (v > th) = false := decide_eq_false hl3
     obtain ⟨hl6, hl7⟩ := hh
     clear hok
     go_wp2
     rw [HZ.out]
     go_region
     go_wp2
     go_roundw
     case rel => exact ⟨j + 1, by omega, by go_num, below_drE hBq'⟩
     case measure => simp [intOf]; omega
    ·simp only at e1 e2 e3 b1 b2
     subst e1 e2 e3
     have hh := hok.2 rfl
     simp only at hh
     subst hh
     have hml := maps_len hmj
     have hwm : IntKind.u64.wrap v = v := by rw [IntKind.wrap_u64]; omega
     clear hok
     go_wp2
     rw [HZ.out]
     go_region
     go_wp2
     go_roundw
     case rel => exact ⟨j + 1, by omega, by go_num, below_drE hBq'⟩
     case measure => simp [intOf]; omega
   ·obtain rfl : j = 8 := by omega
    have hq9 : Below V.heap.size V wr := hB3.trans (hB7q.mono hz3w)
    have HMq := keepJ (HM7.out.below hbq)
    obtain ⟨hsafe, hpt, hs1⟩ := safe_run (ms := ms) (ev := (ea, eb)) hKn hS m0 hev
    have hkd := step_kinds (ms := ms) (xs := xs) (ev := (ea, eb)) m0
    have HStep0 := keepJ (mstep_all (ev := (ea, eb)) hKn hS hev HMq.out (by omega))
    obtain ⟨⟨⟨ak, apc, am, ao, aq, av, an⟩, M1⟩, HR⟩ : ∃ R, Hid (stepE ms xs (ea, eb) M = R) := ⟨_, rfl⟩
    rw [HR.out] at hkd hsafe hpt hs1
    simp only at hkd hsafe hpt hs1
    have HStep : Hid (Calls Tryz.prog 21 #[.pointer (some ⟨b, 0, none⟩)] wr fun e w' => e = .returned (actV ak apc am ao aq av an) /\ Chg wr w' (fun k => k = b ∨ k = w3.heap.size) /\ Mh w' b w3.heap.size um6 cb 0 ccap ms xs (ea, eb) M1) := by
     have := HStep0.out
     rw [HR.out] at this
     exact this
    clear HR hrow
    rcases hkd with ⟨hk4, hm1⟩ | ⟨hk2, hm1⟩ | ⟨hk1, hm1⟩
    ·have k4 : (ak == 4) = true := by simp [hk4]
     have HK4 := keepJ hk4
     clear hk4
     go_wp2_with (first
      | (go_at_call 21; go_must (refine HStep.out.mono ?_); rintro e w8 ⟨rfl, hc8, hmh8⟩; go_must (have hz8 := hc8.size; have hB8 : Below w3.heap.size w3 w8 := hB7q.trans (hc8.below (B := w3.heap.size) (fun k e => by omega) (by omega)); obtain ⟨Y, HY, HaY, hbY, hzY⟩ : ∃ Y, Hid (w8.alloc (.cells #[.int .i64 ak, .int .i64 apc, .int .i64 am, .int .i64 ao, .int .u64 aq, .int .u64 av, .int .u64 an] 80) = Y) /\ Hid (Hp Y w8.heap.size 80 (actC ak apc am ao aq av an)) /\ Below w8.heap.size w8 Y /\ Y.heap.size = w8.heap.size + 1 := ⟨_, rfl, Hp.new w8 _ _, (Below.refl _ _).alloc (Nat.le_refl _) _, by simp⟩; have HMY := keepJ (hmh8.below hbY); have HBY := keepJ (hB8.trans (hbY.mono (by have := hB8.size; omega))); have y0 := HaY.out.cell (j := 0) rfl; clear hmh8))
      | rw [HY.out])
     go_ret
     exact ⟨rfl, hBV.trans ((hB3.trans (HBY.out.mono hz3w)).mono hBV.size)⟩
    ·have k4 : (ak == 4) = false := by simp; omega
     have k2 : (ak == 2) = true := by simp [hk2]
     have HK2 := keepJ hk2
     clear hk2
     have hw1 : IntKind.u64.wrap (k : Int) = k := by rw [IntKind.wrap_u64]; omega
     have hw2 : IntKind.u64.wrap ((k : Int) * 31) = (k : Int) * 31 := by rw [IntKind.wrap_u64]; omega
     by_cases hu : us < rs.length
     ·have huI : (us : Int) < rs.length := by omega
      obtain ⟨rb, ro, hrb, hrlt, hat⟩ : ∃ b off, ra = some ⟨b, off, none⟩ /\ b < w.heap.size /\ AtR w b (off + us * 6) (rs.getD us Rs.nil) := by
       obtain ⟨a1, c1, e, _, _, _, _, g⟩ := HRS.out
       injection e with e1 e2 e3
       subst e1
       obtain ⟨b, off, rfl, hlt, hat⟩ := g (fun e => by rw [e] at hu; simp at hu)
       exact ⟨b, off, rfl, hlt, hat us hu⟩
      have hrwf : (rs.getD us Rs.nil).wf := by
       obtain ⟨a1, c1, e, _, _, _, hw, _⟩ := HRS.out
       refine hw _ ?_
       rw [List.getD_eq_getElem?_getD, List.getElem?_eq_getElem hu]
       exact List.getElem_mem _
      have hrc : rs.length <= rcap /\ rcap <= 9223372036854775807 := by
       obtain ⟨a1, c1, e, g1, g2, _⟩ := HRS.out
       injection e with e1 e2 e3
       subst e3
       unfold maxLen at g2
       exact ⟨g1, by omega⟩
      subst hrb
      obtain ⟨⟨rE, rf, rv, ro', rk, ru⟩, HRr⟩ : ∃ r, Hid (rs.getD us Rs.nil = r) := ⟨_, rfl⟩
      rw [HRr.out] at hat hrwf
      have HAt2 := keepJ hat
      clear hat
      have hsa := safe_answer (E := rE) (f := rf) (v := rv) hKn hsafe hm1 hrwf
      go_wp2_with (first
       | (go_at_call 21; go_must (refine HStep.out.mono ?_); rintro e w8 ⟨rfl, hc8, hmh8⟩; go_must (have hz8 := hc8.size; have hB8 : Below w3.heap.size w3 w8 := hB7q.trans (hc8.below (B := w3.heap.size) (fun k e => by omega) (by omega)); obtain ⟨Y, HY, HaY, hbY, hzY⟩ : ∃ Y, Hid (w8.alloc (.cells #[.int .i64 ak, .int .i64 apc, .int .i64 am, .int .i64 ao, .int .u64 aq, .int .u64 av, .int .u64 an] 80) = Y) /\ Hid (Hp Y w8.heap.size 80 (actC ak apc am ao aq av an)) /\ Below w8.heap.size w8 Y /\ Y.heap.size = w8.heap.size + 1 := ⟨_, rfl, Hp.new w8 _ _, (Below.refl _ _).alloc (Nat.le_refl _) _, by simp⟩; have HMY := keepJ (hmh8.below hbY); have HBY := keepJ (hB8.trans (hbY.mono (by have := hB8.size; omega))); have y0 := HaY.out.cell (j := 0) rfl; obtain ⟨X, HX, HrX, hbX, hzX⟩ : ∃ X, Hid (Y.alloc (.cells #[.int .i64 0, .bool false, .int .u64 ((k : Int) * 31), .bool false, .int .u64 0, .int .u64 0] 45) = X) /\ Hid (Hp X Y.heap.size 45 [.int .i64 0, .bool false, .int .u64 ((k : Int) * 31), .bool false, .int .u64 0, .int .u64 0]) /\ Below Y.heap.size Y X /\ X.heap.size = Y.heap.size + 1 := ⟨_, rfl, Hp.new Y _ _, (Below.refl _ _).alloc (Nat.le_refl _) _, by simp⟩; rw [hzY] at HrX; have HMX := keepJ (HMY.out.below hbX); have HBX := keepJ (HBY.out.trans (hbX.mono (by have := HBY.out.size; omega))); have hqX : Below V.heap.size V X := hB3.trans (HBX.out.mono hz3w); have xq4 := (HQ.out X hqX).cell (j := 4) rfl; (have o0 := HrX.out.cell (j := 0) rfl); (have p0 := HrX.out.frozen 0); (have o1 := HrX.out.cell (j := 1) rfl); (have p1 := HrX.out.frozen 1); (have o2 := HrX.out.cell (j := 2) rfl); (have p2 := HrX.out.frozen 2); (have o3 := HrX.out.cell (j := 3) rfl); (have p3 := HrX.out.frozen 3); (have o4 := HrX.out.cell (j := 4) rfl); (have p4 := HrX.out.frozen 4); (have o5 := HrX.out.cell (j := 5) rfl); (have p5 := HrX.out.frozen 5); obtain ⟨r0, r1, r2, r3, r4, r5⟩ := HAt2.out.below (hBV.trans (hqX.mono hBV.size)) hrlt; (simp only at r0 r1 r2 r3 r4 r5); obtain ⟨X2, HX2, HrX2, HMX2, HBX2, hzX2⟩ : ∃ X2, Hid ((((((X.setCell ⟨w8.heap.size + 1, 0, none⟩ (.int .i64 rE)).setCell ⟨w8.heap.size + 1, 1, none⟩ (.bool rf)).setCell ⟨w8.heap.size + 1, 2, none⟩ (.int .u64 rv)).setCell ⟨w8.heap.size + 1, 3, none⟩ (.bool ro')).setCell ⟨w8.heap.size + 1, 4, none⟩ (.int .u64 rk)).setCell ⟨w8.heap.size + 1, 5, none⟩ (.int .u64 ru) = X2) /\ Hid (Hp X2 (w8.heap.size + 1) 45 [.int .i64 rE, .bool rf, .int .u64 rv, .bool ro', .int .u64 rk, .int .u64 ru]) /\ Hid (Mh X2 b w3.heap.size um6 cb 0 ccap ms xs (ea, eb) M1) /\ Hid (Below w3.heap.size w3 X2) /\ Y.heap.size + 1 <= X2.heap.size := two_resE hzY.symm HrX.out HMY.out hbX HBX.out (by have := HBY.out.size; omega) (by have := HBY.out.size; omega) hzX; (have s0 := HrX2.out.cell (j := 0) rfl); (have s1 := HrX2.out.cell (j := 1) rfl); (have s2 := HrX2.out.cell (j := 2) rfl); (have s3 := HrX2.out.cell (j := 3) rfl); (have s4 := HrX2.out.cell (j := 4) rfl); (have s5 := HrX2.out.cell (j := 5) rfl); clear hmh8))
       | rw [HY.out]
       | rw [HX.out]
       | rw [HX2.out]
       | (go_at_call 20; go_must (refine (manswer_all hKn hsafe HMX2.out hm1 rE rf rv ro' rk ru hrwf).mono ?_); rintro e w9 ⟨rfl, hc9, hm9⟩))
      go_roundw
      case rel =>
       have hz9 := hc9.size
       exact ⟨us + 1, k + 1, answerE xs M1 rE rf rv, by go_num, by go_num, by omega, hsa.1, rfl, hm9, by omega, by have := hsa.2.2; omega, HBX2.out.trans (hc9.below (B := w3.heap.size) (fun k e => by omega) (by have := HBX2.out.size; omega)), by omega⟩
      case measure => simp [intOf]; omega
     ·have huI : ¬ (us : Int) < rs.length := by omega
      have hsa := safe_answer (E := 0) (f := false) (v := (k : Int) * 31) hKn hsafe hm1 (by omega)
      go_wp2_with (first
       | (go_at_call 21; go_must (refine HStep.out.mono ?_); rintro e w8 ⟨rfl, hc8, hmh8⟩; go_must (have hz8 := hc8.size; have hB8 : Below w3.heap.size w3 w8 := hB7q.trans (hc8.below (B := w3.heap.size) (fun k e => by omega) (by omega)); obtain ⟨Y, HY, HaY, hbY, hzY⟩ : ∃ Y, Hid (w8.alloc (.cells #[.int .i64 ak, .int .i64 apc, .int .i64 am, .int .i64 ao, .int .u64 aq, .int .u64 av, .int .u64 an] 80) = Y) /\ Hid (Hp Y w8.heap.size 80 (actC ak apc am ao aq av an)) /\ Below w8.heap.size w8 Y /\ Y.heap.size = w8.heap.size + 1 := ⟨_, rfl, Hp.new w8 _ _, (Below.refl _ _).alloc (Nat.le_refl _) _, by simp⟩; have HMY := keepJ (hmh8.below hbY); have HBY := keepJ (hB8.trans (hbY.mono (by have := hB8.size; omega))); have y0 := HaY.out.cell (j := 0) rfl; obtain ⟨X, HX, HrX, hbX, hzX⟩ : ∃ X, Hid (Y.alloc (.cells #[.int .i64 0, .bool false, .int .u64 ((k : Int) * 31), .bool false, .int .u64 0, .int .u64 0] 45) = X) /\ Hid (Hp X Y.heap.size 45 [.int .i64 0, .bool false, .int .u64 ((k : Int) * 31), .bool false, .int .u64 0, .int .u64 0]) /\ Below Y.heap.size Y X /\ X.heap.size = Y.heap.size + 1 := ⟨_, rfl, Hp.new Y _ _, (Below.refl _ _).alloc (Nat.le_refl _) _, by simp⟩; rw [hzY] at HrX; have HMX := keepJ (HMY.out.below hbX); have HBX := keepJ (HBY.out.trans (hbX.mono (by have := HBY.out.size; omega))); have hqX : Below V.heap.size V X := hB3.trans (HBX.out.mono hz3w); have xq4 := (HQ.out X hqX).cell (j := 4) rfl; (have o0 := HrX.out.cell (j := 0) rfl); (have p0 := HrX.out.frozen 0); (have o1 := HrX.out.cell (j := 1) rfl); (have p1 := HrX.out.frozen 1); (have o2 := HrX.out.cell (j := 2) rfl); (have p2 := HrX.out.frozen 2); (have o3 := HrX.out.cell (j := 3) rfl); (have p3 := HrX.out.frozen 3); (have o4 := HrX.out.cell (j := 4) rfl); (have p4 := HrX.out.frozen 4); (have o5 := HrX.out.cell (j := 5) rfl); (have p5 := HrX.out.frozen 5); clear hmh8))
       | rw [HY.out]
       | rw [HX.out]
       | (go_at_call 20; go_must (refine (manswer_all hKn hsafe HMX.out hm1 0 false ((k : Int) * 31) false 0 0 (by omega)).mono ?_); rintro e w9 ⟨rfl, hc9, hm9⟩))
      go_roundw
      case rel =>
       have hz9 := hc9.size
       exact ⟨us + 1, k + 1, answerE xs M1 0 false ((k : Int) * 31), by go_num, by go_num, by omega, hsa.1, rfl, hm9, by omega, by have := hsa.2.2; omega, HBX.out.trans (hc9.below (B := w3.heap.size) (fun k e => by omega) (by have := HBX.out.size; omega)), by omega⟩
      case measure => simp [intOf]; omega
    ·have k4 : (ak == 4) = false := by simp; omega
     have k2 : (ak == 2) = false := by simp; omega
     clear hk1
     go_wp2_with (first
      | (go_at_call 21; go_must (refine HStep.out.mono ?_); rintro e w8 ⟨rfl, hc8, hmh8⟩; go_must (have hz8 := hc8.size; have hB8 : Below w3.heap.size w3 w8 := hB7q.trans (hc8.below (B := w3.heap.size) (fun k e => by omega) (by omega)); obtain ⟨Y, HY, HaY, hbY, hzY⟩ : ∃ Y, Hid (w8.alloc (.cells #[.int .i64 ak, .int .i64 apc, .int .i64 am, .int .i64 ao, .int .u64 aq, .int .u64 av, .int .u64 an] 80) = Y) /\ Hid (Hp Y w8.heap.size 80 (actC ak apc am ao aq av an)) /\ Below w8.heap.size w8 Y /\ Y.heap.size = w8.heap.size + 1 := ⟨_, rfl, Hp.new w8 _ _, (Below.refl _ _).alloc (Nat.le_refl _) _, by simp⟩; have HMY := keepJ (hmh8.below hbY); have HBY := keepJ (hB8.trans (hbY.mono (by have := hB8.size; omega))); have y0 := HaY.out.cell (j := 0) rfl; clear hmh8))
      | rw [HY.out])
     go_roundw
     case rel => exact ⟨us, k + 1, M1, rfl, by go_num, by omega, hsafe, hm1, HMY.out, by omega, by omega, HBY.out, by omega⟩
     case measure => simp [intOf]; omega
theorem safe11_any (vm vc : Value) (ms : List Int) (xs : List In) (ea eb : Int) (vr : Value) (rs : List Rs) (od : Int) (w : World) (h : SeesM w vm vc ms xs) (hr : SeesR w vr rs) (hev : (0 <= ea /\ ea <= 18446744073709551615) /\ 0 <= eb /\ eb <= 18446744073709551615) (hod : -9223372036854775808 <= od /\ od <= 9223372036854775807) (z : ms.length * 8 <= 140737488351232 /\ xs.length * 40 <= 140737488355328 /\ rs.length * 48 <= 140737488355328) :
  Calls Tryz.prog 6 #[runV vm vc ea eb vr od] w fun e w' => e = .returned (.bool true) /\ Below w.heap.size w w' := by
 cases hi : inqR ms xs with
 | error e => exact safe11_bad vm vc ms xs ea eb vr rs od w h hr hev z (P := e.1) (E := e.2) hi
 | ok K => exact safe11_ok vm vc ms xs ea eb vr rs od w h hr hev z hi
end Go.Proofs.YtmhdhekcogplhaaGreat
