/-
  JLeave
  JStep
-/
import Derived.Test.YtkondcjmhlppiaaGreatMW0
import Derived.Test.YtkondcjmhlppiaaGreatMW38
import Derived.Test.YtkondcjmhlppiaaGreatMW39
import Derived.Test.YtkondcjmhlppiaaGreatMW22
namespace Go.Proofs.YtkondcjmhlppiaaGreat
open Go.RowKit
set_option linter.unusedVariables false
set_option linter.unusedSimpArgs false
set_option maxRecDepth 100000
def leaveK (i : In) (p : Nat) (K : Kn) : Kn :=
 if i.op = 22 then K
 else if i.op = 15 then arrK K ((p : Int) + i.far).toNat (K.getD p kn0).1 (K.getD p kn0).2
 else if 16 <= i.op /\ i.op <= 19 then arrK (arrK K (p + 1) (refS i (K.getD p kn0).1 (K.getD p kn0).2 false).1 (refS i (K.getD p kn0).1 (K.getD p kn0).2 false).2) ((p : Int) + i.far).toNat (refS i (K.getD p kn0).1 (K.getD p kn0).2 true).1 (refS i (K.getD p kn0).1 (K.getD p kn0).2 true).2
 else arrK K (p + 1) (K.getD p kn0).1 (wrS i (K.getD p kn0).2)
theorem lwritten_as {nm : Nat} {i : In} {s s' : St} (r : Bool) (w : World) (h : Hid (wrS i s = s')) (h8 : Made8 nm s) (hr : i.right = true) : Calls Tryz.prog 63 #[stV r s, i.v] w fun e w' => e = .returned (stV r s') /\ Below w.heap.size w w' := by
 rw [<- h.out]; exact lwritten_any nm i r s w h8 hr
theorem lrefined_as {nm : Nat} {i : In} {r r' : Bool} {s s' : St} {holds : Bool} (w : World) (h : Hid (refS i r s holds = (r', s'))) (h8 : Made8 nm s) (ha : 0 <= i.a /\ i.a <= 7) (hb : i.b = 8 ∨ (0 <= i.b /\ i.b <= 7)) : Calls Tryz.prog 62 #[stV r s, i.v, .bool holds] w fun e w' => e = .returned (stV r' s') /\ Below w.heap.size w w' := by
 have := lrefined_any nm i r s holds w h8 ha hb
 rw [h.out] at this
 exact this
set_option maxHeartbeats 12800000 in
theorem lleave_one (w0 w : World) (qb kb nm cb co ccap p : Nat) (vl : Value) (xs : List In) (ls : List Lp) (K : Kn) (h : Inq w0 w qb kb nm vl cb co ccap xs ls K) (hp : p < xs.length) (h64 : xs.length <= 64) (hM : MadeK nm K) (op d a b imm : Int) (HI : Hid (nth xs p = ⟨op, d, a, b, imm⟩)) (r : Bool) (s : St) (HK : Hid (K.getD p kn0 = (r, s))) (f : Int) (l o : Bool) (HF : Hid (f = In.far ⟨op, d, a, b, imm⟩)) (HL : Hid (l = In.leads ⟨op, d, a, b, imm⟩)) (HO : Hid (o = In.on ⟨op, d, a, b, imm⟩)) (KR : Kn) (hc : (op = 22 /\ KR = K) ∨ (op = 15 /\ ∃ n2 : Nat, n2 < xs.length /\ Hid ((p : Int) + f = n2) /\ (0 <= f /\ f <= 64) /\ KR = arrK K n2 r s) ∨ ((op ≠ 22 /\ op ≠ 15 /\ ¬ (16 <= op /\ op <= 19)) /\ Hid (In.right ⟨op, d, a, b, imm⟩ = true) /\ p + 1 < xs.length /\ ∃ s', Hid (wrS ⟨op, d, a, b, imm⟩ s = s') /\ Hid (Made8 nm s') /\ KR = arrK K (p + 1) r s') ∨ ((op = 16 ∨ op = 17 ∨ op = 18 ∨ op = 19) /\ p + 1 < xs.length /\ Hid (0 <= a /\ a <= 7) /\ Hid (b = 8 ∨ (0 <= b /\ b <= 7)) /\ ∃ n2 : Nat, n2 < xs.length /\ Hid ((p : Int) + f = n2) /\ (0 <= f /\ f <= 64) /\ ∃ r1 r2 s1 s2, Hid (refS ⟨op, d, a, b, imm⟩ r s false = (r1, s1)) /\ Hid (refS ⟨op, d, a, b, imm⟩ r s true = (r2, s2)) /\ Hid (Made8 nm s1) /\ Hid (Made8 nm s2) /\ KR = arrK (arrK K (p + 1) r1 s1) n2 r2 s2)) : Calls Tryz.prog 33 #[.pointer (some ⟨qb, 0, none⟩), .int .i64 p] w fun e w' => e = .returned (.tuple #[]) /\ Inq w0 w' qb kb nm vl cb co ccap xs ls KR := by
 obtain ⟨hat, hcb, hN, hcc⟩ := h.at hp
 rw [HI.out] at hat
 obtain ⟨c0, c1, c2, c3, c4⟩ := hat
 simp only at c0 c1 c2 c3 c4
 have hpI : (p : Int) < xs.length := by omega
 have h8 : s.length = 8 := by have := h.e8.at p; rw [HK.out] at this; exact this
 have hst : StAt w kb (p * 33) r s := h.k.state h.e8 (by rw [h.len]; exact hp) HK.out
 have hqz := h.q.lt
 have hkz := h.k.lt
 have hbz := h.b0.size
 have HP : Hid (∀ w', Below w.heap.size w w' -> w'.cell? ⟨qb, 1, none⟩ = some (.slice (some ⟨cb, co, none⟩) xs.length ccap) /\ w'.cell? ⟨qb, 3, none⟩ = some (.slice (some ⟨kb, 0, none⟩) xs.length xs.length) /\ w'.cell? ⟨cb, co + p * 5, none⟩ = some (.int .i64 op) /\ w'.cell? ⟨cb, co + p * 5 + 1, none⟩ = some (.int .i64 d) /\ w'.cell? ⟨cb, co + p * 5 + 2, none⟩ = some (.int .i64 a) /\ w'.cell? ⟨cb, co + p * 5 + 3, none⟩ = some (.int .i64 b) /\ w'.cell? ⟨cb, co + p * 5 + 4, none⟩ = some (.int .i64 imm) /\ StAt w' kb (p * 33) r s) := fun w' hb' => by
  have hA := At.below (i := ⟨op, d, a, b, imm⟩) ⟨c0, c1, c2, c3, c4⟩ hb' (by omega)
  exact ⟨(h.q.below hb' hqz).cell rfl, (h.q.below hb' hqz).cell rfl, hA.1, hA.2.1, hA.2.2.1, hA.2.2.2.1, hA.2.2.2.2, hst.below hb' hkz⟩
 clear c0 c1 c2 c3 c4 hst
 have hs8 : Made8 nm s := by have := hM.at p; rw [HK.out] at this; exact this
 have HM := keepJ hM
 have HS8 := keepJ hs8
 have HSZ := keepJ (sizeJ (r := r) h8)
 have hp64 : (p : Int) < 64 := by omega
 have HN1 : Hid ((p : Int) + 1 = ((p + 1 : Nat) : Int)) := by show _ = _; omega
 clear hs8 hM
 go_enter Tryz.func33, Tryz.ntmps33
 go_wp2_with (fail)
 go_cut [4, 5] from 9 (fun v4 v5 wc => Taken2 w wc ⟨op, d, a, b, imm⟩ r s v4 v5)
 case rest =>
  obtain ⟨ib, sb, rfl, rfl, hiC, hsC, hbC, hi1, hs1, his⟩ := hcut
  have HQ := keepJ (h.below hbC)
  have HiC := keepJ hiC
  have HsC := keepJ hsC
  obtain ⟨y0, y1, y2, y3, y4⟩ := id hiC.inst
  have hzi := hiC.lt
  have hzs := hsC.lt
  have hkb : kb < wc.heap.size := HQ.out.k.lt
  have hikb : ib ≠ kb := by omega
  have hskb : sb ≠ kb := by omega
  clear hiC hsC HP h
  rcases hc with ⟨rfl, rfl⟩ | ⟨rfl, n2, hn2, HN2, hf, rfl⟩ | ⟨hop, HR, hn1, s', HW, HS3, rfl⟩ | ⟨hop, hn1, HA, HB, n2, hn2, HN2, hf, r1, r2, s1, s2, HW1, HW2, HS3, HS4, rfl⟩
  ·go_wp2_with (first
    | (go_at_call 58; go_must (refine (goes_one (i := ⟨_, d, a, b, imm⟩) (show Hid _ from rfl) HF HL HO _).mono ?_); rintro e w1 ⟨rfl, hb1⟩; go_must (have HQ1 := keepJ (HQ.out.below hb1); have HL1 := keepJ (HsC.out.below hb1 hzs).oneR; obtain ⟨x0, x1, x2, x3, x4⟩ := Box.below HiC.out.inst hb1 hzi; have hz1 := hb1.size; clear y0 y1 y2 y3 y4))
    | fail)
   exact bodyPost_end (results_none rfl _ _ _) rfl ⟨rfl, HQ1.out⟩
  ·go_wp2_with (first
    | (go_at_call 58; go_must (refine (goes_one (i := ⟨_, d, a, b, imm⟩) (show Hid _ from rfl) HF HL HO _).mono ?_); rintro e w1 ⟨rfl, hb1⟩; go_must (have HQ1 := keepJ (HQ.out.below hb1); have HL1 := keepJ (HsC.out.below hb1 hzs).oneR; obtain ⟨x0, x1, x2, x3, x4⟩ := Box.below HiC.out.inst hb1 hzi; have hz1 := hb1.size; clear y0 y1 y2 y3 y4))
    | ((with_reducible refine wpList_load_mid ?_ 115 (.tmp 5) ?_ sb 0 ?_ (stC r s) _ HL1.out Tryz.underlying115 ?_ HSZ.out ?_); rfl; rfl; rfl; rfl)
    | (go_at_call 30; go_must (refine (larrive_inq HQ1.out HN2 hn2 r HS8.out HM.out).mono ?_); rintro e w2 ⟨rfl, hg2, hq2, hm2⟩; go_must (have HQ2 := keepJ hq2; clear hg2 hq2 hm2))
    | fail)
   exact bodyPost_end (results_none rfl _ _ _) rfl ⟨rfl, HQ2.out⟩
  ·have o1 : ¬ op = 22 := hop.1
   have o2 : ¬ op = 15 := hop.2.1
   have o3 : ¬ op = 16 := by omega
   have o4 : ¬ op = 17 := by omega
   have o5 : ¬ op = 18 := by omega
   have o6 : ¬ op = 19 := by omega
   clear hop
   go_wp2_with (first
    | (go_at_call 58; go_must (refine (goes_one (i := ⟨_, d, a, b, imm⟩) (show Hid _ from rfl) HF HL HO _).mono ?_); rintro e w1 ⟨rfl, hb1⟩; go_must (have HQ1 := keepJ (HQ.out.below hb1); have HL1 := keepJ (HsC.out.below hb1 hzs).oneR; obtain ⟨x0, x1, x2, x3, x4⟩ := Box.below HiC.out.inst hb1 hzi; have hz1 := hb1.size; clear y0 y1 y2 y3 y4))
    | ((with_reducible refine wpList_load_mid ?_ 115 (.tmp 5) ?_ sb 0 ?_ (stC r s) _ HL1.out Tryz.underlying115 ?_ HSZ.out ?_); rfl; rfl; rfl; rfl)
    | (go_at_call 63; go_must (refine (lwritten_as (i := ⟨_, d, a, b, imm⟩) r w1 HW HS8.out HR.out).mono ?_); rintro e w2 ⟨rfl, hb2⟩; go_must (have HQ2 := keepJ (HQ1.out.below hb2); clear hb2))
    | (go_at_call 30; go_must (refine (larrive_inq HQ2.out HN1 hn1 r HS3.out HM.out).mono ?_); rintro e w3 ⟨rfl, hg3, hq3, hm3⟩; go_must (have HQ3 := keepJ hq3; clear hg3 hq3 hm3))
    | fail)
   exact bodyPost_end (results_none rfl _ _ _) rfl ⟨rfl, HQ3.out⟩
  ·rcases hop with rfl | rfl | rfl | rfl
   all_goals go_wp2_with (first
    | (go_at_call 58; go_must (refine (goes_one (i := ⟨_, d, a, b, imm⟩) (show Hid _ from rfl) HF HL HO _).mono ?_); rintro e w1 ⟨rfl, hb1⟩; go_must (have HQ1 := keepJ (HQ.out.below hb1); have HL1 := keepJ (HsC.out.below hb1 hzs).oneR; obtain ⟨x0, x1, x2, x3, x4⟩ := Box.below HiC.out.inst hb1 hzi; have hz1 := hb1.size; clear y0 y1 y2 y3 y4))
    | ((with_reducible refine wpList_load_mid ?_ 115 (.tmp 5) ?_ sb 0 ?_ (stC r s) _ HL1.out Tryz.underlying115 ?_ HSZ.out ?_); rfl; rfl; rfl; rfl)
    | (go_at_call 62; have hq1 := HL1; go_must (refine (lrefined_as (i := ⟨_, d, a, b, imm⟩) w1 HW1 HS8.out HA.out HB.out).mono ?_); rintro e w2 ⟨rfl, hb2⟩; go_must (have HQ2 := keepJ (HQ1.out.below hb2); have Hi2 := keepJ ((HiC.out.below hb1 hzi).below hb2 (by omega)); have Hs2 := keepJ ((HsC.out.below hb1 hzs).below hb2 (by omega)); clear hq1 HL1 hb2))
    | (go_at_call 30; have hq0 := HQ2; clear hq0; go_must (refine (larrive_inq HQ2.out HN1 hn1 r1 HS3.out HM.out).mono ?_); rintro e w3 ⟨rfl, hg3, hq3, hm3⟩; go_must (have HQ3 := keepJ hq3; have HM3 := keepJ hm3; have Hi3 := keepJ (Hi2.out.grown hg3 (fun e => hikb (by injection e))); have Hs3 := keepJ (Hs2.out.grown hg3 (fun e => hskb (by injection e))); have HL3 := keepJ Hs3.out.oneR; have hzi3 := Hi3.out.lt; have hzs3 := Hs3.out.lt; obtain ⟨z0, z1, z2, z3, z4⟩ := Hi3.out.inst; clear hg3 hq3 hm3 HQ2 x0 x1 x2 x3 x4))
    | ((with_reducible refine wpList_load_mid ?_ 115 (.tmp 5) ?_ sb 0 ?_ (stC r s) _ HL3.out Tryz.underlying115 ?_ HSZ.out ?_); rfl; rfl; rfl; rfl)
    | (go_at_call 62; go_must (refine (lrefined_as (i := ⟨_, d, a, b, imm⟩) w3 HW2 HS8.out HA.out HB.out).mono ?_); rintro e w4 ⟨rfl, hb4⟩; go_must (have HQ4 := keepJ (HQ3.out.below hb4); clear HL3 hb4))
    | (go_at_call 30; go_must (refine (larrive_inq HQ4.out HN2 hn2 r2 HS4.out HM3.out).mono ?_); rintro e w5 ⟨rfl, hg5, hq5, hm5⟩; go_must (have HQ5 := keepJ hq5; clear hg5 hq5 hm5))
    | fail)
   all_goals exact bodyPost_end (results_none rfl _ _ _) rfl ⟨rfl, HQ5.out⟩
 case first =>
  refine wp_region_held_drew (S := fun w' => w'.cell? ⟨qb, 1, none⟩ = some (.slice (some ⟨cb, co, none⟩) xs.length ccap) /\ w'.cell? ⟨qb, 3, none⟩ = some (.slice (some ⟨kb, 0, none⟩) xs.length xs.length) /\ w'.cell? ⟨cb, co + p * 5, none⟩ = some (.int .i64 op) /\ w'.cell? ⟨cb, co + p * 5 + 1, none⟩ = some (.int .i64 d) /\ w'.cell? ⟨cb, co + p * 5 + 2, none⟩ = some (.int .i64 a) /\ w'.cell? ⟨cb, co + p * 5 + 3, none⟩ = some (.int .i64 b) /\ w'.cell? ⟨cb, co + p * 5 + 4, none⟩ = some (.int .i64 imm) /\ StAt w' kb (p * 33) r s) (by kernel_rfl) (HP.out _ (Below.refl _ _).drew) (fun hHeld => ?_)
  refine tkGo [0, 1, 2, 3, 4, 5, 6, 7, 8, 9, 10, 11, 12] ?_
  repeat (refine tkO (v := ?_) rfl ?_ ?_; rotate_left; (intro wy hSw; (try dsimp only at hSw); go_simp; (first | done | with_reducible rfl)); try simp only [Act.put, p1q, p2q, p3q, p4q, p5q, p6q])
  refine tkEnd ?_
  refine wpAnyH_take (i := 13) rfl (by kernel_rfl) (by kernel_rfl) (by kernel_rfl) (fun _ _ _ h => h) (yieldsIf_load_mid (by rfl) _ _ rfl _ _ rfl (stC r s) _ (fun w h => h.2.2.2.2.2.2.2) Tryz.underlying115 rfl (sizeJ h8)) (by assumption) ?_
  try simp only [Act.put, p1q, p2q, p3q, p4q, p5q, p6q]
  refine runT 14 15 (by kernel_rfl) rfl rfl (by rfl) (by rfl) (fun KK hK => ?_) (fun KK hK => ?_)
  ·go_simp
   refine hK.out _ _ (HP.out _ ((Below.refl _ _).alloc (Nat.le_refl _) _).drew) (fun hHeld => ?_)
   clear hK KK
   try simp only [Act.put, p1q, p2q, p3q, p4q, p5q, p6q]
   refine runO 15 (by kernel_rfl) rfl (by rfl) (fun KK hK => ?_)
   go_simp
   obtain ⟨Y, HY, HiY, HsY, hbY, hzY⟩ : ∃ Y, Hid (Y = (w.alloc (Obj.cells #[.int .i64 0, .int .i64 0, .int .i64 0, .int .i64 0, .int .i64 0] 60)).alloc (Obj.cells #[.bool false, .int .i64 0, .int .u64 0, .int .u64 0, .int .i64 0, .int .i64 0, .int .u64 0, .int .u64 0, .int .i64 0, .int .i64 0, .int .u64 0, .int .u64 0, .int .i64 0, .int .i64 0, .int .u64 0, .int .u64 0, .int .i64 0, .int .i64 0, .int .u64 0, .int .u64 0, .int .i64 0, .int .i64 0, .int .u64 0, .int .u64 0, .int .i64 0, .int .i64 0, .int .u64 0, .int .u64 0, .int .i64 0, .int .i64 0, .int .u64 0, .int .u64 0, .int .i64 0] 115)) /\ Hid (Hp Y w.heap.size 60 (inC ⟨0, 0, 0, 0, 0⟩)) /\ Hid (Hp Y (w.heap.size + 1) 115 zeroC) /\ Below w.heap.size w Y /\ w.heap.size + 2 <= Y.heap.size := ⟨_, rfl, (Hp.new w (inC ⟨0, 0, 0, 0, 0⟩) _).alloc _, keepJ (by have := Hp.new (w.alloc (Obj.cells #[.int .i64 0, .int .i64 0, .int .i64 0, .int .i64 0, .int .i64 0] 60)) zeroC 115; simpa [zeroC] using this), by go_grown, by simp⟩
   rw [<- HY.out]
   clear HY
   refine hK.out _ _ (HP.out _ hbY.drew) (fun hHeld => ?_)
   clear hK KK
   try simp only [Act.put, p1q, p2q, p3q, p4q, p5q, p6q]
   have n0 : Y.cell? ⟨w.heap.size, 0, none⟩ = some (.int .i64 0) := HiY.out.cell rfl
   have f0 := HiY.out.frozen 0
   have n1 : Y.cell? ⟨w.heap.size, 1, none⟩ = some (.int .i64 0) := HiY.out.cell rfl
   have f1 := HiY.out.frozen 1
   have n2 : Y.cell? ⟨w.heap.size, 2, none⟩ = some (.int .i64 0) := HiY.out.cell rfl
   have f2 := HiY.out.frozen 2
   have n3 : Y.cell? ⟨w.heap.size, 3, none⟩ = some (.int .i64 0) := HiY.out.cell rfl
   have f3 := HiY.out.frozen 3
   have n4 : Y.cell? ⟨w.heap.size, 4, none⟩ = some (.int .i64 0) := HiY.out.cell rfl
   have f4 := HiY.out.frozen 4
   refine runO 16 (by kernel_rfl) rfl (by rfl) (fun KK hK => ?_)
   go_simp
   clear n0 n1 n2 n3 n4 f0 f1 f2 f3 f4
   obtain ⟨V, HV, HiV, HsV, hbV, hzV⟩ : ∃ V, Hid (V = (((((Y.setCell ⟨w.heap.size, 0, none⟩ (.int .i64 op)).setCell ⟨w.heap.size, 1, none⟩ (.int .i64 d)).setCell ⟨w.heap.size, 2, none⟩ (.int .i64 a)).setCell ⟨w.heap.size, 3, none⟩ (.int .i64 b)).setCell ⟨w.heap.size, 4, none⟩ (.int .i64 imm))) /\ Hid (Hp V w.heap.size 60 (inC ⟨op, d, a, b, imm⟩)) /\ Hid (Hp V (w.heap.size + 1) 115 zeroC) /\ Below w.heap.size w V /\ w.heap.size + 2 <= V.heap.size := ⟨_, rfl, HiY.out.sets (inC ⟨op, d, a, b, imm⟩) 0, HsY.out.fars (by omega) (inC ⟨op, d, a, b, imm⟩) 0, hbY.trans (grown_to_below (grown_sets _ (inC ⟨op, d, a, b, imm⟩) Y 0) (by omega) hbY.size), Nat.le_trans hzY (grown_sets _ (inC ⟨op, d, a, b, imm⟩) Y 0).size⟩
   rw [<- HV.out]
   clear HV HiY HsY
   refine hK.out _ _ (HP.out _ hbV.drew) (fun hHeld => ?_)
   clear hK KK
   try simp only [Act.put, p1q, p2q, p3q, p4q, p5q, p6q]
   refine runO 17 (by kernel_rfl) rfl (by rfl) (fun KK hK => ?_)
   have HTH : V.drew.there (w.heap.size + 1) 0 (stC r s).toArray.size := by rw [stC_size r h8]; exact HsV.out.drew.there (by rw [zeroC_len]; omega)
   refine wp_store_mid _ _ _ rfl _ _ (List.toArray _) rfl rfl HTH (sizeJA h8) (stC_all r s) ?_
   have hbU : Below w.heap.size w (V.drew.setCells (w.heap.size + 1) 0 (stC r s)) := (hbV.drew).trans (grown_to_below (grown_sets _ _ _ _) (by omega) (show w.heap.size <= V.heap.size by omega))
   refine hK.out _ _ (HP.out _ hbU) (fun hHeld => ?_)
   clear hK KK
   try simp only [Act.put, p1q, p2q, p3q, p4q, p5q, p6q]
   refine wpAnyH_done (by kernel_rfl) ?_ _
   go_wp2
   go_meet
   case rel => exact ⟨w.heap.size, (w.heap.size + 1), rfl, rfl, HiV.out.drew.fars (by omega) _ _, HsV.out.drew.box zeroC_len h8, hbU, by omega, by omega, by omega⟩
  ·go_simp
   refine hK.out _ _ (HP.out _ ((Below.refl _ _).alloc (Nat.le_refl _) _).drew) (fun hHeld => ?_)
   clear hK KK
   try simp only [Act.put, p1q, p2q, p3q, p4q, p5q, p6q]
   refine runO 14 (by kernel_rfl) rfl (by rfl) (fun KK hK => ?_)
   go_simp
   obtain ⟨Y, HY, HiY, HsY, hbY, hzY⟩ : ∃ Y, Hid (Y = (w.alloc (Obj.cells #[.bool false, .int .i64 0, .int .u64 0, .int .u64 0, .int .i64 0, .int .i64 0, .int .u64 0, .int .u64 0, .int .i64 0, .int .i64 0, .int .u64 0, .int .u64 0, .int .i64 0, .int .i64 0, .int .u64 0, .int .u64 0, .int .i64 0, .int .i64 0, .int .u64 0, .int .u64 0, .int .i64 0, .int .i64 0, .int .u64 0, .int .u64 0, .int .i64 0, .int .i64 0, .int .u64 0, .int .u64 0, .int .i64 0, .int .i64 0, .int .u64 0, .int .u64 0, .int .i64 0] 115)).alloc (Obj.cells #[.int .i64 0, .int .i64 0, .int .i64 0, .int .i64 0, .int .i64 0] 60)) /\ Hid (Hp Y (w.heap.size + 1) 60 (inC ⟨0, 0, 0, 0, 0⟩)) /\ Hid (Hp Y w.heap.size 115 zeroC) /\ Below w.heap.size w Y /\ w.heap.size + 2 <= Y.heap.size := ⟨_, rfl, keepJ (by have := Hp.new (w.alloc (Obj.cells #[.bool false, .int .i64 0, .int .u64 0, .int .u64 0, .int .i64 0, .int .i64 0, .int .u64 0, .int .u64 0, .int .i64 0, .int .i64 0, .int .u64 0, .int .u64 0, .int .i64 0, .int .i64 0, .int .u64 0, .int .u64 0, .int .i64 0, .int .i64 0, .int .u64 0, .int .u64 0, .int .i64 0, .int .i64 0, .int .u64 0, .int .u64 0, .int .i64 0, .int .i64 0, .int .u64 0, .int .u64 0, .int .i64 0, .int .i64 0, .int .u64 0, .int .u64 0, .int .i64 0] 115)) (inC ⟨0, 0, 0, 0, 0⟩) 60; simpa [inC] using this), (Hp.new w zeroC _).alloc _, by go_grown, by simp⟩
   rw [<- HY.out]
   clear HY
   refine hK.out _ _ (HP.out _ hbY.drew) (fun hHeld => ?_)
   clear hK KK
   try simp only [Act.put, p1q, p2q, p3q, p4q, p5q, p6q]
   have n0 : Y.cell? ⟨(w.heap.size + 1), 0, none⟩ = some (.int .i64 0) := HiY.out.cell rfl
   have f0 := HiY.out.frozen 0
   have n1 : Y.cell? ⟨(w.heap.size + 1), 1, none⟩ = some (.int .i64 0) := HiY.out.cell rfl
   have f1 := HiY.out.frozen 1
   have n2 : Y.cell? ⟨(w.heap.size + 1), 2, none⟩ = some (.int .i64 0) := HiY.out.cell rfl
   have f2 := HiY.out.frozen 2
   have n3 : Y.cell? ⟨(w.heap.size + 1), 3, none⟩ = some (.int .i64 0) := HiY.out.cell rfl
   have f3 := HiY.out.frozen 3
   have n4 : Y.cell? ⟨(w.heap.size + 1), 4, none⟩ = some (.int .i64 0) := HiY.out.cell rfl
   have f4 := HiY.out.frozen 4
   refine runO 16 (by kernel_rfl) rfl (by rfl) (fun KK hK => ?_)
   go_simp
   clear n0 n1 n2 n3 n4 f0 f1 f2 f3 f4
   obtain ⟨V, HV, HiV, HsV, hbV, hzV⟩ : ∃ V, Hid (V = (((((Y.setCell ⟨(w.heap.size + 1), 0, none⟩ (.int .i64 op)).setCell ⟨(w.heap.size + 1), 1, none⟩ (.int .i64 d)).setCell ⟨(w.heap.size + 1), 2, none⟩ (.int .i64 a)).setCell ⟨(w.heap.size + 1), 3, none⟩ (.int .i64 b)).setCell ⟨(w.heap.size + 1), 4, none⟩ (.int .i64 imm))) /\ Hid (Hp V (w.heap.size + 1) 60 (inC ⟨op, d, a, b, imm⟩)) /\ Hid (Hp V w.heap.size 115 zeroC) /\ Below w.heap.size w V /\ w.heap.size + 2 <= V.heap.size := ⟨_, rfl, HiY.out.sets (inC ⟨op, d, a, b, imm⟩) 0, HsY.out.fars (by omega) (inC ⟨op, d, a, b, imm⟩) 0, hbY.trans (grown_to_below (grown_sets _ (inC ⟨op, d, a, b, imm⟩) Y 0) (by omega) hbY.size), Nat.le_trans hzY (grown_sets _ (inC ⟨op, d, a, b, imm⟩) Y 0).size⟩
   rw [<- HV.out]
   clear HV HiY HsY
   refine hK.out _ _ (HP.out _ hbV.drew) (fun hHeld => ?_)
   clear hK KK
   try simp only [Act.put, p1q, p2q, p3q, p4q, p5q, p6q]
   refine runO 17 (by kernel_rfl) rfl (by rfl) (fun KK hK => ?_)
   have HTH : V.drew.there w.heap.size 0 (stC r s).toArray.size := by rw [stC_size r h8]; exact HsV.out.drew.there (by rw [zeroC_len]; omega)
   refine wp_store_mid _ _ _ rfl _ _ (List.toArray _) rfl rfl HTH (sizeJA h8) (stC_all r s) ?_
   have hbU : Below w.heap.size w (V.drew.setCells w.heap.size 0 (stC r s)) := (hbV.drew).trans (grown_to_below (grown_sets _ _ _ _) (by omega) (show w.heap.size <= V.heap.size by omega))
   refine hK.out _ _ (HP.out _ hbU) (fun hHeld => ?_)
   clear hK KK
   try simp only [Act.put, p1q, p2q, p3q, p4q, p5q, p6q]
   refine wpAnyH_done (by kernel_rfl) ?_ _
   go_wp2
   go_meet
   case rel => exact ⟨(w.heap.size + 1), w.heap.size, rfl, rfl, HiV.out.drew.fars (by omega) _ _, HsV.out.drew.box zeroC_len h8, hbU, by omega, by omega, by omega⟩
theorem right_fields {i : In} (hr : i.right = true) : (0 <= i.a /\ i.a <= 7) /\ (i.b = 8 ∨ (0 <= i.b /\ i.b <= 7)) := by
 obtain ⟨op, d, a, b, imm⟩ := i
 unfold In.right rightB at hr
 simp only at hr ⊢
 repeat' split at hr
 all_goals simp [regB, sourcedB] at hr
 all_goals omega
theorem wr_leaves {i : In} (hr : i.right = true) (s : St) (h : ¬ (16 <= i.op /\ i.op <= 19)) (b : Bool) : leavesJ i s b = some (wrS i s) := by
 have h0 : 0 <= i.op /\ i.op <= 22 := right_op hr
 unfold leavesJ wrS
 by_cases hw : i.wr.2 = true
 ·rw [if_pos hw]
  rcases writes_op i hw hr with ⟨e, ho⟩ | ⟨e, ho⟩
  ·rw [e]
   unfold madeT
   by_cases c0 : i.op = 0
   ·rw [if_pos c0, if_pos c0]
   rw [if_neg c0, if_neg c0]
   by_cases c1 : 1 <= i.op /\ i.op <= 10
   ·rw [if_pos (by simp [threeB]; omega), if_neg (by omega), if_neg (by omega), if_neg (by omega)]
   rw [if_neg (by simp [threeB]; omega)]
   by_cases c2 : i.op = 11 ∨ i.op = 13
   ·rw [if_pos c2, if_pos c2]
   rw [if_neg c2, if_neg c2, if_pos (by omega), if_pos (by omega)]
  ·rw [e]
   unfold madeT
   rw [if_neg (by omega), if_neg (by simp [threeB]; omega), if_neg (by omega), if_neg (by omega), if_pos ho, if_neg (by omega), if_neg (by omega), if_neg (by omega), if_pos ho]
   rfl
 ·rw [if_neg hw]
  have hn : ¬ (i.op <= 11 ∨ i.op = 13 ∨ i.op = 14) /\ ¬ i.op = 21 := by
   unfold In.wr writesL at hw
   rw [if_neg (by simp [show rightB i.op i.d i.a i.b i.imm = true from hr])] at hw
   by_cases c : i.op <= 11 ∨ i.op = 13 ∨ i.op = 14
   ·rw [if_pos c] at hw; simp at hw
   ·rw [if_neg c] at hw; exact ⟨c, by simpa using hw⟩
  rw [if_neg (by omega), if_neg (by simp [threeB]; omega), if_neg (by omega), if_neg (by omega), if_neg (by omega), if_neg (by simp [jumpB]; omega)]
theorem ref_leaves {i : In} (s : St) (h : 16 <= i.op /\ i.op <= 19) (r b : Bool) : refS i r s b = match leavesJ i s b with | none => (false, stZ) | some s' => (r, s') := by
 unfold leavesJ refS
 rw [if_neg (by omega), if_neg (by simp [threeB]; omega), if_neg (by omega), if_neg (by omega), if_neg (by omega), if_pos (by simp [jumpB]; omega)]
 cases refineR i.op (regT s i.a).lo (regT s i.a).hi (srcT i s).lo (srcT i s).hi b <;> rfl
theorem word_made {nm : Nat} {t : Ty} (h : Made nm t) : wordE t = if t.k ≠ 1 then 33 else if 15 < t.hi then 35 else 0 := by
 unfold wordE
 by_cases hk : t.k = 1
 ·have hh : 0 <= t.lo /\ t.lo <= t.hi := by rcases h with h | h | h <;> omega
  have hw : withinB t.lo t.hi 0 15 = decide (t.hi <= 15) := by
   rw [Bool.eq_iff_iff]
   simp [withinB, hasN]
   omega
  rw [hw]
  by_cases h15 : 15 < t.hi
  ·simp [hk, h15]
  ·simp [hk, h15]
 ·simp [hk]
theorem fitsAll_eq {nm : Nat} {s h : St} (hs : Made8 nm s) (hh : Made8 nm h) : fitsAllS s h = fitsAll s h := by
 unfold fitsAllS fitsAll
 rw [Bool.eq_iff_iff, List.all_eq_true, List.all_eq_true]
 constructor
 ·intro k r hr; rw [<- fits_eq (hs.get (List.mem_range.1 hr)) (hh.get (List.mem_range.1 hr))]; exact k r hr
 ·intro k r hr; rw [fits_eq (hs.get (List.mem_range.1 hr)) (hh.get (List.mem_range.1 hr))]; exact k r hr
theorem nums1 (t : Ty) : numsE [t] = if t.k ≠ 1 then 33 else 0 := by
 unfold numsE
 by_cases h : t.k = 1 <;> simp [h]
theorem nums2 (t u : Ty) : numsE [t, u] = if t.k ≠ 1 ∨ u.k ≠ 1 then 33 else 0 := by
 unfold numsE
 by_cases h : t.k = 1 <;> by_cases h' : u.k = 1 <;> simp [h, h']
theorem ask_asks {nm : Nat} {i : In} {s h : St} (hr : i.right = true) (hs : Made8 nm s) (hh : i.op = 20 -> Made8 nm h) : askK nm i s h = asksJ nm i s h := by
 have h0 : 0 <= i.op /\ i.op <= 22 := right_op hr
 have hb := (right_fields hr).2
 have hsrc : (i.op <= 12 ∨ (16 <= i.op /\ i.op <= 19)) -> srcA i s = srcT i s := fun ho => by unfold srcA; rw [if_pos (right_src hr ho).1]
 have hm := made_src (i := i) hs hb
 unfold askK asksJ
 by_cases c13 : i.op = 13 ∨ i.op = 15
 ·rw [if_pos c13, if_neg (by omega), if_pos c13]
 rw [if_neg c13]
 by_cases c0 : i.op = 0
 ·rw [if_pos c0, if_pos c0, hsrc (by omega)]
  unfold unlE
  by_cases hk : (srcT i s).k = 0 <;> simp [hk]
 rw [if_neg c0, if_neg c0, if_neg c13]
 by_cases c11 : i.op = 11
 ·rw [if_pos c11, if_neg (by omega), if_neg (by omega), if_pos c11, hsrc (by omega), word_made hm]
 rw [if_neg c11]
 by_cases c12 : i.op = 12
 ·rw [if_pos c12, nums1, word_made hm, if_neg (show ¬ i.op = 14 by omega), if_neg (show ¬ i.op = 21 by omega), if_neg c11, if_neg (show ¬ i.op = 20 by omega), if_neg (show ¬ i.op = 22 by omega), hsrc (by omega)]
  by_cases h1 : (regT s i.a).k = 1 <;> by_cases h2 : (srcT i s).k = 1 <;> simp [h1, h2, c12]
 rw [if_neg c12]
 by_cases c14 : i.op = 14
 ·rw [if_pos c14, if_pos c14]
  unfold unlE
  by_cases h1 : i.imm < (nm : Int)
  ·rw [if_pos (by simpa using h1), if_neg (by omega)]
  ·rw [if_neg (by simpa using h1), if_pos (by omega)]
 rw [if_neg c14, if_neg c14]
 by_cases c20 : i.op = 20
 ·rw [if_pos c20, nums1, fitsAll_eq hs (hh c20), if_neg (show ¬ i.op = 21 by omega), if_neg c11, if_pos c20]
  unfold unlE
  by_cases h1 : (regT s i.a).k = 1 <;> simp [h1]
 rw [if_neg c20]
 by_cases c21 : i.op = 21
 ·rw [if_pos c21, if_pos c21]
 rw [if_neg c21, if_neg c21, if_neg c11, if_neg c20]
 by_cases c22 : i.op = 22
 ·rw [if_pos c22, if_pos c22, nums1]
 rw [if_neg c22, if_neg c22, hsrc (by omega), nums2]
 by_cases h1 : (regT s i.a).k ≠ 1 ∨ (srcT i s).k ≠ 1
 ·rw [if_pos h1, if_pos h1]
 ·rw [if_neg h1, if_neg h1, if_neg (by omega)]
theorem mem_nth {xs : List In} {i : In} (h : i ∈ xs) : ∃ k, k < xs.length /\ nth xs k = i := by
 obtain ⟨k, hk, rfl⟩ := List.mem_iff_getElem.1 h
 exact ⟨k, hk, by simp [nth, List.getD, List.getElem?_eq_getElem hk]⟩
theorem Taken.right {xs : List In} (h : Taken xs) {k : Nat} (hk : k < xs.length) : (nth xs k).right = true := (place_ok hk (h.place k hk)).1
theorem Taken.rights {xs : List In} (h : Taken xs) : ∀ i ∈ xs, i.right = true := fun i hi => by
 obtain ⟨k, hk, rfl⟩ := mem_nth hi
 exact h.right hk
theorem Taken.loops {xs : List In} (h : Taken xs) : LpIn xs (loopsL xs) := fun l hl => by
 obtain ⟨k, _, _, _, h0, h1, h2, _⟩ := loop_ok h.place hl
 omega
theorem lblur_any {w0 w : World} {qb kb nm cb co ccap p : Nat} {vl : Value} {xs : List In} {ls : List Lp} {K : Kn} (h : Inq w0 w qb kb nm vl cb co ccap xs ls K) (hT : Taken xs) (hls : ls = loopsL xs) (hp : p < xs.length) (hM : MadeK nm K) :
  Calls Tryz.prog 31 #[.pointer (some ⟨qb, 0, none⟩), .int .i64 p] w fun e w' => e = .returned (.tuple #[]) /\ Inq w0 w' qb kb nm vl cb co ccap xs ls (K.set p ((K.getD p kn0).1, blurAll xs p ls (K.getD p kn0).2)) := by
 obtain ⟨la, lcap, hv, _⟩ := id h.lo
 subst hv
 exact lblur_core w0 w qb kb nm cb co ccap p la lcap xs ls K h hp hT.top hT.rights (hls ▸ hT.loops) _ _ rfl (hM.at p)
theorem lask_any {w0 w : World} {qb kb nm cb co ccap p : Nat} {vl : Value} {xs : List In} {ls : List Lp} {K : Kn} (h : Inq w0 w qb kb nm vl cb co ccap xs ls K) (hT : Taken xs) (hp : p < xs.length) (hM : MadeK nm K) {E : Int} (hE : Hid (E = asksJ nm (nth xs p) (K.getD p kn0).2 (K.getD ((p : Int) + (nth xs p).far).toNat kn0).2)) :
  Calls Tryz.prog 32 #[.pointer (some ⟨qb, 0, none⟩), .int .i64 p] w fun e w' => e = .returned (.int .i64 E) /\ Below w.heap.size w w' := by
 have hr := hT.right hp
 have hpl := place_ok hp (hT.place p hp)
 obtain ⟨ha, hb⟩ := right_fields hr
 rw [hE.out, <- ask_asks hr (hM.at p) (fun _ => hM.at _)]
 obtain ⟨op, d, a, b, imm, HI⟩ : ∃ op d a b imm, Hid (nth xs p = ⟨op, d, a, b, imm⟩) := ⟨_, _, _, _, _, rfl⟩
 rw [HI.out] at ha hb hpl ⊢
 simp only at ha hb
 obtain ⟨n, rfl⟩ := Int.eq_ofNat_of_zero_le ha.1
 exact lask_core w0 w qb kb nm cb co ccap p vl xs ls K h hp hT.top hM n (by omega) op d b imm HI _ _ rfl hb _ _ _ _ _ _ _ _ rfl rfl (fun _ => ⟨hpl.2.1, hpl.2.2.1⟩)
theorem made_ref {nm : Nat} {i : In} {s head : St} {r b : Bool} (hr : i.right = true) (hs : Made8 nm s) (ha : asksJ nm i s head = 0) (ho : 16 <= i.op /\ i.op <= 19) : Made8 nm (refS i r s b).2 := by
 rw [ref_leaves s ho r b]
 cases hl : leavesJ i s b with
 | none => exact made_zero nm
 | some s' => exact made_leaves hr hs ha hl
theorem lleave_any {w0 w : World} {qb kb nm cb co ccap p : Nat} {vl : Value} {xs : List In} {ls : List Lp} {K : Kn} (h : Inq w0 w qb kb nm vl cb co ccap xs ls K) (hT : Taken xs) (hp : p < xs.length) (hM : MadeK nm K) {head : St} (ha : asksJ nm (nth xs p) (K.getD p kn0).2 head = 0) :
  Calls Tryz.prog 33 #[.pointer (some ⟨qb, 0, none⟩), .int .i64 p] w fun e w' => e = .returned (.tuple #[]) /\ Inq w0 w' qb kb nm vl cb co ccap xs ls (leaveK (nth xs p) p K) := by
 have hr := hT.right hp
 have hpl := place_ok hp (hT.place p hp)
 have hg := goes_parts (nth xs p)
 obtain ⟨hfa, hfb⟩ := right_fields hr
 have hs := hM.at p
 have h64 := hT.top
 have hwm : ¬ (16 <= (nth xs p).op /\ (nth xs p).op <= 19) -> Made8 nm (wrS (nth xs p) (K.getD p kn0).2) := fun ho => made_leaves hr hs ha (wr_leaves hr _ ho false)
 have hrm : ∀ b, (16 <= (nth xs p).op /\ (nth xs p).op <= 19) -> Made8 nm (refS (nth xs p) (K.getD p kn0).1 (K.getD p kn0).2 b).2 := fun b ho => made_ref hr hs ha ho
 obtain ⟨r, s, HK⟩ : ∃ r s, Hid (K.getD p kn0 = (r, s)) := ⟨_, _, rfl⟩
 obtain ⟨op, d, a, b, imm, HI⟩ : ∃ op d a b imm, Hid (nth xs p = ⟨op, d, a, b, imm⟩) := ⟨_, _, _, _, _, rfl⟩
 unfold leaveK
 rw [HK.out] at hwm hrm ⊢
 rw [HI.out] at hwm hrm hg hpl hr hfa hfb ⊢
 simp only at hwm hrm hfa hfb ⊢
 have hrop : ¬ In.right ⟨op, d, a, b, imm⟩ = false := by rw [hr]; simp
 simp only [hr] at hg
 by_cases c22 : op = 22
 ·subst c22
  rw [if_pos rfl]
  exact lleave_one w0 w qb kb nm cb co ccap p vl xs ls K h hp h64 hM _ d a b imm HI r s HK _ _ _ rfl rfl rfl _ (.inl ⟨rfl, rfl⟩)
 rw [if_neg c22]
 by_cases c15 : op = 15
 ·subst c15
  rw [if_pos rfl]
  have hf : 0 <= In.far ⟨15, d, a, b, imm⟩ /\ In.far ⟨15, d, a, b, imm⟩ <= 64 := by rcases hg with hg | hg | hg | hg <;> simp at hg <;> omega
  exact lleave_one w0 w qb kb nm cb co ccap p vl xs ls K h hp h64 hM _ d a b imm HI r s HK _ _ _ rfl rfl rfl _ (.inr (.inl ⟨rfl, _, (by omega), (show _ = _ by omega), hf, rfl⟩))
 rw [if_neg c15]
 by_cases c16 : 16 <= op /\ op <= 19
 ·rw [if_pos c16]
  have hf : (0 <= In.far ⟨op, d, a, b, imm⟩ /\ In.far ⟨op, d, a, b, imm⟩ <= 64) /\ In.on ⟨op, d, a, b, imm⟩ = true := by
   rcases hg with hg | hg | hg | hg <;> simp at hg
   ·refine ⟨by omega, ?_⟩
    rw [hg.2.2.2.2.1]; simpa using c15
   ·omega
   ·omega
  have hn1 := hpl.2.2.2 hf.2
  have h4 : op = 16 ∨ op = 17 ∨ op = 18 ∨ op = 19 := by omega
  exact lleave_one w0 w qb kb nm cb co ccap p vl xs ls K h hp h64 hM _ d a b imm HI r s HK _ _ _ rfl rfl rfl _ (.inr (.inr (.inr ⟨h4, hn1, hfa, hfb, _, (by omega), (show _ = _ by omega), hf.1, _, _, _, _, rfl, rfl, hrm false c16, hrm true c16, rfl⟩)))
 rw [if_neg c16]
 have hon : In.on ⟨op, d, a, b, imm⟩ = true := by
  rcases hg with hg | hg | hg | hg <;> simp at hg
  ·omega
  ·exact hg.2.2.2.1
  ·rw [hg.2.2.2]; simpa using c22
 exact lleave_one w0 w qb kb nm cb co ccap p vl xs ls K h hp h64 hM op d a b imm HI r s HK _ _ _ rfl rfl rfl _ (.inr (.inr (.inl ⟨⟨c22, c15, c16⟩, hr, hpl.2.2.2 hon, _, rfl, hwm c16, rfl⟩)))
end Go.Proofs.YtkondcjmhlppiaaGreat
