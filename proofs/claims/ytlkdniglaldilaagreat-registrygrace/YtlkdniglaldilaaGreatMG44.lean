/-
  JInq
  JLeave
  JAsk
  JBlur
  JStep
-/
import Derived.Test.YtlkdniglaldilaaGreatMG29
import Derived.Test.YtlkdniglaldilaaGreatMG43
import Derived.Test.YtlkdniglaldilaaGreatMG19
import Derived.Test.YtlkdniglaldilaaGreatMG26
import Derived.Test.YtlkdniglaldilaaGreatMG0
import Derived.Test.YtlkdniglaldilaaGreatMG28
import Derived.Test.YtlkdniglaldilaaGreatMG13
import Derived.Test.YtlkdniglaldilaaGreatMG16
import Derived.Deep.CutRange
namespace Go.Proofs.YtlkdniglaldilaaGreat
open Go.RowKit
set_option linter.unusedVariables false
set_option linter.unusedSimpArgs false
set_option maxRecDepth 100000
structure Inq (w0 w : World) (qb kb nm : Nat) (vl : Value) (cb co ccap : Nat) (xs : List In) (ls : List Lp) (K : Kn) : Prop where
 b0 : Below w0.heap.size w0 w
 q : Hp w qb 137 (qC nm (.slice (some ⟨cb, co, none⟩) xs.length ccap) vl kb xs.length)
 k : Hp w kb 146 (flatK K)
 len : K.length = xs.length
 ne : qb ≠ kb
 hq : w0.heap.size <= qb
 hk : w0.heap.size <= kb
 e8 : Eight K
 code : SeesI w0 (.slice (some ⟨cb, co, none⟩) xs.length ccap) xs
 lo : SeesL w0 vl ls
theorem Inq.grown {w0 w w' : World} {qb kb nm cb co ccap : Nat} {vl : Value} {xs : List In} {ls : List Lp} {K K' : Kn} (h : Inq w0 w qb kb nm vl cb co ccap xs ls K) (hg : w.grownBy w' (some kb)) (hk : Hp w' kb 146 (flatK K')) (hl : K'.length = K.length) (h8 : Eight K') : Inq w0 w' qb kb nm vl cb co ccap xs ls K' :=
 ⟨h.b0.trans (grown_to_below hg h.hk h.b0.size), h.q.grown hg (fun e => h.ne (by injection e)), hk, hl.trans h.len, h.ne, h.hq, h.hk, h8, h.code, h.lo⟩
theorem Inq.below {w0 w w' : World} {qb kb nm cb co ccap : Nat} {vl : Value} {xs : List In} {ls : List Lp} {K : Kn} (h : Inq w0 w qb kb nm vl cb co ccap xs ls K) (hb : Below w.heap.size w w') : Inq w0 w' qb kb nm vl cb co ccap xs ls K :=
 h.grown (grown_of_below hb _) (h.k.below hb h.k.lt) rfl h.e8
theorem Inq.at {w0 w : World} {qb kb nm cb co ccap : Nat} {vl : Value} {xs : List In} {ls : List Lp} {K : Kn} (h : Inq w0 w qb kb nm vl cb co ccap xs ls K) {p : Nat} (hp : p < xs.length) : At w cb (co + p * 5) (nth xs p) /\ cb < w0.heap.size /\ xs.length <= ccap /\ ccap <= 9223372036854775807 := by
 obtain ⟨a, cap, hv, h1, h2, h3, h4⟩ := h.code
 injection hv with e1 e2 e3
 subst e1 e3
 obtain ⟨b, off, he, hlt, hat⟩ := h4 (fun e => by rw [e] at hp; simp at hp)
 injection he with he
 injection he with e4 e5
 subst e4 e5
 refine ⟨(hat p hp).below h.b0 hlt, hlt, h1, by unfold maxLen at h2; omega⟩
theorem arrK_len (K : Kn) (p : Nat) (r : Bool) (s : St) : (arrK K p r s).length = K.length := by
 unfold arrK
 split
 ·rfl
 ·split <;> simp
theorem arrK_eight {K : Kn} (h : Eight K) (p : Nat) (r : Bool) {s : St} (hs : s.length = 8) : Eight (arrK K p r s) := by
 unfold arrK
 split
 ·exact h
 ·split
  ·exact h.set p hs
  ·exact h.set p (joinU_len _ _ _)
def inC (i : In) : List Value := [.int .i64 i.op, .int .i64 i.d, .int .i64 i.a, .int .i64 i.b, .int .i64 i.imm]
theorem Hp.inst {w : World} {b : Nat} {t : TypeId} {op d a b' imm : Int} (h : Hp w b t (inC ⟨op, d, a, b', imm⟩)) : Box w b op d a b' imm := ⟨h.cell rfl, h.cell rfl, h.cell rfl, h.cell rfl, h.cell rfl⟩
def Taken2 (w wc : World) (i : In) (r : Bool) (s : St) (v4 v5 : Value) : Prop := ∃ ib sb, v4 = .pointer (some ⟨ib, 0, none⟩) /\ v5 = .pointer (some ⟨sb, 0, none⟩) /\ Hp wc ib 74 (inC i) /\ Hp wc sb 146 (stC r s) /\ Below w.heap.size w wc /\ w.heap.size <= ib /\ w.heap.size <= sb /\ ib ≠ sb
def MadeK (nm : Nat) (K : Kn) : Prop := ∀ p ∈ K, Made8 nm p.2
theorem MadeK.at {nm : Nat} {K : Kn} (h : MadeK nm K) (k : Nat) : Made8 nm (K.getD k kn0).2 := by
 by_cases hk : k < K.length
 ·rw [show K.getD k kn0 = K[k] by simp [List.getD, List.getElem?_eq_getElem hk]]; exact h _ (List.getElem_mem hk)
 ·rw [show K.getD k kn0 = kn0 by simp [List.getD, List.getElem?_eq_none (show K.length <= k by omega)]]; exact made_zero nm
theorem MadeK.set {nm : Nat} {K : Kn} (h : MadeK nm K) (k : Nat) {p : Bool × St} (hp : Made8 nm p.2) : MadeK nm (K.set k p) := fun q hq => by
 rcases List.mem_or_eq_of_mem_set hq with h1 | h1
 ·exact h q h1
 ·rw [h1]; exact hp
theorem MadeK.eight {nm : Nat} {K : Kn} (h : MadeK nm K) : Eight K := fun p hp => (h p hp).1
theorem made_joinU {nm : Nat} {h s : St} (hh : Made8 nm h) (hs : Made8 nm s) (n : Nat) : Made8 nm (joinU h s n) := by
 refine ⟨joinU_len _ _ _, fun t ht => ?_⟩
 unfold joinU at ht
 obtain ⟨k, hk, rfl⟩ := List.mem_map.1 ht
 have hk8 := List.mem_range.1 hk
 split
 ·exact made_join2 (hh.get hk8) (hs.get hk8)
 ·exact hh.get hk8
theorem made_arr {nm : Nat} {K : Kn} (h : MadeK nm K) (p : Nat) (r : Bool) {s : St} (hs : Made8 nm s) : MadeK nm (arrK K p r s) := by
 unfold arrK
 split
 ·exact h
 ·split
  ·exact h.set p hs
  ·exact h.set p (made_joinU (h.at p) hs 8)
theorem larrive_inq {w0 w : World} {qb kb nm cb co ccap : Nat} {vl : Value} {xs : List In} {ls : List Lp} {K : Kn} (h : Inq w0 w qb kb nm vl cb co ccap xs ls K) {pI : Int} {p : Nat} (he : Hid (pI = p)) (hp : p < xs.length) (r : Bool) {s : St} (hs : Made8 nm s) (hM : MadeK nm K) :
  Calls Tryz.prog 81 #[.pointer (some ⟨qb, 0, none⟩), .int .i64 pI, stV r s] w fun e w' => e = .returned (.tuple #[]) /\ w.grownBy w' (some kb) /\ Inq w0 w' qb kb nm vl cb co ccap xs ls (arrK K p r s) /\ MadeK nm (arrK K p r s) := by
 rw [he.out]
 refine (larrive_any qb kb p nm _ vl K r s w (by rw [h.len]; exact h.q) h.k h.ne h.e8 (by rw [h.len]; exact hp) hs (hM.at p)).mono ?_
 rintro e w' ⟨rfl, hg, hk⟩
 exact ⟨rfl, hg, h.grown hg hk (arrK_len _ _ _ _) (arrK_eight h.e8 p r hs.1), made_arr hM p r hs⟩
def leaveK (i : In) (p : Nat) (K : Kn) : Kn :=
 if i.op = 22 then K
 else if i.op = 15 then arrK K ((p : Int) + i.far).toNat (K.getD p kn0).1 (K.getD p kn0).2
 else if 16 <= i.op /\ i.op <= 19 then arrK (arrK K (p + 1) (refS i (K.getD p kn0).1 (K.getD p kn0).2 false).1 (refS i (K.getD p kn0).1 (K.getD p kn0).2 false).2) ((p : Int) + i.far).toNat (refS i (K.getD p kn0).1 (K.getD p kn0).2 true).1 (refS i (K.getD p kn0).1 (K.getD p kn0).2 true).2
 else arrK K (p + 1) (K.getD p kn0).1 (wrS i (K.getD p kn0).2)
theorem lwritten_as {nm : Nat} {i : In} {s s' : St} (r : Bool) (w : World) (h : Hid (wrS i s = s')) (h8 : Made8 nm s) (hr : i.right = true) : Calls Tryz.prog 111 #[stV r s, i.v] w fun e w' => e = .returned (stV r s') /\ Below w.heap.size w w' := by
 rw [<- h.out]; exact lwritten_any nm i r s w h8 hr
theorem lrefined_as {nm : Nat} {i : In} {r r' : Bool} {s s' : St} {holds : Bool} (w : World) (h : Hid (refS i r s holds = (r', s'))) (h8 : Made8 nm s) (ha : 0 <= i.a /\ i.a <= 7) (hb : i.b = 8 ∨ (0 <= i.b /\ i.b <= 7)) : Calls Tryz.prog 110 #[stV r s, i.v, .bool holds] w fun e w' => e = .returned (stV r' s') /\ Below w.heap.size w w' := by
 have := lrefined_any nm i r s holds w h8 ha hb
 rw [h.out] at this
 exact this
set_option maxHeartbeats 12800000 in
theorem lleave_one (w0 w : World) (qb kb nm cb co ccap p : Nat) (vl : Value) (xs : List In) (ls : List Lp) (K : Kn) (h : Inq w0 w qb kb nm vl cb co ccap xs ls K) (hp : p < xs.length) (h64 : xs.length <= 64) (hM : MadeK nm K) (op d a b imm : Int) (HI : Hid (nth xs p = ⟨op, d, a, b, imm⟩)) (r : Bool) (s : St) (HK : Hid (K.getD p kn0 = (r, s))) (f : Int) (l o : Bool) (HF : Hid (f = In.far ⟨op, d, a, b, imm⟩)) (HL : Hid (l = In.leads ⟨op, d, a, b, imm⟩)) (HO : Hid (o = In.on ⟨op, d, a, b, imm⟩)) (KR : Kn) (hc : (op = 22 /\ KR = K) ∨ (op = 15 /\ ∃ n2 : Nat, n2 < xs.length /\ Hid ((p : Int) + f = n2) /\ (0 <= f /\ f <= 64) /\ KR = arrK K n2 r s) ∨ ((op ≠ 22 /\ op ≠ 15 /\ ¬ (16 <= op /\ op <= 19)) /\ Hid (In.right ⟨op, d, a, b, imm⟩ = true) /\ p + 1 < xs.length /\ ∃ s', Hid (wrS ⟨op, d, a, b, imm⟩ s = s') /\ Hid (Made8 nm s') /\ KR = arrK K (p + 1) r s') ∨ ((op = 16 ∨ op = 17 ∨ op = 18 ∨ op = 19) /\ p + 1 < xs.length /\ Hid (0 <= a /\ a <= 7) /\ Hid (b = 8 ∨ (0 <= b /\ b <= 7)) /\ ∃ n2 : Nat, n2 < xs.length /\ Hid ((p : Int) + f = n2) /\ (0 <= f /\ f <= 64) /\ ∃ r1 r2 s1 s2, Hid (refS ⟨op, d, a, b, imm⟩ r s false = (r1, s1)) /\ Hid (refS ⟨op, d, a, b, imm⟩ r s true = (r2, s2)) /\ Hid (Made8 nm s1) /\ Hid (Made8 nm s2) /\ KR = arrK (arrK K (p + 1) r1 s1) n2 r2 s2)) : Calls Tryz.prog 84 #[.pointer (some ⟨qb, 0, none⟩), .int .i64 p] w fun e w' => e = .returned (.tuple #[]) /\ Inq w0 w' qb kb nm vl cb co ccap xs ls KR := by
 obtain ⟨hat, hcb, hN, hcc⟩ := h.at hp
 rw [HI.out] at hat
 obtain ⟨c0, c1, c2, c3, c4⟩ := hat
 simp only at c0 c1 c2 c3 c4
 have hpI : (p : Int) < xs.length := by omega
 have h8 : s.length = 8 := by have := h.e8.at p; rw [HK.out] at this; exact this
 have hst : StAt w kb (p * 33) r s := h.k.state h.e8 (by rw [h.len]; exact hp) HK.out
 have hqz := h.q.lt
 have hkz := h.k.lt
 have hbz := h.b0.size
 have HP : Hid (∀ w', Below w.heap.size w w' -> w'.cell? ⟨qb, 1, none⟩ = some (.slice (some ⟨cb, co, none⟩) xs.length ccap) /\ w'.cell? ⟨qb, 3, none⟩ = some (.slice (some ⟨kb, 0, none⟩) xs.length xs.length) /\ w'.cell? ⟨cb, co + p * 5, none⟩ = some (.int .i64 op) /\ w'.cell? ⟨cb, co + p * 5 + 1, none⟩ = some (.int .i64 d) /\ w'.cell? ⟨cb, co + p * 5 + 2, none⟩ = some (.int .i64 a) /\ w'.cell? ⟨cb, co + p * 5 + 3, none⟩ = some (.int .i64 b) /\ w'.cell? ⟨cb, co + p * 5 + 4, none⟩ = some (.int .i64 imm) /\ StAt w' kb (p * 33) r s) := fun w' hb' => by
  have hA := At.below (i := ⟨op, d, a, b, imm⟩) ⟨c0, c1, c2, c3, c4⟩ hb' (by omega)
  exact ⟨(h.q.below hb' hqz).cell rfl, (h.q.below hb' hqz).cell rfl, hA.1, hA.2.1, hA.2.2.1, hA.2.2.2.1, hA.2.2.2.2, hst.below hb' hkz⟩
 clear c0 c1 c2 c3 c4 hst
 have hs8 : Made8 nm s := by have := hM.at p; rw [HK.out] at this; exact this
 have HM := keepJ hM
 have HS8 := keepJ hs8
 have HSZ := keepJ (sizeJ (r := r) h8)
 have hp64 : (p : Int) < 64 := by omega
 have HN1 : Hid ((p : Int) + 1 = ((p + 1 : Nat) : Int)) := by show _ = _; omega
 clear hs8 hM
 go_enter Tryz.func84, Tryz.ntmps84
 go_wp2_with (fail)
 go_cut [4, 5] from 9 (fun v4 v5 wc => Taken2 w wc ⟨op, d, a, b, imm⟩ r s v4 v5)
 case rest =>
  obtain ⟨ib, sb, rfl, rfl, hiC, hsC, hbC, hi1, hs1, his⟩ := hcut
  have HQ := keepJ (h.below hbC)
  have HiC := keepJ hiC
  have HsC := keepJ hsC
  obtain ⟨y0, y1, y2, y3, y4⟩ := id hiC.inst
  have hzi := hiC.lt
  have hzs := hsC.lt
  have hkb : kb < wc.heap.size := HQ.out.k.lt
  have hikb : ib ≠ kb := by omega
  have hskb : sb ≠ kb := by omega
  clear hiC hsC HP h
  rcases hc with ⟨rfl, rfl⟩ | ⟨rfl, n2, hn2, HN2, hf, rfl⟩ | ⟨hop, HR, hn1, s', HW, HS3, rfl⟩ | ⟨hop, hn1, HA, HB, n2, hn2, HN2, hf, r1, r2, s1, s2, HW1, HW2, HS3, HS4, rfl⟩
  ·go_wp2_with (first
    | (go_at_call 106; go_must (refine (goes_one (i := ⟨_, d, a, b, imm⟩) (show Hid _ from rfl) HF HL HO _).mono ?_); rintro e w1 ⟨rfl, hb1⟩; go_must (have HQ1 := keepJ (HQ.out.below hb1); have HL1 := keepJ (HsC.out.below hb1 hzs).oneR; obtain ⟨x0, x1, x2, x3, x4⟩ := Box.below HiC.out.inst hb1 hzi; have hz1 := hb1.size; clear y0 y1 y2 y3 y4))
    | fail)
   exact bodyPost_end (results_none rfl _ _ _) rfl ⟨rfl, HQ1.out⟩
  ·go_wp2_with (first
    | (go_at_call 106; go_must (refine (goes_one (i := ⟨_, d, a, b, imm⟩) (show Hid _ from rfl) HF HL HO _).mono ?_); rintro e w1 ⟨rfl, hb1⟩; go_must (have HQ1 := keepJ (HQ.out.below hb1); have HL1 := keepJ (HsC.out.below hb1 hzs).oneR; obtain ⟨x0, x1, x2, x3, x4⟩ := Box.below HiC.out.inst hb1 hzi; have hz1 := hb1.size; clear y0 y1 y2 y3 y4))
    | ((with_reducible refine wpList_load_mid ?_ 146 (.tmp 5) ?_ sb 0 ?_ (stC r s) _ HL1.out Tryz.underlying146 ?_ HSZ.out ?_); rfl; rfl; rfl; rfl)
    | (go_at_call 81; go_must (refine (larrive_inq HQ1.out HN2 hn2 r HS8.out HM.out).mono ?_); rintro e w2 ⟨rfl, hg2, hq2, hm2⟩; go_must (have HQ2 := keepJ hq2; clear hg2 hq2 hm2))
    | fail)
   exact bodyPost_end (results_none rfl _ _ _) rfl ⟨rfl, HQ2.out⟩
  ·have o1 : ¬ op = 22 := hop.1
   have o2 : ¬ op = 15 := hop.2.1
   have o3 : ¬ op = 16 := by omega
   have o4 : ¬ op = 17 := by omega
   have o5 : ¬ op = 18 := by omega
   have o6 : ¬ op = 19 := by omega
   clear hop
   go_wp2_with (first
    | (go_at_call 106; go_must (refine (goes_one (i := ⟨_, d, a, b, imm⟩) (show Hid _ from rfl) HF HL HO _).mono ?_); rintro e w1 ⟨rfl, hb1⟩; go_must (have HQ1 := keepJ (HQ.out.below hb1); have HL1 := keepJ (HsC.out.below hb1 hzs).oneR; obtain ⟨x0, x1, x2, x3, x4⟩ := Box.below HiC.out.inst hb1 hzi; have hz1 := hb1.size; clear y0 y1 y2 y3 y4))
    | ((with_reducible refine wpList_load_mid ?_ 146 (.tmp 5) ?_ sb 0 ?_ (stC r s) _ HL1.out Tryz.underlying146 ?_ HSZ.out ?_); rfl; rfl; rfl; rfl)
    | (go_at_call 111; go_must (refine (lwritten_as (i := ⟨_, d, a, b, imm⟩) r w1 HW HS8.out HR.out).mono ?_); rintro e w2 ⟨rfl, hb2⟩; go_must (have HQ2 := keepJ (HQ1.out.below hb2); clear hb2))
    | (go_at_call 81; go_must (refine (larrive_inq HQ2.out HN1 hn1 r HS3.out HM.out).mono ?_); rintro e w3 ⟨rfl, hg3, hq3, hm3⟩; go_must (have HQ3 := keepJ hq3; clear hg3 hq3 hm3))
    | fail)
   exact bodyPost_end (results_none rfl _ _ _) rfl ⟨rfl, HQ3.out⟩
  ·rcases hop with rfl | rfl | rfl | rfl
   all_goals go_wp2_with (first
    | (go_at_call 106; go_must (refine (goes_one (i := ⟨_, d, a, b, imm⟩) (show Hid _ from rfl) HF HL HO _).mono ?_); rintro e w1 ⟨rfl, hb1⟩; go_must (have HQ1 := keepJ (HQ.out.below hb1); have HL1 := keepJ (HsC.out.below hb1 hzs).oneR; obtain ⟨x0, x1, x2, x3, x4⟩ := Box.below HiC.out.inst hb1 hzi; have hz1 := hb1.size; clear y0 y1 y2 y3 y4))
    | ((with_reducible refine wpList_load_mid ?_ 146 (.tmp 5) ?_ sb 0 ?_ (stC r s) _ HL1.out Tryz.underlying146 ?_ HSZ.out ?_); rfl; rfl; rfl; rfl)
    | (go_at_call 110; have hq1 := HL1; go_must (refine (lrefined_as (i := ⟨_, d, a, b, imm⟩) w1 HW1 HS8.out HA.out HB.out).mono ?_); rintro e w2 ⟨rfl, hb2⟩; go_must (have HQ2 := keepJ (HQ1.out.below hb2); have Hi2 := keepJ ((HiC.out.below hb1 hzi).below hb2 (by omega)); have Hs2 := keepJ ((HsC.out.below hb1 hzs).below hb2 (by omega)); clear hq1 HL1 hb2))
    | (go_at_call 81; have hq0 := HQ2; clear hq0; go_must (refine (larrive_inq HQ2.out HN1 hn1 r1 HS3.out HM.out).mono ?_); rintro e w3 ⟨rfl, hg3, hq3, hm3⟩; go_must (have HQ3 := keepJ hq3; have HM3 := keepJ hm3; have Hi3 := keepJ (Hi2.out.grown hg3 (fun e => hikb (by injection e))); have Hs3 := keepJ (Hs2.out.grown hg3 (fun e => hskb (by injection e))); have HL3 := keepJ Hs3.out.oneR; have hzi3 := Hi3.out.lt; have hzs3 := Hs3.out.lt; obtain ⟨z0, z1, z2, z3, z4⟩ := Hi3.out.inst; clear hg3 hq3 hm3 HQ2 x0 x1 x2 x3 x4))
    | ((with_reducible refine wpList_load_mid ?_ 146 (.tmp 5) ?_ sb 0 ?_ (stC r s) _ HL3.out Tryz.underlying146 ?_ HSZ.out ?_); rfl; rfl; rfl; rfl)
    | (go_at_call 110; go_must (refine (lrefined_as (i := ⟨_, d, a, b, imm⟩) w3 HW2 HS8.out HA.out HB.out).mono ?_); rintro e w4 ⟨rfl, hb4⟩; go_must (have HQ4 := keepJ (HQ3.out.below hb4); clear HL3 hb4))
    | (go_at_call 81; go_must (refine (larrive_inq HQ4.out HN2 hn2 r2 HS4.out HM3.out).mono ?_); rintro e w5 ⟨rfl, hg5, hq5, hm5⟩; go_must (have HQ5 := keepJ hq5; clear hg5 hq5 hm5))
    | fail)
   all_goals exact bodyPost_end (results_none rfl _ _ _) rfl ⟨rfl, HQ5.out⟩
 case first =>
  refine wp_region_held_drew (S := fun w' => w'.cell? ⟨qb, 1, none⟩ = some (.slice (some ⟨cb, co, none⟩) xs.length ccap) /\ w'.cell? ⟨qb, 3, none⟩ = some (.slice (some ⟨kb, 0, none⟩) xs.length xs.length) /\ w'.cell? ⟨cb, co + p * 5, none⟩ = some (.int .i64 op) /\ w'.cell? ⟨cb, co + p * 5 + 1, none⟩ = some (.int .i64 d) /\ w'.cell? ⟨cb, co + p * 5 + 2, none⟩ = some (.int .i64 a) /\ w'.cell? ⟨cb, co + p * 5 + 3, none⟩ = some (.int .i64 b) /\ w'.cell? ⟨cb, co + p * 5 + 4, none⟩ = some (.int .i64 imm) /\ StAt w' kb (p * 33) r s) (by kernel_rfl) (HP.out _ (Below.refl _ _).drew) (fun hHeld => ?_)
  refine tkGo [0, 1, 2, 3, 4, 5, 6, 7, 8, 9, 10, 11, 12] ?_
  repeat (refine tkO (v := ?_) rfl ?_ ?_; rotate_left; (intro wy hSw; (try dsimp only at hSw); go_simp; (first | done | with_reducible rfl)); try simp only [Act.put, p1q, p2q, p3q, p4q, p5q, p6q])
  refine tkEnd ?_
  refine wpAnyH_take (i := 13) rfl (by kernel_rfl) (by kernel_rfl) (by kernel_rfl) (fun _ _ _ h => h) (yieldsIf_load_mid (by rfl) _ _ rfl _ _ rfl (stC r s) _ (fun w h => h.2.2.2.2.2.2.2) Tryz.underlying146 rfl (sizeJ h8)) (by assumption) ?_
  try simp only [Act.put, p1q, p2q, p3q, p4q, p5q, p6q]
  refine runT 14 15 (by kernel_rfl) rfl rfl (by rfl) (by rfl) (fun KK hK => ?_) (fun KK hK => ?_)
  ·go_simp
   refine hK.out _ _ (HP.out _ ((Below.refl _ _).alloc (Nat.le_refl _) _).drew) (fun hHeld => ?_)
   clear hK KK
   try simp only [Act.put, p1q, p2q, p3q, p4q, p5q, p6q]
   refine runO 15 (by kernel_rfl) rfl (by rfl) (fun KK hK => ?_)
   go_simp
   obtain ⟨Y, HY, HiY, HsY, hbY, hzY⟩ : ∃ Y, Hid (Y = (w.alloc (Obj.cells #[.int .i64 0, .int .i64 0, .int .i64 0, .int .i64 0, .int .i64 0] 74)).alloc (Obj.cells #[.bool false, .int .i64 0, .int .u64 0, .int .u64 0, .int .i64 0, .int .i64 0, .int .u64 0, .int .u64 0, .int .i64 0, .int .i64 0, .int .u64 0, .int .u64 0, .int .i64 0, .int .i64 0, .int .u64 0, .int .u64 0, .int .i64 0, .int .i64 0, .int .u64 0, .int .u64 0, .int .i64 0, .int .i64 0, .int .u64 0, .int .u64 0, .int .i64 0, .int .i64 0, .int .u64 0, .int .u64 0, .int .i64 0, .int .i64 0, .int .u64 0, .int .u64 0, .int .i64 0] 146)) /\ Hid (Hp Y w.heap.size 74 (inC ⟨0, 0, 0, 0, 0⟩)) /\ Hid (Hp Y (w.heap.size + 1) 146 zeroC) /\ Below w.heap.size w Y /\ w.heap.size + 2 <= Y.heap.size := ⟨_, rfl, (Hp.new w (inC ⟨0, 0, 0, 0, 0⟩) _).alloc _, keepJ (by have := Hp.new (w.alloc (Obj.cells #[.int .i64 0, .int .i64 0, .int .i64 0, .int .i64 0, .int .i64 0] 74)) zeroC 146; simpa [zeroC] using this), by go_grown, by simp⟩
   rw [<- HY.out]
   clear HY
   refine hK.out _ _ (HP.out _ hbY.drew) (fun hHeld => ?_)
   clear hK KK
   try simp only [Act.put, p1q, p2q, p3q, p4q, p5q, p6q]
   have n0 : Y.cell? ⟨w.heap.size, 0, none⟩ = some (.int .i64 0) := HiY.out.cell rfl
   have f0 := HiY.out.frozen 0
   have n1 : Y.cell? ⟨w.heap.size, 1, none⟩ = some (.int .i64 0) := HiY.out.cell rfl
   have f1 := HiY.out.frozen 1
   have n2 : Y.cell? ⟨w.heap.size, 2, none⟩ = some (.int .i64 0) := HiY.out.cell rfl
   have f2 := HiY.out.frozen 2
   have n3 : Y.cell? ⟨w.heap.size, 3, none⟩ = some (.int .i64 0) := HiY.out.cell rfl
   have f3 := HiY.out.frozen 3
   have n4 : Y.cell? ⟨w.heap.size, 4, none⟩ = some (.int .i64 0) := HiY.out.cell rfl
   have f4 := HiY.out.frozen 4
   refine runO 16 (by kernel_rfl) rfl (by rfl) (fun KK hK => ?_)
   go_simp
   clear n0 n1 n2 n3 n4 f0 f1 f2 f3 f4
   obtain ⟨V, HV, HiV, HsV, hbV, hzV⟩ : ∃ V, Hid (V = (((((Y.setCell ⟨w.heap.size, 0, none⟩ (.int .i64 op)).setCell ⟨w.heap.size, 1, none⟩ (.int .i64 d)).setCell ⟨w.heap.size, 2, none⟩ (.int .i64 a)).setCell ⟨w.heap.size, 3, none⟩ (.int .i64 b)).setCell ⟨w.heap.size, 4, none⟩ (.int .i64 imm))) /\ Hid (Hp V w.heap.size 74 (inC ⟨op, d, a, b, imm⟩)) /\ Hid (Hp V (w.heap.size + 1) 146 zeroC) /\ Below w.heap.size w V /\ w.heap.size + 2 <= V.heap.size := ⟨_, rfl, HiY.out.sets (inC ⟨op, d, a, b, imm⟩) 0, HsY.out.fars (by omega) (inC ⟨op, d, a, b, imm⟩) 0, hbY.trans (grown_to_below (grown_sets _ (inC ⟨op, d, a, b, imm⟩) Y 0) (by omega) hbY.size), Nat.le_trans hzY (grown_sets _ (inC ⟨op, d, a, b, imm⟩) Y 0).size⟩
   rw [<- HV.out]
   clear HV HiY HsY
   refine hK.out _ _ (HP.out _ hbV.drew) (fun hHeld => ?_)
   clear hK KK
   try simp only [Act.put, p1q, p2q, p3q, p4q, p5q, p6q]
   refine runO 17 (by kernel_rfl) rfl (by rfl) (fun KK hK => ?_)
   have HTH : V.drew.there (w.heap.size + 1) 0 (stC r s).toArray.size := by rw [stC_size r h8]; exact HsV.out.drew.there (by rw [zeroC_len]; omega)
   refine wp_store_mid _ _ _ rfl _ _ (List.toArray _) rfl rfl HTH (sizeJA h8) (stC_all r s) ?_
   have hbU : Below w.heap.size w (V.drew.setCells (w.heap.size + 1) 0 (stC r s)) := (hbV.drew).trans (grown_to_below (grown_sets _ _ _ _) (by omega) (show w.heap.size <= V.heap.size by omega))
   refine hK.out _ _ (HP.out _ hbU) (fun hHeld => ?_)
   clear hK KK
   try simp only [Act.put, p1q, p2q, p3q, p4q, p5q, p6q]
   refine wpAnyH_done (by kernel_rfl) ?_ _
   go_wp2
   go_meet
   case rel => exact ⟨w.heap.size, (w.heap.size + 1), rfl, rfl, HiV.out.drew.fars (by omega) _ _, HsV.out.drew.box zeroC_len h8, hbU, by omega, by omega, by omega⟩
  ·go_simp
   refine hK.out _ _ (HP.out _ ((Below.refl _ _).alloc (Nat.le_refl _) _).drew) (fun hHeld => ?_)
   clear hK KK
   try simp only [Act.put, p1q, p2q, p3q, p4q, p5q, p6q]
   refine runO 14 (by kernel_rfl) rfl (by rfl) (fun KK hK => ?_)
   go_simp
   obtain ⟨Y, HY, HiY, HsY, hbY, hzY⟩ : ∃ Y, Hid (Y = (w.alloc (Obj.cells #[.bool false, .int .i64 0, .int .u64 0, .int .u64 0, .int .i64 0, .int .i64 0, .int .u64 0, .int .u64 0, .int .i64 0, .int .i64 0, .int .u64 0, .int .u64 0, .int .i64 0, .int .i64 0, .int .u64 0, .int .u64 0, .int .i64 0, .int .i64 0, .int .u64 0, .int .u64 0, .int .i64 0, .int .i64 0, .int .u64 0, .int .u64 0, .int .i64 0, .int .i64 0, .int .u64 0, .int .u64 0, .int .i64 0, .int .i64 0, .int .u64 0, .int .u64 0, .int .i64 0] 146)).alloc (Obj.cells #[.int .i64 0, .int .i64 0, .int .i64 0, .int .i64 0, .int .i64 0] 74)) /\ Hid (Hp Y (w.heap.size + 1) 74 (inC ⟨0, 0, 0, 0, 0⟩)) /\ Hid (Hp Y w.heap.size 146 zeroC) /\ Below w.heap.size w Y /\ w.heap.size + 2 <= Y.heap.size := ⟨_, rfl, keepJ (by have := Hp.new (w.alloc (Obj.cells #[.bool false, .int .i64 0, .int .u64 0, .int .u64 0, .int .i64 0, .int .i64 0, .int .u64 0, .int .u64 0, .int .i64 0, .int .i64 0, .int .u64 0, .int .u64 0, .int .i64 0, .int .i64 0, .int .u64 0, .int .u64 0, .int .i64 0, .int .i64 0, .int .u64 0, .int .u64 0, .int .i64 0, .int .i64 0, .int .u64 0, .int .u64 0, .int .i64 0, .int .i64 0, .int .u64 0, .int .u64 0, .int .i64 0, .int .i64 0, .int .u64 0, .int .u64 0, .int .i64 0] 146)) (inC ⟨0, 0, 0, 0, 0⟩) 74; simpa [inC] using this), (Hp.new w zeroC _).alloc _, by go_grown, by simp⟩
   rw [<- HY.out]
   clear HY
   refine hK.out _ _ (HP.out _ hbY.drew) (fun hHeld => ?_)
   clear hK KK
   try simp only [Act.put, p1q, p2q, p3q, p4q, p5q, p6q]
   have n0 : Y.cell? ⟨(w.heap.size + 1), 0, none⟩ = some (.int .i64 0) := HiY.out.cell rfl
   have f0 := HiY.out.frozen 0
   have n1 : Y.cell? ⟨(w.heap.size + 1), 1, none⟩ = some (.int .i64 0) := HiY.out.cell rfl
   have f1 := HiY.out.frozen 1
   have n2 : Y.cell? ⟨(w.heap.size + 1), 2, none⟩ = some (.int .i64 0) := HiY.out.cell rfl
   have f2 := HiY.out.frozen 2
   have n3 : Y.cell? ⟨(w.heap.size + 1), 3, none⟩ = some (.int .i64 0) := HiY.out.cell rfl
   have f3 := HiY.out.frozen 3
   have n4 : Y.cell? ⟨(w.heap.size + 1), 4, none⟩ = some (.int .i64 0) := HiY.out.cell rfl
   have f4 := HiY.out.frozen 4
   refine runO 16 (by kernel_rfl) rfl (by rfl) (fun KK hK => ?_)
   go_simp
   clear n0 n1 n2 n3 n4 f0 f1 f2 f3 f4
   obtain ⟨V, HV, HiV, HsV, hbV, hzV⟩ : ∃ V, Hid (V = (((((Y.setCell ⟨(w.heap.size + 1), 0, none⟩ (.int .i64 op)).setCell ⟨(w.heap.size + 1), 1, none⟩ (.int .i64 d)).setCell ⟨(w.heap.size + 1), 2, none⟩ (.int .i64 a)).setCell ⟨(w.heap.size + 1), 3, none⟩ (.int .i64 b)).setCell ⟨(w.heap.size + 1), 4, none⟩ (.int .i64 imm))) /\ Hid (Hp V (w.heap.size + 1) 74 (inC ⟨op, d, a, b, imm⟩)) /\ Hid (Hp V w.heap.size 146 zeroC) /\ Below w.heap.size w V /\ w.heap.size + 2 <= V.heap.size := ⟨_, rfl, HiY.out.sets (inC ⟨op, d, a, b, imm⟩) 0, HsY.out.fars (by omega) (inC ⟨op, d, a, b, imm⟩) 0, hbY.trans (grown_to_below (grown_sets _ (inC ⟨op, d, a, b, imm⟩) Y 0) (by omega) hbY.size), Nat.le_trans hzY (grown_sets _ (inC ⟨op, d, a, b, imm⟩) Y 0).size⟩
   rw [<- HV.out]
   clear HV HiY HsY
   refine hK.out _ _ (HP.out _ hbV.drew) (fun hHeld => ?_)
   clear hK KK
   try simp only [Act.put, p1q, p2q, p3q, p4q, p5q, p6q]
   refine runO 17 (by kernel_rfl) rfl (by rfl) (fun KK hK => ?_)
   have HTH : V.drew.there w.heap.size 0 (stC r s).toArray.size := by rw [stC_size r h8]; exact HsV.out.drew.there (by rw [zeroC_len]; omega)
   refine wp_store_mid _ _ _ rfl _ _ (List.toArray _) rfl rfl HTH (sizeJA h8) (stC_all r s) ?_
   have hbU : Below w.heap.size w (V.drew.setCells w.heap.size 0 (stC r s)) := (hbV.drew).trans (grown_to_below (grown_sets _ _ _ _) (by omega) (show w.heap.size <= V.heap.size by omega))
   refine hK.out _ _ (HP.out _ hbU) (fun hHeld => ?_)
   clear hK KK
   try simp only [Act.put, p1q, p2q, p3q, p4q, p5q, p6q]
   refine wpAnyH_done (by kernel_rfl) ?_ _
   go_wp2
   go_meet
   case rel => exact ⟨(w.heap.size + 1), w.heap.size, rfl, rfl, HiV.out.drew.fars (by omega) _ _, HsV.out.drew.box zeroC_len h8, hbU, by omega, by omega, by omega⟩
def Taken3 (wc wd : World) (s t : Ty) (v7 v8 : Value) : Prop := ∃ g8 g9, v7 = .pointer (some ⟨g8, 0, none⟩) /\ v8 = .pointer (some ⟨g9, 0, none⟩) /\ AtT wd g8 0 s /\ AtT wd g9 0 t /\ Below wc.heap.size wc wd /\ g8 < wd.heap.size /\ g9 < wd.heap.size
theorem two_lt {a b n m : Nat} (h : n <= m) (ha : a < n) (hb : b < n) : a < m /\ b < m := ⟨by omega, by omega⟩
theorem BxT.far {w : World} {n m off o : Nat} {t u : Ty} (h : BxT w n off t) (hne : n ≠ m) : BxT (setT w m o u) n off t := by
 have hg := grown_sets m (tyC u) w o
 have hne' : some n ≠ some m := fun e => hne (by injection e)
 have hlt : n < w.heap.size := World.block_lt_of_cell? w _ h.1.1
 have hb : (setT w m o u).heap[n]? = w.heap[n]? := hg.block n hlt hne'
 obtain ⟨⟨h0, h1, h2, h3⟩, f0, f1, f2, f3⟩ := h
 refine ⟨⟨?_, ?_, ?_, ?_⟩, ?_, ?_, ?_, ?_⟩
 ·exact (World.cell?_of_block (a := ⟨n, off, none⟩) hb).trans h0
 ·exact (World.cell?_of_block (a := ⟨n, off + 1, none⟩) hb).trans h1
 ·exact (World.cell?_of_block (a := ⟨n, off + 2, none⟩) hb).trans h2
 ·exact (World.cell?_of_block (a := ⟨n, off + 3, none⟩) hb).trans h3
 ·exact (World.frozen?_of_block (a := ⟨n, off, none⟩) hb).trans f0
 ·exact (World.frozen?_of_block (a := ⟨n, off + 1, none⟩) hb).trans f1
 ·exact (World.frozen?_of_block (a := ⟨n, off + 2, none⟩) hb).trans f2
 ·exact (World.frozen?_of_block (a := ⟨n, off + 3, none⟩) hb).trans f3
def askK (nm : Nat) (i : In) (s h : St) : Int :=
 if i.op = 13 ∨ i.op = 15 then 0
 else if i.op = 0 then unlE ((srcT i s).k != 0) 33
 else if i.op = 11 then wordE (srcT i s)
 else if i.op = 12 then (if numsE [regT s i.a] ≠ 0 then numsE [regT s i.a] else wordE (srcT i s))
 else if i.op = 14 then unlE (decide (i.imm < nm)) 35
 else if i.op = 20 then (if numsE [regT s i.a] ≠ 0 then numsE [regT s i.a] else unlE (fitsAllS s h) 33)
 else if i.op = 21 then hcheckL i.imm ((s.drop 1).take (argsL i.imm).length)
 else if i.op = 22 then numsE [regT s i.a]
 else numsE [regT s i.a, srcT i s]
theorem lnums_as {v : Value} {l : List Ty} {e : Int} (h : Hid (numsE l = e)) {w : World} (hs : SeesT w v l) : Calls Tryz.prog 105 #[v] w fun x w' => x = .returned (.int .i64 e) /\ Below w.heap.size w w' := by
 rw [<- h.out]; exact lnums_any v l w hs
theorem lword_as {k lo hi m e : Int} (h : Hid (wordE ⟨k, lo, hi, m⟩ = e)) (w : World) : Calls Tryz.prog 104 #[.agg #[.int .i64 k, .int .u64 lo, .int .u64 hi, .int .i64 m]] w fun x w' => x = .returned (.int .i64 e) /\ Below w.heap.size w w' := by
 rw [<- h.out]; exact lword_any ⟨k, lo, hi, m⟩ w
theorem lunless_as {b : Bool} {x e : Int} (h : Hid (unlE b x = e)) (w : World) : Calls Tryz.prog 103 #[.bool b, .int .i64 x] w fun y w' => y = .returned (.int .i64 e) /\ Below w.heap.size w w' := by
 rw [<- h.out]; exact lunless_any b x w
theorem lfits_as {r r' q : Bool} {s h : St} (hq : Hid (fitsAllS s h = q)) (w : World) (h8 : s.length = 8) (hh : h.length = 8) : Calls Tryz.prog 107 #[stV r s, stV r' h] w fun e w' => e = .returned (.bool q) /\ Below w.heap.size w w' := by
 rw [<- hq.out]; exact lfits_any r r' s h w h8 hh
theorem args_len9 (h : Int) : (argsL h).length <= 3 := by
 unfold argsL
 repeat' split
 all_goals simp
theorem run_sliceA (sb n : Nat) (hn : n <= 3) (w : World) : (Instr.sliceAt 144 (.pointer (some ⟨sb, 1, none⟩)) (some (.int .i64 1)) (some (.int .i64 (1 + (n : Int)))) none).run Tryz.prog w = .ok (.slice (some ⟨sb, 5, none⟩) n 7) w := by
 have k0 : (Instr.sliceAt 144 (.pointer (some ⟨sb, 1, none⟩)) (some (.int .i64 1)) (some (.int .i64 (1 + ((0 : Nat) : Int)))) none).run Tryz.prog w = .ok (.slice (some ⟨sb, 5, none⟩) 0 7) w := by kernel_rfl
 have k1 : (Instr.sliceAt 144 (.pointer (some ⟨sb, 1, none⟩)) (some (.int .i64 1)) (some (.int .i64 (1 + ((1 : Nat) : Int)))) none).run Tryz.prog w = .ok (.slice (some ⟨sb, 5, none⟩) 1 7) w := by kernel_rfl
 have k2 : (Instr.sliceAt 144 (.pointer (some ⟨sb, 1, none⟩)) (some (.int .i64 1)) (some (.int .i64 (1 + ((2 : Nat) : Int)))) none).run Tryz.prog w = .ok (.slice (some ⟨sb, 5, none⟩) 2 7) w := by kernel_rfl
 have k3 : (Instr.sliceAt 144 (.pointer (some ⟨sb, 1, none⟩)) (some (.int .i64 1)) (some (.int .i64 (1 + ((3 : Nat) : Int)))) none).run Tryz.prog w = .ok (.slice (some ⟨sb, 5, none⟩) 3 7) w := by kernel_rfl
 have h4 : n = 0 ∨ n = 1 ∨ n = 2 ∨ n = 3 := by omega
 rcases h4 with rfl | rfl | rfl | rfl
 ·exact k0
 ·exact k1
 ·exact k2
 ·exact k3
theorem sees_args {w : World} {sb n : Nat} {r : Bool} {s : St} (hx : StAt w sb 0 r s) (h8 : s.length = 8) (hn : n <= 3) (hz : sb < w.heap.size) : SeesT w (.slice (some ⟨sb, 5, none⟩) n 7) ((s.drop 1).take n) := by
 have hl : ((s.drop 1).take n).length = n := by simp [h8]; omega
 refine ⟨some ⟨sb, 5, none⟩, 7, by rw [hl], by rw [hl]; omega, by decide, fun e => (by cases e), fun _ => ⟨sb, 5, rfl, hz, fun k hk => ?_⟩⟩
 rw [hl] at hk
 have := hx.typ h8 (k := k + 1) (by omega)
 rw [show 0 + 1 + (k + 1) * 4 = 5 + k * 4 by omega] at this
 have e : ((s.drop 1).take n).getD k Ty.nil = s.getD (k + 1) Ty.nil := by
  simp [List.getD, List.getElem?_take, hk, Nat.add_comm]
 rw [e]
 exact this
theorem hcheck_as9 {h : Int} {v : Value} {xs : List Ty} {w : World} (hs : SeesT w v xs) {r : Int} (hr : Hid (hcheckL h xs = r)) : Calls Tryz.prog 108 #[.int .i64 h, v] w fun e w' => e = .returned (.int .i64 r) /\ Below w.heap.size w w' := by
 rw [<- hr.out]; exact hcheck_any h v xs w hs
theorem keep2 {w w' : World} {x y : Nat} {i j : Nat} {u v : Value} (h : w.cell? ⟨x, i, none⟩ = some u /\ w.cell? ⟨y, j, none⟩ = some v) (hb : Below w.heap.size w w') (hx : x < w.heap.size) (hy : y < w.heap.size) : w'.cell? ⟨x, i, none⟩ = some u /\ w'.cell? ⟨y, j, none⟩ = some v := by
 rw [hb.cell (p := ⟨x, i, none⟩) hx, hb.cell (p := ⟨y, j, none⟩) hy]; exact h
set_option maxHeartbeats 3200000 in
theorem lask_core (w0 w : World) (qb kb nm cb co ccap p : Nat) (vl : Value) (xs : List In) (ls : List Lp) (K : Kn) (h : Inq w0 w qb kb nm vl cb co ccap xs ls K) (hp : p < xs.length) (h64 : xs.length <= 64) (hM : MadeK nm K) (n : Nat) (hn : n < 8) (op d b imm : Int) (HI : Hid (nth xs p = ⟨op, d, n, b, imm⟩)) (r : Bool) (s : St) (HK : Hid (K.getD p kn0 = (r, s))) (hb : b = 8 ∨ (0 <= b /\ b <= 7)) (sk sl sh sm tk tl th tm : Int) (HS : Hid (s.getD n Ty.nil = ⟨sk, sl, sh, sm⟩)) (HT : Hid (srcT ⟨op, d, n, b, imm⟩ s = ⟨tk, tl, th, tm⟩)) (hto : op = 20 -> 0 <= (p : Int) + In.far ⟨op, d, n, b, imm⟩ /\ (p : Int) + In.far ⟨op, d, n, b, imm⟩ < xs.length) : Calls Tryz.prog 83 #[.pointer (some ⟨qb, 0, none⟩), .int .i64 p] w fun e w' => e = .returned (.int .i64 (askK nm ⟨op, d, n, b, imm⟩ s (K.getD ((p : Int) + In.far ⟨op, d, n, b, imm⟩).toNat kn0).2)) /\ Below w.heap.size w w' := by
 obtain ⟨E, HE⟩ : ∃ E, Hid (E = askK nm ⟨op, d, n, b, imm⟩ s (K.getD ((p : Int) + In.far ⟨op, d, n, b, imm⟩).toNat kn0).2) := ⟨_, rfl⟩
 rw [<- HE.out]
 obtain ⟨hat, hcb, hN, hcc⟩ := h.at hp
 rw [HI.out] at hat
 obtain ⟨c0, c1, c2, c3, c4⟩ := hat
 simp only at c0 c1 c2 c3 c4
 have hpI : (p : Int) < xs.length := by omega
 have h8 : s.length = 8 := by have := h.e8.at p; rw [HK.out] at this; exact this
 have hst : StAt w kb (p * 33) r s := h.k.state h.e8 (by rw [h.len]; exact hp) HK.out
 have hqz := h.q.lt
 have hkz := h.k.lt
 have hbz := h.b0.size
 have HP : Hid (∀ w', Below w.heap.size w w' -> w'.cell? ⟨qb, 1, none⟩ = some (.slice (some ⟨cb, co, none⟩) xs.length ccap) /\ w'.cell? ⟨qb, 3, none⟩ = some (.slice (some ⟨kb, 0, none⟩) xs.length xs.length) /\ w'.cell? ⟨cb, co + p * 5, none⟩ = some (.int .i64 op) /\ w'.cell? ⟨cb, co + p * 5 + 1, none⟩ = some (.int .i64 d) /\ w'.cell? ⟨cb, co + p * 5 + 2, none⟩ = some (.int .i64 n) /\ w'.cell? ⟨cb, co + p * 5 + 3, none⟩ = some (.int .i64 b) /\ w'.cell? ⟨cb, co + p * 5 + 4, none⟩ = some (.int .i64 imm) /\ StAt w' kb (p * 33) r s) := fun w' hb' => by
  have hA := At.below (i := ⟨op, d, n, b, imm⟩) ⟨c0, c1, c2, c3, c4⟩ hb' (by omega)
  exact ⟨(h.q.below hb' hqz).cell rfl, (h.q.below hb' hqz).cell rfl, hA.1, hA.2.1, hA.2.2.1, hA.2.2.2.1, hA.2.2.2.2, hst.below hb' hkz⟩
 clear c0 c1 c2 c3 c4 hst
 have hs8 : Made8 nm s := by have := hM.at p; rw [HK.out] at this; exact this
 have HM := keepJ hM
 have HS8 := keepJ hs8
 have HSZ := keepJ (sizeJ (r := r) h8)
 have hp64 : (p : Int) < 64 := by omega
 have hnI : (n : Int) < 8 := by omega
 clear hs8 hM
 go_enter Tryz.func83, Tryz.ntmps83
 go_wp2_with (fail)
 go_cut [5, 6] from 15 (fun v4 v5 wc => Taken2 w wc ⟨op, d, n, b, imm⟩ r s v4 v5)
 case rest =>
  obtain ⟨ib, sb, rfl, rfl, hiC, hsC, hbC, hi1, hs1, his⟩ := hcut
  have HQ := keepJ (h.below hbC)
  have HiC := keepJ hiC
  have HsC := keepJ hsC
  obtain ⟨y0, y1, y2, y3, y4⟩ := id hiC.inst
  have hzi := hiC.lt
  have hzs := hsC.lt
  have hkb : kb < wc.heap.size := HQ.out.k.lt
  have hikb : ib ≠ kb := by omega
  have hskb : sb ≠ kb := by omega
  clear hiC hsC HP
  clear y0 y1 y2 y3 y4
  go_wp2_with (fail)
  go_cut [7, 8] from 15 (fun v7 v8 wd => Taken3 wc wd ⟨sk, sl, sh, sm⟩ ⟨tk, tl, th, tm⟩ v7 v8)
  case rest =>
   obtain ⟨g8, g9, rfl, rfl, hA8, hA9, hbD, hz8, hz9⟩ := hcut
   have HQ2 := keepJ (HQ.out.below hbD)
   have HiD := keepJ (HiC.out.below hbD hzi)
   have HsD := keepJ (HsC.out.below hbD hzs)
   have hBD : Below w.heap.size w wc := hbC.trans (hbD.mono hbC.size)
   have HA8 := keepJ hA8
   have HA9 := keepJ hA9
   obtain ⟨y0, y1, y2, y3, y4⟩ := id HiD.out.inst
   obtain ⟨a0, a1, a2, a3⟩ := hA8
   obtain ⟨b0, b1, b2, b3⟩ := hA9
   simp only at a0 a1 a2 a3 b0 b1 b2 b3
   have hzi2 := HiD.out.lt
   have hzs2 := HsD.out.lt
   have HR1 : Hid (regT s n = ⟨sk, sl, sh, sm⟩) := HS.out
   clear HQ HiC HsC hzi hzs hbD h hi1 hs1 his hkb hikb hskb
   obtain ⟨e1, HE1⟩ : ∃ e, Hid (numsE [⟨sk, sl, sh, sm⟩] = e) := ⟨_, rfl⟩
   obtain ⟨e2, HE2⟩ : ∃ e, Hid (wordE ⟨tk, tl, th, tm⟩ = e) := ⟨_, rfl⟩
   by_cases o13 : op = 13
   ·subst o13
    have HV : Hid (E = 0) := by show _ = _; rw [HE.out]; rfl
    go_wp2
    go_ret
    exact ⟨reti HV.out.symm, hBD⟩
   by_cases o15 : op = 15
   ·subst o15
    have HV : Hid (E = 0) := by show _ = _; rw [HE.out]; rfl
    go_wp2
    go_ret
    exact ⟨reti HV.out.symm, hBD⟩
   by_cases o0 : op = 0
   ·subst o0
    have HV : Hid (unlE (tk != 0) 33 = E) := by show _ = _; rw [HE.out]; unfold askK; rw [if_neg (by simp), if_pos rfl, HT.out]
    go_wp2_with (go_at_call 103; go_must (refine (lunless_as HV _).mono ?_); rintro e w5 ⟨rfl, hb5⟩; go_must (have hB5 := hBD.trans (hb5.mono hBD.size)))
    go_ret
    exact ⟨rfl, hB5⟩
   by_cases o11 : op = 11
   ·subst o11
    have HV : Hid (wordE ⟨tk, tl, th, tm⟩ = E) := by show _ = _; rw [HE.out]; unfold askK; rw [if_neg (by simp), if_neg (by simp), if_pos rfl, HT.out]
    go_wp2_with (go_at_call 104; go_must (refine (lword_as HV _).mono ?_); rintro e w5 ⟨rfl, hb5⟩; go_must (have hB5 := hBD.trans (hb5.mono hBD.size)))
    go_ret
    exact ⟨rfl, hB5⟩
   by_cases o12 : op = 12
   ·subst o12
    by_cases h1 : e1 = 0
    ·have HV : Hid (wordE ⟨tk, tl, th, tm⟩ = E) := by show _ = _; rw [HE.out]; unfold askK; rw [if_neg (by simp), if_neg (by simp), if_neg (by simp), if_pos rfl, HR1.out, HT.out, HE1.out, h1]; simp
     subst h1
     go_wp2_with (first
      | (go_at_call 105; go_must (refine (lnums_as HE1 (seesT_one _ _ ⟨sk, sl, sh, sm⟩ _ rfl)).mono ?_); rintro e w5 ⟨rfl, hb5'⟩; go_must (have hb5 := box_below hb5'; have hB5 := hBD.trans (hb5.mono hBD.size); obtain ⟨z0, z1, z2, z3⟩ := HA9.out.below hb5 hz9; simp only at z0 z1 z2 z3; clear b0 b1 b2 b3))
      | (go_at_call 104; go_must (refine (lword_as HV _).mono ?_); rintro e w6 ⟨rfl, hb6⟩; go_must (have hB6 := hB5.trans (hb6.mono hB5.size))))
     go_ret
     exact ⟨rfl, hB6⟩
    ·have HV : Hid (e1 = E) := by show _ = _; rw [HE.out]; unfold askK; rw [if_neg (by simp), if_neg (by simp), if_neg (by simp), if_pos rfl, HR1.out, HT.out, HE1.out, if_pos h1]
     go_wp2_with (go_at_call 105; go_must (refine (lnums_as HE1 (seesT_one _ _ ⟨sk, sl, sh, sm⟩ _ rfl)).mono ?_); rintro e w5 ⟨rfl, hb5'⟩; go_must (have hb5 := box_below hb5'; have hB5 := hBD.trans (hb5.mono hBD.size)))
     go_ret
     exact ⟨reti HV.out, hB5⟩
   by_cases o22 : op = 22
   ·subst o22
    have HV : Hid (numsE [⟨sk, sl, sh, sm⟩] = E) := by show _ = _; rw [HE.out]; unfold askK; simp [HR1.out]
    go_wp2_with (go_at_call 105; go_must (refine (lnums_as HV (seesT_one _ _ ⟨sk, sl, sh, sm⟩ _ rfl)).mono ?_); rintro e w5 ⟨rfl, hb5'⟩; go_must (have hb5 := box_below hb5'; have hB5 := hBD.trans (hb5.mono hBD.size)))
    go_ret
    exact ⟨rfl, hB5⟩
   by_cases o14 : op = 14
   ·subst o14
    have HV : Hid (unlE (decide (imm < nm)) 35 = E) := by show _ = _; rw [HE.out]; unfold askK; simp
    have q0 : wc.cell? ⟨qb, 0, none⟩ = some (.int .i64 nm) := HQ2.out.q.cell rfl
    have hqz2 := HQ2.out.q.lt
    go_wp2
    go_region_held3 (fun w' => w'.cell? ⟨ib, 4, none⟩ = some (.int .i64 imm) /\ w'.cell? ⟨qb, 0, none⟩ = some (.int .i64 nm))
     (first | exact hS5 | exact ⟨y4, q0⟩)
     (first | (go_at_call 103; go_must (refine (lunless_as HV _).mono ?_); rintro e w5 ⟨rfl, hb5'⟩; go_must (have hb5 : Below wc.heap.size wc w5 := below_undrew hb5'; have hS5 := keep2 ⟨y4, q0⟩ hb5 hzi2 hqz2; have hB5 := hBD.trans (hb5.mono hBD.size))))
    go_wp2
    go_ret
    exact ⟨rfl, hB5⟩
   by_cases o20 : op = 20
   ·subst o20
    by_cases h1 : e1 = 0
    ·subst h1
     obtain ⟨f, HF⟩ : ∃ f, Hid (f = In.far ⟨20, d, n, b, imm⟩) := ⟨_, rfl⟩
     obtain ⟨l, HL⟩ : ∃ l, Hid (l = In.leads ⟨20, d, n, b, imm⟩) := ⟨_, rfl⟩
     obtain ⟨o, HO⟩ : ∃ o, Hid (o = In.on ⟨20, d, n, b, imm⟩) := ⟨_, rfl⟩
     obtain ⟨n2, HN2, hn2⟩ : ∃ n2 : Nat, Hid ((p : Int) + f = n2) /\ n2 < xs.length := by
      have := hto rfl
      rw [<- HF.out] at this
      exact ⟨((p : Int) + f).toNat, by show _ = _; omega, by omega⟩
     obtain ⟨r2, s2, HK2⟩ : ∃ r2 s2, Hid (K.getD n2 kn0 = (r2, s2)) := ⟨_, _, rfl⟩
     have h82 : s2.length = 8 := by have := HQ2.out.e8.at n2; rw [HK2.out] at this; exact this
     obtain ⟨q, HFQ⟩ : ∃ q, Hid (fitsAllS s s2 = q) := ⟨_, rfl⟩
     have HV : Hid (unlE q 33 = E) := by
      show _ = _
      rw [HE.out]; unfold askK
      rw [if_neg (by simp), if_neg (by simp), if_neg (by simp), if_neg (by simp), if_neg (by simp), if_pos rfl, HR1.out, HE1.out, if_neg (by simp), <- HF.out, HN2.out, Int.toNat_natCast, HK2.out, HFQ.out]
     have hwr : IntKind.i64.wrap ((p : Int) + f) = (n2 : Int) := by rw [HN2.out, IntKind.wrap_i64]; omega
     have hn2I : (n2 : Int) < xs.length := by omega
     go_wp2_with (first
      | (go_at_call 105; go_must (refine (lnums_as HE1 (seesT_one _ _ ⟨sk, sl, sh, sm⟩ _ rfl)).mono ?_); rintro e w5 ⟨rfl, hb5'⟩; go_must (have hb5 := box_below hb5'; have hB5 := hBD.trans (hb5.mono hBD.size); have Hi5 := keepJ (HiD.out.below hb5 hzi2); have Hs5 := keepJ (HsD.out.below hb5 hzs2); have HQ5 := keepJ (HQ2.out.below hb5); have hz5 := hb5.size; clear y0 y1 y2 y3 y4; obtain ⟨z0, z1, z2, z3, z4⟩ := Hi5.out.inst))
      | (go_at_call 106; go_must (refine (goes_one (i := ⟨20, d, n, b, imm⟩) (show Hid _ from rfl) HF HL HO _).mono ?_); rintro e w6 ⟨rfl, hb6⟩; go_must (have hB6 := hB5.trans (hb6.mono hB5.size); have Hs6 := keepJ (Hs5.out.below hb6 (by omega)); have HQ6 := keepJ (HQ5.out.below hb6); clear z0 z1 z2 z3 z4)))
     have hqz6 := HQ6.out.q.lt
     have hkz6 := HQ6.out.k.lt
     have hsz6 := Hs6.out.lt
     have HP6 : Hid (∀ w', Below w6.heap.size w6 w' -> w'.cell? ⟨qb, 3, none⟩ = some (.slice (some ⟨kb, 0, none⟩) xs.length xs.length) /\ StAt w' sb 0 r s /\ StAt w' kb (n2 * 33) r2 s2) := fun w' hb' =>
      ⟨(HQ6.out.q.below hb' hqz6).cell rfl, (Hs6.out.below hb' hsz6).one, (HQ6.out.k.below hb' hkz6).state HQ6.out.e8 (by rw [HQ6.out.len]; exact hn2) HK2.out⟩
     refine wp_region_held_drew (S := fun w' => w'.cell? ⟨qb, 3, none⟩ = some (.slice (some ⟨kb, 0, none⟩) xs.length xs.length) /\ StAt w' sb 0 r s /\ StAt w' kb (n2 * 33) r2 s2) (by kernel_rfl) (HP6.out _ (Below.refl _ _).drew) (fun hHeld => ?_)
     refine wpAnyH_take (i := 0) rfl (by kernel_rfl) (by kernel_rfl) (by kernel_rfl) (fun _ _ _ h => h) (yieldsIf_load_mid (by rfl) _ _ rfl _ _ rfl (stC r s) _ (fun w h => h.2.1) Tryz.underlying146 rfl (sizeJ h8)) (by assumption) ?_
     try simp only [Act.put, p1q, p2q, p3q, p4q, p5q, p6q]
     refine tkGo [1, 2, 3, 4, 5, 6] ?_
     repeat (refine tkO (v := ?_) rfl ?_ ?_; rotate_left; (intro wy hSw; (try dsimp only at hSw); go_simp; (first | done | with_reducible rfl)); try simp only [Act.put, p1q, p2q, p3q, p4q, p5q, p6q])
     refine tkEnd ?_
     refine wpAnyH_take (i := 7) (v := (.int .i64 (n2 : Int))) rfl (by kernel_rfl) (by kernel_rfl) (by kernel_rfl) (fun _ _ _ h => h) (Or.inl ⟨by rfl, fun wy hSw => ?_⟩) (by assumption) ?_
     ·go_simp
     try simp only [Act.put, p1q, p2q, p3q, p4q, p5q, p6q]
     refine wpAnyH_take (i := 8) (v := (.pointer (some ⟨kb, n2 * 33, none⟩))) rfl (by kernel_rfl) (by kernel_rfl) (by kernel_rfl) (fun _ _ _ h => h) (Or.inl ⟨by rfl, fun wy hSw => ?_⟩) (by assumption) ?_
     ·go_simp
     try simp only [Act.put, p1q, p2q, p3q, p4q, p5q, p6q]
     refine wpAnyH_take (i := 9) rfl (by kernel_rfl) (by kernel_rfl) (by kernel_rfl) (fun _ _ _ h => h) (yieldsIf_load_mid (by rfl) _ _ rfl _ _ rfl (stC r2 s2) _ (fun w h => h.2.2) Tryz.underlying146 rfl (sizeJ h82)) (by assumption) ?_
     try simp only [Act.put, p1q, p2q, p3q, p4q, p5q, p6q]
     refine runO 10 (by kernel_rfl) rfl (by rfl) (fun KK hK => ?_)
     go_simp
     go_at_call 107
     refine (lfits_as HFQ w6.drew h8 h82).mono ?_
     rintro e w7 ⟨rfl, hb7'⟩
     have hb7 : Below w6.heap.size w6 w7 := below_undrew hb7'
     refine hK.out _ _ (HP6.out _ hb7) (fun hHeld => ?_)
     clear hK KK
     try simp only [Act.put, p1q, p2q, p3q, p4q, p5q, p6q]
     refine runO 11 (by kernel_rfl) rfl (by rfl) (fun KK hK => ?_)
     go_simp
     go_at_call 103
     refine (lunless_as HV w7).mono ?_
     rintro e w8 ⟨rfl, hb8'⟩
     have hb8 : Below w6.heap.size w6 w8 := hb7.trans (hb8'.mono hb7.size)
     refine hK.out _ _ (HP6.out _ hb8) (fun hHeld => ?_)
     clear hK KK
     try simp only [Act.put, p1q, p2q, p3q, p4q, p5q, p6q]
     refine tkGo [12] ?_
     repeat (refine tkO (v := ?_) rfl ?_ ?_; rotate_left; (intro wy hSw; (try dsimp only at hSw); go_simp; (first | done | with_reducible rfl)); try simp only [Act.put, p1q, p2q, p3q, p4q, p5q, p6q])
     refine tkEnd ?_
     refine wpAnyH_done (by kernel_rfl) ?_ _
     go_wp2
     go_ret
     exact ⟨rfl, hB6.trans (hb8.mono hB6.size)⟩
    ·have HV : Hid (e1 = E) := by show _ = _; rw [HE.out]; unfold askK; rw [if_neg (by simp), if_neg (by simp), if_neg (by simp), if_neg (by simp), if_neg (by simp), if_pos rfl, HR1.out, HE1.out, if_pos h1]
     go_wp2_with (go_at_call 105; go_must (refine (lnums_as HE1 (seesT_one _ _ ⟨sk, sl, sh, sm⟩ _ rfl)).mono ?_); rintro e w5 ⟨rfl, hb5'⟩; go_must (have hb5 := box_below hb5'; have hB5 := hBD.trans (hb5.mono hBD.size)))
     go_ret
     exact ⟨reti HV.out, hB5⟩
   by_cases o21 : op = 21
   ·subst o21
    obtain ⟨N, HL⟩ : ∃ N, Hid ((argsL imm).length = N) := ⟨_, rfl⟩
    have hN3 : N <= 3 := by rw [<- HL.out]; exact args_len9 _
    have HV : Hid (hcheckL imm ((s.drop 1).take N) = E) := by show _ = _; rw [HE.out]; unfold askK; simp [HL.out]
    have hwr : IntKind.i64.wrap (1 + (N : Int)) = 1 + (N : Int) := by rw [IntKind.wrap_i64]; omega
    have hsl := run_sliceA sb N hN3
    go_wp2_with (first
     | (go_at_call 109; go_must (refine (args_any imm _).mono ?_); rintro e w5 ⟨u5, rfl, hown5, hb5⟩; go_must (have hB5 := hBD.trans (hb5.mono hBD.size); have Hs5 := keepJ (HsD.out.below hb5 hzs2); rw [HL.out] at hown5; obtain ⟨a5, c5, rfl⟩ := own_shapeT hown5; clear hown5))
     | (go_at_call 108; go_must (refine (hcheck_as9 (sees_args Hs5.out.one h8 hN3 Hs5.out.lt) HV).mono ?_); rintro e w6 ⟨rfl, hb6⟩; go_must (have hB6 := hB5.trans (hb6.mono hB5.size))))
    go_ret
    exact ⟨rfl, hB6⟩
   have HV : Hid (numsE [⟨sk, sl, sh, sm⟩, ⟨tk, tl, th, tm⟩] = E) := by show _ = _; rw [HE.out]; unfold askK; rw [if_neg (by rintro (h | h) <;> contradiction), if_neg o0, if_neg o11, if_neg o12, if_neg o14, if_neg o20, if_neg o21, if_neg o22, HR1.out, HT.out]
   go_wp2_with (go_at_call 105; go_must (refine (lnums_as HV (seesT_two _ _ ⟨sk, sl, sh, sm⟩ ⟨tk, tl, th, tm⟩ _ rfl)).mono ?_); rintro e w5 ⟨rfl, hb5'⟩; go_must (have hb5 := box_below hb5'; have hB5 := hBD.trans (hb5.mono hBD.size)))
   go_ret
   exact ⟨rfl, hB5⟩
  case first =>
   have HP2 : Hid (∀ w', Below wc.heap.size wc w' -> w'.cell? ⟨ib, 0, none⟩ = some (.int .i64 op) /\ w'.cell? ⟨ib, 1, none⟩ = some (.int .i64 d) /\ w'.cell? ⟨ib, 2, none⟩ = some (.int .i64 n) /\ w'.cell? ⟨ib, 3, none⟩ = some (.int .i64 b) /\ w'.cell? ⟨ib, 4, none⟩ = some (.int .i64 imm) /\ w'.cell? ⟨sb, 1 + n * 4, none⟩ = some (.int .i64 sk) /\ w'.cell? ⟨sb, 1 + n * 4 + 1, none⟩ = some (.int .u64 sl) /\ w'.cell? ⟨sb, 1 + n * 4 + 2, none⟩ = some (.int .u64 sh) /\ w'.cell? ⟨sb, 1 + n * 4 + 3, none⟩ = some (.int .i64 sm) /\ StAt w' sb 0 r s) := fun w' hb' => by
    obtain ⟨q0, q1, q2, q3⟩ := stC_typ (r := r) h8 hn HS.out
    have hh := HsC.out.below hb' hzs
    obtain ⟨x0, x1, x2, x3, x4⟩ := Box.below HiC.out.inst hb' hzi
    exact ⟨x0, x1, x2, x3, x4, hh.cell q0, hh.cell q1, hh.cell q2, hh.cell q3, hh.one⟩
   refine wp_region_held_drew (S := fun w' => w'.cell? ⟨ib, 0, none⟩ = some (.int .i64 op) /\ w'.cell? ⟨ib, 1, none⟩ = some (.int .i64 d) /\ w'.cell? ⟨ib, 2, none⟩ = some (.int .i64 n) /\ w'.cell? ⟨ib, 3, none⟩ = some (.int .i64 b) /\ w'.cell? ⟨ib, 4, none⟩ = some (.int .i64 imm) /\ w'.cell? ⟨sb, 1 + n * 4, none⟩ = some (.int .i64 sk) /\ w'.cell? ⟨sb, 1 + n * 4 + 1, none⟩ = some (.int .u64 sl) /\ w'.cell? ⟨sb, 1 + n * 4 + 2, none⟩ = some (.int .u64 sh) /\ w'.cell? ⟨sb, 1 + n * 4 + 3, none⟩ = some (.int .i64 sm) /\ StAt w' sb 0 r s) (by kernel_rfl) (HP2.out _ (Below.refl _ _).drew) (fun hHeld => ?_)
   refine tkGo [0, 1, 2, 3, 4] ?_
   repeat (refine tkO (v := ?_) rfl ?_ ?_; rotate_left; (intro wy hSw; (try dsimp only at hSw); go_simp; (first | done | with_reducible rfl)); try simp only [Act.put, p1q, p2q, p3q, p4q, p5q, p6q])
   refine tkEnd ?_
   refine wpAnyH_take (i := 5) rfl (by kernel_rfl) (by kernel_rfl) (by kernel_rfl) (fun _ _ _ h => h) (yieldsIf_load_mid (by rfl) _ _ rfl _ _ rfl (stC r s) _ (fun w h => h.2.2.2.2.2.2.2.2.2) Tryz.underlying146 rfl (sizeJ h8)) (by assumption) ?_
   try simp only [Act.put, p1q, p2q, p3q, p4q, p5q, p6q]
   refine tkGo [6] ?_
   repeat (refine tkO (v := ?_) rfl ?_ ?_; rotate_left; (intro wy hSw; (try dsimp only at hSw); go_simp; (first | done | with_reducible rfl)); try simp only [Act.put, p1q, p2q, p3q, p4q, p5q, p6q])
   refine tkEnd ?_
   obtain ⟨X, HX, hBX⟩ : ∃ X, Hid (X = wc.drew) /\ Below wc.heap.size wc X := ⟨_, rfl, (Below.refl _ _).drew⟩
   rw [<- HX.out]
   clear HX
   refine wpAnyH_ready (rs := [7, 8, 9]) (by kernel_rfl) (by simp) ?_
   refine (AllReadyH.cons rfl (fun KK hK => ?_) (AllReadyH.cons rfl (fun KK hK => ?_) (AllReadyH.cons rfl (fun KK hK => ?_) AllReadyH.nil))) <;> rw [if_pos (by rfl)]
   ·go_simp
    go_at_call 102
    refine (lsource_as4 (i := ⟨op, d, n, b, imm⟩) HT r X h8 hb).mono ?_
    rintro e X1 ⟨rfl, hbX1⟩
    have hBX1 := hBX.trans (hbX1.mono hBX.size)
    refine hK.out _ _ (HP2.out _ hBX1) (fun hHeld => ?_)
    clear hK KK
    try simp only [Act.put, p1q, p2q, p3q, p4q, p5q, p6q]
    refine wpAnyH_ready (rs := [8, 9]) (by kernel_rfl) (by simp) ?_
    refine (AllReadyH.cons rfl (fun KK hK => ?_) (AllReadyH.cons rfl (fun KK hK => ?_) AllReadyH.nil)) <;> rw [if_pos (by rfl)]
    ·go_simp
     obtain ⟨X2, g8, HY, HN, hbX2, hge8, H8X2, hz8X2⟩ : ∃ Y g, Hid (Y = X1.alloc (Obj.cells #[.int .i64 0, .int .u64 0, .int .u64 0, .int .i64 0] 143)) /\ Hid (X1.heap.size = g) /\ Below X1.heap.size X1 Y /\ wc.heap.size <= g /\ Hid (BxT Y g 0 ⟨0, 0, 0, 0⟩) /\ g < Y.heap.size := ⟨_, _, rfl, rfl, (Below.refl _ _).alloc (Nat.le_refl _) _, hBX1.size, ⟨⟨by go_cell, by go_cell, by go_cell, by go_cell⟩, by go_simp, by go_simp, by go_simp, by go_simp⟩, by simp⟩
     rw [<- HY.out, HN.out]
     clear HY HN
     have hBX2 := hBX1.trans (hbX2.mono hBX1.size)
     refine hK.out _ _ (HP2.out _ hBX2) (fun hHeld => ?_)
     clear hK KK
     try simp only [Act.put, p1q, p2q, p3q, p4q, p5q, p6q]
     refine wpAnyH_ready (rs := [9]) (by kernel_rfl) (by simp) ?_
     refine (AllReadyH.cons rfl (fun KK hK => ?_) AllReadyH.nil) <;> rw [if_pos (by rfl)]
     ·go_simp
      obtain ⟨X3, g9, HY, HN, hbX3, hge9, H9X3, hz9X3⟩ : ∃ Y g, Hid (Y = X2.alloc (Obj.cells #[.int .i64 0, .int .u64 0, .int .u64 0, .int .i64 0] 143)) /\ Hid (X2.heap.size = g) /\ Below X2.heap.size X2 Y /\ wc.heap.size <= g /\ Hid (BxT Y g 0 ⟨0, 0, 0, 0⟩) /\ g < Y.heap.size := ⟨_, _, rfl, rfl, (Below.refl _ _).alloc (Nat.le_refl _) _, hBX2.size, ⟨⟨by go_cell, by go_cell, by go_cell, by go_cell⟩, by go_simp, by go_simp, by go_simp, by go_simp⟩, by simp⟩
      have hne89 : g8 ≠ g9 := by have := HN.out; omega
      have H8X3 : Hid (BxT X3 g8 0 ⟨0, 0, 0, 0⟩) := BxT.below H8X2.out hbX3 hz8X2
      have hz8X3 : g8 < X3.heap.size := Nat.lt_of_lt_of_le hz8X2 hbX3.size
      rw [<- HY.out, HN.out]
      clear HY HN
      have hBX3 := hBX2.trans (hbX3.mono hBX2.size)
      refine hK.out _ _ (HP2.out _ hBX3) (fun hHeld => ?_)
      clear hK KK
      try simp only [Act.put, p1q, p2q, p3q, p4q, p5q, p6q]
      obtain ⟨c0, c1, c2, c3, f0, f1, f2, f3⟩ := BxT.open H8X3.out
      refine runO 10 (by kernel_rfl) rfl (by rfl) (fun KK hK => ?_)
      go_simp
      clear c0 c1 c2 c3 f0 f1 f2 f3
      obtain ⟨U, HU, hBU, HU8, HU9, hzU⟩ : ∃ U, Hid (U = (((X3.setCell ⟨g8, 0, none⟩ (.int .i64 sk)).setCell ⟨g8, 1, none⟩ (.int .u64 sl)).setCell ⟨g8, 2, none⟩ (.int .u64 sh)).setCell ⟨g8, 3, none⟩ (.int .i64 sm)) /\ Below wc.heap.size wc U /\ Hid (BxT U g8 0 ⟨sk, sl, sh, sm⟩) /\ Hid (BxT U g9 0 ⟨0, 0, 0, 0⟩) /\ (g8 < U.heap.size /\ g9 < U.heap.size) := ⟨_, rfl, below_setT (t := ⟨sk, sl, sh, sm⟩) (off := 0) hBX3 hge8, H8X3.out.set ⟨sk, sl, sh, sm⟩, BxT.far (u := ⟨sk, sl, sh, sm⟩) (o := 0) H9X3.out hne89.symm, two_lt (grown_sets g8 (tyC ⟨sk, sl, sh, sm⟩) X3 0).size hz8X3 hz9X3⟩
      rw [<- HU.out]
      clear HU
      refine hK.out _ _ (HP2.out _ hBU) (fun hHeld => ?_)
      clear hK KK
      try simp only [Act.put, p1q, p2q, p3q, p4q, p5q, p6q]
      obtain ⟨c0, c1, c2, c3, f0, f1, f2, f3⟩ := BxT.open HU9.out
      refine runO 11 (by kernel_rfl) rfl (by rfl) (fun KK hK => ?_)
      go_simp
      clear c0 c1 c2 c3 f0 f1 f2 f3
      obtain ⟨V, HV, hBV, HV8, HV9, hzV⟩ : ∃ V, Hid (V = (((U.setCell ⟨g9, 0, none⟩ (.int .i64 tk)).setCell ⟨g9, 1, none⟩ (.int .u64 tl)).setCell ⟨g9, 2, none⟩ (.int .u64 th)).setCell ⟨g9, 3, none⟩ (.int .i64 tm)) /\ Below wc.heap.size wc V /\ Hid (BxT V g8 0 ⟨sk, sl, sh, sm⟩) /\ Hid (BxT V g9 0 ⟨tk, tl, th, tm⟩) /\ (g8 < V.heap.size /\ g9 < V.heap.size) := ⟨_, rfl, below_setT (t := ⟨tk, tl, th, tm⟩) (off := 0) hBU hge9, BxT.far (u := ⟨tk, tl, th, tm⟩) (o := 0) HU8.out hne89, HU9.out.set ⟨tk, tl, th, tm⟩, two_lt (grown_sets g9 (tyC ⟨tk, tl, th, tm⟩) U 0).size hzU.1 hzU.2⟩
      rw [<- HV.out]
      clear HV
      refine hK.out _ _ (HP2.out _ hBV) (fun hHeld => ?_)
      clear hK KK
      try simp only [Act.put, p1q, p2q, p3q, p4q, p5q, p6q]
      refine wpAnyH_done (by kernel_rfl) ?_ _
      go_wp2
      go_meet
      case rel => exact ⟨g8, g9, rfl, rfl, HV8.out.1, HV9.out.1, hBV, hzV.1, hzV.2⟩
    ·go_simp
     obtain ⟨X4, g9, HY, HN, hbX4, hge9, H9X4, hz9X4⟩ : ∃ Y g, Hid (Y = X1.alloc (Obj.cells #[.int .i64 0, .int .u64 0, .int .u64 0, .int .i64 0] 143)) /\ Hid (X1.heap.size = g) /\ Below X1.heap.size X1 Y /\ wc.heap.size <= g /\ Hid (BxT Y g 0 ⟨0, 0, 0, 0⟩) /\ g < Y.heap.size := ⟨_, _, rfl, rfl, (Below.refl _ _).alloc (Nat.le_refl _) _, hBX1.size, ⟨⟨by go_cell, by go_cell, by go_cell, by go_cell⟩, by go_simp, by go_simp, by go_simp, by go_simp⟩, by simp⟩
     rw [<- HY.out, HN.out]
     clear HY HN
     have hBX4 := hBX1.trans (hbX4.mono hBX1.size)
     refine hK.out _ _ (HP2.out _ hBX4) (fun hHeld => ?_)
     clear hK KK
     try simp only [Act.put, p1q, p2q, p3q, p4q, p5q, p6q]
     refine wpAnyH_ready (rs := [8]) (by kernel_rfl) (by simp) ?_
     refine (AllReadyH.cons rfl (fun KK hK => ?_) AllReadyH.nil) <;> rw [if_pos (by rfl)]
     ·go_simp
      obtain ⟨X5, g8, HY, HN, hbX5, hge8, H8X5, hz8X5⟩ : ∃ Y g, Hid (Y = X4.alloc (Obj.cells #[.int .i64 0, .int .u64 0, .int .u64 0, .int .i64 0] 143)) /\ Hid (X4.heap.size = g) /\ Below X4.heap.size X4 Y /\ wc.heap.size <= g /\ Hid (BxT Y g 0 ⟨0, 0, 0, 0⟩) /\ g < Y.heap.size := ⟨_, _, rfl, rfl, (Below.refl _ _).alloc (Nat.le_refl _) _, hBX4.size, ⟨⟨by go_cell, by go_cell, by go_cell, by go_cell⟩, by go_simp, by go_simp, by go_simp, by go_simp⟩, by simp⟩
      have hne98 : g9 ≠ g8 := by have := HN.out; omega
      have H9X5 : Hid (BxT X5 g9 0 ⟨0, 0, 0, 0⟩) := BxT.below H9X4.out hbX5 hz9X4
      have hz9X5 : g9 < X5.heap.size := Nat.lt_of_lt_of_le hz9X4 hbX5.size
      rw [<- HY.out, HN.out]
      clear HY HN
      have hBX5 := hBX4.trans (hbX5.mono hBX4.size)
      refine hK.out _ _ (HP2.out _ hBX5) (fun hHeld => ?_)
      clear hK KK
      try simp only [Act.put, p1q, p2q, p3q, p4q, p5q, p6q]
      have hne89 : g8 ≠ g9 := hne98.symm
      obtain ⟨c0, c1, c2, c3, f0, f1, f2, f3⟩ := BxT.open H8X5.out
      refine runO 10 (by kernel_rfl) rfl (by rfl) (fun KK hK => ?_)
      go_simp
      clear c0 c1 c2 c3 f0 f1 f2 f3
      obtain ⟨U, HU, hBU, HU8, HU9, hzU⟩ : ∃ U, Hid (U = (((X5.setCell ⟨g8, 0, none⟩ (.int .i64 sk)).setCell ⟨g8, 1, none⟩ (.int .u64 sl)).setCell ⟨g8, 2, none⟩ (.int .u64 sh)).setCell ⟨g8, 3, none⟩ (.int .i64 sm)) /\ Below wc.heap.size wc U /\ Hid (BxT U g8 0 ⟨sk, sl, sh, sm⟩) /\ Hid (BxT U g9 0 ⟨0, 0, 0, 0⟩) /\ (g8 < U.heap.size /\ g9 < U.heap.size) := ⟨_, rfl, below_setT (t := ⟨sk, sl, sh, sm⟩) (off := 0) hBX5 hge8, H8X5.out.set ⟨sk, sl, sh, sm⟩, BxT.far (u := ⟨sk, sl, sh, sm⟩) (o := 0) H9X5.out hne89.symm, two_lt (grown_sets g8 (tyC ⟨sk, sl, sh, sm⟩) X5 0).size hz8X5 hz9X5⟩
      rw [<- HU.out]
      clear HU
      refine hK.out _ _ (HP2.out _ hBU) (fun hHeld => ?_)
      clear hK KK
      try simp only [Act.put, p1q, p2q, p3q, p4q, p5q, p6q]
      obtain ⟨c0, c1, c2, c3, f0, f1, f2, f3⟩ := BxT.open HU9.out
      refine runO 11 (by kernel_rfl) rfl (by rfl) (fun KK hK => ?_)
      go_simp
      clear c0 c1 c2 c3 f0 f1 f2 f3
      obtain ⟨V, HV, hBV, HV8, HV9, hzV⟩ : ∃ V, Hid (V = (((U.setCell ⟨g9, 0, none⟩ (.int .i64 tk)).setCell ⟨g9, 1, none⟩ (.int .u64 tl)).setCell ⟨g9, 2, none⟩ (.int .u64 th)).setCell ⟨g9, 3, none⟩ (.int .i64 tm)) /\ Below wc.heap.size wc V /\ Hid (BxT V g8 0 ⟨sk, sl, sh, sm⟩) /\ Hid (BxT V g9 0 ⟨tk, tl, th, tm⟩) /\ (g8 < V.heap.size /\ g9 < V.heap.size) := ⟨_, rfl, below_setT (t := ⟨tk, tl, th, tm⟩) (off := 0) hBU hge9, BxT.far (u := ⟨tk, tl, th, tm⟩) (o := 0) HU8.out hne89, HU9.out.set ⟨tk, tl, th, tm⟩, two_lt (grown_sets g9 (tyC ⟨tk, tl, th, tm⟩) U 0).size hzU.1 hzU.2⟩
      rw [<- HV.out]
      clear HV
      refine hK.out _ _ (HP2.out _ hBV) (fun hHeld => ?_)
      clear hK KK
      try simp only [Act.put, p1q, p2q, p3q, p4q, p5q, p6q]
      refine wpAnyH_done (by kernel_rfl) ?_ _
      go_wp2
      go_meet
      case rel => exact ⟨g8, g9, rfl, rfl, HV8.out.1, HV9.out.1, hBV, hzV.1, hzV.2⟩
   ·go_simp
    obtain ⟨X6, g8, HY, HN, hbX6, hge8, H8X6, hz8X6⟩ : ∃ Y g, Hid (Y = X.alloc (Obj.cells #[.int .i64 0, .int .u64 0, .int .u64 0, .int .i64 0] 143)) /\ Hid (X.heap.size = g) /\ Below X.heap.size X Y /\ wc.heap.size <= g /\ Hid (BxT Y g 0 ⟨0, 0, 0, 0⟩) /\ g < Y.heap.size := ⟨_, _, rfl, rfl, (Below.refl _ _).alloc (Nat.le_refl _) _, hBX.size, ⟨⟨by go_cell, by go_cell, by go_cell, by go_cell⟩, by go_simp, by go_simp, by go_simp, by go_simp⟩, by simp⟩
    rw [<- HY.out, HN.out]
    clear HY HN
    have hBX6 := hBX.trans (hbX6.mono hBX.size)
    refine hK.out _ _ (HP2.out _ hBX6) (fun hHeld => ?_)
    clear hK KK
    try simp only [Act.put, p1q, p2q, p3q, p4q, p5q, p6q]
    refine wpAnyH_ready (rs := [7, 9]) (by kernel_rfl) (by simp) ?_
    refine (AllReadyH.cons rfl (fun KK hK => ?_) (AllReadyH.cons rfl (fun KK hK => ?_) AllReadyH.nil)) <;> rw [if_pos (by rfl)]
    ·go_simp
     go_at_call 102
     refine (lsource_as4 (i := ⟨op, d, n, b, imm⟩) HT r X6 h8 hb).mono ?_
     rintro e X7 ⟨rfl, hbX7⟩
     have hBX7 := hBX6.trans (hbX7.mono hBX6.size)
     have H8X7 : Hid (BxT X7 g8 0 ⟨0, 0, 0, 0⟩) := BxT.below H8X6.out hbX7 hz8X6
     have hz8X7 : g8 < X7.heap.size := Nat.lt_of_lt_of_le hz8X6 hbX7.size
     refine hK.out _ _ (HP2.out _ hBX7) (fun hHeld => ?_)
     clear hK KK
     try simp only [Act.put, p1q, p2q, p3q, p4q, p5q, p6q]
     refine wpAnyH_ready (rs := [9]) (by kernel_rfl) (by simp) ?_
     refine (AllReadyH.cons rfl (fun KK hK => ?_) AllReadyH.nil) <;> rw [if_pos (by rfl)]
     ·go_simp
      obtain ⟨X8, g9, HY, HN, hbX8, hge9, H9X8, hz9X8⟩ : ∃ Y g, Hid (Y = X7.alloc (Obj.cells #[.int .i64 0, .int .u64 0, .int .u64 0, .int .i64 0] 143)) /\ Hid (X7.heap.size = g) /\ Below X7.heap.size X7 Y /\ wc.heap.size <= g /\ Hid (BxT Y g 0 ⟨0, 0, 0, 0⟩) /\ g < Y.heap.size := ⟨_, _, rfl, rfl, (Below.refl _ _).alloc (Nat.le_refl _) _, hBX7.size, ⟨⟨by go_cell, by go_cell, by go_cell, by go_cell⟩, by go_simp, by go_simp, by go_simp, by go_simp⟩, by simp⟩
      have hne89 : g8 ≠ g9 := by have := HN.out; omega
      have H8X8 : Hid (BxT X8 g8 0 ⟨0, 0, 0, 0⟩) := BxT.below H8X7.out hbX8 hz8X7
      have hz8X8 : g8 < X8.heap.size := Nat.lt_of_lt_of_le hz8X7 hbX8.size
      rw [<- HY.out, HN.out]
      clear HY HN
      have hBX8 := hBX7.trans (hbX8.mono hBX7.size)
      refine hK.out _ _ (HP2.out _ hBX8) (fun hHeld => ?_)
      clear hK KK
      try simp only [Act.put, p1q, p2q, p3q, p4q, p5q, p6q]
      obtain ⟨c0, c1, c2, c3, f0, f1, f2, f3⟩ := BxT.open H8X8.out
      refine runO 10 (by kernel_rfl) rfl (by rfl) (fun KK hK => ?_)
      go_simp
      clear c0 c1 c2 c3 f0 f1 f2 f3
      obtain ⟨U, HU, hBU, HU8, HU9, hzU⟩ : ∃ U, Hid (U = (((X8.setCell ⟨g8, 0, none⟩ (.int .i64 sk)).setCell ⟨g8, 1, none⟩ (.int .u64 sl)).setCell ⟨g8, 2, none⟩ (.int .u64 sh)).setCell ⟨g8, 3, none⟩ (.int .i64 sm)) /\ Below wc.heap.size wc U /\ Hid (BxT U g8 0 ⟨sk, sl, sh, sm⟩) /\ Hid (BxT U g9 0 ⟨0, 0, 0, 0⟩) /\ (g8 < U.heap.size /\ g9 < U.heap.size) := ⟨_, rfl, below_setT (t := ⟨sk, sl, sh, sm⟩) (off := 0) hBX8 hge8, H8X8.out.set ⟨sk, sl, sh, sm⟩, BxT.far (u := ⟨sk, sl, sh, sm⟩) (o := 0) H9X8.out hne89.symm, two_lt (grown_sets g8 (tyC ⟨sk, sl, sh, sm⟩) X8 0).size hz8X8 hz9X8⟩
      rw [<- HU.out]
      clear HU
      refine hK.out _ _ (HP2.out _ hBU) (fun hHeld => ?_)
      clear hK KK
      try simp only [Act.put, p1q, p2q, p3q, p4q, p5q, p6q]
      obtain ⟨c0, c1, c2, c3, f0, f1, f2, f3⟩ := BxT.open HU9.out
      refine runO 11 (by kernel_rfl) rfl (by rfl) (fun KK hK => ?_)
      go_simp
      clear c0 c1 c2 c3 f0 f1 f2 f3
      obtain ⟨V, HV, hBV, HV8, HV9, hzV⟩ : ∃ V, Hid (V = (((U.setCell ⟨g9, 0, none⟩ (.int .i64 tk)).setCell ⟨g9, 1, none⟩ (.int .u64 tl)).setCell ⟨g9, 2, none⟩ (.int .u64 th)).setCell ⟨g9, 3, none⟩ (.int .i64 tm)) /\ Below wc.heap.size wc V /\ Hid (BxT V g8 0 ⟨sk, sl, sh, sm⟩) /\ Hid (BxT V g9 0 ⟨tk, tl, th, tm⟩) /\ (g8 < V.heap.size /\ g9 < V.heap.size) := ⟨_, rfl, below_setT (t := ⟨tk, tl, th, tm⟩) (off := 0) hBU hge9, BxT.far (u := ⟨tk, tl, th, tm⟩) (o := 0) HU8.out hne89, HU9.out.set ⟨tk, tl, th, tm⟩, two_lt (grown_sets g9 (tyC ⟨tk, tl, th, tm⟩) U 0).size hzU.1 hzU.2⟩
      rw [<- HV.out]
      clear HV
      refine hK.out _ _ (HP2.out _ hBV) (fun hHeld => ?_)
      clear hK KK
      try simp only [Act.put, p1q, p2q, p3q, p4q, p5q, p6q]
      refine wpAnyH_done (by kernel_rfl) ?_ _
      go_wp2
      go_meet
      case rel => exact ⟨g8, g9, rfl, rfl, HV8.out.1, HV9.out.1, hBV, hzV.1, hzV.2⟩
    ·go_simp
     obtain ⟨X9, g9, HY, HN, hbX9, hge9, H9X9, hz9X9⟩ : ∃ Y g, Hid (Y = X6.alloc (Obj.cells #[.int .i64 0, .int .u64 0, .int .u64 0, .int .i64 0] 143)) /\ Hid (X6.heap.size = g) /\ Below X6.heap.size X6 Y /\ wc.heap.size <= g /\ Hid (BxT Y g 0 ⟨0, 0, 0, 0⟩) /\ g < Y.heap.size := ⟨_, _, rfl, rfl, (Below.refl _ _).alloc (Nat.le_refl _) _, hBX6.size, ⟨⟨by go_cell, by go_cell, by go_cell, by go_cell⟩, by go_simp, by go_simp, by go_simp, by go_simp⟩, by simp⟩
     have hne89 : g8 ≠ g9 := by have := HN.out; omega
     have H8X9 : Hid (BxT X9 g8 0 ⟨0, 0, 0, 0⟩) := BxT.below H8X6.out hbX9 hz8X6
     have hz8X9 : g8 < X9.heap.size := Nat.lt_of_lt_of_le hz8X6 hbX9.size
     rw [<- HY.out, HN.out]
     clear HY HN
     have hBX9 := hBX6.trans (hbX9.mono hBX6.size)
     refine hK.out _ _ (HP2.out _ hBX9) (fun hHeld => ?_)
     clear hK KK
     try simp only [Act.put, p1q, p2q, p3q, p4q, p5q, p6q]
     refine wpAnyH_ready (rs := [7]) (by kernel_rfl) (by simp) ?_
     refine (AllReadyH.cons rfl (fun KK hK => ?_) AllReadyH.nil) <;> rw [if_pos (by rfl)]
     ·go_simp
      go_at_call 102
      refine (lsource_as4 (i := ⟨op, d, n, b, imm⟩) HT r X9 h8 hb).mono ?_
      rintro e X10 ⟨rfl, hbX10⟩
      have hBX10 := hBX9.trans (hbX10.mono hBX9.size)
      have H8X10 : Hid (BxT X10 g8 0 ⟨0, 0, 0, 0⟩) := BxT.below H8X9.out hbX10 hz8X9
      have hz8X10 : g8 < X10.heap.size := Nat.lt_of_lt_of_le hz8X9 hbX10.size
      have H9X10 : Hid (BxT X10 g9 0 ⟨0, 0, 0, 0⟩) := BxT.below H9X9.out hbX10 hz9X9
      have hz9X10 : g9 < X10.heap.size := Nat.lt_of_lt_of_le hz9X9 hbX10.size
      refine hK.out _ _ (HP2.out _ hBX10) (fun hHeld => ?_)
      clear hK KK
      try simp only [Act.put, p1q, p2q, p3q, p4q, p5q, p6q]
      obtain ⟨c0, c1, c2, c3, f0, f1, f2, f3⟩ := BxT.open H8X10.out
      refine runO 10 (by kernel_rfl) rfl (by rfl) (fun KK hK => ?_)
      go_simp
      clear c0 c1 c2 c3 f0 f1 f2 f3
      obtain ⟨U, HU, hBU, HU8, HU9, hzU⟩ : ∃ U, Hid (U = (((X10.setCell ⟨g8, 0, none⟩ (.int .i64 sk)).setCell ⟨g8, 1, none⟩ (.int .u64 sl)).setCell ⟨g8, 2, none⟩ (.int .u64 sh)).setCell ⟨g8, 3, none⟩ (.int .i64 sm)) /\ Below wc.heap.size wc U /\ Hid (BxT U g8 0 ⟨sk, sl, sh, sm⟩) /\ Hid (BxT U g9 0 ⟨0, 0, 0, 0⟩) /\ (g8 < U.heap.size /\ g9 < U.heap.size) := ⟨_, rfl, below_setT (t := ⟨sk, sl, sh, sm⟩) (off := 0) hBX10 hge8, H8X10.out.set ⟨sk, sl, sh, sm⟩, BxT.far (u := ⟨sk, sl, sh, sm⟩) (o := 0) H9X10.out hne89.symm, two_lt (grown_sets g8 (tyC ⟨sk, sl, sh, sm⟩) X10 0).size hz8X10 hz9X10⟩
      rw [<- HU.out]
      clear HU
      refine hK.out _ _ (HP2.out _ hBU) (fun hHeld => ?_)
      clear hK KK
      try simp only [Act.put, p1q, p2q, p3q, p4q, p5q, p6q]
      obtain ⟨c0, c1, c2, c3, f0, f1, f2, f3⟩ := BxT.open HU9.out
      refine runO 11 (by kernel_rfl) rfl (by rfl) (fun KK hK => ?_)
      go_simp
      clear c0 c1 c2 c3 f0 f1 f2 f3
      obtain ⟨V, HV, hBV, HV8, HV9, hzV⟩ : ∃ V, Hid (V = (((U.setCell ⟨g9, 0, none⟩ (.int .i64 tk)).setCell ⟨g9, 1, none⟩ (.int .u64 tl)).setCell ⟨g9, 2, none⟩ (.int .u64 th)).setCell ⟨g9, 3, none⟩ (.int .i64 tm)) /\ Below wc.heap.size wc V /\ Hid (BxT V g8 0 ⟨sk, sl, sh, sm⟩) /\ Hid (BxT V g9 0 ⟨tk, tl, th, tm⟩) /\ (g8 < V.heap.size /\ g9 < V.heap.size) := ⟨_, rfl, below_setT (t := ⟨tk, tl, th, tm⟩) (off := 0) hBU hge9, BxT.far (u := ⟨tk, tl, th, tm⟩) (o := 0) HU8.out hne89, HU9.out.set ⟨tk, tl, th, tm⟩, two_lt (grown_sets g9 (tyC ⟨tk, tl, th, tm⟩) U 0).size hzU.1 hzU.2⟩
      rw [<- HV.out]
      clear HV
      refine hK.out _ _ (HP2.out _ hBV) (fun hHeld => ?_)
      clear hK KK
      try simp only [Act.put, p1q, p2q, p3q, p4q, p5q, p6q]
      refine wpAnyH_done (by kernel_rfl) ?_ _
      go_wp2
      go_meet
      case rel => exact ⟨g8, g9, rfl, rfl, HV8.out.1, HV9.out.1, hBV, hzV.1, hzV.2⟩
   ·go_simp
    obtain ⟨X11, g9, HY, HN, hbX11, hge9, H9X11, hz9X11⟩ : ∃ Y g, Hid (Y = X.alloc (Obj.cells #[.int .i64 0, .int .u64 0, .int .u64 0, .int .i64 0] 143)) /\ Hid (X.heap.size = g) /\ Below X.heap.size X Y /\ wc.heap.size <= g /\ Hid (BxT Y g 0 ⟨0, 0, 0, 0⟩) /\ g < Y.heap.size := ⟨_, _, rfl, rfl, (Below.refl _ _).alloc (Nat.le_refl _) _, hBX.size, ⟨⟨by go_cell, by go_cell, by go_cell, by go_cell⟩, by go_simp, by go_simp, by go_simp, by go_simp⟩, by simp⟩
    rw [<- HY.out, HN.out]
    clear HY HN
    have hBX11 := hBX.trans (hbX11.mono hBX.size)
    refine hK.out _ _ (HP2.out _ hBX11) (fun hHeld => ?_)
    clear hK KK
    try simp only [Act.put, p1q, p2q, p3q, p4q, p5q, p6q]
    refine wpAnyH_ready (rs := [7, 8]) (by kernel_rfl) (by simp) ?_
    refine (AllReadyH.cons rfl (fun KK hK => ?_) (AllReadyH.cons rfl (fun KK hK => ?_) AllReadyH.nil)) <;> rw [if_pos (by rfl)]
    ·go_simp
     go_at_call 102
     refine (lsource_as4 (i := ⟨op, d, n, b, imm⟩) HT r X11 h8 hb).mono ?_
     rintro e X12 ⟨rfl, hbX12⟩
     have hBX12 := hBX11.trans (hbX12.mono hBX11.size)
     have H9X12 : Hid (BxT X12 g9 0 ⟨0, 0, 0, 0⟩) := BxT.below H9X11.out hbX12 hz9X11
     have hz9X12 : g9 < X12.heap.size := Nat.lt_of_lt_of_le hz9X11 hbX12.size
     refine hK.out _ _ (HP2.out _ hBX12) (fun hHeld => ?_)
     clear hK KK
     try simp only [Act.put, p1q, p2q, p3q, p4q, p5q, p6q]
     refine wpAnyH_ready (rs := [8]) (by kernel_rfl) (by simp) ?_
     refine (AllReadyH.cons rfl (fun KK hK => ?_) AllReadyH.nil) <;> rw [if_pos (by rfl)]
     ·go_simp
      obtain ⟨X13, g8, HY, HN, hbX13, hge8, H8X13, hz8X13⟩ : ∃ Y g, Hid (Y = X12.alloc (Obj.cells #[.int .i64 0, .int .u64 0, .int .u64 0, .int .i64 0] 143)) /\ Hid (X12.heap.size = g) /\ Below X12.heap.size X12 Y /\ wc.heap.size <= g /\ Hid (BxT Y g 0 ⟨0, 0, 0, 0⟩) /\ g < Y.heap.size := ⟨_, _, rfl, rfl, (Below.refl _ _).alloc (Nat.le_refl _) _, hBX12.size, ⟨⟨by go_cell, by go_cell, by go_cell, by go_cell⟩, by go_simp, by go_simp, by go_simp, by go_simp⟩, by simp⟩
      have hne98 : g9 ≠ g8 := by have := HN.out; omega
      have H9X13 : Hid (BxT X13 g9 0 ⟨0, 0, 0, 0⟩) := BxT.below H9X12.out hbX13 hz9X12
      have hz9X13 : g9 < X13.heap.size := Nat.lt_of_lt_of_le hz9X12 hbX13.size
      rw [<- HY.out, HN.out]
      clear HY HN
      have hBX13 := hBX12.trans (hbX13.mono hBX12.size)
      refine hK.out _ _ (HP2.out _ hBX13) (fun hHeld => ?_)
      clear hK KK
      try simp only [Act.put, p1q, p2q, p3q, p4q, p5q, p6q]
      have hne89 : g8 ≠ g9 := hne98.symm
      obtain ⟨c0, c1, c2, c3, f0, f1, f2, f3⟩ := BxT.open H8X13.out
      refine runO 10 (by kernel_rfl) rfl (by rfl) (fun KK hK => ?_)
      go_simp
      clear c0 c1 c2 c3 f0 f1 f2 f3
      obtain ⟨U, HU, hBU, HU8, HU9, hzU⟩ : ∃ U, Hid (U = (((X13.setCell ⟨g8, 0, none⟩ (.int .i64 sk)).setCell ⟨g8, 1, none⟩ (.int .u64 sl)).setCell ⟨g8, 2, none⟩ (.int .u64 sh)).setCell ⟨g8, 3, none⟩ (.int .i64 sm)) /\ Below wc.heap.size wc U /\ Hid (BxT U g8 0 ⟨sk, sl, sh, sm⟩) /\ Hid (BxT U g9 0 ⟨0, 0, 0, 0⟩) /\ (g8 < U.heap.size /\ g9 < U.heap.size) := ⟨_, rfl, below_setT (t := ⟨sk, sl, sh, sm⟩) (off := 0) hBX13 hge8, H8X13.out.set ⟨sk, sl, sh, sm⟩, BxT.far (u := ⟨sk, sl, sh, sm⟩) (o := 0) H9X13.out hne89.symm, two_lt (grown_sets g8 (tyC ⟨sk, sl, sh, sm⟩) X13 0).size hz8X13 hz9X13⟩
      rw [<- HU.out]
      clear HU
      refine hK.out _ _ (HP2.out _ hBU) (fun hHeld => ?_)
      clear hK KK
      try simp only [Act.put, p1q, p2q, p3q, p4q, p5q, p6q]
      obtain ⟨c0, c1, c2, c3, f0, f1, f2, f3⟩ := BxT.open HU9.out
      refine runO 11 (by kernel_rfl) rfl (by rfl) (fun KK hK => ?_)
      go_simp
      clear c0 c1 c2 c3 f0 f1 f2 f3
      obtain ⟨V, HV, hBV, HV8, HV9, hzV⟩ : ∃ V, Hid (V = (((U.setCell ⟨g9, 0, none⟩ (.int .i64 tk)).setCell ⟨g9, 1, none⟩ (.int .u64 tl)).setCell ⟨g9, 2, none⟩ (.int .u64 th)).setCell ⟨g9, 3, none⟩ (.int .i64 tm)) /\ Below wc.heap.size wc V /\ Hid (BxT V g8 0 ⟨sk, sl, sh, sm⟩) /\ Hid (BxT V g9 0 ⟨tk, tl, th, tm⟩) /\ (g8 < V.heap.size /\ g9 < V.heap.size) := ⟨_, rfl, below_setT (t := ⟨tk, tl, th, tm⟩) (off := 0) hBU hge9, BxT.far (u := ⟨tk, tl, th, tm⟩) (o := 0) HU8.out hne89, HU9.out.set ⟨tk, tl, th, tm⟩, two_lt (grown_sets g9 (tyC ⟨tk, tl, th, tm⟩) U 0).size hzU.1 hzU.2⟩
      rw [<- HV.out]
      clear HV
      refine hK.out _ _ (HP2.out _ hBV) (fun hHeld => ?_)
      clear hK KK
      try simp only [Act.put, p1q, p2q, p3q, p4q, p5q, p6q]
      refine wpAnyH_done (by kernel_rfl) ?_ _
      go_wp2
      go_meet
      case rel => exact ⟨g8, g9, rfl, rfl, HV8.out.1, HV9.out.1, hBV, hzV.1, hzV.2⟩
    ·go_simp
     obtain ⟨X14, g8, HY, HN, hbX14, hge8, H8X14, hz8X14⟩ : ∃ Y g, Hid (Y = X11.alloc (Obj.cells #[.int .i64 0, .int .u64 0, .int .u64 0, .int .i64 0] 143)) /\ Hid (X11.heap.size = g) /\ Below X11.heap.size X11 Y /\ wc.heap.size <= g /\ Hid (BxT Y g 0 ⟨0, 0, 0, 0⟩) /\ g < Y.heap.size := ⟨_, _, rfl, rfl, (Below.refl _ _).alloc (Nat.le_refl _) _, hBX11.size, ⟨⟨by go_cell, by go_cell, by go_cell, by go_cell⟩, by go_simp, by go_simp, by go_simp, by go_simp⟩, by simp⟩
     have hne98 : g9 ≠ g8 := by have := HN.out; omega
     have H9X14 : Hid (BxT X14 g9 0 ⟨0, 0, 0, 0⟩) := BxT.below H9X11.out hbX14 hz9X11
     have hz9X14 : g9 < X14.heap.size := Nat.lt_of_lt_of_le hz9X11 hbX14.size
     rw [<- HY.out, HN.out]
     clear HY HN
     have hBX14 := hBX11.trans (hbX14.mono hBX11.size)
     refine hK.out _ _ (HP2.out _ hBX14) (fun hHeld => ?_)
     clear hK KK
     try simp only [Act.put, p1q, p2q, p3q, p4q, p5q, p6q]
     refine wpAnyH_ready (rs := [7]) (by kernel_rfl) (by simp) ?_
     refine (AllReadyH.cons rfl (fun KK hK => ?_) AllReadyH.nil) <;> rw [if_pos (by rfl)]
     ·go_simp
      go_at_call 102
      refine (lsource_as4 (i := ⟨op, d, n, b, imm⟩) HT r X14 h8 hb).mono ?_
      rintro e X15 ⟨rfl, hbX15⟩
      have hBX15 := hBX14.trans (hbX15.mono hBX14.size)
      have H9X15 : Hid (BxT X15 g9 0 ⟨0, 0, 0, 0⟩) := BxT.below H9X14.out hbX15 hz9X14
      have hz9X15 : g9 < X15.heap.size := Nat.lt_of_lt_of_le hz9X14 hbX15.size
      have H8X15 : Hid (BxT X15 g8 0 ⟨0, 0, 0, 0⟩) := BxT.below H8X14.out hbX15 hz8X14
      have hz8X15 : g8 < X15.heap.size := Nat.lt_of_lt_of_le hz8X14 hbX15.size
      refine hK.out _ _ (HP2.out _ hBX15) (fun hHeld => ?_)
      clear hK KK
      try simp only [Act.put, p1q, p2q, p3q, p4q, p5q, p6q]
      have hne89 : g8 ≠ g9 := hne98.symm
      obtain ⟨c0, c1, c2, c3, f0, f1, f2, f3⟩ := BxT.open H8X15.out
      refine runO 10 (by kernel_rfl) rfl (by rfl) (fun KK hK => ?_)
      go_simp
      clear c0 c1 c2 c3 f0 f1 f2 f3
      obtain ⟨U, HU, hBU, HU8, HU9, hzU⟩ : ∃ U, Hid (U = (((X15.setCell ⟨g8, 0, none⟩ (.int .i64 sk)).setCell ⟨g8, 1, none⟩ (.int .u64 sl)).setCell ⟨g8, 2, none⟩ (.int .u64 sh)).setCell ⟨g8, 3, none⟩ (.int .i64 sm)) /\ Below wc.heap.size wc U /\ Hid (BxT U g8 0 ⟨sk, sl, sh, sm⟩) /\ Hid (BxT U g9 0 ⟨0, 0, 0, 0⟩) /\ (g8 < U.heap.size /\ g9 < U.heap.size) := ⟨_, rfl, below_setT (t := ⟨sk, sl, sh, sm⟩) (off := 0) hBX15 hge8, H8X15.out.set ⟨sk, sl, sh, sm⟩, BxT.far (u := ⟨sk, sl, sh, sm⟩) (o := 0) H9X15.out hne89.symm, two_lt (grown_sets g8 (tyC ⟨sk, sl, sh, sm⟩) X15 0).size hz8X15 hz9X15⟩
      rw [<- HU.out]
      clear HU
      refine hK.out _ _ (HP2.out _ hBU) (fun hHeld => ?_)
      clear hK KK
      try simp only [Act.put, p1q, p2q, p3q, p4q, p5q, p6q]
      obtain ⟨c0, c1, c2, c3, f0, f1, f2, f3⟩ := BxT.open HU9.out
      refine runO 11 (by kernel_rfl) rfl (by rfl) (fun KK hK => ?_)
      go_simp
      clear c0 c1 c2 c3 f0 f1 f2 f3
      obtain ⟨V, HV, hBV, HV8, HV9, hzV⟩ : ∃ V, Hid (V = (((U.setCell ⟨g9, 0, none⟩ (.int .i64 tk)).setCell ⟨g9, 1, none⟩ (.int .u64 tl)).setCell ⟨g9, 2, none⟩ (.int .u64 th)).setCell ⟨g9, 3, none⟩ (.int .i64 tm)) /\ Below wc.heap.size wc V /\ Hid (BxT V g8 0 ⟨sk, sl, sh, sm⟩) /\ Hid (BxT V g9 0 ⟨tk, tl, th, tm⟩) /\ (g8 < V.heap.size /\ g9 < V.heap.size) := ⟨_, rfl, below_setT (t := ⟨tk, tl, th, tm⟩) (off := 0) hBU hge9, BxT.far (u := ⟨tk, tl, th, tm⟩) (o := 0) HU8.out hne89, HU9.out.set ⟨tk, tl, th, tm⟩, two_lt (grown_sets g9 (tyC ⟨tk, tl, th, tm⟩) U 0).size hzU.1 hzU.2⟩
      rw [<- HV.out]
      clear HV
      refine hK.out _ _ (HP2.out _ hBV) (fun hHeld => ?_)
      clear hK KK
      try simp only [Act.put, p1q, p2q, p3q, p4q, p5q, p6q]
      refine wpAnyH_done (by kernel_rfl) ?_ _
      go_wp2
      go_meet
      case rel => exact ⟨g8, g9, rfl, rfl, HV8.out.1, HV9.out.1, hBV, hzV.1, hzV.2⟩
 case first =>
  refine wp_region_held_drew (S := fun w' => w'.cell? ⟨qb, 1, none⟩ = some (.slice (some ⟨cb, co, none⟩) xs.length ccap) /\ w'.cell? ⟨qb, 3, none⟩ = some (.slice (some ⟨kb, 0, none⟩) xs.length xs.length) /\ w'.cell? ⟨cb, co + p * 5, none⟩ = some (.int .i64 op) /\ w'.cell? ⟨cb, co + p * 5 + 1, none⟩ = some (.int .i64 d) /\ w'.cell? ⟨cb, co + p * 5 + 2, none⟩ = some (.int .i64 n) /\ w'.cell? ⟨cb, co + p * 5 + 3, none⟩ = some (.int .i64 b) /\ w'.cell? ⟨cb, co + p * 5 + 4, none⟩ = some (.int .i64 imm) /\ StAt w' kb (p * 33) r s) (by kernel_rfl) (HP.out _ (Below.refl _ _).drew) (fun hHeld => ?_)
  refine tkGo [0, 1, 2, 3, 4, 5, 6, 7, 8, 9, 10, 11, 12] ?_
  repeat (refine tkO (v := ?_) rfl ?_ ?_; rotate_left; (intro wy hSw; (try dsimp only at hSw); go_simp; (first | done | with_reducible rfl)); try simp only [Act.put, p1q, p2q, p3q, p4q, p5q, p6q])
  refine tkEnd ?_
  refine wpAnyH_take (i := 13) rfl (by kernel_rfl) (by kernel_rfl) (by kernel_rfl) (fun _ _ _ h => h) (yieldsIf_load_mid (by rfl) _ _ rfl _ _ rfl (stC r s) _ (fun w h => h.2.2.2.2.2.2.2) Tryz.underlying146 rfl (sizeJ h8)) (by assumption) ?_
  try simp only [Act.put, p1q, p2q, p3q, p4q, p5q, p6q]
  refine runT 14 15 (by kernel_rfl) rfl rfl (by rfl) (by rfl) (fun KK hK => ?_) (fun KK hK => ?_)
  ·go_simp
   refine hK.out _ _ (HP.out _ ((Below.refl _ _).alloc (Nat.le_refl _) _).drew) (fun hHeld => ?_)
   clear hK KK
   try simp only [Act.put, p1q, p2q, p3q, p4q, p5q, p6q]
   refine runO 15 (by kernel_rfl) rfl (by rfl) (fun KK hK => ?_)
   go_simp
   obtain ⟨Y, HY, HiY, HsY, hbY, hzY⟩ : ∃ Y, Hid (Y = (w.alloc (Obj.cells #[.int .i64 0, .int .i64 0, .int .i64 0, .int .i64 0, .int .i64 0] 74)).alloc (Obj.cells #[.bool false, .int .i64 0, .int .u64 0, .int .u64 0, .int .i64 0, .int .i64 0, .int .u64 0, .int .u64 0, .int .i64 0, .int .i64 0, .int .u64 0, .int .u64 0, .int .i64 0, .int .i64 0, .int .u64 0, .int .u64 0, .int .i64 0, .int .i64 0, .int .u64 0, .int .u64 0, .int .i64 0, .int .i64 0, .int .u64 0, .int .u64 0, .int .i64 0, .int .i64 0, .int .u64 0, .int .u64 0, .int .i64 0, .int .i64 0, .int .u64 0, .int .u64 0, .int .i64 0] 146)) /\ Hid (Hp Y w.heap.size 74 (inC ⟨0, 0, 0, 0, 0⟩)) /\ Hid (Hp Y (w.heap.size + 1) 146 zeroC) /\ Below w.heap.size w Y /\ w.heap.size + 2 <= Y.heap.size := ⟨_, rfl, (Hp.new w (inC ⟨0, 0, 0, 0, 0⟩) _).alloc _, keepJ (by have := Hp.new (w.alloc (Obj.cells #[.int .i64 0, .int .i64 0, .int .i64 0, .int .i64 0, .int .i64 0] 74)) zeroC 146; simpa [zeroC] using this), by go_grown, by simp⟩
   rw [<- HY.out]
   clear HY
   refine hK.out _ _ (HP.out _ hbY.drew) (fun hHeld => ?_)
   clear hK KK
   try simp only [Act.put, p1q, p2q, p3q, p4q, p5q, p6q]
   have n0 : Y.cell? ⟨w.heap.size, 0, none⟩ = some (.int .i64 0) := HiY.out.cell rfl
   have f0 := HiY.out.frozen 0
   have n1 : Y.cell? ⟨w.heap.size, 1, none⟩ = some (.int .i64 0) := HiY.out.cell rfl
   have f1 := HiY.out.frozen 1
   have n2 : Y.cell? ⟨w.heap.size, 2, none⟩ = some (.int .i64 0) := HiY.out.cell rfl
   have f2 := HiY.out.frozen 2
   have n3 : Y.cell? ⟨w.heap.size, 3, none⟩ = some (.int .i64 0) := HiY.out.cell rfl
   have f3 := HiY.out.frozen 3
   have n4 : Y.cell? ⟨w.heap.size, 4, none⟩ = some (.int .i64 0) := HiY.out.cell rfl
   have f4 := HiY.out.frozen 4
   refine runO 16 (by kernel_rfl) rfl (by rfl) (fun KK hK => ?_)
   go_simp
   clear n0 n1 n2 n3 n4 f0 f1 f2 f3 f4
   obtain ⟨V, HV, HiV, HsV, hbV, hzV⟩ : ∃ V, Hid (V = (((((Y.setCell ⟨w.heap.size, 0, none⟩ (.int .i64 op)).setCell ⟨w.heap.size, 1, none⟩ (.int .i64 d)).setCell ⟨w.heap.size, 2, none⟩ (.int .i64 n)).setCell ⟨w.heap.size, 3, none⟩ (.int .i64 b)).setCell ⟨w.heap.size, 4, none⟩ (.int .i64 imm))) /\ Hid (Hp V w.heap.size 74 (inC ⟨op, d, n, b, imm⟩)) /\ Hid (Hp V (w.heap.size + 1) 146 zeroC) /\ Below w.heap.size w V /\ w.heap.size + 2 <= V.heap.size := ⟨_, rfl, HiY.out.sets (inC ⟨op, d, n, b, imm⟩) 0, HsY.out.fars (by omega) (inC ⟨op, d, n, b, imm⟩) 0, hbY.trans (grown_to_below (grown_sets _ (inC ⟨op, d, n, b, imm⟩) Y 0) (by omega) hbY.size), Nat.le_trans hzY (grown_sets _ (inC ⟨op, d, n, b, imm⟩) Y 0).size⟩
   rw [<- HV.out]
   clear HV HiY HsY
   refine hK.out _ _ (HP.out _ hbV.drew) (fun hHeld => ?_)
   clear hK KK
   try simp only [Act.put, p1q, p2q, p3q, p4q, p5q, p6q]
   refine runO 17 (by kernel_rfl) rfl (by rfl) (fun KK hK => ?_)
   have HTH : V.drew.there (w.heap.size + 1) 0 (stC r s).toArray.size := by rw [stC_size r h8]; exact HsV.out.drew.there (by rw [zeroC_len]; omega)
   refine wp_store_mid _ _ _ rfl _ _ (List.toArray _) rfl rfl HTH (sizeJA h8) (stC_all r s) ?_
   have hbU : Below w.heap.size w (V.drew.setCells (w.heap.size + 1) 0 (stC r s)) := (hbV.drew).trans (grown_to_below (grown_sets _ _ _ _) (by omega) (show w.heap.size <= V.heap.size by omega))
   refine hK.out _ _ (HP.out _ hbU) (fun hHeld => ?_)
   clear hK KK
   try simp only [Act.put, p1q, p2q, p3q, p4q, p5q, p6q]
   refine wpAnyH_done (by kernel_rfl) ?_ _
   go_wp2
   go_meet
   case rel => exact ⟨w.heap.size, (w.heap.size + 1), rfl, rfl, HiV.out.drew.fars (by omega) _ _, HsV.out.drew.box zeroC_len h8, hbU, by omega, by omega, by omega⟩
  ·go_simp
   refine hK.out _ _ (HP.out _ ((Below.refl _ _).alloc (Nat.le_refl _) _).drew) (fun hHeld => ?_)
   clear hK KK
   try simp only [Act.put, p1q, p2q, p3q, p4q, p5q, p6q]
   refine runO 14 (by kernel_rfl) rfl (by rfl) (fun KK hK => ?_)
   go_simp
   obtain ⟨Y, HY, HiY, HsY, hbY, hzY⟩ : ∃ Y, Hid (Y = (w.alloc (Obj.cells #[.bool false, .int .i64 0, .int .u64 0, .int .u64 0, .int .i64 0, .int .i64 0, .int .u64 0, .int .u64 0, .int .i64 0, .int .i64 0, .int .u64 0, .int .u64 0, .int .i64 0, .int .i64 0, .int .u64 0, .int .u64 0, .int .i64 0, .int .i64 0, .int .u64 0, .int .u64 0, .int .i64 0, .int .i64 0, .int .u64 0, .int .u64 0, .int .i64 0, .int .i64 0, .int .u64 0, .int .u64 0, .int .i64 0, .int .i64 0, .int .u64 0, .int .u64 0, .int .i64 0] 146)).alloc (Obj.cells #[.int .i64 0, .int .i64 0, .int .i64 0, .int .i64 0, .int .i64 0] 74)) /\ Hid (Hp Y (w.heap.size + 1) 74 (inC ⟨0, 0, 0, 0, 0⟩)) /\ Hid (Hp Y w.heap.size 146 zeroC) /\ Below w.heap.size w Y /\ w.heap.size + 2 <= Y.heap.size := ⟨_, rfl, keepJ (by have := Hp.new (w.alloc (Obj.cells #[.bool false, .int .i64 0, .int .u64 0, .int .u64 0, .int .i64 0, .int .i64 0, .int .u64 0, .int .u64 0, .int .i64 0, .int .i64 0, .int .u64 0, .int .u64 0, .int .i64 0, .int .i64 0, .int .u64 0, .int .u64 0, .int .i64 0, .int .i64 0, .int .u64 0, .int .u64 0, .int .i64 0, .int .i64 0, .int .u64 0, .int .u64 0, .int .i64 0, .int .i64 0, .int .u64 0, .int .u64 0, .int .i64 0, .int .i64 0, .int .u64 0, .int .u64 0, .int .i64 0] 146)) (inC ⟨0, 0, 0, 0, 0⟩) 74; simpa [inC] using this), (Hp.new w zeroC _).alloc _, by go_grown, by simp⟩
   rw [<- HY.out]
   clear HY
   refine hK.out _ _ (HP.out _ hbY.drew) (fun hHeld => ?_)
   clear hK KK
   try simp only [Act.put, p1q, p2q, p3q, p4q, p5q, p6q]
   have n0 : Y.cell? ⟨(w.heap.size + 1), 0, none⟩ = some (.int .i64 0) := HiY.out.cell rfl
   have f0 := HiY.out.frozen 0
   have n1 : Y.cell? ⟨(w.heap.size + 1), 1, none⟩ = some (.int .i64 0) := HiY.out.cell rfl
   have f1 := HiY.out.frozen 1
   have n2 : Y.cell? ⟨(w.heap.size + 1), 2, none⟩ = some (.int .i64 0) := HiY.out.cell rfl
   have f2 := HiY.out.frozen 2
   have n3 : Y.cell? ⟨(w.heap.size + 1), 3, none⟩ = some (.int .i64 0) := HiY.out.cell rfl
   have f3 := HiY.out.frozen 3
   have n4 : Y.cell? ⟨(w.heap.size + 1), 4, none⟩ = some (.int .i64 0) := HiY.out.cell rfl
   have f4 := HiY.out.frozen 4
   refine runO 16 (by kernel_rfl) rfl (by rfl) (fun KK hK => ?_)
   go_simp
   clear n0 n1 n2 n3 n4 f0 f1 f2 f3 f4
   obtain ⟨V, HV, HiV, HsV, hbV, hzV⟩ : ∃ V, Hid (V = (((((Y.setCell ⟨(w.heap.size + 1), 0, none⟩ (.int .i64 op)).setCell ⟨(w.heap.size + 1), 1, none⟩ (.int .i64 d)).setCell ⟨(w.heap.size + 1), 2, none⟩ (.int .i64 n)).setCell ⟨(w.heap.size + 1), 3, none⟩ (.int .i64 b)).setCell ⟨(w.heap.size + 1), 4, none⟩ (.int .i64 imm))) /\ Hid (Hp V (w.heap.size + 1) 74 (inC ⟨op, d, n, b, imm⟩)) /\ Hid (Hp V w.heap.size 146 zeroC) /\ Below w.heap.size w V /\ w.heap.size + 2 <= V.heap.size := ⟨_, rfl, HiY.out.sets (inC ⟨op, d, n, b, imm⟩) 0, HsY.out.fars (by omega) (inC ⟨op, d, n, b, imm⟩) 0, hbY.trans (grown_to_below (grown_sets _ (inC ⟨op, d, n, b, imm⟩) Y 0) (by omega) hbY.size), Nat.le_trans hzY (grown_sets _ (inC ⟨op, d, n, b, imm⟩) Y 0).size⟩
   rw [<- HV.out]
   clear HV HiY HsY
   refine hK.out _ _ (HP.out _ hbV.drew) (fun hHeld => ?_)
   clear hK KK
   try simp only [Act.put, p1q, p2q, p3q, p4q, p5q, p6q]
   refine runO 17 (by kernel_rfl) rfl (by rfl) (fun KK hK => ?_)
   have HTH : V.drew.there w.heap.size 0 (stC r s).toArray.size := by rw [stC_size r h8]; exact HsV.out.drew.there (by rw [zeroC_len]; omega)
   refine wp_store_mid _ _ _ rfl _ _ (List.toArray _) rfl rfl HTH (sizeJA h8) (stC_all r s) ?_
   have hbU : Below w.heap.size w (V.drew.setCells w.heap.size 0 (stC r s)) := (hbV.drew).trans (grown_to_below (grown_sets _ _ _ _) (by omega) (show w.heap.size <= V.heap.size by omega))
   refine hK.out _ _ (HP.out _ hbU) (fun hHeld => ?_)
   clear hK KK
   try simp only [Act.put, p1q, p2q, p3q, p4q, p5q, p6q]
   refine wpAnyH_done (by kernel_rfl) ?_ _
   go_wp2
   go_meet
   case rel => exact ⟨(w.heap.size + 1), w.heap.size, rfl, rfl, HiV.out.drew.fars (by omega) _ _, HsV.out.drew.box zeroC_len h8, hbU, by omega, by omega, by omega⟩
def blurI (s : St) (i : In) : St := if i.wr.2 = true then s.set i.wr.1.toNat (blurT (s.getD i.wr.1.toNat Ty.nil)) else s
def segI (xs : List In) (p M : Nat) : List In := (xs.drop p).take M
def blurOne (xs : List In) (p : Nat) (s : St) (l : Lp) : St := if l.h = p then (segI xs p (l.t + 1 - p).toNat).foldl blurI s else s
def blurAll (xs : List In) (p : Nat) (ls : List Lp) (s : St) : St := ls.foldl (blurOne xs p) s
theorem made_blurT (nm : Nat) (t : Ty) : Made nm (blurT t) := by
 unfold blurT
 split
 ·exact made_full nm
 ·exact made_nil nm
theorem made_blurI {nm : Nat} {s : St} (h : Made8 nm s) (i : In) : Made8 nm (blurI s i) := by
 unfold blurI
 split
 ·exact h.set _ (made_blurT nm _)
 ·exact h
theorem made_seg {nm : Nat} (l : List In) : ∀ {s : St}, Made8 nm s -> Made8 nm (l.foldl blurI s) := by
 induction l with
 | nil => intro s h; exact h
 | cons i l ih => intro s h; exact ih (made_blurI h i)
theorem made_blurOne {nm : Nat} {xs : List In} {p : Nat} {s : St} (h : Made8 nm s) (l : Lp) : Made8 nm (blurOne xs p s l) := by
 unfold blurOne
 split
 ·exact made_seg _ h
 ·exact h
theorem made_blurAll {nm : Nat} {xs : List In} {p : Nat} (ls : List Lp) : ∀ {s : St}, Made8 nm s -> Made8 nm (blurAll xs p ls s) := by
 unfold blurAll
 induction ls with
 | nil => intro s h; exact h
 | cons i l ih => intro s h; exact ih (made_blurOne h i)
theorem fold_take {α β : Type} (f : β -> α -> β) (l : List α) (b : β) {k : Nat} (hk : k < l.length) (d : α) : (l.take (k + 1)).foldl f b = f ((l.take k).foldl f b) (l.getD k d) := by
 rw [List.take_add_one, List.foldl_append]
 simp [List.getElem?_eq_getElem hk, List.getD]
theorem fold_all {α β : Type} (f : β -> α -> β) (l : List α) (b : β) : (l.take l.length).foldl f b = l.foldl f b := by rw [List.take_length]
theorem seg_len {xs : List In} {p M : Nat} (h : p + M <= xs.length) : (segI xs p M).length = M := by simp [segI]; omega
theorem seg_at {xs : List In} {p M m : Nat} (hm : m < M) : (segI xs p M).getD m In.nil = nth xs (p + m) := by
 simp [segI, List.getD, List.getElem?_take, hm]
theorem lblurred_as {k lo hi m k' lo' hi' m' : Int} (h : Hid (blurT ⟨k, lo, hi, m⟩ = ⟨k', lo', hi', m'⟩)) (w : World) : Calls Tryz.prog 101 #[.agg #[.int .i64 k, .int .u64 lo, .int .u64 hi, .int .i64 m]] w fun e w' => e = .returned (.agg #[.int .i64 k', .int .u64 lo', .int .u64 hi', .int .i64 m']) /\ Below w.heap.size w w' := by
 have := lblurred_any ⟨k, lo, hi, m⟩ w
 rw [h.out] at this
 exact this
theorem Inq.loop {w0 w : World} {qb kb nm cb co ccap : Nat} {la : Option Addr} {lcap : Nat} {xs : List In} {ls : List Lp} {K : Kn} (h : Inq w0 w qb kb nm (.slice la ls.length lcap) cb co ccap xs ls K) {k : Nat} (hk : k < ls.length) : ∃ lb lo, la = some ⟨lb, lo, none⟩ /\ lb < w0.heap.size /\ AtL w lb (lo + k * 3) (ls.getD k Lp.nil) /\ ls.length <= lcap /\ lcap <= 9223372036854775807 := by
 obtain ⟨a, cap, hv, h1, h2, h3, h4⟩ := h.lo
 injection hv with e1 e2 e3
 subst e1 e3
 obtain ⟨b, off, he, hlt, hat⟩ := h4 (fun e => by rw [e] at hk; simp at hk)
 exact ⟨b, off, he, hlt, (hat k hk).below h.b0 hlt, h1, by unfold maxLen at h2; omega⟩
def LpIn (xs : List In) (ls : List Lp) : Prop := ∀ l ∈ ls, 0 <= l.h /\ l.h <= l.t /\ l.t < xs.length
set_option maxHeartbeats 3200000 in
theorem lblur_core (w0 w : World) (qb kb nm cb co ccap p : Nat) (la : Option Addr) (lcap : Nat) (xs : List In) (ls : List Lp) (K : Kn) (h : Inq w0 w qb kb nm (.slice la ls.length lcap) cb co ccap xs ls K) (hp : p < xs.length) (h64 : xs.length <= 64) (hr : ∀ i ∈ xs, i.right = true) (hL : LpIn xs ls) (r : Bool) (s : St) (HK : Hid (K.getD p kn0 = (r, s))) (hs : Made8 nm s) :
  Calls Tryz.prog 82 #[.pointer (some ⟨qb, 0, none⟩), .int .i64 p] w fun e w' => e = .returned (.tuple #[]) /\ Inq w0 w' qb kb nm (.slice la ls.length lcap) cb co ccap xs ls (K.set p (r, blurAll xs p ls s)) := by
 have HQ := keepJ h
 have HR := keepJ hr
 have HLP := keepJ hL
 have HS := keepJ hs
 have HPX := keepJ hp
 have q2 : w.cell? ⟨qb, 2, none⟩ = some (.slice la ls.length lcap) := h.q.cell rfl
 have hp64 : (p : Int) < 64 := by omega
 have hlen : p < K.length := by rw [h.len]; exact hp
 have HPK := keepJ hlen
 have hx64 : (xs.length : Int) <= 64 := by omega
 clear h hr hL hs hlen
 go_enter Tryz.func82, Tryz.ntmps82
 go_wp2
 clear q2
 go_loopw [15] (fun i wr => ∃ k : Nat, k <= ls.length /\ i = .int .i64 k /\ Hid (Inq w0 wr qb kb nm (.slice la ls.length lcap) cb co ccap xs ls (K.set p (r, (ls.take k).foldl (blurOne xs p) s)))) (fun i _ => ls.length - (intOf i).toNat)
 case atStart => exact ⟨0, by omega, rfl, by show Inq _ _ _ _ _ _ _ _ _ _ _ _; simp only [List.take_zero, List.foldl_nil]; rw [<- HK.out, kn_self]; exact HQ.out⟩
 case round =>
  obtain ⟨k, hk, rfl, HI⟩ := hrel
  by_cases hlt : k < ls.length
  ·obtain ⟨lb, lo, rfl, hlb, hal, hlc, hlm⟩ := HI.out.loop hlt
   obtain ⟨lh, lt, lbd, HL⟩ : ∃ a b c, Hid (ls.getD k Lp.nil = ⟨a, b, c⟩) := ⟨_, _, _, rfl⟩
   have hmem : ls.getD k Lp.nil ∈ ls := by rw [show ls.getD k Lp.nil = ls[k] by simp [List.getD, List.getElem?_eq_getElem hlt]]; exact List.getElem_mem hlt
   have hin := HLP.out _ hmem
   rw [HL.out] at hal hin
   obtain ⟨l0, l1, l2⟩ := hal
   simp only at l0 l1 l2 hin
   obtain ⟨sk, HSK⟩ : ∃ sk, Hid ((ls.take k).foldl (blurOne xs p) s = sk) := ⟨_, rfl⟩
   have HST : Hid ((ls.take (k + 1)).foldl (blurOne xs p) s = blurOne xs p sk ⟨lh, lt, lbd⟩) := by show _ = _; rw [fold_take _ _ _ hlt Lp.nil, HL.out, HSK.out]
   rw [HSK.out] at HI
   have hkI : (k : Int) < ls.length := by omega
   by_cases hh : lh = p
   ·obtain ⟨tN, HTN⟩ : ∃ tN : Nat, Hid (lt = tN) := ⟨lt.toNat, by show _ = _; omega⟩
    have ht1 : p <= tN /\ tN < xs.length := by have := HTN.out; omega
    have HEQ : Hid (blurOne xs p sk ⟨lh, lt, lbd⟩ = (segI xs p (tN + 1 - p)).foldl blurI sk) := by
     show _ = _
     unfold blurOne
     rw [if_pos hh, show ((⟨lh, lt, lbd⟩ : Lp).t + 1 - (p : Int)).toNat = tN + 1 - p from by show (lt + 1 - (p : Int)).toNat = _; rw [HTN.out]; omega]
    have HHP : Hid (lh = p) := hh
    rw [HTN.out] at l1
    rw [hh] at l0
    have hKp : Hid (∀ u : St, (K.set p (r, u)).getD p kn0 = (r, u)) := fun u => kn_set HPK.out
    obtain ⟨hat0, hcb, hN, hcc⟩ := HI.out.at HPX.out
    have hwt : IntKind.i64.wrap ((tN : Int) + 1) = ((tN + 1 : Nat) : Int) := by rw [IntKind.wrap_i64]; omega
    have hw1 : tN + 1 <= ccap := by omega
    have hw2 : p <= tN + 1 := by omega
    have hw3 : ¬ ccap = p := by omega
    clear hat0
    clear hh
    have htI : (tN : Int) < 64 := by omega
    have HMk : Hid (Made8 nm sk) := by
     show Made8 nm sk
     rw [<- HSK.out]
     exact made_blurAll (xs := xs) (p := p) (ls.take k) HS.out
    go_wp2
    obtain ⟨Y, nb, HY, HNB, HQY, hYz, n0, n1⟩ : ∃ Y nb, Hid (Y = wr.alloc (Obj.cells #[.int .i64 p, .int .i64 tN, .int .i64 lbd] 167)) /\ Hid (wr.heap.size = nb) /\ Hid (Inq w0 Y qb kb nm (.slice (some ⟨lb, lo, none⟩) ls.length lcap) cb co ccap xs ls (K.set p (r, sk))) /\ nb < Y.heap.size /\ Y.cell? ⟨nb, 0, none⟩ = some (.int .i64 p) /\ Y.cell? ⟨nb, 1, none⟩ = some (.int .i64 tN) :=
     ⟨_, _, rfl, rfl, HI.out.below ((Below.refl _ _).alloc (Nat.le_refl _) _), by simp, by go_cell, by go_cell⟩
    rw [<- HY.out, HNB.out]
    clear HY HNB l0 l1 l2
    have q1 : Y.cell? ⟨qb, 1, none⟩ = some (.slice (some ⟨cb, co, none⟩) xs.length ccap) := HQY.out.q.cell rfl
    refine wp_region_held_drew (S := fun w' => w'.cell? ⟨qb, 1, none⟩ = some (.slice (some ⟨cb, co, none⟩) xs.length ccap) /\ w'.cell? ⟨nb, 0, none⟩ = some (.int .i64 p) /\ w'.cell? ⟨nb, 1, none⟩ = some (.int .i64 tN)) (by kernel_rfl) ⟨q1, n0, n1⟩ (fun hHeld => ?_)
    refine tkGo [0, 1, 2, 3, 4, 5, 6, 7, 8] ?_
    repeat (refine tkO (v := ?_) rfl ?_ ?_; rotate_left; (intro wy hSw; (try dsimp only at hSw); go_simp; (first | done | with_reducible rfl)); try simp only [Act.put, p1q, p2q, p3q, p4q, p5q, p6q])
    refine tkEnd ?_
    refine wpAnyH_take (i := 9) (v := .slice (some ⟨cb, co + p * 5, none⟩) (tN + 1 - p) (ccap - p)) rfl (by kernel_rfl) (by kernel_rfl) (by kernel_rfl) (fun _ _ _ h => h) (Or.inl ⟨by rfl, fun wy hSw => ?_⟩) (by assumption) ?_
    ·go_simp
     exact fun hq => absurd (hq (by omega)) (by omega)
    try simp only [Act.put, p1q, p2q, p3q, p4q, p5q, p6q]
    refine tkGo [10, 11] ?_
    repeat (refine tkO (v := ?_) rfl ?_ ?_; rotate_left; (intro wy hSw; (try dsimp only at hSw); go_simp; (first | done | with_reducible rfl)); try simp only [Act.put, p1q, p2q, p3q, p4q, p5q, p6q])
    refine tkEnd ?_
    refine wpAnyH_done (by kernel_rfl) ?_ _
    go_wp2
    clear q1 n0 n1 hwt hw1 hw2 hw3
    obtain ⟨M, HM⟩ : ∃ M, Hid (tN + 1 - p = M) := ⟨_, rfl⟩
    have hpM : p + M <= xs.length := by have := HM.out; omega
    have HSL : Hid ((segI xs p M).length = M) := seg_len hpM
    rw [HM.out] at HEQ ⊢
    go_loopw [34] (fun i wq => ∃ m : Nat, m <= M /\ i = .int .i64 m /\ Hid (Inq w0 wq qb kb nm (.slice (some ⟨lb, lo, none⟩) ls.length lcap) cb co ccap xs ls (K.set p (r, ((segI xs p M).take m).foldl blurI sk)))) (fun i _ => M - (intOf i).toNat)
    case atStart => exact ⟨0, by omega, rfl, by show Inq _ _ _ _ _ _ _ _ _ _ _ _; simp only [List.take_zero, List.foldl_nil]; exact HQY.out.below (Below.refl _ _).drew⟩
    case round =>
     obtain ⟨m, hm, rfl, HJ⟩ := hrel
     by_cases hmt : m < M
     ·obtain ⟨hat, -, -, -⟩ := HJ.out.at (p := p + m) (by omega)
      obtain ⟨op, d, a, b, imm, HI2⟩ : ∃ op d a b imm, Hid (nth xs (p + m) = ⟨op, d, a, b, imm⟩) := ⟨_, _, _, _, _, rfl⟩
      rw [HI2.out, show co + (p + m) * 5 = co + p * 5 + m * 5 by omega] at hat
      obtain ⟨c0, c1, c2, c3, c4⟩ := hat
      simp only at c0 c1 c2 c3 c4
      obtain ⟨sj, HSJ⟩ : ∃ sj, Hid (((segI xs p M).take m).foldl blurI sk = sj) := ⟨_, rfl⟩
      have HST2 : Hid (((segI xs p M).take (m + 1)).foldl blurI sk = blurI sj ⟨op, d, a, b, imm⟩) := by
       show _ = _
       rw [fold_take _ _ _ (by rw [HSL.out]; exact hmt) In.nil, seg_at hmt, HI2.out, HSJ.out]
      rw [HSJ.out] at HJ
      have HMj : Hid (Made8 nm sj) := by
       show Made8 nm sj
       rw [<- HSJ.out]
       exact made_seg _ HMk.out
      have hmI : (m : Int) < M := by omega
      have hrt : In.right ⟨op, d, a, b, imm⟩ = true := by
       rw [<- HI2.out]
       refine HR.out _ ?_
       rw [show nth xs (p + m) = xs[p + m]'(by omega) by simp [nth, List.getD, List.getElem?_eq_getElem (show p + m < xs.length by omega)]]
       exact List.getElem_mem _
      obtain ⟨wn, ok, HW⟩ : ∃ wn ok, Hid (writesL op d a b imm = (wn, ok)) := ⟨_, _, rfl⟩
      have hcb2 : cb < wr.heap.size := Nat.lt_of_lt_of_le hcb HJ.out.b0.size
      cases ok with
      | false =>
       have HEQ2 : Hid (blurI sj ⟨op, d, a, b, imm⟩ = sj) := by show _ = _; unfold blurI In.wr; rw [HW.out, if_neg (by simp)]
       go_wp2_with (go_at_call 100; go_must (refine (owrites_as HW _).mono ?_); rintro e w1 ⟨rfl, hb1⟩; go_must (have hb2 := box_below hb1; clear hb1))
       go_roundw
       case rel => exact ⟨m + 1, by omega, by go_num, by rw [HST2.out, HEQ2.out]; exact HJ.out.below hb2⟩
       case measure => simp [intOf]; omega
      | true =>
       obtain ⟨n, HWN, hn⟩ : ∃ n : Nat, Hid (wn = n) /\ n < 8 := by
        have hwr : In.wr ⟨op, d, a, b, imm⟩ = (wn, true) := HW.out
        have hop := writes_op ⟨op, d, a, b, imm⟩ (by rw [hwr]) hrt
        rw [hwr] at hop
        rcases hop with ⟨h, ho⟩ | ⟨h, ho⟩
        ·have h2 := right_dest hrt (by simp only at ho ⊢; omega)
         injection h with h3
         simp only at h2 h3
         exact ⟨d.toNat, by show _ = _; omega, by omega⟩
        ·injection h with h3
         exact ⟨0, h3, by omega⟩
       rw [HWN.out] at HW
       obtain ⟨tk, tl, th, tm, HT⟩ : ∃ k' lo hi m, Hid (sj.getD n Ty.nil = ⟨k', lo, hi, m⟩) := ⟨_, _, _, _, rfl⟩
       obtain ⟨jk, jl, jh, jm, HJ2⟩ : ∃ k' lo hi m, Hid (blurT ⟨tk, tl, th, tm⟩ = ⟨k', lo, hi, m⟩) := ⟨_, _, _, _, rfl⟩
       have HEQ2 : Hid (blurI sj ⟨op, d, a, b, imm⟩ = sj.set n ⟨jk, jl, jh, jm⟩) := by show _ = _; unfold blurI In.wr; rw [HW.out, if_pos rfl, Int.toNat_natCast, HT.out, HJ2.out]
       have hnI : (n : Int) < 8 := by omega
       go_wp2_with (go_at_call 100; go_must (refine (owrites_as HW _).mono ?_); rintro e w1 ⟨rfl, hb1⟩; go_must (have hb2 := box_below hb1; have HQ1 := keepJ (HJ.out.below hb2); clear hb1))
       have h8K := HQ1.out.e8
       have hpK : p < (K.set p (r, sj)).length := by rw [List.length_set]; exact HPK.out
       have hgK := hKp.out sj
       have hpI : (p : Int) < xs.length := by omega
       have q3 : w1.cell? ⟨qb, 3, none⟩ = some (.slice (some ⟨kb, 0, none⟩) xs.length xs.length) := HQ1.out.q.cell rfl
       have hAT := (HQ1.out.k.state h8K hpK hgK).typ HMj.out.1 hn
       rw [HT.out] at hAT
       obtain ⟨e0, e1, e2, e3⟩ := hAT
       simp only at e0 e1 e2 e3
       have hqz := HQ1.out.q.lt
       have hkz := HQ1.out.k.lt
       refine wp_region_held_drew (S := fun w' => w'.cell? ⟨qb, 3, none⟩ = some (.slice (some ⟨kb, 0, none⟩) xs.length xs.length)) (by kernel_rfl) q3 (fun hHeld => ?_)
       refine tkGo [0, 1, 2, 3, 4, 5, 6, 7, 8, 9, 10, 11, 12, 13, 14, 17, 18] ?_
       repeat (refine tkO (v := ?_) rfl ?_ ?_; rotate_left; (intro wy hSw; (try dsimp only at hSw); go_simp; (first | done | with_reducible rfl)); try simp only [Act.put, p1q, p2q, p3q, p4q, p5q, p6q])
       refine tkEnd ?_
       refine runO 15 (by kernel_rfl) rfl (by rfl) (fun KK hK => ?_)
       go_simp
       refine hK.out _ _ q3 (fun hHeld => ?_)
       clear hK KK
       try simp only [Act.put, p1q, p2q, p3q, p4q, p5q, p6q]
       refine runO 16 (by kernel_rfl) rfl (by rfl) (fun KK hK => ?_)
       go_simp
       go_at_call 101
       refine (lblurred_as HJ2 w1.drew).mono ?_
       rintro e w3 ⟨rfl, hb3'⟩
       have hb3 : Below w1.heap.size w1 w3 := below_undrew hb3'
       have HQ3 := keepJ (HQ1.out.below hb3)
       have q33 : w3.cell? ⟨qb, 3, none⟩ = some (.slice (some ⟨kb, 0, none⟩) xs.length xs.length) := HQ3.out.q.cell rfl
       refine hK.out _ _ q33 (fun hHeld => ?_)
       clear hK KK
       try simp only [Act.put, p1q, p2q, p3q, p4q, p5q, p6q]
       refine tkGo [19] ?_
       repeat (refine tkO (v := ?_) rfl ?_ ?_; rotate_left; (intro wy hSw; (try dsimp only at hSw); go_simp; (first | done | with_reducible rfl)); try simp only [Act.put, p1q, p2q, p3q, p4q, p5q, p6q])
       refine tkEnd ?_
       have hAT3 := (HQ3.out.k.state h8K hpK hgK).typ HMj.out.1 hn
       rw [HT.out] at hAT3
       obtain ⟨m0, m1, m2, m3⟩ := hAT3
       simp only at m0 m1 m2 m3
       have f0 := HQ3.out.k.frozen (p * 33 + 1 + n * 4)
       have f1 := HQ3.out.k.frozen (p * 33 + 1 + n * 4 + 1)
       have f2 := HQ3.out.k.frozen (p * 33 + 1 + n * 4 + 2)
       have f3 := HQ3.out.k.frozen (p * 33 + 1 + n * 4 + 3)
       have HP3 := keepJ (HQ3.out.k.putT h8K hpK hgK hn ⟨jk, jl, jh, jm⟩)
       have hneq := HQ3.out.ne
       have q34 : (setT w3 kb (p * 33 + 1 + n * 4) ⟨jk, jl, jh, jm⟩).cell? ⟨qb, 3, none⟩ = some (.slice (some ⟨kb, 0, none⟩) xs.length xs.length) := (grown_sets kb (tyC ⟨jk, jl, jh, jm⟩) w3 (p * 33 + 1 + n * 4)).cell q33 (fun e => hneq (by injection e))
       have Q34 := keepJ q34
       clear q34
       refine runO 20 (by kernel_rfl) rfl (by rfl) (fun KK hK => ?_)
       go_simp
       refine hK.out _ _ Q34.out (fun hHeld => ?_)
       clear hK KK
       try simp only [Act.put, p1q, p2q, p3q, p4q, p5q, p6q]
       refine wpAnyH_done (by kernel_rfl) ?_ _
       go_wp2
       go_roundw
       case rel =>
        refine ⟨m + 1, by omega, by go_num, ?_⟩
        rw [HST2.out, HEQ2.out]
        have hP := HP3.out
        rw [List.set_set] at hP
        have := HQ3.out.grown (grown_sets kb (tyC ⟨jk, jl, jh, jm⟩) w3 (p * 33 + 1 + n * 4)) hP (by simp) (by rw [<- List.set_set (a := (r, sj)) (i := p)]; exact h8K.set p (by rw [List.length_set]; exact HMj.out.1))
        exact this
       case measure => simp [intOf]; omega
     ·obtain rfl : m = M := by omega
      go_wp2
      go_roundw
      case rel =>
       refine ⟨k + 1, by omega, by go_num, ?_⟩
       rw [HST.out, HEQ.out]
       have := HJ.out
       rw [show (segI xs p m).take m = segI xs p m from List.take_of_length_le (by rw [HSL.out]; exact Nat.le_refl _)] at this
       exact this
      case measure => simp [intOf]; omega
   ·have HEQ : Hid (blurOne xs p sk ⟨lh, lt, lbd⟩ = sk) := by show _ = _; unfold blurOne; rw [if_neg hh]
    go_wp2
    go_roundw
    case rel => exact ⟨k + 1, by omega, by go_num, by rw [HST.out, HEQ.out]; exact HI.out.below ((Below.refl _ _).alloc (Nat.le_refl _) _)⟩
    case measure => simp [intOf]; omega
  ·obtain rfl : k = ls.length := by omega
   go_wp2
   exact bodyPost_end (results_none rfl _ _ _) rfl ⟨rfl, by have := HI.out; rw [fold_all] at this; exact this⟩
theorem right_fields {i : In} (hr : i.right = true) : (0 <= i.a /\ i.a <= 7) /\ (i.b = 8 ∨ (0 <= i.b /\ i.b <= 7)) := by
 obtain ⟨op, d, a, b, imm⟩ := i
 unfold In.right rightB at hr
 simp only at hr ⊢
 repeat' split at hr
 all_goals simp [regB, sourcedB] at hr
 all_goals omega
theorem wr_leaves {i : In} (hr : i.right = true) (s : St) (h : ¬ (16 <= i.op /\ i.op <= 19)) (b : Bool) : leavesJ i s b = some (wrS i s) := by
 have h0 : 0 <= i.op /\ i.op <= 22 := right_op hr
 unfold leavesJ wrS
 by_cases hw : i.wr.2 = true
 ·rw [if_pos hw]
  rcases writes_op i hw hr with ⟨e, ho⟩ | ⟨e, ho⟩
  ·rw [e]
   unfold madeT
   by_cases c0 : i.op = 0
   ·rw [if_pos c0, if_pos c0]
   rw [if_neg c0, if_neg c0]
   by_cases c1 : 1 <= i.op /\ i.op <= 10
   ·rw [if_pos (by simp [threeB]; omega), if_neg (by omega), if_neg (by omega), if_neg (by omega)]
   rw [if_neg (by simp [threeB]; omega)]
   by_cases c2 : i.op = 11 ∨ i.op = 13
   ·rw [if_pos c2, if_pos c2]
   rw [if_neg c2, if_neg c2, if_pos (by omega), if_pos (by omega)]
  ·rw [e]
   unfold madeT
   rw [if_neg (by omega), if_neg (by simp [threeB]; omega), if_neg (by omega), if_neg (by omega), if_pos ho, if_neg (by omega), if_neg (by omega), if_neg (by omega), if_pos ho]
   rfl
 ·rw [if_neg hw]
  have hn : ¬ (i.op <= 11 ∨ i.op = 13 ∨ i.op = 14) /\ ¬ i.op = 21 := by
   unfold In.wr writesL at hw
   rw [if_neg (by simp [show rightB i.op i.d i.a i.b i.imm = true from hr])] at hw
   by_cases c : i.op <= 11 ∨ i.op = 13 ∨ i.op = 14
   ·rw [if_pos c] at hw; simp at hw
   ·rw [if_neg c] at hw; exact ⟨c, by simpa using hw⟩
  rw [if_neg (by omega), if_neg (by simp [threeB]; omega), if_neg (by omega), if_neg (by omega), if_neg (by omega), if_neg (by simp [jumpB]; omega)]
theorem ref_leaves {i : In} (s : St) (h : 16 <= i.op /\ i.op <= 19) (r b : Bool) : refS i r s b = match leavesJ i s b with | none => (false, stZ) | some s' => (r, s') := by
 unfold leavesJ refS
 rw [if_neg (by omega), if_neg (by simp [threeB]; omega), if_neg (by omega), if_neg (by omega), if_neg (by omega), if_pos (by simp [jumpB]; omega)]
 cases refineR i.op (regT s i.a).lo (regT s i.a).hi (srcT i s).lo (srcT i s).hi b <;> rfl
theorem word_made {nm : Nat} {t : Ty} (h : Made nm t) : wordE t = if t.k ≠ 1 then 33 else if 15 < t.hi then 35 else 0 := by
 unfold wordE
 by_cases hk : t.k = 1
 ·have hh : 0 <= t.lo /\ t.lo <= t.hi := by rcases h with h | h | h <;> omega
  have hw : withinB t.lo t.hi 0 15 = decide (t.hi <= 15) := by
   rw [Bool.eq_iff_iff]
   simp [withinB, hasN]
   omega
  rw [hw]
  by_cases h15 : 15 < t.hi
  ·simp [hk, h15]
  ·simp [hk, h15]
 ·simp [hk]
theorem fitsAll_eq {nm : Nat} {s h : St} (hs : Made8 nm s) (hh : Made8 nm h) : fitsAllS s h = fitsAll s h := by
 unfold fitsAllS fitsAll
 rw [Bool.eq_iff_iff, List.all_eq_true, List.all_eq_true]
 constructor
 ·intro k r hr; rw [<- fits_eq (hs.get (List.mem_range.1 hr)) (hh.get (List.mem_range.1 hr))]; exact k r hr
 ·intro k r hr; rw [fits_eq (hs.get (List.mem_range.1 hr)) (hh.get (List.mem_range.1 hr))]; exact k r hr
theorem nums1 (t : Ty) : numsE [t] = if t.k ≠ 1 then 33 else 0 := by
 unfold numsE
 by_cases h : t.k = 1 <;> simp [h]
theorem nums2 (t u : Ty) : numsE [t, u] = if t.k ≠ 1 ∨ u.k ≠ 1 then 33 else 0 := by
 unfold numsE
 by_cases h : t.k = 1 <;> by_cases h' : u.k = 1 <;> simp [h, h']
theorem ask_asks {nm : Nat} {i : In} {s h : St} (hr : i.right = true) (hs : Made8 nm s) (hh : i.op = 20 -> Made8 nm h) : askK nm i s h = asksJ nm i s h := by
 have h0 : 0 <= i.op /\ i.op <= 22 := right_op hr
 have hb := (right_fields hr).2
 have hsrc : (i.op <= 12 ∨ (16 <= i.op /\ i.op <= 19)) -> srcA i s = srcT i s := fun ho => by unfold srcA; rw [if_pos (right_src hr ho).1]
 have hm := made_src (i := i) hs hb
 unfold askK asksJ
 by_cases c13 : i.op = 13 ∨ i.op = 15
 ·rw [if_pos c13, if_neg (by omega), if_pos c13]
 rw [if_neg c13]
 by_cases c0 : i.op = 0
 ·rw [if_pos c0, if_pos c0, hsrc (by omega)]
  unfold unlE
  by_cases hk : (srcT i s).k = 0 <;> simp [hk]
 rw [if_neg c0, if_neg c0, if_neg c13]
 by_cases c11 : i.op = 11
 ·rw [if_pos c11, if_neg (by omega), if_neg (by omega), if_pos c11, hsrc (by omega), word_made hm]
 rw [if_neg c11]
 by_cases c12 : i.op = 12
 ·rw [if_pos c12, nums1, word_made hm, if_neg (show ¬ i.op = 14 by omega), if_neg (show ¬ i.op = 21 by omega), if_neg c11, if_neg (show ¬ i.op = 20 by omega), if_neg (show ¬ i.op = 22 by omega), hsrc (by omega)]
  by_cases h1 : (regT s i.a).k = 1 <;> by_cases h2 : (srcT i s).k = 1 <;> simp [h1, h2, c12]
 rw [if_neg c12]
 by_cases c14 : i.op = 14
 ·rw [if_pos c14, if_pos c14]
  unfold unlE
  by_cases h1 : i.imm < (nm : Int)
  ·rw [if_pos (by simpa using h1), if_neg (by omega)]
  ·rw [if_neg (by simpa using h1), if_pos (by omega)]
 rw [if_neg c14, if_neg c14]
 by_cases c20 : i.op = 20
 ·rw [if_pos c20, nums1, fitsAll_eq hs (hh c20), if_neg (show ¬ i.op = 21 by omega), if_neg c11, if_pos c20]
  unfold unlE
  by_cases h1 : (regT s i.a).k = 1 <;> simp [h1]
 rw [if_neg c20]
 by_cases c21 : i.op = 21
 ·rw [if_pos c21, if_pos c21]
 rw [if_neg c21, if_neg c21, if_neg c11, if_neg c20]
 by_cases c22 : i.op = 22
 ·rw [if_pos c22, if_pos c22, nums1]
 rw [if_neg c22, if_neg c22, hsrc (by omega), nums2]
 by_cases h1 : (regT s i.a).k ≠ 1 ∨ (srcT i s).k ≠ 1
 ·rw [if_pos h1, if_pos h1]
 ·rw [if_neg h1, if_neg h1, if_neg (by omega)]
theorem mem_nth {xs : List In} {i : In} (h : i ∈ xs) : ∃ k, k < xs.length /\ nth xs k = i := by
 obtain ⟨k, hk, rfl⟩ := List.mem_iff_getElem.1 h
 exact ⟨k, hk, by simp [nth, List.getD, List.getElem?_eq_getElem hk]⟩
theorem Taken.right {xs : List In} (h : Taken xs) {k : Nat} (hk : k < xs.length) : (nth xs k).right = true := (place_ok hk (h.place k hk)).1
theorem Taken.rights {xs : List In} (h : Taken xs) : ∀ i ∈ xs, i.right = true := fun i hi => by
 obtain ⟨k, hk, rfl⟩ := mem_nth hi
 exact h.right hk
theorem Taken.loops {xs : List In} (h : Taken xs) : LpIn xs (loopsL xs) := fun l hl => by
 obtain ⟨k, _, _, _, h0, h1, h2, _⟩ := loop_ok h.place hl
 omega
theorem lblur_any {w0 w : World} {qb kb nm cb co ccap p : Nat} {vl : Value} {xs : List In} {ls : List Lp} {K : Kn} (h : Inq w0 w qb kb nm vl cb co ccap xs ls K) (hT : Taken xs) (hls : ls = loopsL xs) (hp : p < xs.length) (hM : MadeK nm K) :
  Calls Tryz.prog 82 #[.pointer (some ⟨qb, 0, none⟩), .int .i64 p] w fun e w' => e = .returned (.tuple #[]) /\ Inq w0 w' qb kb nm vl cb co ccap xs ls (K.set p ((K.getD p kn0).1, blurAll xs p ls (K.getD p kn0).2)) := by
 obtain ⟨la, lcap, hv, _⟩ := id h.lo
 subst hv
 exact lblur_core w0 w qb kb nm cb co ccap p la lcap xs ls K h hp hT.top hT.rights (hls ▸ hT.loops) _ _ rfl (hM.at p)
theorem lask_any {w0 w : World} {qb kb nm cb co ccap p : Nat} {vl : Value} {xs : List In} {ls : List Lp} {K : Kn} (h : Inq w0 w qb kb nm vl cb co ccap xs ls K) (hT : Taken xs) (hp : p < xs.length) (hM : MadeK nm K) {E : Int} (hE : Hid (E = asksJ nm (nth xs p) (K.getD p kn0).2 (K.getD ((p : Int) + (nth xs p).far).toNat kn0).2)) :
  Calls Tryz.prog 83 #[.pointer (some ⟨qb, 0, none⟩), .int .i64 p] w fun e w' => e = .returned (.int .i64 E) /\ Below w.heap.size w w' := by
 have hr := hT.right hp
 have hpl := place_ok hp (hT.place p hp)
 obtain ⟨ha, hb⟩ := right_fields hr
 rw [hE.out, <- ask_asks hr (hM.at p) (fun _ => hM.at _)]
 obtain ⟨op, d, a, b, imm, HI⟩ : ∃ op d a b imm, Hid (nth xs p = ⟨op, d, a, b, imm⟩) := ⟨_, _, _, _, _, rfl⟩
 rw [HI.out] at ha hb hpl ⊢
 simp only at ha hb
 obtain ⟨n, rfl⟩ := Int.eq_ofNat_of_zero_le ha.1
 exact lask_core w0 w qb kb nm cb co ccap p vl xs ls K h hp hT.top hM n (by omega) op d b imm HI _ _ rfl hb _ _ _ _ _ _ _ _ rfl rfl (fun _ => ⟨hpl.2.1, hpl.2.2.1⟩)
theorem made_ref {nm : Nat} {i : In} {s head : St} {r b : Bool} (hr : i.right = true) (hs : Made8 nm s) (ha : asksJ nm i s head = 0) (ho : 16 <= i.op /\ i.op <= 19) : Made8 nm (refS i r s b).2 := by
 rw [ref_leaves s ho r b]
 cases hl : leavesJ i s b with
 | none => exact made_zero nm
 | some s' => exact made_leaves hr hs ha hl
theorem lleave_any {w0 w : World} {qb kb nm cb co ccap p : Nat} {vl : Value} {xs : List In} {ls : List Lp} {K : Kn} (h : Inq w0 w qb kb nm vl cb co ccap xs ls K) (hT : Taken xs) (hp : p < xs.length) (hM : MadeK nm K) {head : St} (ha : asksJ nm (nth xs p) (K.getD p kn0).2 head = 0) :
  Calls Tryz.prog 84 #[.pointer (some ⟨qb, 0, none⟩), .int .i64 p] w fun e w' => e = .returned (.tuple #[]) /\ Inq w0 w' qb kb nm vl cb co ccap xs ls (leaveK (nth xs p) p K) := by
 have hr := hT.right hp
 have hpl := place_ok hp (hT.place p hp)
 have hg := goes_parts (nth xs p)
 obtain ⟨hfa, hfb⟩ := right_fields hr
 have hs := hM.at p
 have h64 := hT.top
 have hwm : ¬ (16 <= (nth xs p).op /\ (nth xs p).op <= 19) -> Made8 nm (wrS (nth xs p) (K.getD p kn0).2) := fun ho => made_leaves hr hs ha (wr_leaves hr _ ho false)
 have hrm : ∀ b, (16 <= (nth xs p).op /\ (nth xs p).op <= 19) -> Made8 nm (refS (nth xs p) (K.getD p kn0).1 (K.getD p kn0).2 b).2 := fun b ho => made_ref hr hs ha ho
 obtain ⟨r, s, HK⟩ : ∃ r s, Hid (K.getD p kn0 = (r, s)) := ⟨_, _, rfl⟩
 obtain ⟨op, d, a, b, imm, HI⟩ : ∃ op d a b imm, Hid (nth xs p = ⟨op, d, a, b, imm⟩) := ⟨_, _, _, _, _, rfl⟩
 unfold leaveK
 rw [HK.out] at hwm hrm ⊢
 rw [HI.out] at hwm hrm hg hpl hr hfa hfb ⊢
 simp only at hwm hrm hfa hfb ⊢
 have hrop : ¬ In.right ⟨op, d, a, b, imm⟩ = false := by rw [hr]; simp
 simp only [hr] at hg
 by_cases c22 : op = 22
 ·subst c22
  rw [if_pos rfl]
  exact lleave_one w0 w qb kb nm cb co ccap p vl xs ls K h hp h64 hM _ d a b imm HI r s HK _ _ _ rfl rfl rfl _ (.inl ⟨rfl, rfl⟩)
 rw [if_neg c22]
 by_cases c15 : op = 15
 ·subst c15
  rw [if_pos rfl]
  have hf : 0 <= In.far ⟨15, d, a, b, imm⟩ /\ In.far ⟨15, d, a, b, imm⟩ <= 64 := by rcases hg with hg | hg | hg | hg <;> simp at hg <;> omega
  exact lleave_one w0 w qb kb nm cb co ccap p vl xs ls K h hp h64 hM _ d a b imm HI r s HK _ _ _ rfl rfl rfl _ (.inr (.inl ⟨rfl, _, (by omega), (show _ = _ by omega), hf, rfl⟩))
 rw [if_neg c15]
 by_cases c16 : 16 <= op /\ op <= 19
 ·rw [if_pos c16]
  have hf : (0 <= In.far ⟨op, d, a, b, imm⟩ /\ In.far ⟨op, d, a, b, imm⟩ <= 64) /\ In.on ⟨op, d, a, b, imm⟩ = true := by
   rcases hg with hg | hg | hg | hg <;> simp at hg
   ·refine ⟨by omega, ?_⟩
    rw [hg.2.2.2.2.1]; simpa using c15
   ·omega
   ·omega
  have hn1 := hpl.2.2.2 hf.2
  have h4 : op = 16 ∨ op = 17 ∨ op = 18 ∨ op = 19 := by omega
  exact lleave_one w0 w qb kb nm cb co ccap p vl xs ls K h hp h64 hM _ d a b imm HI r s HK _ _ _ rfl rfl rfl _ (.inr (.inr (.inr ⟨h4, hn1, hfa, hfb, _, (by omega), (show _ = _ by omega), hf.1, _, _, _, _, rfl, rfl, hrm false c16, hrm true c16, rfl⟩)))
 rw [if_neg c16]
 have hon : In.on ⟨op, d, a, b, imm⟩ = true := by
  rcases hg with hg | hg | hg | hg <;> simp at hg
  ·omega
  ·exact hg.2.2.2.1
  ·rw [hg.2.2.2]; simpa using c22
 exact lleave_one w0 w qb kb nm cb co ccap p vl xs ls K h hp h64 hM op d a b imm HI r s HK _ _ _ rfl rfl rfl _ (.inr (.inr (.inl ⟨⟨c22, c15, c16⟩, hr, hpl.2.2.2 hon, _, rfl, hwm c16, rfl⟩)))
end Go.Proofs.YtlkdniglaldilaaGreat
