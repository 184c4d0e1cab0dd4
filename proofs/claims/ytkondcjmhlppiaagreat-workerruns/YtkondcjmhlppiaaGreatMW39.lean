
/-
 What the landed judge's ask answers. Conditions: a right instruction; states of eight well made types; a loop's head is there.
-/
import Derived.Test.YtkondcjmhlppiaaGreatMW0
import Derived.Test.YtkondcjmhlppiaaGreatMW38
import Derived.Test.YtkondcjmhlppiaaGreatMW31
import Derived.Test.YtkondcjmhlppiaaGreatMW15
namespace Go.Proofs.YtkondcjmhlppiaaGreat
open Go.RowKit
set_option linter.unusedVariables false
set_option linter.unusedSimpArgs false
set_option maxRecDepth 100000

def Taken3 (wc wd : World) (s t : Ty) (v7 v8 : Value) : Prop := ∃ g8 g9, v7 = .pointer (some ⟨g8, 0, none⟩) /\ v8 = .pointer (some ⟨g9, 0, none⟩) /\ AtT wd g8 0 s /\ AtT wd g9 0 t /\ Below wc.heap.size wc wd /\ g8 < wd.heap.size /\ g9 < wd.heap.size
theorem two_lt {a b n m : Nat} (h : n <= m) (ha : a < n) (hb : b < n) : a < m /\ b < m := ⟨by omega, by omega⟩
theorem BxT.far {w : World} {n m off o : Nat} {t u : Ty} (h : BxT w n off t) (hne : n ≠ m) : BxT (setT w m o u) n off t := by
 have hg := grown_sets m (tyC u) w o
 have hne' : some n ≠ some m := fun e => hne (by injection e)
 have hlt : n < w.heap.size := World.block_lt_of_cell? w _ h.1.1
 have hb : (setT w m o u).heap[n]? = w.heap[n]? := hg.block n hlt hne'
 obtain ⟨⟨h0, h1, h2, h3⟩, f0, f1, f2, f3⟩ := h
 refine ⟨⟨?_, ?_, ?_, ?_⟩, ?_, ?_, ?_, ?_⟩
 ·exact (World.cell?_of_block (a := ⟨n, off, none⟩) hb).trans h0
 ·exact (World.cell?_of_block (a := ⟨n, off + 1, none⟩) hb).trans h1
 ·exact (World.cell?_of_block (a := ⟨n, off + 2, none⟩) hb).trans h2
 ·exact (World.cell?_of_block (a := ⟨n, off + 3, none⟩) hb).trans h3
 ·exact (World.frozen?_of_block (a := ⟨n, off, none⟩) hb).trans f0
 ·exact (World.frozen?_of_block (a := ⟨n, off + 1, none⟩) hb).trans f1
 ·exact (World.frozen?_of_block (a := ⟨n, off + 2, none⟩) hb).trans f2
 ·exact (World.frozen?_of_block (a := ⟨n, off + 3, none⟩) hb).trans f3
def askK (nm : Nat) (i : In) (s h : St) : Int :=
 if i.op = 13 ∨ i.op = 15 then 0
 else if i.op = 0 then unlE ((srcT i s).k != 0) 33
 else if i.op = 11 then wordE (srcT i s)
 else if i.op = 12 then (if numsE [regT s i.a] ≠ 0 then numsE [regT s i.a] else wordE (srcT i s))
 else if i.op = 14 then unlE (decide (i.imm < nm)) 35
 else if i.op = 20 then (if numsE [regT s i.a] ≠ 0 then numsE [regT s i.a] else unlE (fitsAllS s h) 33)
 else if i.op = 21 then hcheckL i.imm ((s.drop 1).take (argsL i.imm).length)
 else if i.op = 22 then numsE [regT s i.a]
 else numsE [regT s i.a, srcT i s]
theorem lnums_as {v : Value} {l : List Ty} {e : Int} (h : Hid (numsE l = e)) {w : World} (hs : SeesT w v l) : Calls Tryz.prog 57 #[v] w fun x w' => x = .returned (.int .i64 e) /\ Below w.heap.size w w' := by
 rw [<- h.out]; exact lnums_any v l w hs
theorem lword_as {k lo hi m e : Int} (h : Hid (wordE ⟨k, lo, hi, m⟩ = e)) (w : World) : Calls Tryz.prog 56 #[.agg #[.int .i64 k, .int .u64 lo, .int .u64 hi, .int .i64 m]] w fun x w' => x = .returned (.int .i64 e) /\ Below w.heap.size w w' := by
 rw [<- h.out]; exact lword_any ⟨k, lo, hi, m⟩ w
theorem lunless_as {b : Bool} {x e : Int} (h : Hid (unlE b x = e)) (w : World) : Calls Tryz.prog 55 #[.bool b, .int .i64 x] w fun y w' => y = .returned (.int .i64 e) /\ Below w.heap.size w w' := by
 rw [<- h.out]; exact lunless_any b x w
theorem lfits_as {r r' q : Bool} {s h : St} (hq : Hid (fitsAllS s h = q)) (w : World) (h8 : s.length = 8) (hh : h.length = 8) : Calls Tryz.prog 59 #[stV r s, stV r' h] w fun e w' => e = .returned (.bool q) /\ Below w.heap.size w w' := by
 rw [<- hq.out]; exact lfits_any r r' s h w h8 hh
theorem args_len9 (h : Int) : (argsL h).length <= 3 := by
 unfold argsL
 repeat' split
 all_goals simp
theorem run_sliceA (sb n : Nat) (hn : n <= 3) (w : World) : (Instr.sliceAt 113 (.pointer (some ⟨sb, 1, none⟩)) (some (.int .i64 1)) (some (.int .i64 (1 + (n : Int)))) none).run Tryz.prog w = .ok (.slice (some ⟨sb, 5, none⟩) n 7) w := by
 have k0 : (Instr.sliceAt 113 (.pointer (some ⟨sb, 1, none⟩)) (some (.int .i64 1)) (some (.int .i64 (1 + ((0 : Nat) : Int)))) none).run Tryz.prog w = .ok (.slice (some ⟨sb, 5, none⟩) 0 7) w := by kernel_rfl
 have k1 : (Instr.sliceAt 113 (.pointer (some ⟨sb, 1, none⟩)) (some (.int .i64 1)) (some (.int .i64 (1 + ((1 : Nat) : Int)))) none).run Tryz.prog w = .ok (.slice (some ⟨sb, 5, none⟩) 1 7) w := by kernel_rfl
 have k2 : (Instr.sliceAt 113 (.pointer (some ⟨sb, 1, none⟩)) (some (.int .i64 1)) (some (.int .i64 (1 + ((2 : Nat) : Int)))) none).run Tryz.prog w = .ok (.slice (some ⟨sb, 5, none⟩) 2 7) w := by kernel_rfl
 have k3 : (Instr.sliceAt 113 (.pointer (some ⟨sb, 1, none⟩)) (some (.int .i64 1)) (some (.int .i64 (1 + ((3 : Nat) : Int)))) none).run Tryz.prog w = .ok (.slice (some ⟨sb, 5, none⟩) 3 7) w := by kernel_rfl
 have h4 : n = 0 ∨ n = 1 ∨ n = 2 ∨ n = 3 := by omega
 rcases h4 with rfl | rfl | rfl | rfl
 ·exact k0
 ·exact k1
 ·exact k2
 ·exact k3
theorem sees_args {w : World} {sb n : Nat} {r : Bool} {s : St} (hx : StAt w sb 0 r s) (h8 : s.length = 8) (hn : n <= 3) (hz : sb < w.heap.size) : SeesT w (.slice (some ⟨sb, 5, none⟩) n 7) ((s.drop 1).take n) := by
 have hl : ((s.drop 1).take n).length = n := by simp [h8]; omega
 refine ⟨some ⟨sb, 5, none⟩, 7, by rw [hl], by rw [hl]; omega, by decide, fun e => (by cases e), fun _ => ⟨sb, 5, rfl, hz, fun k hk => ?_⟩⟩
 rw [hl] at hk
 have := hx.typ h8 (k := k + 1) (by omega)
 rw [show 0 + 1 + (k + 1) * 4 = 5 + k * 4 by omega] at this
 have e : ((s.drop 1).take n).getD k Ty.nil = s.getD (k + 1) Ty.nil := by
  simp [List.getD, List.getElem?_take, hk, Nat.add_comm]
 rw [e]
 exact this
theorem hcheck_as9 {h : Int} {v : Value} {xs : List Ty} {w : World} (hs : SeesT w v xs) {r : Int} (hr : Hid (hcheckL h xs = r)) : Calls Tryz.prog 60 #[.int .i64 h, v] w fun e w' => e = .returned (.int .i64 r) /\ Below w.heap.size w w' := by
 rw [<- hr.out]; exact hcheck_any h v xs w hs
theorem keep2 {w w' : World} {x y : Nat} {i j : Nat} {u v : Value} (h : w.cell? ⟨x, i, none⟩ = some u /\ w.cell? ⟨y, j, none⟩ = some v) (hb : Below w.heap.size w w') (hx : x < w.heap.size) (hy : y < w.heap.size) : w'.cell? ⟨x, i, none⟩ = some u /\ w'.cell? ⟨y, j, none⟩ = some v := by
 rw [hb.cell (p := ⟨x, i, none⟩) hx, hb.cell (p := ⟨y, j, none⟩) hy]; exact h
set_option maxHeartbeats 3200000 in
theorem lask_core (w0 w : World) (qb kb nm cb co ccap p : Nat) (vl : Value) (xs : List In) (ls : List Lp) (K : Kn) (h : Inq w0 w qb kb nm vl cb co ccap xs ls K) (hp : p < xs.length) (h64 : xs.length <= 64) (hM : MadeK nm K) (n : Nat) (hn : n < 8) (op d b imm : Int) (HI : Hid (nth xs p = ⟨op, d, n, b, imm⟩)) (r : Bool) (s : St) (HK : Hid (K.getD p kn0 = (r, s))) (hb : b = 8 ∨ (0 <= b /\ b <= 7)) (sk sl sh sm tk tl th tm : Int) (HS : Hid (s.getD n Ty.nil = ⟨sk, sl, sh, sm⟩)) (HT : Hid (srcT ⟨op, d, n, b, imm⟩ s = ⟨tk, tl, th, tm⟩)) (hto : op = 20 -> 0 <= (p : Int) + In.far ⟨op, d, n, b, imm⟩ /\ (p : Int) + In.far ⟨op, d, n, b, imm⟩ < xs.length) : Calls Tryz.prog 32 #[.pointer (some ⟨qb, 0, none⟩), .int .i64 p] w fun e w' => e = .returned (.int .i64 (askK nm ⟨op, d, n, b, imm⟩ s (K.getD ((p : Int) + In.far ⟨op, d, n, b, imm⟩).toNat kn0).2)) /\ Below w.heap.size w w' := by
 obtain ⟨E, HE⟩ : ∃ E, Hid (E = askK nm ⟨op, d, n, b, imm⟩ s (K.getD ((p : Int) + In.far ⟨op, d, n, b, imm⟩).toNat kn0).2) := ⟨_, rfl⟩
 rw [<- HE.out]
 obtain ⟨hat, hcb, hN, hcc⟩ := h.at hp
 rw [HI.out] at hat
 obtain ⟨c0, c1, c2, c3, c4⟩ := hat
 simp only at c0 c1 c2 c3 c4
 have hpI : (p : Int) < xs.length := by omega
 have h8 : s.length = 8 := by have := h.e8.at p; rw [HK.out] at this; exact this
 have hst : StAt w kb (p * 33) r s := h.k.state h.e8 (by rw [h.len]; exact hp) HK.out
 have hqz := h.q.lt
 have hkz := h.k.lt
 have hbz := h.b0.size
 have HP : Hid (∀ w', Below w.heap.size w w' -> w'.cell? ⟨qb, 1, none⟩ = some (.slice (some ⟨cb, co, none⟩) xs.length ccap) /\ w'.cell? ⟨qb, 3, none⟩ = some (.slice (some ⟨kb, 0, none⟩) xs.length xs.length) /\ w'.cell? ⟨cb, co + p * 5, none⟩ = some (.int .i64 op) /\ w'.cell? ⟨cb, co + p * 5 + 1, none⟩ = some (.int .i64 d) /\ w'.cell? ⟨cb, co + p * 5 + 2, none⟩ = some (.int .i64 n) /\ w'.cell? ⟨cb, co + p * 5 + 3, none⟩ = some (.int .i64 b) /\ w'.cell? ⟨cb, co + p * 5 + 4, none⟩ = some (.int .i64 imm) /\ StAt w' kb (p * 33) r s) := fun w' hb' => by
  have hA := At.below (i := ⟨op, d, n, b, imm⟩) ⟨c0, c1, c2, c3, c4⟩ hb' (by omega)
  exact ⟨(h.q.below hb' hqz).cell rfl, (h.q.below hb' hqz).cell rfl, hA.1, hA.2.1, hA.2.2.1, hA.2.2.2.1, hA.2.2.2.2, hst.below hb' hkz⟩
 clear c0 c1 c2 c3 c4 hst
 have hs8 : Made8 nm s := by have := hM.at p; rw [HK.out] at this; exact this
 have HM := keepJ hM
 have HS8 := keepJ hs8
 have HSZ := keepJ (sizeJ (r := r) h8)
 have hp64 : (p : Int) < 64 := by omega
 have hnI : (n : Int) < 8 := by omega
 clear hs8 hM
 go_enter Tryz.func32, Tryz.ntmps32
 go_wp2_with (fail)
 go_cut [5, 6] from 15 (fun v4 v5 wc => Taken2 w wc ⟨op, d, n, b, imm⟩ r s v4 v5)
 case rest =>
  obtain ⟨ib, sb, rfl, rfl, hiC, hsC, hbC, hi1, hs1, his⟩ := hcut
  have HQ := keepJ (h.below hbC)
  have HiC := keepJ hiC
  have HsC := keepJ hsC
  obtain ⟨y0, y1, y2, y3, y4⟩ := id hiC.inst
  have hzi := hiC.lt
  have hzs := hsC.lt
  have hkb : kb < wc.heap.size := HQ.out.k.lt
  have hikb : ib ≠ kb := by omega
  have hskb : sb ≠ kb := by omega
  clear hiC hsC HP
  clear y0 y1 y2 y3 y4
  go_wp2_with (fail)
  go_cut [7, 8] from 15 (fun v7 v8 wd => Taken3 wc wd ⟨sk, sl, sh, sm⟩ ⟨tk, tl, th, tm⟩ v7 v8)
  case rest =>
   obtain ⟨g8, g9, rfl, rfl, hA8, hA9, hbD, hz8, hz9⟩ := hcut
   have HQ2 := keepJ (HQ.out.below hbD)
   have HiD := keepJ (HiC.out.below hbD hzi)
   have HsD := keepJ (HsC.out.below hbD hzs)
   have hBD : Below w.heap.size w wc := hbC.trans (hbD.mono hbC.size)
   have HA8 := keepJ hA8
   have HA9 := keepJ hA9
   obtain ⟨y0, y1, y2, y3, y4⟩ := id HiD.out.inst
   obtain ⟨a0, a1, a2, a3⟩ := hA8
   obtain ⟨b0, b1, b2, b3⟩ := hA9
   simp only at a0 a1 a2 a3 b0 b1 b2 b3
   have hzi2 := HiD.out.lt
   have hzs2 := HsD.out.lt
   have HR1 : Hid (regT s n = ⟨sk, sl, sh, sm⟩) := HS.out
   clear HQ HiC HsC hzi hzs hbD h hi1 hs1 his hkb hikb hskb
   obtain ⟨e1, HE1⟩ : ∃ e, Hid (numsE [⟨sk, sl, sh, sm⟩] = e) := ⟨_, rfl⟩
   obtain ⟨e2, HE2⟩ : ∃ e, Hid (wordE ⟨tk, tl, th, tm⟩ = e) := ⟨_, rfl⟩
   by_cases o13 : op = 13
   ·subst o13
    have HV : Hid (E = 0) := by show _ = _; rw [HE.out]; rfl
    go_wp2
    go_ret
    exact ⟨reti HV.out.symm, hBD⟩
   by_cases o15 : op = 15
   ·subst o15
    have HV : Hid (E = 0) := by show _ = _; rw [HE.out]; rfl
    go_wp2
    go_ret
    exact ⟨reti HV.out.symm, hBD⟩
   by_cases o0 : op = 0
   ·subst o0
    have HV : Hid (unlE (tk != 0) 33 = E) := by show _ = _; rw [HE.out]; unfold askK; rw [if_neg (by simp), if_pos rfl, HT.out]
    go_wp2_with (go_at_call 55; go_must (refine (lunless_as HV _).mono ?_); rintro e w5 ⟨rfl, hb5⟩; go_must (have hB5 := hBD.trans (hb5.mono hBD.size)))
    go_ret
    exact ⟨rfl, hB5⟩
   by_cases o11 : op = 11
   ·subst o11
    have HV : Hid (wordE ⟨tk, tl, th, tm⟩ = E) := by show _ = _; rw [HE.out]; unfold askK; rw [if_neg (by simp), if_neg (by simp), if_pos rfl, HT.out]
    go_wp2_with (go_at_call 56; go_must (refine (lword_as HV _).mono ?_); rintro e w5 ⟨rfl, hb5⟩; go_must (have hB5 := hBD.trans (hb5.mono hBD.size)))
    go_ret
    exact ⟨rfl, hB5⟩
   by_cases o12 : op = 12
   ·subst o12
    by_cases h1 : e1 = 0
    ·have HV : Hid (wordE ⟨tk, tl, th, tm⟩ = E) := by show _ = _; rw [HE.out]; unfold askK; rw [if_neg (by simp), if_neg (by simp), if_neg (by simp), if_pos rfl, HR1.out, HT.out, HE1.out, h1]; simp
     subst h1
     go_wp2_with (first
      | (go_at_call 57; go_must (refine (lnums_as HE1 (seesT_one _ _ ⟨sk, sl, sh, sm⟩ _ rfl)).mono ?_); rintro e w5 ⟨rfl, hb5'⟩; go_must (have hb5 := box_below hb5'; have hB5 := hBD.trans (hb5.mono hBD.size); obtain ⟨z0, z1, z2, z3⟩ := HA9.out.below hb5 hz9; simp only at z0 z1 z2 z3; clear b0 b1 b2 b3))
      | (go_at_call 56; go_must (refine (lword_as HV _).mono ?_); rintro e w6 ⟨rfl, hb6⟩; go_must (have hB6 := hB5.trans (hb6.mono hB5.size))))
     go_ret
     exact ⟨rfl, hB6⟩
    ·have HV : Hid (e1 = E) := by show _ = _; rw [HE.out]; unfold askK; rw [if_neg (by simp), if_neg (by simp), if_neg (by simp), if_pos rfl, HR1.out, HT.out, HE1.out, if_pos h1]
     go_wp2_with (go_at_call 57; go_must (refine (lnums_as HE1 (seesT_one _ _ ⟨sk, sl, sh, sm⟩ _ rfl)).mono ?_); rintro e w5 ⟨rfl, hb5'⟩; go_must (have hb5 := box_below hb5'; have hB5 := hBD.trans (hb5.mono hBD.size)))
     go_ret
     exact ⟨reti HV.out, hB5⟩
   by_cases o22 : op = 22
   ·subst o22
    have HV : Hid (numsE [⟨sk, sl, sh, sm⟩] = E) := by show _ = _; rw [HE.out]; unfold askK; simp [HR1.out]
    go_wp2_with (go_at_call 57; go_must (refine (lnums_as HV (seesT_one _ _ ⟨sk, sl, sh, sm⟩ _ rfl)).mono ?_); rintro e w5 ⟨rfl, hb5'⟩; go_must (have hb5 := box_below hb5'; have hB5 := hBD.trans (hb5.mono hBD.size)))
    go_ret
    exact ⟨rfl, hB5⟩
   by_cases o14 : op = 14
   ·subst o14
    have HV : Hid (unlE (decide (imm < nm)) 35 = E) := by show _ = _; rw [HE.out]; unfold askK; simp
    have q0 : wc.cell? ⟨qb, 0, none⟩ = some (.int .i64 nm) := HQ2.out.q.cell rfl
    have hqz2 := HQ2.out.q.lt
    go_wp2
    go_region_held3 (fun w' => w'.cell? ⟨ib, 4, none⟩ = some (.int .i64 imm) /\ w'.cell? ⟨qb, 0, none⟩ = some (.int .i64 nm))
     (first | exact hS5 | exact ⟨y4, q0⟩)
     (first | (go_at_call 55; go_must (refine (lunless_as HV _).mono ?_); rintro e w5 ⟨rfl, hb5'⟩; go_must (have hb5 : Below wc.heap.size wc w5 := below_undrew hb5'; have hS5 := keep2 ⟨y4, q0⟩ hb5 hzi2 hqz2; have hB5 := hBD.trans (hb5.mono hBD.size))))
    go_wp2
    go_ret
    exact ⟨rfl, hB5⟩
   by_cases o20 : op = 20
   ·subst o20
    by_cases h1 : e1 = 0
    ·subst h1
     obtain ⟨f, HF⟩ : ∃ f, Hid (f = In.far ⟨20, d, n, b, imm⟩) := ⟨_, rfl⟩
     obtain ⟨l, HL⟩ : ∃ l, Hid (l = In.leads ⟨20, d, n, b, imm⟩) := ⟨_, rfl⟩
     obtain ⟨o, HO⟩ : ∃ o, Hid (o = In.on ⟨20, d, n, b, imm⟩) := ⟨_, rfl⟩
     obtain ⟨n2, HN2, hn2⟩ : ∃ n2 : Nat, Hid ((p : Int) + f = n2) /\ n2 < xs.length := by
      have := hto rfl
      rw [<- HF.out] at this
      exact ⟨((p : Int) + f).toNat, by show _ = _; omega, by omega⟩
     obtain ⟨r2, s2, HK2⟩ : ∃ r2 s2, Hid (K.getD n2 kn0 = (r2, s2)) := ⟨_, _, rfl⟩
     have h82 : s2.length = 8 := by have := HQ2.out.e8.at n2; rw [HK2.out] at this; exact this
     obtain ⟨q, HFQ⟩ : ∃ q, Hid (fitsAllS s s2 = q) := ⟨_, rfl⟩
     have HV : Hid (unlE q 33 = E) := by
      show _ = _
      rw [HE.out]; unfold askK
      rw [if_neg (by simp), if_neg (by simp), if_neg (by simp), if_neg (by simp), if_neg (by simp), if_pos rfl, HR1.out, HE1.out, if_neg (by simp), <- HF.out, HN2.out, Int.toNat_natCast, HK2.out, HFQ.out]
     have hwr : IntKind.i64.wrap ((p : Int) + f) = (n2 : Int) := by rw [HN2.out, IntKind.wrap_i64]; omega
     have hn2I : (n2 : Int) < xs.length := by omega
     go_wp2_with (first
      | (go_at_call 57; go_must (refine (lnums_as HE1 (seesT_one _ _ ⟨sk, sl, sh, sm⟩ _ rfl)).mono ?_); rintro e w5 ⟨rfl, hb5'⟩; go_must (have hb5 := box_below hb5'; have hB5 := hBD.trans (hb5.mono hBD.size); have Hi5 := keepJ (HiD.out.below hb5 hzi2); have Hs5 := keepJ (HsD.out.below hb5 hzs2); have HQ5 := keepJ (HQ2.out.below hb5); have hz5 := hb5.size; clear y0 y1 y2 y3 y4; obtain ⟨z0, z1, z2, z3, z4⟩ := Hi5.out.inst))
      | (go_at_call 58; go_must (refine (goes_one (i := ⟨20, d, n, b, imm⟩) (show Hid _ from rfl) HF HL HO _).mono ?_); rintro e w6 ⟨rfl, hb6⟩; go_must (have hB6 := hB5.trans (hb6.mono hB5.size); have Hs6 := keepJ (Hs5.out.below hb6 (by omega)); have HQ6 := keepJ (HQ5.out.below hb6); clear z0 z1 z2 z3 z4)))
     have hqz6 := HQ6.out.q.lt
     have hkz6 := HQ6.out.k.lt
     have hsz6 := Hs6.out.lt
     have HP6 : Hid (∀ w', Below w6.heap.size w6 w' -> w'.cell? ⟨qb, 3, none⟩ = some (.slice (some ⟨kb, 0, none⟩) xs.length xs.length) /\ StAt w' sb 0 r s /\ StAt w' kb (n2 * 33) r2 s2) := fun w' hb' =>
      ⟨(HQ6.out.q.below hb' hqz6).cell rfl, (Hs6.out.below hb' hsz6).one, (HQ6.out.k.below hb' hkz6).state HQ6.out.e8 (by rw [HQ6.out.len]; exact hn2) HK2.out⟩
     refine wp_region_held_drew (S := fun w' => w'.cell? ⟨qb, 3, none⟩ = some (.slice (some ⟨kb, 0, none⟩) xs.length xs.length) /\ StAt w' sb 0 r s /\ StAt w' kb (n2 * 33) r2 s2) (by kernel_rfl) (HP6.out _ (Below.refl _ _).drew) (fun hHeld => ?_)
     refine wpAnyH_take (i := 0) rfl (by kernel_rfl) (by kernel_rfl) (by kernel_rfl) (fun _ _ _ h => h) (yieldsIf_load_mid (by rfl) _ _ rfl _ _ rfl (stC r s) _ (fun w h => h.2.1) Tryz.underlying115 rfl (sizeJ h8)) (by assumption) ?_
     try simp only [Act.put, p1q, p2q, p3q, p4q, p5q, p6q]
     refine tkGo [1, 2, 3, 4, 5, 6] ?_
     repeat (refine tkO (v := ?_) rfl ?_ ?_; rotate_left; (intro wy hSw; (try dsimp only at hSw); go_simp; (first | done | with_reducible rfl)); try simp only [Act.put, p1q, p2q, p3q, p4q, p5q, p6q])
     refine tkEnd ?_
     refine wpAnyH_take (i := 7) (v := (.int .i64 (n2 : Int))) rfl (by kernel_rfl) (by kernel_rfl) (by kernel_rfl) (fun _ _ _ h => h) (Or.inl ⟨by rfl, fun wy hSw => ?_⟩) (by assumption) ?_
     ·go_simp
     try simp only [Act.put, p1q, p2q, p3q, p4q, p5q, p6q]
     refine wpAnyH_take (i := 8) (v := (.pointer (some ⟨kb, n2 * 33, none⟩))) rfl (by kernel_rfl) (by kernel_rfl) (by kernel_rfl) (fun _ _ _ h => h) (Or.inl ⟨by rfl, fun wy hSw => ?_⟩) (by assumption) ?_
     ·go_simp
     try simp only [Act.put, p1q, p2q, p3q, p4q, p5q, p6q]
     refine wpAnyH_take (i := 9) rfl (by kernel_rfl) (by kernel_rfl) (by kernel_rfl) (fun _ _ _ h => h) (yieldsIf_load_mid (by rfl) _ _ rfl _ _ rfl (stC r2 s2) _ (fun w h => h.2.2) Tryz.underlying115 rfl (sizeJ h82)) (by assumption) ?_
     try simp only [Act.put, p1q, p2q, p3q, p4q, p5q, p6q]
     refine runO 10 (by kernel_rfl) rfl (by rfl) (fun KK hK => ?_)
     go_simp
     go_at_call 59
     refine (lfits_as HFQ w6.drew h8 h82).mono ?_
     rintro e w7 ⟨rfl, hb7'⟩
     have hb7 : Below w6.heap.size w6 w7 := below_undrew hb7'
     refine hK.out _ _ (HP6.out _ hb7) (fun hHeld => ?_)
     clear hK KK
     try simp only [Act.put, p1q, p2q, p3q, p4q, p5q, p6q]
     refine runO 11 (by kernel_rfl) rfl (by rfl) (fun KK hK => ?_)
     go_simp
     go_at_call 55
     refine (lunless_as HV w7).mono ?_
     rintro e w8 ⟨rfl, hb8'⟩
     have hb8 : Below w6.heap.size w6 w8 := hb7.trans (hb8'.mono hb7.size)
     refine hK.out _ _ (HP6.out _ hb8) (fun hHeld => ?_)
     clear hK KK
     try simp only [Act.put, p1q, p2q, p3q, p4q, p5q, p6q]
     refine tkGo [12] ?_
     repeat (refine tkO (v := ?_) rfl ?_ ?_; rotate_left; (intro wy hSw; (try dsimp only at hSw); go_simp; (first | done | with_reducible rfl)); try simp only [Act.put, p1q, p2q, p3q, p4q, p5q, p6q])
     refine tkEnd ?_
     refine wpAnyH_done (by kernel_rfl) ?_ _
     go_wp2
     go_ret
     exact ⟨rfl, hB6.trans (hb8.mono hB6.size)⟩
    ·have HV : Hid (e1 = E) := by show _ = _; rw [HE.out]; unfold askK; rw [if_neg (by simp), if_neg (by simp), if_neg (by simp), if_neg (by simp), if_neg (by simp), if_pos rfl, HR1.out, HE1.out, if_pos h1]
     go_wp2_with (go_at_call 57; go_must (refine (lnums_as HE1 (seesT_one _ _ ⟨sk, sl, sh, sm⟩ _ rfl)).mono ?_); rintro e w5 ⟨rfl, hb5'⟩; go_must (have hb5 := box_below hb5'; have hB5 := hBD.trans (hb5.mono hBD.size)))
     go_ret
     exact ⟨reti HV.out, hB5⟩
   by_cases o21 : op = 21
   ·subst o21
    obtain ⟨N, HL⟩ : ∃ N, Hid ((argsL imm).length = N) := ⟨_, rfl⟩
    have hN3 : N <= 3 := by rw [<- HL.out]; exact args_len9 _
    have HV : Hid (hcheckL imm ((s.drop 1).take N) = E) := by show _ = _; rw [HE.out]; unfold askK; simp [HL.out]
    have hwr : IntKind.i64.wrap (1 + (N : Int)) = 1 + (N : Int) := by rw [IntKind.wrap_i64]; omega
    have hsl := run_sliceA sb N hN3
    go_wp2_with (first
     | (go_at_call 61; go_must (refine (args_any imm _).mono ?_); rintro e w5 ⟨u5, rfl, hown5, hb5⟩; go_must (have hB5 := hBD.trans (hb5.mono hBD.size); have Hs5 := keepJ (HsD.out.below hb5 hzs2); rw [HL.out] at hown5; obtain ⟨a5, c5, rfl⟩ := own_shapeT hown5; clear hown5))
     | (go_at_call 60; go_must (refine (hcheck_as9 (sees_args Hs5.out.one h8 hN3 Hs5.out.lt) HV).mono ?_); rintro e w6 ⟨rfl, hb6⟩; go_must (have hB6 := hB5.trans (hb6.mono hB5.size))))
    go_ret
    exact ⟨rfl, hB6⟩
   have HV : Hid (numsE [⟨sk, sl, sh, sm⟩, ⟨tk, tl, th, tm⟩] = E) := by show _ = _; rw [HE.out]; unfold askK; rw [if_neg (by rintro (h | h) <;> contradiction), if_neg o0, if_neg o11, if_neg o12, if_neg o14, if_neg o20, if_neg o21, if_neg o22, HR1.out, HT.out]
   go_wp2_with (go_at_call 57; go_must (refine (lnums_as HV (seesT_two _ _ ⟨sk, sl, sh, sm⟩ ⟨tk, tl, th, tm⟩ _ rfl)).mono ?_); rintro e w5 ⟨rfl, hb5'⟩; go_must (have hb5 := box_below hb5'; have hB5 := hBD.trans (hb5.mono hBD.size)))
   go_ret
   exact ⟨rfl, hB5⟩
  case first =>
   have HP2 : Hid (∀ w', Below wc.heap.size wc w' -> w'.cell? ⟨ib, 0, none⟩ = some (.int .i64 op) /\ w'.cell? ⟨ib, 1, none⟩ = some (.int .i64 d) /\ w'.cell? ⟨ib, 2, none⟩ = some (.int .i64 n) /\ w'.cell? ⟨ib, 3, none⟩ = some (.int .i64 b) /\ w'.cell? ⟨ib, 4, none⟩ = some (.int .i64 imm) /\ w'.cell? ⟨sb, 1 + n * 4, none⟩ = some (.int .i64 sk) /\ w'.cell? ⟨sb, 1 + n * 4 + 1, none⟩ = some (.int .u64 sl) /\ w'.cell? ⟨sb, 1 + n * 4 + 2, none⟩ = some (.int .u64 sh) /\ w'.cell? ⟨sb, 1 + n * 4 + 3, none⟩ = some (.int .i64 sm) /\ StAt w' sb 0 r s) := fun w' hb' => by
    obtain ⟨q0, q1, q2, q3⟩ := stC_typ (r := r) h8 hn HS.out
    have hh := HsC.out.below hb' hzs
    obtain ⟨x0, x1, x2, x3, x4⟩ := Box.below HiC.out.inst hb' hzi
    exact ⟨x0, x1, x2, x3, x4, hh.cell q0, hh.cell q1, hh.cell q2, hh.cell q3, hh.one⟩
   refine wp_region_held_drew (S := fun w' => w'.cell? ⟨ib, 0, none⟩ = some (.int .i64 op) /\ w'.cell? ⟨ib, 1, none⟩ = some (.int .i64 d) /\ w'.cell? ⟨ib, 2, none⟩ = some (.int .i64 n) /\ w'.cell? ⟨ib, 3, none⟩ = some (.int .i64 b) /\ w'.cell? ⟨ib, 4, none⟩ = some (.int .i64 imm) /\ w'.cell? ⟨sb, 1 + n * 4, none⟩ = some (.int .i64 sk) /\ w'.cell? ⟨sb, 1 + n * 4 + 1, none⟩ = some (.int .u64 sl) /\ w'.cell? ⟨sb, 1 + n * 4 + 2, none⟩ = some (.int .u64 sh) /\ w'.cell? ⟨sb, 1 + n * 4 + 3, none⟩ = some (.int .i64 sm) /\ StAt w' sb 0 r s) (by kernel_rfl) (HP2.out _ (Below.refl _ _).drew) (fun hHeld => ?_)
   refine tkGo [0, 1, 2, 3, 4] ?_
   repeat (refine tkO (v := ?_) rfl ?_ ?_; rotate_left; (intro wy hSw; (try dsimp only at hSw); go_simp; (first | done | with_reducible rfl)); try simp only [Act.put, p1q, p2q, p3q, p4q, p5q, p6q])
   refine tkEnd ?_
   refine wpAnyH_take (i := 5) rfl (by kernel_rfl) (by kernel_rfl) (by kernel_rfl) (fun _ _ _ h => h) (yieldsIf_load_mid (by rfl) _ _ rfl _ _ rfl (stC r s) _ (fun w h => h.2.2.2.2.2.2.2.2.2) Tryz.underlying115 rfl (sizeJ h8)) (by assumption) ?_
   try simp only [Act.put, p1q, p2q, p3q, p4q, p5q, p6q]
   refine tkGo [6] ?_
   repeat (refine tkO (v := ?_) rfl ?_ ?_; rotate_left; (intro wy hSw; (try dsimp only at hSw); go_simp; (first | done | with_reducible rfl)); try simp only [Act.put, p1q, p2q, p3q, p4q, p5q, p6q])
   refine tkEnd ?_
   obtain ⟨X, HX, hBX⟩ : ∃ X, Hid (X = wc.drew) /\ Below wc.heap.size wc X := ⟨_, rfl, (Below.refl _ _).drew⟩
   rw [<- HX.out]
   clear HX
   refine wpAnyH_ready (rs := [7, 8, 9]) (by kernel_rfl) (by simp) ?_
   refine (AllReadyH.cons rfl (fun KK hK => ?_) (AllReadyH.cons rfl (fun KK hK => ?_) (AllReadyH.cons rfl (fun KK hK => ?_) AllReadyH.nil))) <;> rw [if_pos (by rfl)]
   ·go_simp
    go_at_call 54
    refine (lsource_as4 (i := ⟨op, d, n, b, imm⟩) HT r X h8 hb).mono ?_
    rintro e X1 ⟨rfl, hbX1⟩
    have hBX1 := hBX.trans (hbX1.mono hBX.size)
    refine hK.out _ _ (HP2.out _ hBX1) (fun hHeld => ?_)
    clear hK KK
    try simp only [Act.put, p1q, p2q, p3q, p4q, p5q, p6q]
    refine wpAnyH_ready (rs := [8, 9]) (by kernel_rfl) (by simp) ?_
    refine (AllReadyH.cons rfl (fun KK hK => ?_) (AllReadyH.cons rfl (fun KK hK => ?_) AllReadyH.nil)) <;> rw [if_pos (by rfl)]
    ·go_simp
     obtain ⟨X2, g8, HY, HN, hbX2, hge8, H8X2, hz8X2⟩ : ∃ Y g, Hid (Y = X1.alloc (Obj.cells #[.int .i64 0, .int .u64 0, .int .u64 0, .int .i64 0] 112)) /\ Hid (X1.heap.size = g) /\ Below X1.heap.size X1 Y /\ wc.heap.size <= g /\ Hid (BxT Y g 0 ⟨0, 0, 0, 0⟩) /\ g < Y.heap.size := ⟨_, _, rfl, rfl, (Below.refl _ _).alloc (Nat.le_refl _) _, hBX1.size, ⟨⟨by go_cell, by go_cell, by go_cell, by go_cell⟩, by go_simp, by go_simp, by go_simp, by go_simp⟩, by simp⟩
     rw [<- HY.out, HN.out]
     clear HY HN
     have hBX2 := hBX1.trans (hbX2.mono hBX1.size)
     refine hK.out _ _ (HP2.out _ hBX2) (fun hHeld => ?_)
     clear hK KK
     try simp only [Act.put, p1q, p2q, p3q, p4q, p5q, p6q]
     refine wpAnyH_ready (rs := [9]) (by kernel_rfl) (by simp) ?_
     refine (AllReadyH.cons rfl (fun KK hK => ?_) AllReadyH.nil) <;> rw [if_pos (by rfl)]
     ·go_simp
      obtain ⟨X3, g9, HY, HN, hbX3, hge9, H9X3, hz9X3⟩ : ∃ Y g, Hid (Y = X2.alloc (Obj.cells #[.int .i64 0, .int .u64 0, .int .u64 0, .int .i64 0] 112)) /\ Hid (X2.heap.size = g) /\ Below X2.heap.size X2 Y /\ wc.heap.size <= g /\ Hid (BxT Y g 0 ⟨0, 0, 0, 0⟩) /\ g < Y.heap.size := ⟨_, _, rfl, rfl, (Below.refl _ _).alloc (Nat.le_refl _) _, hBX2.size, ⟨⟨by go_cell, by go_cell, by go_cell, by go_cell⟩, by go_simp, by go_simp, by go_simp, by go_simp⟩, by simp⟩
      have hne89 : g8 ≠ g9 := by have := HN.out; omega
      have H8X3 : Hid (BxT X3 g8 0 ⟨0, 0, 0, 0⟩) := BxT.below H8X2.out hbX3 hz8X2
      have hz8X3 : g8 < X3.heap.size := Nat.lt_of_lt_of_le hz8X2 hbX3.size
      rw [<- HY.out, HN.out]
      clear HY HN
      have hBX3 := hBX2.trans (hbX3.mono hBX2.size)
      refine hK.out _ _ (HP2.out _ hBX3) (fun hHeld => ?_)
      clear hK KK
      try simp only [Act.put, p1q, p2q, p3q, p4q, p5q, p6q]
      obtain ⟨c0, c1, c2, c3, f0, f1, f2, f3⟩ := BxT.open H8X3.out
      refine runO 10 (by kernel_rfl) rfl (by rfl) (fun KK hK => ?_)
      go_simp
      clear c0 c1 c2 c3 f0 f1 f2 f3
      obtain ⟨U, HU, hBU, HU8, HU9, hzU⟩ : ∃ U, Hid (U = (((X3.setCell ⟨g8, 0, none⟩ (.int .i64 sk)).setCell ⟨g8, 1, none⟩ (.int .u64 sl)).setCell ⟨g8, 2, none⟩ (.int .u64 sh)).setCell ⟨g8, 3, none⟩ (.int .i64 sm)) /\ Below wc.heap.size wc U /\ Hid (BxT U g8 0 ⟨sk, sl, sh, sm⟩) /\ Hid (BxT U g9 0 ⟨0, 0, 0, 0⟩) /\ (g8 < U.heap.size /\ g9 < U.heap.size) := ⟨_, rfl, below_setT (t := ⟨sk, sl, sh, sm⟩) (off := 0) hBX3 hge8, H8X3.out.set ⟨sk, sl, sh, sm⟩, BxT.far (u := ⟨sk, sl, sh, sm⟩) (o := 0) H9X3.out hne89.symm, two_lt (grown_sets g8 (tyC ⟨sk, sl, sh, sm⟩) X3 0).size hz8X3 hz9X3⟩
      rw [<- HU.out]
      clear HU
      refine hK.out _ _ (HP2.out _ hBU) (fun hHeld => ?_)
      clear hK KK
      try simp only [Act.put, p1q, p2q, p3q, p4q, p5q, p6q]
      obtain ⟨c0, c1, c2, c3, f0, f1, f2, f3⟩ := BxT.open HU9.out
      refine runO 11 (by kernel_rfl) rfl (by rfl) (fun KK hK => ?_)
      go_simp
      clear c0 c1 c2 c3 f0 f1 f2 f3
      obtain ⟨V, HV, hBV, HV8, HV9, hzV⟩ : ∃ V, Hid (V = (((U.setCell ⟨g9, 0, none⟩ (.int .i64 tk)).setCell ⟨g9, 1, none⟩ (.int .u64 tl)).setCell ⟨g9, 2, none⟩ (.int .u64 th)).setCell ⟨g9, 3, none⟩ (.int .i64 tm)) /\ Below wc.heap.size wc V /\ Hid (BxT V g8 0 ⟨sk, sl, sh, sm⟩) /\ Hid (BxT V g9 0 ⟨tk, tl, th, tm⟩) /\ (g8 < V.heap.size /\ g9 < V.heap.size) := ⟨_, rfl, below_setT (t := ⟨tk, tl, th, tm⟩) (off := 0) hBU hge9, BxT.far (u := ⟨tk, tl, th, tm⟩) (o := 0) HU8.out hne89, HU9.out.set ⟨tk, tl, th, tm⟩, two_lt (grown_sets g9 (tyC ⟨tk, tl, th, tm⟩) U 0).size hzU.1 hzU.2⟩
      rw [<- HV.out]
      clear HV
      refine hK.out _ _ (HP2.out _ hBV) (fun hHeld => ?_)
      clear hK KK
      try simp only [Act.put, p1q, p2q, p3q, p4q, p5q, p6q]
      refine wpAnyH_done (by kernel_rfl) ?_ _
      go_wp2
      go_meet
      case rel => exact ⟨g8, g9, rfl, rfl, HV8.out.1, HV9.out.1, hBV, hzV.1, hzV.2⟩
    ·go_simp
     obtain ⟨X4, g9, HY, HN, hbX4, hge9, H9X4, hz9X4⟩ : ∃ Y g, Hid (Y = X1.alloc (Obj.cells #[.int .i64 0, .int .u64 0, .int .u64 0, .int .i64 0] 112)) /\ Hid (X1.heap.size = g) /\ Below X1.heap.size X1 Y /\ wc.heap.size <= g /\ Hid (BxT Y g 0 ⟨0, 0, 0, 0⟩) /\ g < Y.heap.size := ⟨_, _, rfl, rfl, (Below.refl _ _).alloc (Nat.le_refl _) _, hBX1.size, ⟨⟨by go_cell, by go_cell, by go_cell, by go_cell⟩, by go_simp, by go_simp, by go_simp, by go_simp⟩, by simp⟩
     rw [<- HY.out, HN.out]
     clear HY HN
     have hBX4 := hBX1.trans (hbX4.mono hBX1.size)
     refine hK.out _ _ (HP2.out _ hBX4) (fun hHeld => ?_)
     clear hK KK
     try simp only [Act.put, p1q, p2q, p3q, p4q, p5q, p6q]
     refine wpAnyH_ready (rs := [8]) (by kernel_rfl) (by simp) ?_
     refine (AllReadyH.cons rfl (fun KK hK => ?_) AllReadyH.nil) <;> rw [if_pos (by rfl)]
     ·go_simp
      obtain ⟨X5, g8, HY, HN, hbX5, hge8, H8X5, hz8X5⟩ : ∃ Y g, Hid (Y = X4.alloc (Obj.cells #[.int .i64 0, .int .u64 0, .int .u64 0, .int .i64 0] 112)) /\ Hid (X4.heap.size = g) /\ Below X4.heap.size X4 Y /\ wc.heap.size <= g /\ Hid (BxT Y g 0 ⟨0, 0, 0, 0⟩) /\ g < Y.heap.size := ⟨_, _, rfl, rfl, (Below.refl _ _).alloc (Nat.le_refl _) _, hBX4.size, ⟨⟨by go_cell, by go_cell, by go_cell, by go_cell⟩, by go_simp, by go_simp, by go_simp, by go_simp⟩, by simp⟩
      have hne98 : g9 ≠ g8 := by have := HN.out; omega
      have H9X5 : Hid (BxT X5 g9 0 ⟨0, 0, 0, 0⟩) := BxT.below H9X4.out hbX5 hz9X4
      have hz9X5 : g9 < X5.heap.size := Nat.lt_of_lt_of_le hz9X4 hbX5.size
      rw [<- HY.out, HN.out]
      clear HY HN
      have hBX5 := hBX4.trans (hbX5.mono hBX4.size)
      refine hK.out _ _ (HP2.out _ hBX5) (fun hHeld => ?_)
      clear hK KK
      try simp only [Act.put, p1q, p2q, p3q, p4q, p5q, p6q]
      have hne89 : g8 ≠ g9 := hne98.symm
      obtain ⟨c0, c1, c2, c3, f0, f1, f2, f3⟩ := BxT.open H8X5.out
      refine runO 10 (by kernel_rfl) rfl (by rfl) (fun KK hK => ?_)
      go_simp
      clear c0 c1 c2 c3 f0 f1 f2 f3
      obtain ⟨U, HU, hBU, HU8, HU9, hzU⟩ : ∃ U, Hid (U = (((X5.setCell ⟨g8, 0, none⟩ (.int .i64 sk)).setCell ⟨g8, 1, none⟩ (.int .u64 sl)).setCell ⟨g8, 2, none⟩ (.int .u64 sh)).setCell ⟨g8, 3, none⟩ (.int .i64 sm)) /\ Below wc.heap.size wc U /\ Hid (BxT U g8 0 ⟨sk, sl, sh, sm⟩) /\ Hid (BxT U g9 0 ⟨0, 0, 0, 0⟩) /\ (g8 < U.heap.size /\ g9 < U.heap.size) := ⟨_, rfl, below_setT (t := ⟨sk, sl, sh, sm⟩) (off := 0) hBX5 hge8, H8X5.out.set ⟨sk, sl, sh, sm⟩, BxT.far (u := ⟨sk, sl, sh, sm⟩) (o := 0) H9X5.out hne89.symm, two_lt (grown_sets g8 (tyC ⟨sk, sl, sh, sm⟩) X5 0).size hz8X5 hz9X5⟩
      rw [<- HU.out]
      clear HU
      refine hK.out _ _ (HP2.out _ hBU) (fun hHeld => ?_)
      clear hK KK
      try simp only [Act.put, p1q, p2q, p3q, p4q, p5q, p6q]
      obtain ⟨c0, c1, c2, c3, f0, f1, f2, f3⟩ := BxT.open HU9.out
      refine runO 11 (by kernel_rfl) rfl (by rfl) (fun KK hK => ?_)
      go_simp
      clear c0 c1 c2 c3 f0 f1 f2 f3
      obtain ⟨V, HV, hBV, HV8, HV9, hzV⟩ : ∃ V, Hid (V = (((U.setCell ⟨g9, 0, none⟩ (.int .i64 tk)).setCell ⟨g9, 1, none⟩ (.int .u64 tl)).setCell ⟨g9, 2, none⟩ (.int .u64 th)).setCell ⟨g9, 3, none⟩ (.int .i64 tm)) /\ Below wc.heap.size wc V /\ Hid (BxT V g8 0 ⟨sk, sl, sh, sm⟩) /\ Hid (BxT V g9 0 ⟨tk, tl, th, tm⟩) /\ (g8 < V.heap.size /\ g9 < V.heap.size) := ⟨_, rfl, below_setT (t := ⟨tk, tl, th, tm⟩) (off := 0) hBU hge9, BxT.far (u := ⟨tk, tl, th, tm⟩) (o := 0) HU8.out hne89, HU9.out.set ⟨tk, tl, th, tm⟩, two_lt (grown_sets g9 (tyC ⟨tk, tl, th, tm⟩) U 0).size hzU.1 hzU.2⟩
      rw [<- HV.out]
      clear HV
      refine hK.out _ _ (HP2.out _ hBV) (fun hHeld => ?_)
      clear hK KK
      try simp only [Act.put, p1q, p2q, p3q, p4q, p5q, p6q]
      refine wpAnyH_done (by kernel_rfl) ?_ _
      go_wp2
      go_meet
      case rel => exact ⟨g8, g9, rfl, rfl, HV8.out.1, HV9.out.1, hBV, hzV.1, hzV.2⟩
   ·go_simp
    obtain ⟨X6, g8, HY, HN, hbX6, hge8, H8X6, hz8X6⟩ : ∃ Y g, Hid (Y = X.alloc (Obj.cells #[.int .i64 0, .int .u64 0, .int .u64 0, .int .i64 0] 112)) /\ Hid (X.heap.size = g) /\ Below X.heap.size X Y /\ wc.heap.size <= g /\ Hid (BxT Y g 0 ⟨0, 0, 0, 0⟩) /\ g < Y.heap.size := ⟨_, _, rfl, rfl, (Below.refl _ _).alloc (Nat.le_refl _) _, hBX.size, ⟨⟨by go_cell, by go_cell, by go_cell, by go_cell⟩, by go_simp, by go_simp, by go_simp, by go_simp⟩, by simp⟩
    rw [<- HY.out, HN.out]
    clear HY HN
    have hBX6 := hBX.trans (hbX6.mono hBX.size)
    refine hK.out _ _ (HP2.out _ hBX6) (fun hHeld => ?_)
    clear hK KK
    try simp only [Act.put, p1q, p2q, p3q, p4q, p5q, p6q]
    refine wpAnyH_ready (rs := [7, 9]) (by kernel_rfl) (by simp) ?_
    refine (AllReadyH.cons rfl (fun KK hK => ?_) (AllReadyH.cons rfl (fun KK hK => ?_) AllReadyH.nil)) <;> rw [if_pos (by rfl)]
    ·go_simp
     go_at_call 54
     refine (lsource_as4 (i := ⟨op, d, n, b, imm⟩) HT r X6 h8 hb).mono ?_
     rintro e X7 ⟨rfl, hbX7⟩
     have hBX7 := hBX6.trans (hbX7.mono hBX6.size)
     have H8X7 : Hid (BxT X7 g8 0 ⟨0, 0, 0, 0⟩) := BxT.below H8X6.out hbX7 hz8X6
     have hz8X7 : g8 < X7.heap.size := Nat.lt_of_lt_of_le hz8X6 hbX7.size
     refine hK.out _ _ (HP2.out _ hBX7) (fun hHeld => ?_)
     clear hK KK
     try simp only [Act.put, p1q, p2q, p3q, p4q, p5q, p6q]
     refine wpAnyH_ready (rs := [9]) (by kernel_rfl) (by simp) ?_
     refine (AllReadyH.cons rfl (fun KK hK => ?_) AllReadyH.nil) <;> rw [if_pos (by rfl)]
     ·go_simp
      obtain ⟨X8, g9, HY, HN, hbX8, hge9, H9X8, hz9X8⟩ : ∃ Y g, Hid (Y = X7.alloc (Obj.cells #[.int .i64 0, .int .u64 0, .int .u64 0, .int .i64 0] 112)) /\ Hid (X7.heap.size = g) /\ Below X7.heap.size X7 Y /\ wc.heap.size <= g /\ Hid (BxT Y g 0 ⟨0, 0, 0, 0⟩) /\ g < Y.heap.size := ⟨_, _, rfl, rfl, (Below.refl _ _).alloc (Nat.le_refl _) _, hBX7.size, ⟨⟨by go_cell, by go_cell, by go_cell, by go_cell⟩, by go_simp, by go_simp, by go_simp, by go_simp⟩, by simp⟩
      have hne89 : g8 ≠ g9 := by have := HN.out; omega
      have H8X8 : Hid (BxT X8 g8 0 ⟨0, 0, 0, 0⟩) := BxT.below H8X7.out hbX8 hz8X7
      have hz8X8 : g8 < X8.heap.size := Nat.lt_of_lt_of_le hz8X7 hbX8.size
      rw [<- HY.out, HN.out]
      clear HY HN
      have hBX8 := hBX7.trans (hbX8.mono hBX7.size)
      refine hK.out _ _ (HP2.out _ hBX8) (fun hHeld => ?_)
      clear hK KK
      try simp only [Act.put, p1q, p2q, p3q, p4q, p5q, p6q]
      obtain ⟨c0, c1, c2, c3, f0, f1, f2, f3⟩ := BxT.open H8X8.out
      refine runO 10 (by kernel_rfl) rfl (by rfl) (fun KK hK => ?_)
      go_simp
      clear c0 c1 c2 c3 f0 f1 f2 f3
      obtain ⟨U, HU, hBU, HU8, HU9, hzU⟩ : ∃ U, Hid (U = (((X8.setCell ⟨g8, 0, none⟩ (.int .i64 sk)).setCell ⟨g8, 1, none⟩ (.int .u64 sl)).setCell ⟨g8, 2, none⟩ (.int .u64 sh)).setCell ⟨g8, 3, none⟩ (.int .i64 sm)) /\ Below wc.heap.size wc U /\ Hid (BxT U g8 0 ⟨sk, sl, sh, sm⟩) /\ Hid (BxT U g9 0 ⟨0, 0, 0, 0⟩) /\ (g8 < U.heap.size /\ g9 < U.heap.size) := ⟨_, rfl, below_setT (t := ⟨sk, sl, sh, sm⟩) (off := 0) hBX8 hge8, H8X8.out.set ⟨sk, sl, sh, sm⟩, BxT.far (u := ⟨sk, sl, sh, sm⟩) (o := 0) H9X8.out hne89.symm, two_lt (grown_sets g8 (tyC ⟨sk, sl, sh, sm⟩) X8 0).size hz8X8 hz9X8⟩
      rw [<- HU.out]
      clear HU
      refine hK.out _ _ (HP2.out _ hBU) (fun hHeld => ?_)
      clear hK KK
      try simp only [Act.put, p1q, p2q, p3q, p4q, p5q, p6q]
      obtain ⟨c0, c1, c2, c3, f0, f1, f2, f3⟩ := BxT.open HU9.out
      refine runO 11 (by kernel_rfl) rfl (by rfl) (fun KK hK => ?_)
      go_simp
      clear c0 c1 c2 c3 f0 f1 f2 f3
      obtain ⟨V, HV, hBV, HV8, HV9, hzV⟩ : ∃ V, Hid (V = (((U.setCell ⟨g9, 0, none⟩ (.int .i64 tk)).setCell ⟨g9, 1, none⟩ (.int .u64 tl)).setCell ⟨g9, 2, none⟩ (.int .u64 th)).setCell ⟨g9, 3, none⟩ (.int .i64 tm)) /\ Below wc.heap.size wc V /\ Hid (BxT V g8 0 ⟨sk, sl, sh, sm⟩) /\ Hid (BxT V g9 0 ⟨tk, tl, th, tm⟩) /\ (g8 < V.heap.size /\ g9 < V.heap.size) := ⟨_, rfl, below_setT (t := ⟨tk, tl, th, tm⟩) (off := 0) hBU hge9, BxT.far (u := ⟨tk, tl, th, tm⟩) (o := 0) HU8.out hne89, HU9.out.set ⟨tk, tl, th, tm⟩, two_lt (grown_sets g9 (tyC ⟨tk, tl, th, tm⟩) U 0).size hzU.1 hzU.2⟩
      rw [<- HV.out]
      clear HV
      refine hK.out _ _ (HP2.out _ hBV) (fun hHeld => ?_)
      clear hK KK
      try simp only [Act.put, p1q, p2q, p3q, p4q, p5q, p6q]
      refine wpAnyH_done (by kernel_rfl) ?_ _
      go_wp2
      go_meet
      case rel => exact ⟨g8, g9, rfl, rfl, HV8.out.1, HV9.out.1, hBV, hzV.1, hzV.2⟩
    ·go_simp
     obtain ⟨X9, g9, HY, HN, hbX9, hge9, H9X9, hz9X9⟩ : ∃ Y g, Hid (Y = X6.alloc (Obj.cells #[.int .i64 0, .int .u64 0, .int .u64 0, .int .i64 0] 112)) /\ Hid (X6.heap.size = g) /\ Below X6.heap.size X6 Y /\ wc.heap.size <= g /\ Hid (BxT Y g 0 ⟨0, 0, 0, 0⟩) /\ g < Y.heap.size := ⟨_, _, rfl, rfl, (Below.refl _ _).alloc (Nat.le_refl _) _, hBX6.size, ⟨⟨by go_cell, by go_cell, by go_cell, by go_cell⟩, by go_simp, by go_simp, by go_simp, by go_simp⟩, by simp⟩
     have hne89 : g8 ≠ g9 := by have := HN.out; omega
     have H8X9 : Hid (BxT X9 g8 0 ⟨0, 0, 0, 0⟩) := BxT.below H8X6.out hbX9 hz8X6
     have hz8X9 : g8 < X9.heap.size := Nat.lt_of_lt_of_le hz8X6 hbX9.size
     rw [<- HY.out, HN.out]
     clear HY HN
     have hBX9 := hBX6.trans (hbX9.mono hBX6.size)
     refine hK.out _ _ (HP2.out _ hBX9) (fun hHeld => ?_)
     clear hK KK
     try simp only [Act.put, p1q, p2q, p3q, p4q, p5q, p6q]
     refine wpAnyH_ready (rs := [7]) (by kernel_rfl) (by simp) ?_
     refine (AllReadyH.cons rfl (fun KK hK => ?_) AllReadyH.nil) <;> rw [if_pos (by rfl)]
     ·go_simp
      go_at_call 54
      refine (lsource_as4 (i := ⟨op, d, n, b, imm⟩) HT r X9 h8 hb).mono ?_
      rintro e X10 ⟨rfl, hbX10⟩
      have hBX10 := hBX9.trans (hbX10.mono hBX9.size)
      have H8X10 : Hid (BxT X10 g8 0 ⟨0, 0, 0, 0⟩) := BxT.below H8X9.out hbX10 hz8X9
      have hz8X10 : g8 < X10.heap.size := Nat.lt_of_lt_of_le hz8X9 hbX10.size
      have H9X10 : Hid (BxT X10 g9 0 ⟨0, 0, 0, 0⟩) := BxT.below H9X9.out hbX10 hz9X9
      have hz9X10 : g9 < X10.heap.size := Nat.lt_of_lt_of_le hz9X9 hbX10.size
      refine hK.out _ _ (HP2.out _ hBX10) (fun hHeld => ?_)
      clear hK KK
      try simp only [Act.put, p1q, p2q, p3q, p4q, p5q, p6q]
      obtain ⟨c0, c1, c2, c3, f0, f1, f2, f3⟩ := BxT.open H8X10.out
      refine runO 10 (by kernel_rfl) rfl (by rfl) (fun KK hK => ?_)
      go_simp
      clear c0 c1 c2 c3 f0 f1 f2 f3
      obtain ⟨U, HU, hBU, HU8, HU9, hzU⟩ : ∃ U, Hid (U = (((X10.setCell ⟨g8, 0, none⟩ (.int .i64 sk)).setCell ⟨g8, 1, none⟩ (.int .u64 sl)).setCell ⟨g8, 2, none⟩ (.int .u64 sh)).setCell ⟨g8, 3, none⟩ (.int .i64 sm)) /\ Below wc.heap.size wc U /\ Hid (BxT U g8 0 ⟨sk, sl, sh, sm⟩) /\ Hid (BxT U g9 0 ⟨0, 0, 0, 0⟩) /\ (g8 < U.heap.size /\ g9 < U.heap.size) := ⟨_, rfl, below_setT (t := ⟨sk, sl, sh, sm⟩) (off := 0) hBX10 hge8, H8X10.out.set ⟨sk, sl, sh, sm⟩, BxT.far (u := ⟨sk, sl, sh, sm⟩) (o := 0) H9X10.out hne89.symm, two_lt (grown_sets g8 (tyC ⟨sk, sl, sh, sm⟩) X10 0).size hz8X10 hz9X10⟩
      rw [<- HU.out]
      clear HU
      refine hK.out _ _ (HP2.out _ hBU) (fun hHeld => ?_)
      clear hK KK
      try simp only [Act.put, p1q, p2q, p3q, p4q, p5q, p6q]
      obtain ⟨c0, c1, c2, c3, f0, f1, f2, f3⟩ := BxT.open HU9.out
      refine runO 11 (by kernel_rfl) rfl (by rfl) (fun KK hK => ?_)
      go_simp
      clear c0 c1 c2 c3 f0 f1 f2 f3
      obtain ⟨V, HV, hBV, HV8, HV9, hzV⟩ : ∃ V, Hid (V = (((U.setCell ⟨g9, 0, none⟩ (.int .i64 tk)).setCell ⟨g9, 1, none⟩ (.int .u64 tl)).setCell ⟨g9, 2, none⟩ (.int .u64 th)).setCell ⟨g9, 3, none⟩ (.int .i64 tm)) /\ Below wc.heap.size wc V /\ Hid (BxT V g8 0 ⟨sk, sl, sh, sm⟩) /\ Hid (BxT V g9 0 ⟨tk, tl, th, tm⟩) /\ (g8 < V.heap.size /\ g9 < V.heap.size) := ⟨_, rfl, below_setT (t := ⟨tk, tl, th, tm⟩) (off := 0) hBU hge9, BxT.far (u := ⟨tk, tl, th, tm⟩) (o := 0) HU8.out hne89, HU9.out.set ⟨tk, tl, th, tm⟩, two_lt (grown_sets g9 (tyC ⟨tk, tl, th, tm⟩) U 0).size hzU.1 hzU.2⟩
      rw [<- HV.out]
      clear HV
      refine hK.out _ _ (HP2.out _ hBV) (fun hHeld => ?_)
      clear hK KK
      try simp only [Act.put, p1q, p2q, p3q, p4q, p5q, p6q]
      refine wpAnyH_done (by kernel_rfl) ?_ _
      go_wp2
      go_meet
      case rel => exact ⟨g8, g9, rfl, rfl, HV8.out.1, HV9.out.1, hBV, hzV.1, hzV.2⟩
   ·go_simp
    obtain ⟨X11, g9, HY, HN, hbX11, hge9, H9X11, hz9X11⟩ : ∃ Y g, Hid (Y = X.alloc (Obj.cells #[.int .i64 0, .int .u64 0, .int .u64 0, .int .i64 0] 112)) /\ Hid (X.heap.size = g) /\ Below X.heap.size X Y /\ wc.heap.size <= g /\ Hid (BxT Y g 0 ⟨0, 0, 0, 0⟩) /\ g < Y.heap.size := ⟨_, _, rfl, rfl, (Below.refl _ _).alloc (Nat.le_refl _) _, hBX.size, ⟨⟨by go_cell, by go_cell, by go_cell, by go_cell⟩, by go_simp, by go_simp, by go_simp, by go_simp⟩, by simp⟩
    rw [<- HY.out, HN.out]
    clear HY HN
    have hBX11 := hBX.trans (hbX11.mono hBX.size)
    refine hK.out _ _ (HP2.out _ hBX11) (fun hHeld => ?_)
    clear hK KK
    try simp only [Act.put, p1q, p2q, p3q, p4q, p5q, p6q]
    refine wpAnyH_ready (rs := [7, 8]) (by kernel_rfl) (by simp) ?_
    refine (AllReadyH.cons rfl (fun KK hK => ?_) (AllReadyH.cons rfl (fun KK hK => ?_) AllReadyH.nil)) <;> rw [if_pos (by rfl)]
    ·go_simp
     go_at_call 54
     refine (lsource_as4 (i := ⟨op, d, n, b, imm⟩) HT r X11 h8 hb).mono ?_
     rintro e X12 ⟨rfl, hbX12⟩
     have hBX12 := hBX11.trans (hbX12.mono hBX11.size)
     have H9X12 : Hid (BxT X12 g9 0 ⟨0, 0, 0, 0⟩) := BxT.below H9X11.out hbX12 hz9X11
     have hz9X12 : g9 < X12.heap.size := Nat.lt_of_lt_of_le hz9X11 hbX12.size
     refine hK.out _ _ (HP2.out _ hBX12) (fun hHeld => ?_)
     clear hK KK
     try simp only [Act.put, p1q, p2q, p3q, p4q, p5q, p6q]
     refine wpAnyH_ready (rs := [8]) (by kernel_rfl) (by simp) ?_
     refine (AllReadyH.cons rfl (fun KK hK => ?_) AllReadyH.nil) <;> rw [if_pos (by rfl)]
     ·go_simp
      obtain ⟨X13, g8, HY, HN, hbX13, hge8, H8X13, hz8X13⟩ : ∃ Y g, Hid (Y = X12.alloc (Obj.cells #[.int .i64 0, .int .u64 0, .int .u64 0, .int .i64 0] 112)) /\ Hid (X12.heap.size = g) /\ Below X12.heap.size X12 Y /\ wc.heap.size <= g /\ Hid (BxT Y g 0 ⟨0, 0, 0, 0⟩) /\ g < Y.heap.size := ⟨_, _, rfl, rfl, (Below.refl _ _).alloc (Nat.le_refl _) _, hBX12.size, ⟨⟨by go_cell, by go_cell, by go_cell, by go_cell⟩, by go_simp, by go_simp, by go_simp, by go_simp⟩, by simp⟩
      have hne98 : g9 ≠ g8 := by have := HN.out; omega
      have H9X13 : Hid (BxT X13 g9 0 ⟨0, 0, 0, 0⟩) := BxT.below H9X12.out hbX13 hz9X12
      have hz9X13 : g9 < X13.heap.size := Nat.lt_of_lt_of_le hz9X12 hbX13.size
      rw [<- HY.out, HN.out]
      clear HY HN
      have hBX13 := hBX12.trans (hbX13.mono hBX12.size)
      refine hK.out _ _ (HP2.out _ hBX13) (fun hHeld => ?_)
      clear hK KK
      try simp only [Act.put, p1q, p2q, p3q, p4q, p5q, p6q]
      have hne89 : g8 ≠ g9 := hne98.symm
      obtain ⟨c0, c1, c2, c3, f0, f1, f2, f3⟩ := BxT.open H8X13.out
      refine runO 10 (by kernel_rfl) rfl (by rfl) (fun KK hK => ?_)
      go_simp
      clear c0 c1 c2 c3 f0 f1 f2 f3
      obtain ⟨U, HU, hBU, HU8, HU9, hzU⟩ : ∃ U, Hid (U = (((X13.setCell ⟨g8, 0, none⟩ (.int .i64 sk)).setCell ⟨g8, 1, none⟩ (.int .u64 sl)).setCell ⟨g8, 2, none⟩ (.int .u64 sh)).setCell ⟨g8, 3, none⟩ (.int .i64 sm)) /\ Below wc.heap.size wc U /\ Hid (BxT U g8 0 ⟨sk, sl, sh, sm⟩) /\ Hid (BxT U g9 0 ⟨0, 0, 0, 0⟩) /\ (g8 < U.heap.size /\ g9 < U.heap.size) := ⟨_, rfl, below_setT (t := ⟨sk, sl, sh, sm⟩) (off := 0) hBX13 hge8, H8X13.out.set ⟨sk, sl, sh, sm⟩, BxT.far (u := ⟨sk, sl, sh, sm⟩) (o := 0) H9X13.out hne89.symm, two_lt (grown_sets g8 (tyC ⟨sk, sl, sh, sm⟩) X13 0).size hz8X13 hz9X13⟩
      rw [<- HU.out]
      clear HU
      refine hK.out _ _ (HP2.out _ hBU) (fun hHeld => ?_)
      clear hK KK
      try simp only [Act.put, p1q, p2q, p3q, p4q, p5q, p6q]
      obtain ⟨c0, c1, c2, c3, f0, f1, f2, f3⟩ := BxT.open HU9.out
      refine runO 11 (by kernel_rfl) rfl (by rfl) (fun KK hK => ?_)
      go_simp
      clear c0 c1 c2 c3 f0 f1 f2 f3
      obtain ⟨V, HV, hBV, HV8, HV9, hzV⟩ : ∃ V, Hid (V = (((U.setCell ⟨g9, 0, none⟩ (.int .i64 tk)).setCell ⟨g9, 1, none⟩ (.int .u64 tl)).setCell ⟨g9, 2, none⟩ (.int .u64 th)).setCell ⟨g9, 3, none⟩ (.int .i64 tm)) /\ Below wc.heap.size wc V /\ Hid (BxT V g8 0 ⟨sk, sl, sh, sm⟩) /\ Hid (BxT V g9 0 ⟨tk, tl, th, tm⟩) /\ (g8 < V.heap.size /\ g9 < V.heap.size) := ⟨_, rfl, below_setT (t := ⟨tk, tl, th, tm⟩) (off := 0) hBU hge9, BxT.far (u := ⟨tk, tl, th, tm⟩) (o := 0) HU8.out hne89, HU9.out.set ⟨tk, tl, th, tm⟩, two_lt (grown_sets g9 (tyC ⟨tk, tl, th, tm⟩) U 0).size hzU.1 hzU.2⟩
      rw [<- HV.out]
      clear HV
      refine hK.out _ _ (HP2.out _ hBV) (fun hHeld => ?_)
      clear hK KK
      try simp only [Act.put, p1q, p2q, p3q, p4q, p5q, p6q]
      refine wpAnyH_done (by kernel_rfl) ?_ _
      go_wp2
      go_meet
      case rel => exact ⟨g8, g9, rfl, rfl, HV8.out.1, HV9.out.1, hBV, hzV.1, hzV.2⟩
    ·go_simp
     obtain ⟨X14, g8, HY, HN, hbX14, hge8, H8X14, hz8X14⟩ : ∃ Y g, Hid (Y = X11.alloc (Obj.cells #[.int .i64 0, .int .u64 0, .int .u64 0, .int .i64 0] 112)) /\ Hid (X11.heap.size = g) /\ Below X11.heap.size X11 Y /\ wc.heap.size <= g /\ Hid (BxT Y g 0 ⟨0, 0, 0, 0⟩) /\ g < Y.heap.size := ⟨_, _, rfl, rfl, (Below.refl _ _).alloc (Nat.le_refl _) _, hBX11.size, ⟨⟨by go_cell, by go_cell, by go_cell, by go_cell⟩, by go_simp, by go_simp, by go_simp, by go_simp⟩, by simp⟩
     have hne98 : g9 ≠ g8 := by have := HN.out; omega
     have H9X14 : Hid (BxT X14 g9 0 ⟨0, 0, 0, 0⟩) := BxT.below H9X11.out hbX14 hz9X11
     have hz9X14 : g9 < X14.heap.size := Nat.lt_of_lt_of_le hz9X11 hbX14.size
     rw [<- HY.out, HN.out]
     clear HY HN
     have hBX14 := hBX11.trans (hbX14.mono hBX11.size)
     refine hK.out _ _ (HP2.out _ hBX14) (fun hHeld => ?_)
     clear hK KK
     try simp only [Act.put, p1q, p2q, p3q, p4q, p5q, p6q]
     refine wpAnyH_ready (rs := [7]) (by kernel_rfl) (by simp) ?_
     refine (AllReadyH.cons rfl (fun KK hK => ?_) AllReadyH.nil) <;> rw [if_pos (by rfl)]
     ·go_simp
      go_at_call 54
      refine (lsource_as4 (i := ⟨op, d, n, b, imm⟩) HT r X14 h8 hb).mono ?_
      rintro e X15 ⟨rfl, hbX15⟩
      have hBX15 := hBX14.trans (hbX15.mono hBX14.size)
      have H9X15 : Hid (BxT X15 g9 0 ⟨0, 0, 0, 0⟩) := BxT.below H9X14.out hbX15 hz9X14
      have hz9X15 : g9 < X15.heap.size := Nat.lt_of_lt_of_le hz9X14 hbX15.size
      have H8X15 : Hid (BxT X15 g8 0 ⟨0, 0, 0, 0⟩) := BxT.below H8X14.out hbX15 hz8X14
      have hz8X15 : g8 < X15.heap.size := Nat.lt_of_lt_of_le hz8X14 hbX15.size
      refine hK.out _ _ (HP2.out _ hBX15) (fun hHeld => ?_)
      clear hK KK
      try simp only [Act.put, p1q, p2q, p3q, p4q, p5q, p6q]
      have hne89 : g8 ≠ g9 := hne98.symm
      obtain ⟨c0, c1, c2, c3, f0, f1, f2, f3⟩ := BxT.open H8X15.out
      refine runO 10 (by kernel_rfl) rfl (by rfl) (fun KK hK => ?_)
      go_simp
      clear c0 c1 c2 c3 f0 f1 f2 f3
      obtain ⟨U, HU, hBU, HU8, HU9, hzU⟩ : ∃ U, Hid (U = (((X15.setCell ⟨g8, 0, none⟩ (.int .i64 sk)).setCell ⟨g8, 1, none⟩ (.int .u64 sl)).setCell ⟨g8, 2, none⟩ (.int .u64 sh)).setCell ⟨g8, 3, none⟩ (.int .i64 sm)) /\ Below wc.heap.size wc U /\ Hid (BxT U g8 0 ⟨sk, sl, sh, sm⟩) /\ Hid (BxT U g9 0 ⟨0, 0, 0, 0⟩) /\ (g8 < U.heap.size /\ g9 < U.heap.size) := ⟨_, rfl, below_setT (t := ⟨sk, sl, sh, sm⟩) (off := 0) hBX15 hge8, H8X15.out.set ⟨sk, sl, sh, sm⟩, BxT.far (u := ⟨sk, sl, sh, sm⟩) (o := 0) H9X15.out hne89.symm, two_lt (grown_sets g8 (tyC ⟨sk, sl, sh, sm⟩) X15 0).size hz8X15 hz9X15⟩
      rw [<- HU.out]
      clear HU
      refine hK.out _ _ (HP2.out _ hBU) (fun hHeld => ?_)
      clear hK KK
      try simp only [Act.put, p1q, p2q, p3q, p4q, p5q, p6q]
      obtain ⟨c0, c1, c2, c3, f0, f1, f2, f3⟩ := BxT.open HU9.out
      refine runO 11 (by kernel_rfl) rfl (by rfl) (fun KK hK => ?_)
      go_simp
      clear c0 c1 c2 c3 f0 f1 f2 f3
      obtain ⟨V, HV, hBV, HV8, HV9, hzV⟩ : ∃ V, Hid (V = (((U.setCell ⟨g9, 0, none⟩ (.int .i64 tk)).setCell ⟨g9, 1, none⟩ (.int .u64 tl)).setCell ⟨g9, 2, none⟩ (.int .u64 th)).setCell ⟨g9, 3, none⟩ (.int .i64 tm)) /\ Below wc.heap.size wc V /\ Hid (BxT V g8 0 ⟨sk, sl, sh, sm⟩) /\ Hid (BxT V g9 0 ⟨tk, tl, th, tm⟩) /\ (g8 < V.heap.size /\ g9 < V.heap.size) := ⟨_, rfl, below_setT (t := ⟨tk, tl, th, tm⟩) (off := 0) hBU hge9, BxT.far (u := ⟨tk, tl, th, tm⟩) (o := 0) HU8.out hne89, HU9.out.set ⟨tk, tl, th, tm⟩, two_lt (grown_sets g9 (tyC ⟨tk, tl, th, tm⟩) U 0).size hzU.1 hzU.2⟩
      rw [<- HV.out]
      clear HV
      refine hK.out _ _ (HP2.out _ hBV) (fun hHeld => ?_)
      clear hK KK
      try simp only [Act.put, p1q, p2q, p3q, p4q, p5q, p6q]
      refine wpAnyH_done (by kernel_rfl) ?_ _
      go_wp2
      go_meet
      case rel => exact ⟨g8, g9, rfl, rfl, HV8.out.1, HV9.out.1, hBV, hzV.1, hzV.2⟩
 case first =>
  refine wp_region_held_drew (S := fun w' => w'.cell? ⟨qb, 1, none⟩ = some (.slice (some ⟨cb, co, none⟩) xs.length ccap) /\ w'.cell? ⟨qb, 3, none⟩ = some (.slice (some ⟨kb, 0, none⟩) xs.length xs.length) /\ w'.cell? ⟨cb, co + p * 5, none⟩ = some (.int .i64 op) /\ w'.cell? ⟨cb, co + p * 5 + 1, none⟩ = some (.int .i64 d) /\ w'.cell? ⟨cb, co + p * 5 + 2, none⟩ = some (.int .i64 n) /\ w'.cell? ⟨cb, co + p * 5 + 3, none⟩ = some (.int .i64 b) /\ w'.cell? ⟨cb, co + p * 5 + 4, none⟩ = some (.int .i64 imm) /\ StAt w' kb (p * 33) r s) (by kernel_rfl) (HP.out _ (Below.refl _ _).drew) (fun hHeld => ?_)
  refine tkGo [0, 1, 2, 3, 4, 5, 6, 7, 8, 9, 10, 11, 12] ?_
  repeat (refine tkO (v := ?_) rfl ?_ ?_; rotate_left; (intro wy hSw; (try dsimp only at hSw); go_simp; (first | done | with_reducible rfl)); try simp only [Act.put, p1q, p2q, p3q, p4q, p5q, p6q])
  refine tkEnd ?_
  refine wpAnyH_take (i := 13) rfl (by kernel_rfl) (by kernel_rfl) (by kernel_rfl) (fun _ _ _ h => h) (yieldsIf_load_mid (by rfl) _ _ rfl _ _ rfl (stC r s) _ (fun w h => h.2.2.2.2.2.2.2) Tryz.underlying115 rfl (sizeJ h8)) (by assumption) ?_
  try simp only [Act.put, p1q, p2q, p3q, p4q, p5q, p6q]
  refine runT 14 15 (by kernel_rfl) rfl rfl (by rfl) (by rfl) (fun KK hK => ?_) (fun KK hK => ?_)
  ·go_simp
   refine hK.out _ _ (HP.out _ ((Below.refl _ _).alloc (Nat.le_refl _) _).drew) (fun hHeld => ?_)
   clear hK KK
   try simp only [Act.put, p1q, p2q, p3q, p4q, p5q, p6q]
   refine runO 15 (by kernel_rfl) rfl (by rfl) (fun KK hK => ?_)
   go_simp
   obtain ⟨Y, HY, HiY, HsY, hbY, hzY⟩ : ∃ Y, Hid (Y = (w.alloc (Obj.cells #[.int .i64 0, .int .i64 0, .int .i64 0, .int .i64 0, .int .i64 0] 60)).alloc (Obj.cells #[.bool false, .int .i64 0, .int .u64 0, .int .u64 0, .int .i64 0, .int .i64 0, .int .u64 0, .int .u64 0, .int .i64 0, .int .i64 0, .int .u64 0, .int .u64 0, .int .i64 0, .int .i64 0, .int .u64 0, .int .u64 0, .int .i64 0, .int .i64 0, .int .u64 0, .int .u64 0, .int .i64 0, .int .i64 0, .int .u64 0, .int .u64 0, .int .i64 0, .int .i64 0, .int .u64 0, .int .u64 0, .int .i64 0, .int .i64 0, .int .u64 0, .int .u64 0, .int .i64 0] 115)) /\ Hid (Hp Y w.heap.size 60 (inC ⟨0, 0, 0, 0, 0⟩)) /\ Hid (Hp Y (w.heap.size + 1) 115 zeroC) /\ Below w.heap.size w Y /\ w.heap.size + 2 <= Y.heap.size := ⟨_, rfl, (Hp.new w (inC ⟨0, 0, 0, 0, 0⟩) _).alloc _, keepJ (by have := Hp.new (w.alloc (Obj.cells #[.int .i64 0, .int .i64 0, .int .i64 0, .int .i64 0, .int .i64 0] 60)) zeroC 115; simpa [zeroC] using this), by go_grown, by simp⟩
   rw [<- HY.out]
   clear HY
   refine hK.out _ _ (HP.out _ hbY.drew) (fun hHeld => ?_)
   clear hK KK
   try simp only [Act.put, p1q, p2q, p3q, p4q, p5q, p6q]
   have n0 : Y.cell? ⟨w.heap.size, 0, none⟩ = some (.int .i64 0) := HiY.out.cell rfl
   have f0 := HiY.out.frozen 0
   have n1 : Y.cell? ⟨w.heap.size, 1, none⟩ = some (.int .i64 0) := HiY.out.cell rfl
   have f1 := HiY.out.frozen 1
   have n2 : Y.cell? ⟨w.heap.size, 2, none⟩ = some (.int .i64 0) := HiY.out.cell rfl
   have f2 := HiY.out.frozen 2
   have n3 : Y.cell? ⟨w.heap.size, 3, none⟩ = some (.int .i64 0) := HiY.out.cell rfl
   have f3 := HiY.out.frozen 3
   have n4 : Y.cell? ⟨w.heap.size, 4, none⟩ = some (.int .i64 0) := HiY.out.cell rfl
   have f4 := HiY.out.frozen 4
   refine runO 16 (by kernel_rfl) rfl (by rfl) (fun KK hK => ?_)
   go_simp
   clear n0 n1 n2 n3 n4 f0 f1 f2 f3 f4
   obtain ⟨V, HV, HiV, HsV, hbV, hzV⟩ : ∃ V, Hid (V = (((((Y.setCell ⟨w.heap.size, 0, none⟩ (.int .i64 op)).setCell ⟨w.heap.size, 1, none⟩ (.int .i64 d)).setCell ⟨w.heap.size, 2, none⟩ (.int .i64 n)).setCell ⟨w.heap.size, 3, none⟩ (.int .i64 b)).setCell ⟨w.heap.size, 4, none⟩ (.int .i64 imm))) /\ Hid (Hp V w.heap.size 60 (inC ⟨op, d, n, b, imm⟩)) /\ Hid (Hp V (w.heap.size + 1) 115 zeroC) /\ Below w.heap.size w V /\ w.heap.size + 2 <= V.heap.size := ⟨_, rfl, HiY.out.sets (inC ⟨op, d, n, b, imm⟩) 0, HsY.out.fars (by omega) (inC ⟨op, d, n, b, imm⟩) 0, hbY.trans (grown_to_below (grown_sets _ (inC ⟨op, d, n, b, imm⟩) Y 0) (by omega) hbY.size), Nat.le_trans hzY (grown_sets _ (inC ⟨op, d, n, b, imm⟩) Y 0).size⟩
   rw [<- HV.out]
   clear HV HiY HsY
   refine hK.out _ _ (HP.out _ hbV.drew) (fun hHeld => ?_)
   clear hK KK
   try simp only [Act.put, p1q, p2q, p3q, p4q, p5q, p6q]
   refine runO 17 (by kernel_rfl) rfl (by rfl) (fun KK hK => ?_)
   have HTH : V.drew.there (w.heap.size + 1) 0 (stC r s).toArray.size := by rw [stC_size r h8]; exact HsV.out.drew.there (by rw [zeroC_len]; omega)
   refine wp_store_mid _ _ _ rfl _ _ (List.toArray _) rfl rfl HTH (sizeJA h8) (stC_all r s) ?_
   have hbU : Below w.heap.size w (V.drew.setCells (w.heap.size + 1) 0 (stC r s)) := (hbV.drew).trans (grown_to_below (grown_sets _ _ _ _) (by omega) (show w.heap.size <= V.heap.size by omega))
   refine hK.out _ _ (HP.out _ hbU) (fun hHeld => ?_)
   clear hK KK
   try simp only [Act.put, p1q, p2q, p3q, p4q, p5q, p6q]
   refine wpAnyH_done (by kernel_rfl) ?_ _
   go_wp2
   go_meet
   case rel => exact ⟨w.heap.size, (w.heap.size + 1), rfl, rfl, HiV.out.drew.fars (by omega) _ _, HsV.out.drew.box zeroC_len h8, hbU, by omega, by omega, by omega⟩
  ·go_simp
   refine hK.out _ _ (HP.out _ ((Below.refl _ _).alloc (Nat.le_refl _) _).drew) (fun hHeld => ?_)
   clear hK KK
   try simp only [Act.put, p1q, p2q, p3q, p4q, p5q, p6q]
   refine runO 14 (by kernel_rfl) rfl (by rfl) (fun KK hK => ?_)
   go_simp
   obtain ⟨Y, HY, HiY, HsY, hbY, hzY⟩ : ∃ Y, Hid (Y = (w.alloc (Obj.cells #[.bool false, .int .i64 0, .int .u64 0, .int .u64 0, .int .i64 0, .int .i64 0, .int .u64 0, .int .u64 0, .int .i64 0, .int .i64 0, .int .u64 0, .int .u64 0, .int .i64 0, .int .i64 0, .int .u64 0, .int .u64 0, .int .i64 0, .int .i64 0, .int .u64 0, .int .u64 0, .int .i64 0, .int .i64 0, .int .u64 0, .int .u64 0, .int .i64 0, .int .i64 0, .int .u64 0, .int .u64 0, .int .i64 0, .int .i64 0, .int .u64 0, .int .u64 0, .int .i64 0] 115)).alloc (Obj.cells #[.int .i64 0, .int .i64 0, .int .i64 0, .int .i64 0, .int .i64 0] 60)) /\ Hid (Hp Y (w.heap.size + 1) 60 (inC ⟨0, 0, 0, 0, 0⟩)) /\ Hid (Hp Y w.heap.size 115 zeroC) /\ Below w.heap.size w Y /\ w.heap.size + 2 <= Y.heap.size := ⟨_, rfl, keepJ (by have := Hp.new (w.alloc (Obj.cells #[.bool false, .int .i64 0, .int .u64 0, .int .u64 0, .int .i64 0, .int .i64 0, .int .u64 0, .int .u64 0, .int .i64 0, .int .i64 0, .int .u64 0, .int .u64 0, .int .i64 0, .int .i64 0, .int .u64 0, .int .u64 0, .int .i64 0, .int .i64 0, .int .u64 0, .int .u64 0, .int .i64 0, .int .i64 0, .int .u64 0, .int .u64 0, .int .i64 0, .int .i64 0, .int .u64 0, .int .u64 0, .int .i64 0, .int .i64 0, .int .u64 0, .int .u64 0, .int .i64 0] 115)) (inC ⟨0, 0, 0, 0, 0⟩) 60; simpa [inC] using this), (Hp.new w zeroC _).alloc _, by go_grown, by simp⟩
   rw [<- HY.out]
   clear HY
   refine hK.out _ _ (HP.out _ hbY.drew) (fun hHeld => ?_)
   clear hK KK
   try simp only [Act.put, p1q, p2q, p3q, p4q, p5q, p6q]
   have n0 : Y.cell? ⟨(w.heap.size + 1), 0, none⟩ = some (.int .i64 0) := HiY.out.cell rfl
   have f0 := HiY.out.frozen 0
   have n1 : Y.cell? ⟨(w.heap.size + 1), 1, none⟩ = some (.int .i64 0) := HiY.out.cell rfl
   have f1 := HiY.out.frozen 1
   have n2 : Y.cell? ⟨(w.heap.size + 1), 2, none⟩ = some (.int .i64 0) := HiY.out.cell rfl
   have f2 := HiY.out.frozen 2
   have n3 : Y.cell? ⟨(w.heap.size + 1), 3, none⟩ = some (.int .i64 0) := HiY.out.cell rfl
   have f3 := HiY.out.frozen 3
   have n4 : Y.cell? ⟨(w.heap.size + 1), 4, none⟩ = some (.int .i64 0) := HiY.out.cell rfl
   have f4 := HiY.out.frozen 4
   refine runO 16 (by kernel_rfl) rfl (by rfl) (fun KK hK => ?_)
   go_simp
   clear n0 n1 n2 n3 n4 f0 f1 f2 f3 f4
   obtain ⟨V, HV, HiV, HsV, hbV, hzV⟩ : ∃ V, Hid (V = (((((Y.setCell ⟨(w.heap.size + 1), 0, none⟩ (.int .i64 op)).setCell ⟨(w.heap.size + 1), 1, none⟩ (.int .i64 d)).setCell ⟨(w.heap.size + 1), 2, none⟩ (.int .i64 n)).setCell ⟨(w.heap.size + 1), 3, none⟩ (.int .i64 b)).setCell ⟨(w.heap.size + 1), 4, none⟩ (.int .i64 imm))) /\ Hid (Hp V (w.heap.size + 1) 60 (inC ⟨op, d, n, b, imm⟩)) /\ Hid (Hp V w.heap.size 115 zeroC) /\ Below w.heap.size w V /\ w.heap.size + 2 <= V.heap.size := ⟨_, rfl, HiY.out.sets (inC ⟨op, d, n, b, imm⟩) 0, HsY.out.fars (by omega) (inC ⟨op, d, n, b, imm⟩) 0, hbY.trans (grown_to_below (grown_sets _ (inC ⟨op, d, n, b, imm⟩) Y 0) (by omega) hbY.size), Nat.le_trans hzY (grown_sets _ (inC ⟨op, d, n, b, imm⟩) Y 0).size⟩
   rw [<- HV.out]
   clear HV HiY HsY
   refine hK.out _ _ (HP.out _ hbV.drew) (fun hHeld => ?_)
   clear hK KK
   try simp only [Act.put, p1q, p2q, p3q, p4q, p5q, p6q]
   refine runO 17 (by kernel_rfl) rfl (by rfl) (fun KK hK => ?_)
   have HTH : V.drew.there w.heap.size 0 (stC r s).toArray.size := by rw [stC_size r h8]; exact HsV.out.drew.there (by rw [zeroC_len]; omega)
   refine wp_store_mid _ _ _ rfl _ _ (List.toArray _) rfl rfl HTH (sizeJA h8) (stC_all r s) ?_
   have hbU : Below w.heap.size w (V.drew.setCells w.heap.size 0 (stC r s)) := (hbV.drew).trans (grown_to_below (grown_sets _ _ _ _) (by omega) (show w.heap.size <= V.heap.size by omega))
   refine hK.out _ _ (HP.out _ hbU) (fun hHeld => ?_)
   clear hK KK
   try simp only [Act.put, p1q, p2q, p3q, p4q, p5q, p6q]
   refine wpAnyH_done (by kernel_rfl) ?_ _
   go_wp2
   go_meet
   case rel => exact ⟨(w.heap.size + 1), w.heap.size, rfl, rfl, HiV.out.drew.fars (by omega) _ _, HsV.out.drew.box zeroC_len h8, hbU, by omega, by omega, by omega⟩
end Go.Proofs.YtkondcjmhlppiaaGreat
