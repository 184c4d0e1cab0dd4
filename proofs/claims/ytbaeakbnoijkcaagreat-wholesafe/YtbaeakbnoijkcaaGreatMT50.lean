
/-
 The two machines of WholeSafe side by side, and its counts. Condition: their blocks are apart.
-/
import Derived.Test.YtbaeakbnoijkcaaGreatMT48
import Derived.Test.YtbaeakbnoijkcaaGreatMT49
namespace Go.Proofs.YtbaeakbnoijkcaaGreat
open Go.RowKit
set_option linter.unusedVariables false
set_option linter.unusedSimpArgs false
set_option maxRecDepth 100000
def runsX : List In := [⟨13, 3, 0, 0, 1⟩, ⟨22, 0, 3, 0, 0⟩]
theorem runs_ok : ∃ K, inqR [] runsX = .ok K := by
 have h : okE (inqR [] runsX) = true := by decide +kernel
 cases hc : inqR [] runsX with
 | ok K => exact ⟨K, rfl⟩
 | error e => rw [hc] at h; cases h
def runsT : List Ac := [⟨1, 0, 0, 0, 0, 0, 0⟩, ⟨4, 1, 0, 0, 0, 0, 7⟩]
theorem runs_trace : traceE [] runsX (6, 7) 257 startE [] = runsT := by kernel_rfl
theorem sees_none (w : World) : Sees .i64 w (.slice none 0 0) [] := ⟨none, 0, rfl, Nat.le_refl _, by unfold maxLen; omega, fun _ => rfl, fun x hx => (by cases hx), fun h => absurd rfl h⟩
theorem seesR_none (w : World) : SeesR w (.slice none 0 0) [] := ⟨none, 0, rfl, Nat.le_refl _, by unfold maxLen; omega, fun _ => rfl, fun x hx => (by cases hx), fun h => absurd rfl h⟩
set_option maxHeartbeats 1600000 in
theorem runsT_any (w : World) : Calls Tryz.prog 4 #[] w fun e w' => e = .returned (.bool true) /\ Below w.heap.size w w' := by
 obtain ⟨K, hK⟩ := runs_ok
 have HK := keepJ hK
 have HT : Hid (traceE [] runsX (6, 7) 257 startE [] = runsT) := runs_trace
 clear hK
 go_enter Tryz.func4, Tryz.ntmps4
 go_wp2_with (first
  | (go_at_call 7; go_must (refine (mtrace_ok (ms := []) (xs := runsX) (6, 7) (by decide) (rs := []) _ (sees_none _) (seesI_lit w _ runsX _ 2 _ rfl rfl rfl (by decide)) (seesR_none _) HK.out HT).mono ?_); rintro e w2 ⟨v, rfl, ho, hb2'⟩; go_must (have hb2 : Below w.heap.size w w2 := (below_alloc10 w _).trans (hb2'.mono (by simp)); obtain ⟨ga, cap, rfl, _, hga, hcap, hcm, h2⟩ := own_acts ho (k := 1) (by decide); obtain ⟨a0, a1, a2, a3, a4, a5, a6⟩ := h2.seven; simp only [runsT, List.getD, List.getElem?_cons_succ, List.getElem?_cons_zero, Option.getD_some, Nat.reduceMul, Nat.reduceAdd, List.length_cons, List.length_nil] at a0 a1 a2 a3 a4 a5 a6 hcap; clear ho h2 hb2')))
 go_ret
 exact ⟨rfl, hb2⟩
theorem startE_wr : WR startE.regs := ⟨rfl, fun r hr => by rw [show startE.regs.getD r 0 = 0 by show (List.replicate 8 (0 : Int)).getD r 0 = 0; rw [List.getD_eq_getElem?_getD, List.getElem?_replicate, if_pos hr]; rfl]; decide⟩
theorem step_cs {ms : List Int} {xs : List In} {ev : Int × Int} {M : Mc} (h0 : M.mode = 0) (h : ¬ ((nth xs M.pc).op = 21 /\ (nth xs M.pc).imm = 5)) : (stepE ms xs ev M).2.cs = M.cs := by
 unfold stepE
 rw [if_neg (by omega), if_neg (by omega)]
 split
 ·rename_i h1
  unfold callE
  rw [if_neg (c := (nth xs M.pc).imm = 5) (fun e => h ⟨h1, e⟩)]
  split <;> rfl
 ·split
  ·rfl
  ·split <;> rfl
theorem step_csM {ms : List Int} {xs : List In} {ev : Int × Int} {M : Mc} (h0 : M.mode = 0) (h : (nth xs M.pc).op = 21 /\ (nth xs M.pc).imm = 5) : (stepE ms xs ev M).2.cs = M.cs.set (regV M.regs 1).toNat (upW (M.cs.getD (regV M.regs 1).toNat 0) 1) /\ (stepE ms xs ev M).1.k = 1 := by
 unfold stepE
 rw [if_neg (by omega), if_neg (by omega), if_pos h.1]
 unfold callE
 rw [if_neg (by omega), if_pos h.2]
 exact ⟨rfl, rfl⟩
theorem step_end {ms : List Int} {xs : List In} {ev : Int × Int} {M : Mc} (h0 : M.mode = 0) (h4 : (stepE ms xs ev M).1.k = 4) : regV (stepE ms xs ev M).2.regs (nth xs (stepE ms xs ev M).2.pc).a = (stepE ms xs ev M).1.v := by
 unfold stepE at h4 ⊢
 rw [if_neg (by omega), if_neg (by omega)] at h4 ⊢
 split at h4
 ·exfalso
  revert h4
  unfold callE
  split
  ·exact (by simp)
  ·split <;> exact (by simp [plainA])
 ·rename_i c21
  rw [if_neg c21]
  split at h4
  ·rename_i c22
   rw [if_pos c22]
   rfl
  ·exfalso
   revert h4
   split <;> exact (by simp [plainA])
structure Ap (V : World) (b sb xb ct : Nat) (um : Value) (cb : Nat) (xm : Value) (cx : Nat) (ms : List Int) : Prop where
 v : V.heap.size <= b /\ V.heap.size <= sb /\ V.heap.size <= xb /\ V.heap.size <= ct
 n : b ≠ xb /\ b ≠ ct /\ sb ≠ xb /\ sb ≠ ct /\ xb ≠ ct
 c : cx ≠ b /\ cx ≠ sb /\ cx ≠ xb /\ cx ≠ ct /\ cb ≠ xb /\ cb ≠ ct
 m : ms = [] ∨ ((∀ j, xm.ownBlock = some j -> j ≠ b /\ j ≠ sb /\ j ≠ xb /\ j ≠ ct) /\ ∀ j, um.ownBlock = some j -> j ≠ xb /\ j ≠ ct)
structure Rd (V wr : World) (b sb xb ct : Nat) (um : Value) (cb ccap : Nat) (xm : Value) (cx cxo cxcap : Nat) (ms : List Int) (xs : List In) (ev : Int × Int) (M1 M2 : Mc) (cs : List Int) : Prop where
 mh : Mh wr b sb um cb 0 ccap ms xs ev M1
 xa : Xa wr xb xm (.slice (some ⟨cx, cxo, none⟩) xs.length cxcap) ev M2
 ct : Hp wr ct 43 (nums cs)
 xm : Sees .i64 wr xm ms
 xc : SeesI wr (.slice (some ⟨cx, cxo, none⟩) xs.length cxcap) xs
 bl : Below V.heap.size V wr
section
variable {V wr w' : World} {b sb xb ct : Nat} {um : Value} {cb ccap : Nat} {xm : Value} {cx cxo cxcap : Nat} {ms : List Int} {xs : List In} {ev : Int × Int} {M1 M2 N : Mc} {cs : List Int}
theorem Rd.below (h : Rd V wr b sb xb ct um cb ccap xm cx cxo cxcap ms xs ev M1 M2 cs) (hb : Below wr.heap.size wr w') : Rd V w' b sb xb ct um cb ccap xm cx cxo cxcap ms xs ev M1 M2 cs :=
 ⟨h.mh.below hb, h.xa.below hb h.xa.hp.lt, h.ct.below hb h.ct.lt, h.xm.below hb (Nat.le_refl _), h.xc.below hb, h.bl.trans (hb.mono h.bl.size)⟩
theorem Rd.stepX (h : Rd V wr b sb xb ct um cb ccap xm cx cxo cxcap ms xs ev M1 M2 cs) (a : Ap V b sb xb ct um cb xm cx ms) (hc : Chg wr w' (fun k => k = xb)) (hx : Xa w' xb xm (.slice (some ⟨cx, cxo, none⟩) xs.length cxcap) ev N) : Rd V w' b sb xb ct um cb ccap xm cx cxo cxcap ms xs ev M1 N cs :=
 ⟨h.mh.apart hc a.n.1 a.n.2.2.1 a.c.2.2.2.2.1 (a.m.imp id fun g j hj => (g.2 j hj).1), hx, h.ct.chg hc (fun e => a.n.2.2.2.2 e.symm), h.xm.chg hc (a.m.imp id fun g j hj => (g.1 j hj).2.2.1), h.xc.chg hc a.c.2.2.1, h.bl.trans (hc.below (B := V.heap.size) (fun k e => by rw [e]; exact a.v.2.2.1) h.bl.size)⟩
theorem Rd.stepY (h : Rd V wr b sb xb ct um cb ccap xm cx cxo cxcap ms xs ev M1 M2 cs) (a : Ap V b sb xb ct um cb xm cx ms) (hc : Chg wr w' (fun k => k = b ∨ k = sb)) (hm : Mh w' b sb um cb 0 ccap ms xs ev N) : Rd V w' b sb xb ct um cb ccap xm cx cxo cxcap ms xs ev N M2 cs :=
 ⟨hm, h.xa.chg hc (fun e => by rcases e with e | e; exact a.n.1 e.symm; exact a.n.2.2.1 e.symm), h.ct.chg hc (fun e => by rcases e with e | e; exact a.n.2.1 e.symm; exact a.n.2.2.2.1 e.symm), h.xm.chg hc (a.m.imp id fun g j hj e => by rcases e with e | e; exact (g.1 j hj).1 e; exact (g.1 j hj).2.1 e), h.xc.chg hc (fun e => by rcases e with e | e; exact a.c.1 e; exact a.c.2.1 e), h.bl.trans (hc.below (B := V.heap.size) (fun k e => by rcases e with e | e; rw [e]; exact a.v.1; rw [e]; exact a.v.2.1) h.bl.size)⟩
theorem Rd.count (h : Rd V wr b sb xb ct um cb ccap xm cx cxo cxcap ms xs ev M1 M2 cs) (a : Ap V b sb xb ct um cb xm cx ms) (g : Nat) (v : Int) : Rd V (wr.setCell ⟨ct, g, none⟩ (.int .u64 v)) b sb xb ct um cb ccap xm cx cxo cxcap ms xs ev M1 M2 (cs.set g v) := by
 have hc : Chg wr (wr.setCell ⟨ct, g, none⟩ (.int .u64 v)) (fun k => k = ct) := Chg.of_grown (S := fun k => k = ct) (qAd wr ct g _) rfl
 have hs := h.ct.set g (.int .u64 v)
 rw [nums_setI] at hs
 exact ⟨h.mh.apart hc a.n.2.1 a.n.2.2.2.1 a.c.2.2.2.2.2 (a.m.imp id fun g j hj => (g.2 j hj).2), h.xa.chg hc a.n.2.2.2.2, hs, h.xm.chg hc (a.m.imp id fun g j hj => (g.1 j hj).2.2.2), h.xc.chg hc a.c.2.2.2.1, h.bl.trans (hc.below (B := V.heap.size) (fun k e => by rw [e]; exact a.v.2.2.2) h.bl.size)⟩
end
end Go.Proofs.YtbaeakbnoijkcaaGreat
