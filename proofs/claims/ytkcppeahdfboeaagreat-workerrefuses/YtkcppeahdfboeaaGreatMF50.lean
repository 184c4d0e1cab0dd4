
/-
 WorkerRefuses, walked. Condition: none but the arguments' reading.
-/
import Derived.Test.YtkcppeahdfboeaaGreatMF49
import Derived.Test.YtkcppeahdfboeaaGreatMF43
namespace Go.Proofs.YtkcppeahdfboeaaGreat
open Go.RowKit
set_option linter.unusedVariables false
set_option linter.unusedSimpArgs false
set_option maxRecDepth 100000
theorem ints_at23 {w : World} {a : Option Addr} {n cap : Nat} {xs : List Int} (h : Sees .i64 w (.slice a n cap) xs) {j : Nat} (hj : j < xs.length) : ∃ p off, a = some ⟨p, off, none⟩ /\ w.cell? ⟨p, off + j, none⟩ = some (.int .i64 (xs.getD j 0)) := by
 obtain ⟨a', cap', ev, _, _, _, _, hc⟩ := h
 simp only [Value.slice.injEq] at ev
 obtain ⟨rfl, _, rfl⟩ := ev
 obtain ⟨p, off, rfl, hp, hat⟩ := hc (fun e => by rw [e] at hj; simp at hj)
 exact ⟨p, off, rfl, hat j hj⟩
theorem shapeM23 {w : World} {vm vc : Value} {ms : List Int} {xs : List In} (h : SeesM w vm vc ms xs) : (∃ a c, vm = .slice a ms.length c) /\ ∃ a c, vc = .slice a xs.length c := by
 obtain ⟨a, c, e, _⟩ := h.maps
 obtain ⟨a', c', e', _⟩ := h.code
 exact ⟨⟨a, c, e⟩, a', c', e'⟩
theorem apt_own23 {w w' : World} {F : Ft} {v : Value} {e : TypeId} {z n : Nat} {ys : List Value} (hF : Lies w F) {B : Nat} (hB : w.heap.size <= B) (h : OwnOr w' B e z v n ys) : 0 < n -> Apt F (ftV v) := by
 intro hn k h1 h2
 have := hF k h1
 rcases h with ⟨h0, _⟩ | h
 ·omega
 ·have := h.lt k h2
  omega
set_option maxHeartbeats 25600000 in
theorem refuses_ok (hk ea eb : Int) (vm vc vr cv : Value) (ms : List Int) (xs : List In) (cs : List Int) (w : World) (h : SeesM w vm vc ms xs) (hev : evIn (ea, eb)) (hc : Sees .i64 w cv cs) (hvr : ∃ a n c, vr = .slice a n c) (z : ms.length * 8 <= 140737488351232 /\ xs.length * 40 <= 140737488351232) :
  Calls Tryz.prog 4 #[.agg #[.int .i64 hk, .int .u64 ea, .int .u64 eb, vm, vc, vr], cv] w fun e w' => e = .returned (.bool true) /\ Below w.heap.size w w' := by
 obtain ⟨⟨ma, mc, e1⟩, ca, cc, e2⟩ := shapeM23 h
 obtain ⟨ra, rn, rc, e3⟩ := hvr
 obtain ⟨ia, ic, e4⟩ : ∃ a c, cv = .slice a cs.length c := by obtain ⟨a, c, e, _⟩ := hc; exact ⟨a, c, e⟩
 subst e1 e2 e3 e4
 obtain ⟨V, HV, HqV, hBV, hzV⟩ : ∃ V, Hid (w.alloc (.cells #[.int .i64 hk, .int .u64 ea, .int .u64 eb, .slice ma ms.length mc, .slice ca xs.length cc, .slice ra rn rc] 35) = V) /\ Hid (Hp V w.heap.size 35 [.int .i64 hk, .int .u64 ea, .int .u64 eb, .slice ma ms.length mc, .slice ca xs.length cc, .slice ra rn rc]) /\ Below w.heap.size w V /\ V.heap.size = w.heap.size + 1 := ⟨_, rfl, Hp.new w _ _, (Below.refl _ _).alloc (Nat.le_refl _) _, by simp⟩
 have hz1 : ms.length * 8 <= 140737488351232 /\ xs.length * 40 <= 140737488355328 := ⟨z.1, by omega⟩
 have HSM : Hid (∀ wx : World, Below V.heap.size V wx -> SeesM wx (.slice ma ms.length mc) (.slice ca xs.length cc) ms xs) := fun wx hb => (h.below hBV).below hb
 have HCV : Hid (∀ wx : World, Below V.heap.size V wx -> Sees .i64 wx (.slice ia cs.length ic) cs) := fun wx hb => (hc.below hBV (Nat.le_refl _)).below hb (Nat.le_refl _)
 have HQC : Hid (∀ wx : World, Below V.heap.size V wx -> wx.cell? ⟨w.heap.size, 1, none⟩ = some (.int .u64 ea) /\ wx.cell? ⟨w.heap.size, 2, none⟩ = some (.int .u64 eb) /\ wx.cell? ⟨w.heap.size, 3, none⟩ = some (.slice ma ms.length mc) /\ wx.cell? ⟨w.heap.size, 4, none⟩ = some (.slice ca xs.length cc)) := fun wx hb => have g := HqV.out.below hb (by omega); ⟨g.cell rfl, g.cell rfl, g.cell rfl, g.cell rfl⟩
 have HEND : Hid (∀ wx, Below V.heap.size V wx -> Below w.heap.size w wx) := fun wx hb => hBV.trans (hb.mono hBV.size)
 have hcl : cs.length <= 9223372036854775807 := by obtain ⟨a, c, _, h1, h2, _⟩ := hc; unfold maxLen at h2; omega
 obtain ⟨P, E, HJ⟩ : ∃ P E, Hid (judgeR ms xs = (P, E)) := ⟨_, _, rfl⟩
 clear h hc
 go_enter Tryz.func4, Tryz.ntmps4
 go_wp2_with (first
  | (go_at_call 5; rw [HV.out]; go_must (refine (awake23_any V).mono ?_); rintro e w1 ⟨rfl, hb1⟩; go_must (have HB1 := keepG hb1; clear hb1))
  | (go_at_call 6; go_must (refine (lznew w1).mono ?_); rintro e w2 ⟨b, F0, rfl, hL2, hS2⟩; go_must (have HL2 : Hid (Lz V w2 b F0 Wk.new) := ⟨hL2.ex, fun k hk => Nat.le_trans HB1.out.size (hS2 k hk), hL2.ok, HB1.out.trans (hL2.be.mono HB1.out.size)⟩; clear hL2 hS2; obtain ⟨q1, q2, -, -⟩ := HQC.out w2 HL2.out.be; obtain ⟨X, HX, HQ0, HBX⟩ : ∃ X, Hid (w2.alloc (.cells #[.int .i64 3, .int .u64 ea, .int .u64 eb] 45) = X) /\ Hid (Hp X w2.heap.size 45 [.int .i64 3, .int .u64 ea, .int .u64 eb]) /\ Hid (Below w2.heap.size w2 X) := ⟨_, rfl, Hp.new w2 _ _, below_allocG _ _⟩; obtain ⟨nq, HNQ⟩ : ∃ nq, Hid (w2.heap.size = nq) := ⟨_, rfl⟩; have HNF : Hid (¬ F0 nq) := (fun e => by (have h1 := HL2.out.lies nq e; have h2 := HNQ.out; omega)); have HQN : Hid (Hp X nq 45 [.int .i64 3, .int .u64 ea, .int .u64 eb]) := (by rw [<- HNQ.out]; exact HQ0.out); have HLX := keepG (HL2.out.below HBX.out); clear HQ0))
  | (rw [HX.out, HNQ.out]))
 clear q1 q2 HB1
 go_loopw [7] (fun i wr => ∃ (j : Nat) (F : Ft) (k : Wk), j <= cs.length /\ j <= 200 /\ i = .int .i64 j /\ Hid (Lz V wr b F k /\ Hp wr nq 45 [.int .i64 3, .int .u64 ea, .int .u64 eb] /\ ¬ F nq)) (fun i _ => cs.length - (intOf i).toNat)
 case atStart => exact ⟨0, F0, Wk.new, Nat.zero_le _, Nat.zero_le _, rfl, HLX.out, HQN.out, HNF.out⟩
 case round =>
  clear HL2 HLX HQN HNF
  obtain ⟨j, F, k, hj, hj2, rfl, HI⟩ := hrel
  rename World => wr
  by_cases hlt : j < cs.length
  ·have hltI : (j : Int) < cs.length := by omega
   have hltd : decide ((j : Int) < cs.length) = true := by simpa using hltI
   by_cases h2 : j < 200
   ·have h2I : (j : Int) < 200 := by omega
    have h2d : decide ((j : Int) < 200) = true := by simpa using h2I
    obtain ⟨c, HC⟩ : ∃ c, Hid (cs.getD j 0 = c) := ⟨_, rfl⟩
    obtain ⟨p, off, ev, -⟩ := ints_at23 (HCV.out wr HI.out.1.be) hlt
    subst ev
    have HCC : Hid (∀ wx, Below V.heap.size V wx -> wx.cell? ⟨p, off + j, none⟩ = some (.int .i64 c)) := by
     intro wx hb
     obtain ⟨p', off', ev, hh⟩ := ints_at23 (HCV.out wx hb) hlt
     have ev := Option.some.inj ev
     injection ev with e1 e2 _
     subst e1 e2
     rw [HC.out] at hh
     exact hh
    obtain ⟨m, HM⟩ : ∃ m : Int, Hid ((k.md : Int) = m) := ⟨_, rfl⟩
    obtain ⟨ah, HAH⟩ : ∃ a, Hid (k.hk = a) := ⟨_, rfl⟩
    obtain ⟨an, HAN⟩ : ∃ a, Hid (k.qn = a) := ⟨_, rfl⟩
    obtain ⟨a1, HA1⟩ : ∃ a, Hid (k.ev.1 = a) := ⟨_, rfl⟩
    obtain ⟨a2, HA2⟩ : ∃ a, Hid (k.ev.2 = a) := ⟨_, rfl⟩
    obtain ⟨av, HAV⟩ : ∃ a, Hid (k.ve = a) := ⟨_, rfl⟩
    obtain ⟨ap, HAPG⟩ : ∃ a, Hid (k.pg = a) := ⟨_, rfl⟩
    have HMO : Hid (∀ wx G, Lz V wx b G k -> Calls Tryz.prog 12 #[.pointer (some ⟨b, 0, none⟩)] wx fun e w' => e = .returned (.int .i64 m) /\ Below wx.heap.size wx w') := fun wx G hl => by have := hl.mode; rw [HM.out] at this; exact this
    have HHA : Hid (∀ wx G, Lz V wx b G k -> Calls Tryz.prog 18 #[.pointer (some ⟨b, 0, none⟩)] wx fun e w' => e = .returned (.tuple #[.int .i64 ah, .agg #[.int .i64 an, .int .u64 a1, .int .u64 a2]]) /\ Below wx.heap.size wx w') := fun wx G hl => by have := hl.has; unfold qdV at this; rw [HAH.out, HAN.out, HA1.out, HA2.out] at this; exact this
    have HRU : Hid (∀ wx G, Lz V wx b G k -> Calls Tryz.prog 15 #[.pointer (some ⟨b, 0, none⟩)] wx fun e w' => e = .returned (.tuple #[.int .i64 av, .int .i64 ap]) /\ Below wx.heap.size wx w') := fun wx G hl => by have := hl.runs; rw [HAV.out, HAPG.out] at this; exact this
    have HMK := HM
    clear HAH HAN HA1 HA2 HAV HAPG
    have K1 : Hid True := trivial
    have K2 : Hid True := trivial
    have K3 : Hid True := trivial
    by_cases h0 : c = 0
    ·subst h0
     by_cases hm : k.md = 0
     ·have hmI : m = 0 := by have := HMK.out; omega
      subst hmI
      as_aux_lemma =>
       obtain ⟨k5, HQ⟩ : ∃ k5, Hid (k.take 2 3 (ea, eb) = (0, k5)) := ⟨_, by show _ = _; unfold Wk.take; rw [if_neg (by omega), if_neg (by omega)]⟩
       go_wp2_with (first
        | (go_at_call 12; (have hq := K1; clear hq); go_must (refine (HMO.out wr F HI.out.1).mono ?_); rintro e wa ⟨rfl, hba⟩; go_must (have HLA := keepG (HI.out.1.below hba); have HQA := keepG (HI.out.2.1.below hba HI.out.2.1.lt); clear hba K1))
        | (go_at_call 18; (have hq := K2; clear hq); go_must (refine (HHA.out wa F HLA.out).mono ?_); rintro e wb ⟨rfl, hbb⟩; go_must (have HLB := keepG (HLA.out.below hbb); have HQB := keepG (HQA.out.below hbb HQA.out.lt); obtain ⟨W3, HW3, HA3, hb3⟩ : ∃ W3, Hid (wb.alloc (.cells #[.int .i64 an, .int .u64 a1, .int .u64 a2] 45) = W3) /\ Hid (Hp W3 wb.heap.size 45 [.int .i64 an, .int .u64 a1, .int .u64 a2]) /\ Below wb.heap.size wb W3 := ⟨_, rfl, Hp.new wb _ _, below_allocG _ _⟩; have HL3 := keepG (HLB.out.below hb3); have HQ3 := keepG (HQB.out.below hb3 HQB.out.lt); obtain ⟨nh, HNH⟩ : ∃ nh, Hid (wb.heap.size = nh) := ⟨_, rfl⟩; have HNB : Hid (¬ F nh) := (fun e => by (have h1 := HLB.out.lies nh e; have h2 := HNH.out; omega)); have HA4 : Hid (Hp W3 nh 45 [.int .i64 an, .int .u64 a1, .int .u64 a2]) := (by rw [<- HNH.out]; exact HA3.out); clear hbb hb3 K2 HLA HQA HLB HQB HA3))
        | (rw [HW3.out, HNH.out])
        | (go_at_call 15; (have hq := K3; clear hq); go_must (refine (HRU.out W3 F HL3.out).mono ?_); rintro e wc ⟨rfl, hbc⟩; go_must (have HLC := keepG (HL3.out.below hbc); have HQC2 := keepG (HQ3.out.below hbc HQ3.out.lt); have HAC := keepG (HA4.out.below hbc HA4.out.lt); have dc := HCC.out wc HLC.out.be; have s0 := HQC2.out.cell (j := 0) rfl; have s1 := HQC2.out.cell (j := 1) rfl; have s2 := HQC2.out.cell (j := 2) rfl; obtain ⟨-, -, g3, g4⟩ := HQC.out wc HLC.out.be; clear hbc K3 HL3 HQ3))
        | (go_at_call 8; go_must (have HQX := HQC2; have HAX := HAC; refine (HLC.out.take 2 3 (ea, eb) hev HQ).mono ?_); rintro e w5 ⟨rfl, F5, hL5, hn5⟩; go_must (have HL5 := keepG hL5; have HQ5 := keepG (HQX.out.chg hn5.chg HI.out.2.2); have HA5 := keepG (HAX.out.chg hn5.chg HNB.out); have HN5 : Hid (¬ F5 nq) := (fun e => by (rcases hn5.new nq e with g | g; exact HI.out.2.2 g; have := HQX.out.lt; omega)); clear hL5 hn5)))
       go_roundw
       case rel => exact ⟨j + 1, F5, k5, by omega, by omega, by go_num, HL5.out, HQ5.out, HN5.out⟩
       case measure => simp [intOf]; omega
     ·have hmI : ¬ m = 0 := by have := HMK.out; omega
      have hmb : (m == 0) = false := by simpa using hmI
      as_aux_lemma =>
       have HQ : Hid (k.take 2 3 (ea, eb) = (42, k)) := by show _ = _; unfold Wk.take; rw [if_neg (by omega), if_pos hm]
       have hmm : (m != m) = false := by simp
       have hhh : (ah != ah) = false := by simp
       have hvv : (av != av) = false := by simp
       have hpp : (ap != ap) = false := by simp
       go_wp2_with (first
        | (go_at_call 18; (have hq := HL5; clear hq); go_must (refine (HHA.out w5 F5 HL5.out).mono ?_); rintro e w6 ⟨rfl, hb6⟩; go_must (have HL6 := keepG (HL5.out.below hb6); have HQ6 := keepG (HQ5.out.below hb6 HQ5.out.lt); have HA6 := keepG (HA5.out.below hb6 HA5.out.lt); obtain ⟨W7, HW7, HC7, hb7⟩ : ∃ W7, Hid (w6.alloc (.cells #[.int .i64 an, .int .u64 a1, .int .u64 a2] 45) = W7) /\ Hid (Hp W7 w6.heap.size 45 [.int .i64 an, .int .u64 a1, .int .u64 a2]) /\ Below w6.heap.size w6 W7 := ⟨_, rfl, Hp.new w6 _ _, below_allocG _ _⟩; have HL7 := keepG (HL6.out.below hb7); have HQ7 := keepG (HQ6.out.below hb7 HQ6.out.lt); have HA7 := keepG (HA6.out.below hb7 HA6.out.lt); clear hb6 hb7 HL6 HQ6 HA6))
        | (rw [HW7.out])
        | (go_at_call 15; (have hq := HL7; clear hq); go_must (refine (HRU.out W7 F5 HL7.out).mono ?_); rintro e w8 ⟨rfl, hb8⟩; go_must (have HL8 := keepG (HL7.out.below hb8); have HQ8 := keepG (HQ7.out.below hb8 HQ7.out.lt); have HA8 := keepG (HA7.out.below hb8 HA7.out.lt); have HC8 := keepG (HC7.out.below hb8 HC7.out.lt); clear hb8 HL7 HQ7 HA7 HC7))
        | (go_at_call 12; (have hq := HL8; clear hq); go_must (refine (HMO.out w8 F5 HL8.out).mono ?_); rintro e w9 ⟨rfl, hb9⟩; go_must (have HL9 := keepG (HL8.out.below hb9); have HQ9 := keepG (HQ8.out.below hb9 HQ8.out.lt); have HA9 := keepG (HA8.out.below hb9 HA8.out.lt); have HC9 := keepG (HC8.out.below hb9 HC8.out.lt); have u0 := HA9.out.cell (j := 0) rfl; have u1 := HA9.out.cell (j := 1) rfl; have u2 := HA9.out.cell (j := 2) rfl; have v0 := HC9.out.cell (j := 0) rfl; have v1 := HC9.out.cell (j := 1) rfl; have v2 := HC9.out.cell (j := 2) rfl; clear hb9 HL8 HQ8 HA8 HC8))
        | (go_at_call 12; (have hq := K1; clear hq); go_must (refine (HMO.out wr F HI.out.1).mono ?_); rintro e wa ⟨rfl, hba⟩; go_must (have HLA := keepG (HI.out.1.below hba); have HQA := keepG (HI.out.2.1.below hba HI.out.2.1.lt); clear hba K1))
        | (go_at_call 18; (have hq := K2; clear hq); go_must (refine (HHA.out wa F HLA.out).mono ?_); rintro e wb ⟨rfl, hbb⟩; go_must (have HLB := keepG (HLA.out.below hbb); have HQB := keepG (HQA.out.below hbb HQA.out.lt); obtain ⟨W3, HW3, HA3, hb3⟩ : ∃ W3, Hid (wb.alloc (.cells #[.int .i64 an, .int .u64 a1, .int .u64 a2] 45) = W3) /\ Hid (Hp W3 wb.heap.size 45 [.int .i64 an, .int .u64 a1, .int .u64 a2]) /\ Below wb.heap.size wb W3 := ⟨_, rfl, Hp.new wb _ _, below_allocG _ _⟩; have HL3 := keepG (HLB.out.below hb3); have HQ3 := keepG (HQB.out.below hb3 HQB.out.lt); obtain ⟨nh, HNH⟩ : ∃ nh, Hid (wb.heap.size = nh) := ⟨_, rfl⟩; have HNB : Hid (¬ F nh) := (fun e => by (have h1 := HLB.out.lies nh e; have h2 := HNH.out; omega)); have HA4 : Hid (Hp W3 nh 45 [.int .i64 an, .int .u64 a1, .int .u64 a2]) := (by rw [<- HNH.out]; exact HA3.out); clear hbb hb3 K2 HLA HQA HLB HQB HA3))
        | (rw [HW3.out, HNH.out])
        | (go_at_call 15; (have hq := K3; clear hq); go_must (refine (HRU.out W3 F HL3.out).mono ?_); rintro e wc ⟨rfl, hbc⟩; go_must (have HLC := keepG (HL3.out.below hbc); have HQC2 := keepG (HQ3.out.below hbc HQ3.out.lt); have HAC := keepG (HA4.out.below hbc HA4.out.lt); have dc := HCC.out wc HLC.out.be; have s0 := HQC2.out.cell (j := 0) rfl; have s1 := HQC2.out.cell (j := 1) rfl; have s2 := HQC2.out.cell (j := 2) rfl; obtain ⟨-, -, g3, g4⟩ := HQC.out wc HLC.out.be; clear hbc K3 HL3 HQ3))
        | (go_at_call 8; go_must (have HQX := HQC2; have HAX := HAC; refine (HLC.out.take 2 3 (ea, eb) hev HQ).mono ?_); rintro e w5 ⟨rfl, F5, hL5, hn5⟩; go_must (have HL5 := keepG hL5; have HQ5 := keepG (HQX.out.chg hn5.chg HI.out.2.2); have HA5 := keepG (HAX.out.chg hn5.chg HNB.out); have HN5 : Hid (¬ F5 nq) := (fun e => by (rcases hn5.new nq e with g | g; exact HI.out.2.2 g; have := HQX.out.lt; omega)); clear hL5 hn5)))
       go_roundw
       case rel => exact ⟨j + 1, F5, k, by omega, by omega, by go_num, HL9.out, HQ9.out, HN5.out⟩
       case measure => simp [intOf]; omega
    ·have h0b : (c == 0) = false := by simpa using h0
     by_cases h1 : c = 1
     ·subst h1
      by_cases hm : k.md = 1
      ·have hmI : m = 1 := by have := HMK.out; omega
       subst hmI
       by_cases hE : E = 0
       ·subst hE
        as_aux_lemma =>
         obtain ⟨k5, HQ⟩ : ∃ k5, Hid (k.enter 1 2 ms xs = (0, k5)) := ⟨_, by show _ = _; unfold Wk.enter; rw [if_neg (by omega), if_neg (by rw [HJ.out]; simp)]⟩
         have K7 : Hid True := trivial
         have K8 : Hid True := trivial
         go_wp2_with (first
          | (go_at_call 12; (have hq := K1; clear hq); go_must (refine (HMO.out wr F HI.out.1).mono ?_); rintro e wa ⟨rfl, hba⟩; go_must (have HLA := keepG (HI.out.1.below hba); have HQA := keepG (HI.out.2.1.below hba HI.out.2.1.lt); clear hba K1))
          | (go_at_call 18; (have hq := K2; clear hq); go_must (refine (HHA.out wa F HLA.out).mono ?_); rintro e wb ⟨rfl, hbb⟩; go_must (have HLB := keepG (HLA.out.below hbb); have HQB := keepG (HQA.out.below hbb HQA.out.lt); obtain ⟨W3, HW3, HA3, hb3⟩ : ∃ W3, Hid (wb.alloc (.cells #[.int .i64 an, .int .u64 a1, .int .u64 a2] 45) = W3) /\ Hid (Hp W3 wb.heap.size 45 [.int .i64 an, .int .u64 a1, .int .u64 a2]) /\ Below wb.heap.size wb W3 := ⟨_, rfl, Hp.new wb _ _, below_allocG _ _⟩; have HL3 := keepG (HLB.out.below hb3); have HQ3 := keepG (HQB.out.below hb3 HQB.out.lt); obtain ⟨nh, HNH⟩ : ∃ nh, Hid (wb.heap.size = nh) := ⟨_, rfl⟩; have HNB : Hid (¬ F nh) := (fun e => by (have h1 := HLB.out.lies nh e; have h2 := HNH.out; omega)); have HA4 : Hid (Hp W3 nh 45 [.int .i64 an, .int .u64 a1, .int .u64 a2]) := (by rw [<- HNH.out]; exact HA3.out); clear hbb hb3 K2 HLA HQA HLB HQB HA3))
          | (rw [HW3.out, HNH.out])
          | (go_at_call 15; (have hq := K3; clear hq); go_must (refine (HRU.out W3 F HL3.out).mono ?_); rintro e wc ⟨rfl, hbc⟩; go_must (have HLC := keepG (HL3.out.below hbc); have HQC2 := keepG (HQ3.out.below hbc HQ3.out.lt); have HAC := keepG (HA4.out.below hbc HA4.out.lt); have dc := HCC.out wc HLC.out.be; have s0 := HQC2.out.cell (j := 0) rfl; have s1 := HQC2.out.cell (j := 1) rfl; have s2 := HQC2.out.cell (j := 2) rfl; obtain ⟨-, -, g3, g4⟩ := HQC.out wc HLC.out.be; clear hbc K3 HL3 HQ3))
          | (go_at_call 10; (have hq := K7; clear hq); go_must (refine (copied9_own _ _ ms xs wc (HSM.out wc HLC.out.be) hz1).mono ?_); rintro e wd ⟨um, uc, rfl, hsd, -, -, hbd⟩; go_must (have HSD := keepG hsd; have HLD := keepG (HLC.out.below hbd); have HQD := keepG (HQC2.out.below hbd HQC2.out.lt); have HAD := keepG (HAC.out.below hbd HAC.out.lt); obtain ⟨⟨na, nc, e1⟩, da, dd, e2⟩ := shapeM23 hsd; subst e1 e2; clear hsd hbd K7 g3 g4))
          | (go_at_call 9; go_must (refine (ljudge_as HSD.out.maps HSD.out.code HJ).mono ?_); rintro e wf ⟨rfl, hbf⟩; go_must (have HLF := keepG (HLD.out.below hbf); have HQF := keepG (HQD.out.below hbf HQD.out.lt); have HAF := keepG (HAD.out.below hbf HAD.out.lt); obtain ⟨-, -, g3, g4⟩ := HQC.out wf HLF.out.be; clear hbf HSD))
          | (go_at_call 10; (have hq := K8; clear hq); go_must (refine (copied9_own _ _ ms xs wf (HSM.out wf HLF.out.be) hz1).mono ?_); rintro e wg ⟨um, uc, rfl, hsg, ho1, ho2, hbg⟩; go_must (have HSG := keepG hsg; have HLG := keepG (HLF.out.below hbg); have HQX := keepG (HQF.out.below hbg HQF.out.lt); have HAX := keepG (HAF.out.below hbg HAF.out.lt); have HP1 := keepG (apt_own23 HLF.out.lies (Nat.le_refl _) ho1); have HP2 := keepG (apt_own23 HLF.out.lies (Nat.le_refl _) ho2); obtain ⟨⟨na2, nc2, e1⟩, da2, dd2, e2⟩ := shapeM23 hsg; subst e1 e2; clear hsg hbg K8 g3 g4 ho1 ho2))
          | (go_at_call 11; go_must (refine (HLG.out.enter 1 2 HSG.out (fun hne => HP1.out (List.length_pos_iff.2 hne)) (fun hne => HP2.out (List.length_pos_iff.2 hne)) HQ).mono ?_); rintro e w5 ⟨rfl, F5, hL5, hn5⟩; go_must (have HL5 := keepG hL5; have HQ5 := keepG (HQX.out.chg hn5.chg HI.out.2.2); have HA5 := keepG (HAX.out.chg hn5.chg HNB.out); have HN5 : Hid (¬ F5 nq) := (fun e => by (rcases hn5.new nq e with g | g; exact HI.out.2.2 g; have := HQX.out.lt; omega)); clear hL5 hn5)))
         go_roundw
         case rel => exact ⟨j + 1, F5, k5, by omega, by omega, by go_num, HL5.out, HQ5.out, HN5.out⟩
         case measure => simp [intOf]; omega
       ·have hEb : (E == 0) = false := by simpa using hE
        as_aux_lemma =>
         have HQ : Hid (k.enter 1 2 ms xs = (E, k)) := by show _ = _; unfold Wk.enter; rw [if_neg (by omega), HJ.out, if_pos (by simpa using hE)]
         have K7 : Hid True := trivial
         have K8 : Hid True := trivial
         have hhh : (ah != ah) = false := by simp
         have hvv : (av != av) = false := by simp
         have hpp : (ap != ap) = false := by simp
         go_wp2_with (first
          | (go_at_call 18; (have hq := HL5; clear hq); go_must (refine (HHA.out w5 F5 HL5.out).mono ?_); rintro e w6 ⟨rfl, hb6⟩; go_must (have HL6 := keepG (HL5.out.below hb6); have HQ6 := keepG (HQ5.out.below hb6 HQ5.out.lt); have HA6 := keepG (HA5.out.below hb6 HA5.out.lt); obtain ⟨W7, HW7, HC7, hb7⟩ : ∃ W7, Hid (w6.alloc (.cells #[.int .i64 an, .int .u64 a1, .int .u64 a2] 45) = W7) /\ Hid (Hp W7 w6.heap.size 45 [.int .i64 an, .int .u64 a1, .int .u64 a2]) /\ Below w6.heap.size w6 W7 := ⟨_, rfl, Hp.new w6 _ _, below_allocG _ _⟩; have HL7 := keepG (HL6.out.below hb7); have HQ7 := keepG (HQ6.out.below hb7 HQ6.out.lt); have HA7 := keepG (HA6.out.below hb7 HA6.out.lt); clear hb6 hb7 HL6 HQ6 HA6))
          | (rw [HW7.out])
          | (go_at_call 15; (have hq := HL7; clear hq); go_must (refine (HRU.out W7 F5 HL7.out).mono ?_); rintro e w8 ⟨rfl, hb8⟩; go_must (have HL8 := keepG (HL7.out.below hb8); have HQ8 := keepG (HQ7.out.below hb8 HQ7.out.lt); have HA8 := keepG (HA7.out.below hb8 HA7.out.lt); have HC8 := keepG (HC7.out.below hb8 HC7.out.lt); clear hb8 HL7 HQ7 HA7 HC7))
          | (go_at_call 12; (have hq := HL8; clear hq); go_must (refine (HMO.out w8 F5 HL8.out).mono ?_); rintro e w9 ⟨rfl, hb9⟩; go_must (have HL9 := keepG (HL8.out.below hb9); have HQ9 := keepG (HQ8.out.below hb9 HQ8.out.lt); have HA9 := keepG (HA8.out.below hb9 HA8.out.lt); have HC9 := keepG (HC8.out.below hb9 HC8.out.lt); have u0 := HA9.out.cell (j := 0) rfl; have u1 := HA9.out.cell (j := 1) rfl; have u2 := HA9.out.cell (j := 2) rfl; have v0 := HC9.out.cell (j := 0) rfl; have v1 := HC9.out.cell (j := 1) rfl; have v2 := HC9.out.cell (j := 2) rfl; clear hb9 HL8 HQ8 HA8 HC8))
          | (go_at_call 12; (have hq := K1; clear hq); go_must (refine (HMO.out wr F HI.out.1).mono ?_); rintro e wa ⟨rfl, hba⟩; go_must (have HLA := keepG (HI.out.1.below hba); have HQA := keepG (HI.out.2.1.below hba HI.out.2.1.lt); clear hba K1))
          | (go_at_call 18; (have hq := K2; clear hq); go_must (refine (HHA.out wa F HLA.out).mono ?_); rintro e wb ⟨rfl, hbb⟩; go_must (have HLB := keepG (HLA.out.below hbb); have HQB := keepG (HQA.out.below hbb HQA.out.lt); obtain ⟨W3, HW3, HA3, hb3⟩ : ∃ W3, Hid (wb.alloc (.cells #[.int .i64 an, .int .u64 a1, .int .u64 a2] 45) = W3) /\ Hid (Hp W3 wb.heap.size 45 [.int .i64 an, .int .u64 a1, .int .u64 a2]) /\ Below wb.heap.size wb W3 := ⟨_, rfl, Hp.new wb _ _, below_allocG _ _⟩; have HL3 := keepG (HLB.out.below hb3); have HQ3 := keepG (HQB.out.below hb3 HQB.out.lt); obtain ⟨nh, HNH⟩ : ∃ nh, Hid (wb.heap.size = nh) := ⟨_, rfl⟩; have HNB : Hid (¬ F nh) := (fun e => by (have h1 := HLB.out.lies nh e; have h2 := HNH.out; omega)); have HA4 : Hid (Hp W3 nh 45 [.int .i64 an, .int .u64 a1, .int .u64 a2]) := (by rw [<- HNH.out]; exact HA3.out); clear hbb hb3 K2 HLA HQA HLB HQB HA3))
          | (rw [HW3.out, HNH.out])
          | (go_at_call 15; (have hq := K3; clear hq); go_must (refine (HRU.out W3 F HL3.out).mono ?_); rintro e wc ⟨rfl, hbc⟩; go_must (have HLC := keepG (HL3.out.below hbc); have HQC2 := keepG (HQ3.out.below hbc HQ3.out.lt); have HAC := keepG (HA4.out.below hbc HA4.out.lt); have dc := HCC.out wc HLC.out.be; have s0 := HQC2.out.cell (j := 0) rfl; have s1 := HQC2.out.cell (j := 1) rfl; have s2 := HQC2.out.cell (j := 2) rfl; obtain ⟨-, -, g3, g4⟩ := HQC.out wc HLC.out.be; clear hbc K3 HL3 HQ3))
          | (go_at_call 10; (have hq := K7; clear hq); go_must (refine (copied9_own _ _ ms xs wc (HSM.out wc HLC.out.be) hz1).mono ?_); rintro e wd ⟨um, uc, rfl, hsd, -, -, hbd⟩; go_must (have HSD := keepG hsd; have HLD := keepG (HLC.out.below hbd); have HQD := keepG (HQC2.out.below hbd HQC2.out.lt); have HAD := keepG (HAC.out.below hbd HAC.out.lt); obtain ⟨⟨na, nc, e1⟩, da, dd, e2⟩ := shapeM23 hsd; subst e1 e2; clear hsd hbd K7 g3 g4))
          | (go_at_call 9; go_must (refine (ljudge_as HSD.out.maps HSD.out.code HJ).mono ?_); rintro e wf ⟨rfl, hbf⟩; go_must (have HLF := keepG (HLD.out.below hbf); have HQF := keepG (HQD.out.below hbf HQD.out.lt); have HAF := keepG (HAD.out.below hbf HAD.out.lt); obtain ⟨-, -, g3, g4⟩ := HQC.out wf HLF.out.be; clear hbf HSD))
          | (go_at_call 10; (have hq := K8; clear hq); go_must (refine (copied9_own _ _ ms xs wf (HSM.out wf HLF.out.be) hz1).mono ?_); rintro e wg ⟨um, uc, rfl, hsg, ho1, ho2, hbg⟩; go_must (have HSG := keepG hsg; have HLG := keepG (HLF.out.below hbg); have HQX := keepG (HQF.out.below hbg HQF.out.lt); have HAX := keepG (HAF.out.below hbg HAF.out.lt); have HP1 := keepG (apt_own23 HLF.out.lies (Nat.le_refl _) ho1); have HP2 := keepG (apt_own23 HLF.out.lies (Nat.le_refl _) ho2); obtain ⟨⟨na2, nc2, e1⟩, da2, dd2, e2⟩ := shapeM23 hsg; subst e1 e2; clear hsg hbg K8 g3 g4 ho1 ho2))
          | (go_at_call 11; go_must (refine (HLG.out.enter 1 2 HSG.out (fun hne => HP1.out (List.length_pos_iff.2 hne)) (fun hne => HP2.out (List.length_pos_iff.2 hne)) HQ).mono ?_); rintro e w5 ⟨rfl, F5, hL5, hn5⟩; go_must (have HL5 := keepG hL5; have HQ5 := keepG (HQX.out.chg hn5.chg HI.out.2.2); have HA5 := keepG (HAX.out.chg hn5.chg HNB.out); have HN5 : Hid (¬ F5 nq) := (fun e => by (rcases hn5.new nq e with g | g; exact HI.out.2.2 g; have := HQX.out.lt; omega)); clear hL5 hn5)))
         go_roundw
         case rel => exact ⟨j + 1, F5, k, by omega, by omega, by go_num, HL9.out, HQ9.out, HN5.out⟩
         case measure => simp [intOf]; omega
      ·have hmI : ¬ m = 1 := by have := HMK.out; omega
       have hmb : (m == 1) = false := by simpa using hmI
       as_aux_lemma =>
        have HQ : Hid (k.enter 1 2 ms xs = (41, k)) := by show _ = _; unfold Wk.enter; rw [if_pos hm]
        have K7 : Hid True := trivial
        have K8 : Hid True := trivial
        have hmm : (m != m) = false := by simp
        have hhh : (ah != ah) = false := by simp
        have hvv : (av != av) = false := by simp
        have hpp : (ap != ap) = false := by simp
        go_wp2_with (first
         | (go_at_call 18; (have hq := HL5; clear hq); go_must (refine (HHA.out w5 F5 HL5.out).mono ?_); rintro e w6 ⟨rfl, hb6⟩; go_must (have HL6 := keepG (HL5.out.below hb6); have HQ6 := keepG (HQ5.out.below hb6 HQ5.out.lt); have HA6 := keepG (HA5.out.below hb6 HA5.out.lt); obtain ⟨W7, HW7, HC7, hb7⟩ : ∃ W7, Hid (w6.alloc (.cells #[.int .i64 an, .int .u64 a1, .int .u64 a2] 45) = W7) /\ Hid (Hp W7 w6.heap.size 45 [.int .i64 an, .int .u64 a1, .int .u64 a2]) /\ Below w6.heap.size w6 W7 := ⟨_, rfl, Hp.new w6 _ _, below_allocG _ _⟩; have HL7 := keepG (HL6.out.below hb7); have HQ7 := keepG (HQ6.out.below hb7 HQ6.out.lt); have HA7 := keepG (HA6.out.below hb7 HA6.out.lt); clear hb6 hb7 HL6 HQ6 HA6))
         | (rw [HW7.out])
         | (go_at_call 15; (have hq := HL7; clear hq); go_must (refine (HRU.out W7 F5 HL7.out).mono ?_); rintro e w8 ⟨rfl, hb8⟩; go_must (have HL8 := keepG (HL7.out.below hb8); have HQ8 := keepG (HQ7.out.below hb8 HQ7.out.lt); have HA8 := keepG (HA7.out.below hb8 HA7.out.lt); have HC8 := keepG (HC7.out.below hb8 HC7.out.lt); clear hb8 HL7 HQ7 HA7 HC7))
         | (go_at_call 12; (have hq := HL8; clear hq); go_must (refine (HMO.out w8 F5 HL8.out).mono ?_); rintro e w9 ⟨rfl, hb9⟩; go_must (have HL9 := keepG (HL8.out.below hb9); have HQ9 := keepG (HQ8.out.below hb9 HQ8.out.lt); have HA9 := keepG (HA8.out.below hb9 HA8.out.lt); have HC9 := keepG (HC8.out.below hb9 HC8.out.lt); have u0 := HA9.out.cell (j := 0) rfl; have u1 := HA9.out.cell (j := 1) rfl; have u2 := HA9.out.cell (j := 2) rfl; have v0 := HC9.out.cell (j := 0) rfl; have v1 := HC9.out.cell (j := 1) rfl; have v2 := HC9.out.cell (j := 2) rfl; clear hb9 HL8 HQ8 HA8 HC8))
         | (go_at_call 12; (have hq := K1; clear hq); go_must (refine (HMO.out wr F HI.out.1).mono ?_); rintro e wa ⟨rfl, hba⟩; go_must (have HLA := keepG (HI.out.1.below hba); have HQA := keepG (HI.out.2.1.below hba HI.out.2.1.lt); clear hba K1))
         | (go_at_call 18; (have hq := K2; clear hq); go_must (refine (HHA.out wa F HLA.out).mono ?_); rintro e wb ⟨rfl, hbb⟩; go_must (have HLB := keepG (HLA.out.below hbb); have HQB := keepG (HQA.out.below hbb HQA.out.lt); obtain ⟨W3, HW3, HA3, hb3⟩ : ∃ W3, Hid (wb.alloc (.cells #[.int .i64 an, .int .u64 a1, .int .u64 a2] 45) = W3) /\ Hid (Hp W3 wb.heap.size 45 [.int .i64 an, .int .u64 a1, .int .u64 a2]) /\ Below wb.heap.size wb W3 := ⟨_, rfl, Hp.new wb _ _, below_allocG _ _⟩; have HL3 := keepG (HLB.out.below hb3); have HQ3 := keepG (HQB.out.below hb3 HQB.out.lt); obtain ⟨nh, HNH⟩ : ∃ nh, Hid (wb.heap.size = nh) := ⟨_, rfl⟩; have HNB : Hid (¬ F nh) := (fun e => by (have h1 := HLB.out.lies nh e; have h2 := HNH.out; omega)); have HA4 : Hid (Hp W3 nh 45 [.int .i64 an, .int .u64 a1, .int .u64 a2]) := (by rw [<- HNH.out]; exact HA3.out); clear hbb hb3 K2 HLA HQA HLB HQB HA3))
         | (rw [HW3.out, HNH.out])
         | (go_at_call 15; (have hq := K3; clear hq); go_must (refine (HRU.out W3 F HL3.out).mono ?_); rintro e wc ⟨rfl, hbc⟩; go_must (have HLC := keepG (HL3.out.below hbc); have HQC2 := keepG (HQ3.out.below hbc HQ3.out.lt); have HAC := keepG (HA4.out.below hbc HA4.out.lt); have dc := HCC.out wc HLC.out.be; have s0 := HQC2.out.cell (j := 0) rfl; have s1 := HQC2.out.cell (j := 1) rfl; have s2 := HQC2.out.cell (j := 2) rfl; obtain ⟨-, -, g3, g4⟩ := HQC.out wc HLC.out.be; clear hbc K3 HL3 HQ3))
         | (go_at_call 10; (have hq := K7; clear hq); go_must (refine (copied9_own _ _ ms xs wc (HSM.out wc HLC.out.be) hz1).mono ?_); rintro e wd ⟨um, uc, rfl, hsd, -, -, hbd⟩; go_must (have HSD := keepG hsd; have HLD := keepG (HLC.out.below hbd); have HQD := keepG (HQC2.out.below hbd HQC2.out.lt); have HAD := keepG (HAC.out.below hbd HAC.out.lt); obtain ⟨⟨na, nc, e1⟩, da, dd, e2⟩ := shapeM23 hsd; subst e1 e2; clear hsd hbd K7 g3 g4))
         | (go_at_call 9; go_must (refine (ljudge_as HSD.out.maps HSD.out.code HJ).mono ?_); rintro e wf ⟨rfl, hbf⟩; go_must (have HLF := keepG (HLD.out.below hbf); have HQF := keepG (HQD.out.below hbf HQD.out.lt); have HAF := keepG (HAD.out.below hbf HAD.out.lt); obtain ⟨-, -, g3, g4⟩ := HQC.out wf HLF.out.be; clear hbf HSD))
         | (go_at_call 10; (have hq := K8; clear hq); go_must (refine (copied9_own _ _ ms xs wf (HSM.out wf HLF.out.be) hz1).mono ?_); rintro e wg ⟨um, uc, rfl, hsg, ho1, ho2, hbg⟩; go_must (have HSG := keepG hsg; have HLG := keepG (HLF.out.below hbg); have HQX := keepG (HQF.out.below hbg HQF.out.lt); have HAX := keepG (HAF.out.below hbg HAF.out.lt); have HP1 := keepG (apt_own23 HLF.out.lies (Nat.le_refl _) ho1); have HP2 := keepG (apt_own23 HLF.out.lies (Nat.le_refl _) ho2); obtain ⟨⟨na2, nc2, e1⟩, da2, dd2, e2⟩ := shapeM23 hsg; subst e1 e2; clear hsg hbg K8 g3 g4 ho1 ho2))
         | (go_at_call 11; go_must (refine (HLG.out.enter 1 2 HSG.out (fun hne => HP1.out (List.length_pos_iff.2 hne)) (fun hne => HP2.out (List.length_pos_iff.2 hne)) HQ).mono ?_); rintro e w5 ⟨rfl, F5, hL5, hn5⟩; go_must (have HL5 := keepG hL5; have HQ5 := keepG (HQX.out.chg hn5.chg HI.out.2.2); have HA5 := keepG (HAX.out.chg hn5.chg HNB.out); have HN5 : Hid (¬ F5 nq) := (fun e => by (rcases hn5.new nq e with g | g; exact HI.out.2.2 g; have := HQX.out.lt; omega)); clear hL5 hn5)))
        go_roundw
        case rel => exact ⟨j + 1, F5, k, by omega, by omega, by go_num, HL9.out, HQ9.out, HN5.out⟩
        case measure => simp [intOf]; omega
     ·have h1b : (c == 1) = false := by simpa using h1
      by_cases hc2 : c = 2
      ·subst hc2
       by_cases hm : k.md = 1
       ·have hmI : m = 1 := by have := HMK.out; omega
        subst hmI
        as_aux_lemma =>
         obtain ⟨k5, HQ⟩ : ∃ k5, Hid (k.skip = (0, k5)) := ⟨_, by show _ = _; unfold Wk.skip; rw [if_neg (by omega)]⟩
         go_wp2_with (first
          | (go_at_call 12; (have hq := K1; clear hq); go_must (refine (HMO.out wr F HI.out.1).mono ?_); rintro e wa ⟨rfl, hba⟩; go_must (have HLA := keepG (HI.out.1.below hba); have HQA := keepG (HI.out.2.1.below hba HI.out.2.1.lt); clear hba K1))
          | (go_at_call 18; (have hq := K2; clear hq); go_must (refine (HHA.out wa F HLA.out).mono ?_); rintro e wb ⟨rfl, hbb⟩; go_must (have HLB := keepG (HLA.out.below hbb); have HQB := keepG (HQA.out.below hbb HQA.out.lt); obtain ⟨W3, HW3, HA3, hb3⟩ : ∃ W3, Hid (wb.alloc (.cells #[.int .i64 an, .int .u64 a1, .int .u64 a2] 45) = W3) /\ Hid (Hp W3 wb.heap.size 45 [.int .i64 an, .int .u64 a1, .int .u64 a2]) /\ Below wb.heap.size wb W3 := ⟨_, rfl, Hp.new wb _ _, below_allocG _ _⟩; have HL3 := keepG (HLB.out.below hb3); have HQ3 := keepG (HQB.out.below hb3 HQB.out.lt); obtain ⟨nh, HNH⟩ : ∃ nh, Hid (wb.heap.size = nh) := ⟨_, rfl⟩; have HNB : Hid (¬ F nh) := (fun e => by (have h1 := HLB.out.lies nh e; have h2 := HNH.out; omega)); have HA4 : Hid (Hp W3 nh 45 [.int .i64 an, .int .u64 a1, .int .u64 a2]) := (by rw [<- HNH.out]; exact HA3.out); clear hbb hb3 K2 HLA HQA HLB HQB HA3))
          | (rw [HW3.out, HNH.out])
          | (go_at_call 15; (have hq := K3; clear hq); go_must (refine (HRU.out W3 F HL3.out).mono ?_); rintro e wc ⟨rfl, hbc⟩; go_must (have HLC := keepG (HL3.out.below hbc); have HQC2 := keepG (HQ3.out.below hbc HQ3.out.lt); have HAC := keepG (HA4.out.below hbc HA4.out.lt); have dc := HCC.out wc HLC.out.be; have s0 := HQC2.out.cell (j := 0) rfl; have s1 := HQC2.out.cell (j := 1) rfl; have s2 := HQC2.out.cell (j := 2) rfl; obtain ⟨-, -, g3, g4⟩ := HQC.out wc HLC.out.be; clear hbc K3 HL3 HQ3))
          | (go_at_call 13; go_must (have HQX := HQC2; have HAX := HAC; refine (HLC.out.skip HQ).mono ?_); rintro e w5 ⟨rfl, F5, hL5, hn5⟩; go_must (have HL5 := keepG hL5; have HQ5 := keepG (HQX.out.chg hn5.chg HI.out.2.2); have HA5 := keepG (HAX.out.chg hn5.chg HNB.out); have HN5 : Hid (¬ F5 nq) := (fun e => by (rcases hn5.new nq e with g | g; exact HI.out.2.2 g; have := HQX.out.lt; omega)); clear hL5 hn5)))
         go_roundw
         case rel => exact ⟨j + 1, F5, k5, by omega, by omega, by go_num, HL5.out, HQ5.out, HN5.out⟩
         case measure => simp [intOf]; omega
       ·have hmI : ¬ m = 1 := by have := HMK.out; omega
        have hmb : (m == 1) = false := by simpa using hmI
        as_aux_lemma =>
         have HQ : Hid (k.skip = (41, k)) := by show _ = _; unfold Wk.skip; rw [if_pos hm]
         have hmm : (m != m) = false := by simp
         have hhh : (ah != ah) = false := by simp
         have hvv : (av != av) = false := by simp
         have hpp : (ap != ap) = false := by simp
         go_wp2_with (first
          | (go_at_call 18; (have hq := HL5; clear hq); go_must (refine (HHA.out w5 F5 HL5.out).mono ?_); rintro e w6 ⟨rfl, hb6⟩; go_must (have HL6 := keepG (HL5.out.below hb6); have HQ6 := keepG (HQ5.out.below hb6 HQ5.out.lt); have HA6 := keepG (HA5.out.below hb6 HA5.out.lt); obtain ⟨W7, HW7, HC7, hb7⟩ : ∃ W7, Hid (w6.alloc (.cells #[.int .i64 an, .int .u64 a1, .int .u64 a2] 45) = W7) /\ Hid (Hp W7 w6.heap.size 45 [.int .i64 an, .int .u64 a1, .int .u64 a2]) /\ Below w6.heap.size w6 W7 := ⟨_, rfl, Hp.new w6 _ _, below_allocG _ _⟩; have HL7 := keepG (HL6.out.below hb7); have HQ7 := keepG (HQ6.out.below hb7 HQ6.out.lt); have HA7 := keepG (HA6.out.below hb7 HA6.out.lt); clear hb6 hb7 HL6 HQ6 HA6))
          | (rw [HW7.out])
          | (go_at_call 15; (have hq := HL7; clear hq); go_must (refine (HRU.out W7 F5 HL7.out).mono ?_); rintro e w8 ⟨rfl, hb8⟩; go_must (have HL8 := keepG (HL7.out.below hb8); have HQ8 := keepG (HQ7.out.below hb8 HQ7.out.lt); have HA8 := keepG (HA7.out.below hb8 HA7.out.lt); have HC8 := keepG (HC7.out.below hb8 HC7.out.lt); clear hb8 HL7 HQ7 HA7 HC7))
          | (go_at_call 12; (have hq := HL8; clear hq); go_must (refine (HMO.out w8 F5 HL8.out).mono ?_); rintro e w9 ⟨rfl, hb9⟩; go_must (have HL9 := keepG (HL8.out.below hb9); have HQ9 := keepG (HQ8.out.below hb9 HQ8.out.lt); have HA9 := keepG (HA8.out.below hb9 HA8.out.lt); have HC9 := keepG (HC8.out.below hb9 HC8.out.lt); have u0 := HA9.out.cell (j := 0) rfl; have u1 := HA9.out.cell (j := 1) rfl; have u2 := HA9.out.cell (j := 2) rfl; have v0 := HC9.out.cell (j := 0) rfl; have v1 := HC9.out.cell (j := 1) rfl; have v2 := HC9.out.cell (j := 2) rfl; clear hb9 HL8 HQ8 HA8 HC8))
          | (go_at_call 12; (have hq := K1; clear hq); go_must (refine (HMO.out wr F HI.out.1).mono ?_); rintro e wa ⟨rfl, hba⟩; go_must (have HLA := keepG (HI.out.1.below hba); have HQA := keepG (HI.out.2.1.below hba HI.out.2.1.lt); clear hba K1))
          | (go_at_call 18; (have hq := K2; clear hq); go_must (refine (HHA.out wa F HLA.out).mono ?_); rintro e wb ⟨rfl, hbb⟩; go_must (have HLB := keepG (HLA.out.below hbb); have HQB := keepG (HQA.out.below hbb HQA.out.lt); obtain ⟨W3, HW3, HA3, hb3⟩ : ∃ W3, Hid (wb.alloc (.cells #[.int .i64 an, .int .u64 a1, .int .u64 a2] 45) = W3) /\ Hid (Hp W3 wb.heap.size 45 [.int .i64 an, .int .u64 a1, .int .u64 a2]) /\ Below wb.heap.size wb W3 := ⟨_, rfl, Hp.new wb _ _, below_allocG _ _⟩; have HL3 := keepG (HLB.out.below hb3); have HQ3 := keepG (HQB.out.below hb3 HQB.out.lt); obtain ⟨nh, HNH⟩ : ∃ nh, Hid (wb.heap.size = nh) := ⟨_, rfl⟩; have HNB : Hid (¬ F nh) := (fun e => by (have h1 := HLB.out.lies nh e; have h2 := HNH.out; omega)); have HA4 : Hid (Hp W3 nh 45 [.int .i64 an, .int .u64 a1, .int .u64 a2]) := (by rw [<- HNH.out]; exact HA3.out); clear hbb hb3 K2 HLA HQA HLB HQB HA3))
          | (rw [HW3.out, HNH.out])
          | (go_at_call 15; (have hq := K3; clear hq); go_must (refine (HRU.out W3 F HL3.out).mono ?_); rintro e wc ⟨rfl, hbc⟩; go_must (have HLC := keepG (HL3.out.below hbc); have HQC2 := keepG (HQ3.out.below hbc HQ3.out.lt); have HAC := keepG (HA4.out.below hbc HA4.out.lt); have dc := HCC.out wc HLC.out.be; have s0 := HQC2.out.cell (j := 0) rfl; have s1 := HQC2.out.cell (j := 1) rfl; have s2 := HQC2.out.cell (j := 2) rfl; obtain ⟨-, -, g3, g4⟩ := HQC.out wc HLC.out.be; clear hbc K3 HL3 HQ3))
          | (go_at_call 13; go_must (have HQX := HQC2; have HAX := HAC; refine (HLC.out.skip HQ).mono ?_); rintro e w5 ⟨rfl, F5, hL5, hn5⟩; go_must (have HL5 := keepG hL5; have HQ5 := keepG (HQX.out.chg hn5.chg HI.out.2.2); have HA5 := keepG (HAX.out.chg hn5.chg HNB.out); have HN5 : Hid (¬ F5 nq) := (fun e => by (rcases hn5.new nq e with g | g; exact HI.out.2.2 g; have := HQX.out.lt; omega)); clear hL5 hn5)))
         go_roundw
         case rel => exact ⟨j + 1, F5, k, by omega, by omega, by go_num, HL9.out, HQ9.out, HN5.out⟩
         case measure => simp [intOf]; omega
      ·have h2b : (c == 2) = false := by simpa using hc2
       by_cases h3 : c = 3
       ·subst h3
        by_cases hm : k.md = 3
        ·have hmI : m = 3 := by have := HMK.out; omega
         subst hmI
         as_aux_lemma =>
          obtain ⟨k5, HQ⟩ : ∃ k5, Hid (k.answer 0 false 4 = (0, k5)) := ⟨_, by show _ = _; unfold Wk.answer; rw [if_neg (by omega)]⟩
          go_wp2_with (first
           | (go_at_call 12; (have hq := K1; clear hq); go_must (refine (HMO.out wr F HI.out.1).mono ?_); rintro e wa ⟨rfl, hba⟩; go_must (have HLA := keepG (HI.out.1.below hba); have HQA := keepG (HI.out.2.1.below hba HI.out.2.1.lt); clear hba K1))
           | (go_at_call 18; (have hq := K2; clear hq); go_must (refine (HHA.out wa F HLA.out).mono ?_); rintro e wb ⟨rfl, hbb⟩; go_must (have HLB := keepG (HLA.out.below hbb); have HQB := keepG (HQA.out.below hbb HQA.out.lt); obtain ⟨W3, HW3, HA3, hb3⟩ : ∃ W3, Hid (wb.alloc (.cells #[.int .i64 an, .int .u64 a1, .int .u64 a2] 45) = W3) /\ Hid (Hp W3 wb.heap.size 45 [.int .i64 an, .int .u64 a1, .int .u64 a2]) /\ Below wb.heap.size wb W3 := ⟨_, rfl, Hp.new wb _ _, below_allocG _ _⟩; have HL3 := keepG (HLB.out.below hb3); have HQ3 := keepG (HQB.out.below hb3 HQB.out.lt); obtain ⟨nh, HNH⟩ : ∃ nh, Hid (wb.heap.size = nh) := ⟨_, rfl⟩; have HNB : Hid (¬ F nh) := (fun e => by (have h1 := HLB.out.lies nh e; have h2 := HNH.out; omega)); have HA4 : Hid (Hp W3 nh 45 [.int .i64 an, .int .u64 a1, .int .u64 a2]) := (by rw [<- HNH.out]; exact HA3.out); clear hbb hb3 K2 HLA HQA HLB HQB HA3))
           | (rw [HW3.out, HNH.out])
           | (go_at_call 15; (have hq := K3; clear hq); go_must (refine (HRU.out W3 F HL3.out).mono ?_); rintro e wc ⟨rfl, hbc⟩; go_must (have HLC := keepG (HL3.out.below hbc); have HQC2 := keepG (HQ3.out.below hbc HQ3.out.lt); have HAC := keepG (HA4.out.below hbc HA4.out.lt); have dc := HCC.out wc HLC.out.be; have s0 := HQC2.out.cell (j := 0) rfl; have s1 := HQC2.out.cell (j := 1) rfl; have s2 := HQC2.out.cell (j := 2) rfl; obtain ⟨-, -, g3, g4⟩ := HQC.out wc HLC.out.be; clear hbc K3 HL3 HQ3))
           | (go_at_call 17; go_must (have HQX := HQC2; have HAX := HAC; refine (HLC.out.answer ⟨0, false, 4, false, 0, 0⟩ (by unfold Rs.wf; decide) (by decide) HQ).mono ?_); rintro e w5 ⟨rfl, F5, hL5, hn5⟩; go_must (have HL5 := keepG hL5; have HQ5 := keepG (HQX.out.chg hn5.chg HI.out.2.2); have HA5 := keepG (HAX.out.chg hn5.chg HNB.out); have HN5 : Hid (¬ F5 nq) := (fun e => by (rcases hn5.new nq e with g | g; exact HI.out.2.2 g; have := HQX.out.lt; omega)); clear hL5 hn5)))
          go_roundw
          case rel => exact ⟨j + 1, F5, k5, by omega, by omega, by go_num, HL5.out, HQ5.out, HN5.out⟩
          case measure => simp [intOf]; omega
        ·have hmI : ¬ m = 3 := by have := HMK.out; omega
         have hmb : (m == 3) = false := by simpa using hmI
         as_aux_lemma =>
          have HQ : Hid (k.answer 0 false 4 = (41, k)) := by show _ = _; unfold Wk.answer; rw [if_pos hm]
          have hmm : (m != m) = false := by simp
          have hhh : (ah != ah) = false := by simp
          have hvv : (av != av) = false := by simp
          have hpp : (ap != ap) = false := by simp
          go_wp2_with (first
           | (go_at_call 18; (have hq := HL5; clear hq); go_must (refine (HHA.out w5 F5 HL5.out).mono ?_); rintro e w6 ⟨rfl, hb6⟩; go_must (have HL6 := keepG (HL5.out.below hb6); have HQ6 := keepG (HQ5.out.below hb6 HQ5.out.lt); have HA6 := keepG (HA5.out.below hb6 HA5.out.lt); obtain ⟨W7, HW7, HC7, hb7⟩ : ∃ W7, Hid (w6.alloc (.cells #[.int .i64 an, .int .u64 a1, .int .u64 a2] 45) = W7) /\ Hid (Hp W7 w6.heap.size 45 [.int .i64 an, .int .u64 a1, .int .u64 a2]) /\ Below w6.heap.size w6 W7 := ⟨_, rfl, Hp.new w6 _ _, below_allocG _ _⟩; have HL7 := keepG (HL6.out.below hb7); have HQ7 := keepG (HQ6.out.below hb7 HQ6.out.lt); have HA7 := keepG (HA6.out.below hb7 HA6.out.lt); clear hb6 hb7 HL6 HQ6 HA6))
           | (rw [HW7.out])
           | (go_at_call 15; (have hq := HL7; clear hq); go_must (refine (HRU.out W7 F5 HL7.out).mono ?_); rintro e w8 ⟨rfl, hb8⟩; go_must (have HL8 := keepG (HL7.out.below hb8); have HQ8 := keepG (HQ7.out.below hb8 HQ7.out.lt); have HA8 := keepG (HA7.out.below hb8 HA7.out.lt); have HC8 := keepG (HC7.out.below hb8 HC7.out.lt); clear hb8 HL7 HQ7 HA7 HC7))
           | (go_at_call 12; (have hq := HL8; clear hq); go_must (refine (HMO.out w8 F5 HL8.out).mono ?_); rintro e w9 ⟨rfl, hb9⟩; go_must (have HL9 := keepG (HL8.out.below hb9); have HQ9 := keepG (HQ8.out.below hb9 HQ8.out.lt); have HA9 := keepG (HA8.out.below hb9 HA8.out.lt); have HC9 := keepG (HC8.out.below hb9 HC8.out.lt); have u0 := HA9.out.cell (j := 0) rfl; have u1 := HA9.out.cell (j := 1) rfl; have u2 := HA9.out.cell (j := 2) rfl; have v0 := HC9.out.cell (j := 0) rfl; have v1 := HC9.out.cell (j := 1) rfl; have v2 := HC9.out.cell (j := 2) rfl; clear hb9 HL8 HQ8 HA8 HC8))
           | (go_at_call 12; (have hq := K1; clear hq); go_must (refine (HMO.out wr F HI.out.1).mono ?_); rintro e wa ⟨rfl, hba⟩; go_must (have HLA := keepG (HI.out.1.below hba); have HQA := keepG (HI.out.2.1.below hba HI.out.2.1.lt); clear hba K1))
           | (go_at_call 18; (have hq := K2; clear hq); go_must (refine (HHA.out wa F HLA.out).mono ?_); rintro e wb ⟨rfl, hbb⟩; go_must (have HLB := keepG (HLA.out.below hbb); have HQB := keepG (HQA.out.below hbb HQA.out.lt); obtain ⟨W3, HW3, HA3, hb3⟩ : ∃ W3, Hid (wb.alloc (.cells #[.int .i64 an, .int .u64 a1, .int .u64 a2] 45) = W3) /\ Hid (Hp W3 wb.heap.size 45 [.int .i64 an, .int .u64 a1, .int .u64 a2]) /\ Below wb.heap.size wb W3 := ⟨_, rfl, Hp.new wb _ _, below_allocG _ _⟩; have HL3 := keepG (HLB.out.below hb3); have HQ3 := keepG (HQB.out.below hb3 HQB.out.lt); obtain ⟨nh, HNH⟩ : ∃ nh, Hid (wb.heap.size = nh) := ⟨_, rfl⟩; have HNB : Hid (¬ F nh) := (fun e => by (have h1 := HLB.out.lies nh e; have h2 := HNH.out; omega)); have HA4 : Hid (Hp W3 nh 45 [.int .i64 an, .int .u64 a1, .int .u64 a2]) := (by rw [<- HNH.out]; exact HA3.out); clear hbb hb3 K2 HLA HQA HLB HQB HA3))
           | (rw [HW3.out, HNH.out])
           | (go_at_call 15; (have hq := K3; clear hq); go_must (refine (HRU.out W3 F HL3.out).mono ?_); rintro e wc ⟨rfl, hbc⟩; go_must (have HLC := keepG (HL3.out.below hbc); have HQC2 := keepG (HQ3.out.below hbc HQ3.out.lt); have HAC := keepG (HA4.out.below hbc HA4.out.lt); have dc := HCC.out wc HLC.out.be; have s0 := HQC2.out.cell (j := 0) rfl; have s1 := HQC2.out.cell (j := 1) rfl; have s2 := HQC2.out.cell (j := 2) rfl; obtain ⟨-, -, g3, g4⟩ := HQC.out wc HLC.out.be; clear hbc K3 HL3 HQ3))
           | (go_at_call 17; go_must (have HQX := HQC2; have HAX := HAC; refine (HLC.out.answer ⟨0, false, 4, false, 0, 0⟩ (by unfold Rs.wf; decide) (by decide) HQ).mono ?_); rintro e w5 ⟨rfl, F5, hL5, hn5⟩; go_must (have HL5 := keepG hL5; have HQ5 := keepG (HQX.out.chg hn5.chg HI.out.2.2); have HA5 := keepG (HAX.out.chg hn5.chg HNB.out); have HN5 : Hid (¬ F5 nq) := (fun e => by (rcases hn5.new nq e with g | g; exact HI.out.2.2 g; have := HQX.out.lt; omega)); clear hL5 hn5)))
          go_roundw
          case rel => exact ⟨j + 1, F5, k, by omega, by omega, by go_num, HL9.out, HQ9.out, HN5.out⟩
          case measure => simp [intOf]; omega
       ·have h3b : (c == 3) = false := by simpa using h3
        by_cases hm : k.md = 2
        ·have hmI : m = 2 := by have := HMK.out; omega
         subst hmI
         as_aux_lemma =>
          obtain ⟨⟨x1, x2, x3, x4, x5, x6, x7⟩, k5, HQ⟩ : ∃ a k5, Hid (k.step = (a, true, k5)) := ⟨_, _, by show _ = _; unfold Wk.step; rw [if_neg (by omega)]⟩
          go_wp2_with (first
           | (go_at_call 12; (have hq := K1; clear hq); go_must (refine (HMO.out wr F HI.out.1).mono ?_); rintro e wa ⟨rfl, hba⟩; go_must (have HLA := keepG (HI.out.1.below hba); have HQA := keepG (HI.out.2.1.below hba HI.out.2.1.lt); clear hba K1))
           | (go_at_call 18; (have hq := K2; clear hq); go_must (refine (HHA.out wa F HLA.out).mono ?_); rintro e wb ⟨rfl, hbb⟩; go_must (have HLB := keepG (HLA.out.below hbb); have HQB := keepG (HQA.out.below hbb HQA.out.lt); obtain ⟨W3, HW3, HA3, hb3⟩ : ∃ W3, Hid (wb.alloc (.cells #[.int .i64 an, .int .u64 a1, .int .u64 a2] 45) = W3) /\ Hid (Hp W3 wb.heap.size 45 [.int .i64 an, .int .u64 a1, .int .u64 a2]) /\ Below wb.heap.size wb W3 := ⟨_, rfl, Hp.new wb _ _, below_allocG _ _⟩; have HL3 := keepG (HLB.out.below hb3); have HQ3 := keepG (HQB.out.below hb3 HQB.out.lt); obtain ⟨nh, HNH⟩ : ∃ nh, Hid (wb.heap.size = nh) := ⟨_, rfl⟩; have HNB : Hid (¬ F nh) := (fun e => by (have h1 := HLB.out.lies nh e; have h2 := HNH.out; omega)); have HA4 : Hid (Hp W3 nh 45 [.int .i64 an, .int .u64 a1, .int .u64 a2]) := (by rw [<- HNH.out]; exact HA3.out); clear hbb hb3 K2 HLA HQA HLB HQB HA3))
           | (rw [HW3.out, HNH.out])
           | (go_at_call 15; (have hq := K3; clear hq); go_must (refine (HRU.out W3 F HL3.out).mono ?_); rintro e wc ⟨rfl, hbc⟩; go_must (have HLC := keepG (HL3.out.below hbc); have HQC2 := keepG (HQ3.out.below hbc HQ3.out.lt); have HAC := keepG (HA4.out.below hbc HA4.out.lt); have dc := HCC.out wc HLC.out.be; have s0 := HQC2.out.cell (j := 0) rfl; have s1 := HQC2.out.cell (j := 1) rfl; have s2 := HQC2.out.cell (j := 2) rfl; obtain ⟨-, -, g3, g4⟩ := HQC.out wc HLC.out.be; clear hbc K3 HL3 HQ3))
           | (go_at_call 16; go_must (have HQX := HQC2; have HAX := HAC; refine (HLC.out.step HQ).mono ?_); rintro e w5 ⟨rfl, F5, hL5, hn5⟩; go_must (have HL5 := keepG hL5; have HQ5 := keepG (HQX.out.chg hn5.chg HI.out.2.2); have HA5 := keepG (HAX.out.chg hn5.chg HNB.out); have HN5 : Hid (¬ F5 nq) := (fun e => by (rcases hn5.new nq e with g | g; exact HI.out.2.2 g; have := HQX.out.lt; omega)); clear hL5 hn5)))
          go_roundw
          case rel => exact ⟨j + 1, F5, k5, by omega, by omega, by go_num, HL5.out, HQ5.out, HN5.out⟩
          case measure => simp [intOf]; omega
        ·have hmI : ¬ m = 2 := by have := HMK.out; omega
         have hmb : (m == 2) = false := by simpa using hmI
         as_aux_lemma =>
          have HQ : Hid (k.step = (Ac.nil, false, k)) := by show _ = _; unfold Wk.step; rw [if_pos hm]
          have hmm : (m != m) = false := by simp
          have hhh : (ah != ah) = false := by simp
          have hvv : (av != av) = false := by simp
          have hpp : (ap != ap) = false := by simp
          go_wp2_with (first
           | (go_at_call 18; (have hq := HL5; clear hq); go_must (refine (HHA.out w5 F5 HL5.out).mono ?_); rintro e w6 ⟨rfl, hb6⟩; go_must (have HL6 := keepG (HL5.out.below hb6); have HQ6 := keepG (HQ5.out.below hb6 HQ5.out.lt); have HA6 := keepG (HA5.out.below hb6 HA5.out.lt); obtain ⟨W7, HW7, HC7, hb7⟩ : ∃ W7, Hid (w6.alloc (.cells #[.int .i64 an, .int .u64 a1, .int .u64 a2] 45) = W7) /\ Hid (Hp W7 w6.heap.size 45 [.int .i64 an, .int .u64 a1, .int .u64 a2]) /\ Below w6.heap.size w6 W7 := ⟨_, rfl, Hp.new w6 _ _, below_allocG _ _⟩; have HL7 := keepG (HL6.out.below hb7); have HQ7 := keepG (HQ6.out.below hb7 HQ6.out.lt); have HA7 := keepG (HA6.out.below hb7 HA6.out.lt); clear hb6 hb7 HL6 HQ6 HA6))
           | (rw [HW7.out])
           | (go_at_call 15; (have hq := HL7; clear hq); go_must (refine (HRU.out W7 F5 HL7.out).mono ?_); rintro e w8 ⟨rfl, hb8⟩; go_must (have HL8 := keepG (HL7.out.below hb8); have HQ8 := keepG (HQ7.out.below hb8 HQ7.out.lt); have HA8 := keepG (HA7.out.below hb8 HA7.out.lt); have HC8 := keepG (HC7.out.below hb8 HC7.out.lt); clear hb8 HL7 HQ7 HA7 HC7))
           | (go_at_call 12; (have hq := HL8; clear hq); go_must (refine (HMO.out w8 F5 HL8.out).mono ?_); rintro e w9 ⟨rfl, hb9⟩; go_must (have HL9 := keepG (HL8.out.below hb9); have HQ9 := keepG (HQ8.out.below hb9 HQ8.out.lt); have HA9 := keepG (HA8.out.below hb9 HA8.out.lt); have HC9 := keepG (HC8.out.below hb9 HC8.out.lt); have u0 := HA9.out.cell (j := 0) rfl; have u1 := HA9.out.cell (j := 1) rfl; have u2 := HA9.out.cell (j := 2) rfl; have v0 := HC9.out.cell (j := 0) rfl; have v1 := HC9.out.cell (j := 1) rfl; have v2 := HC9.out.cell (j := 2) rfl; clear hb9 HL8 HQ8 HA8 HC8))
           | (go_at_call 12; (have hq := K1; clear hq); go_must (refine (HMO.out wr F HI.out.1).mono ?_); rintro e wa ⟨rfl, hba⟩; go_must (have HLA := keepG (HI.out.1.below hba); have HQA := keepG (HI.out.2.1.below hba HI.out.2.1.lt); clear hba K1))
           | (go_at_call 18; (have hq := K2; clear hq); go_must (refine (HHA.out wa F HLA.out).mono ?_); rintro e wb ⟨rfl, hbb⟩; go_must (have HLB := keepG (HLA.out.below hbb); have HQB := keepG (HQA.out.below hbb HQA.out.lt); obtain ⟨W3, HW3, HA3, hb3⟩ : ∃ W3, Hid (wb.alloc (.cells #[.int .i64 an, .int .u64 a1, .int .u64 a2] 45) = W3) /\ Hid (Hp W3 wb.heap.size 45 [.int .i64 an, .int .u64 a1, .int .u64 a2]) /\ Below wb.heap.size wb W3 := ⟨_, rfl, Hp.new wb _ _, below_allocG _ _⟩; have HL3 := keepG (HLB.out.below hb3); have HQ3 := keepG (HQB.out.below hb3 HQB.out.lt); obtain ⟨nh, HNH⟩ : ∃ nh, Hid (wb.heap.size = nh) := ⟨_, rfl⟩; have HNB : Hid (¬ F nh) := (fun e => by (have h1 := HLB.out.lies nh e; have h2 := HNH.out; omega)); have HA4 : Hid (Hp W3 nh 45 [.int .i64 an, .int .u64 a1, .int .u64 a2]) := (by rw [<- HNH.out]; exact HA3.out); clear hbb hb3 K2 HLA HQA HLB HQB HA3))
           | (rw [HW3.out, HNH.out])
           | (go_at_call 15; (have hq := K3; clear hq); go_must (refine (HRU.out W3 F HL3.out).mono ?_); rintro e wc ⟨rfl, hbc⟩; go_must (have HLC := keepG (HL3.out.below hbc); have HQC2 := keepG (HQ3.out.below hbc HQ3.out.lt); have HAC := keepG (HA4.out.below hbc HA4.out.lt); have dc := HCC.out wc HLC.out.be; have s0 := HQC2.out.cell (j := 0) rfl; have s1 := HQC2.out.cell (j := 1) rfl; have s2 := HQC2.out.cell (j := 2) rfl; obtain ⟨-, -, g3, g4⟩ := HQC.out wc HLC.out.be; clear hbc K3 HL3 HQ3))
           | (go_at_call 16; go_must (have HQX := HQC2; have HAX := HAC; refine (HLC.out.step HQ).mono ?_); rintro e w5 ⟨rfl, F5, hL5, hn5⟩; go_must (have HL5 := keepG hL5; have HQ5 := keepG (HQX.out.chg hn5.chg HI.out.2.2); have HA5 := keepG (HAX.out.chg hn5.chg HNB.out); have HN5 : Hid (¬ F5 nq) := (fun e => by (rcases hn5.new nq e with g | g; exact HI.out.2.2 g; have := HQX.out.lt; omega)); clear hL5 hn5)))
          go_roundw
          case rel => exact ⟨j + 1, F5, k, by omega, by omega, by go_num, HL9.out, HQ9.out, HN5.out⟩
          case measure => simp [intOf]; omega
   ·have h2I : ¬ (j : Int) < 200 := by omega
    have h2d : decide ((j : Int) < 200) = false := by simpa using h2I
    have HLw := keepG HI.out.1
    have HQw := keepG HI.out.2.1
    have HNw := keepG HI.out.2.2
    have s0 := HQw.out.cell (j := 0) rfl
    have s1 := HQw.out.cell (j := 1) rfl
    have s2 := HQw.out.cell (j := 2) rfl
    have HT4 : Hid (k.take 4 3 (ea, eb) = (2, k)) := by show _ = _; unfold Wk.take; rw [if_pos (by omega)]
    have HTM : Hid (k.take (-1) 3 (ea, eb) = (2, k)) := by show _ = _; unfold Wk.take; rw [if_pos (by omega)]
    have K1 : Hid True := trivial
    go_wp2_with (first
     | (go_at_call 8; (have hq := K1; clear hq); go_must (refine (HLw.out.take 4 3 (ea, eb) hev HT4).mono ?_); rintro e wa ⟨rfl, Fa, hLa, hna⟩; go_must (have HLa := keepG hLa; have HQa := keepG (HQw.out.chg hna.chg HNw.out); clear hLa hna K1 s0 s1 s2; have s0 := HQa.out.cell (j := 0) rfl; have s1 := HQa.out.cell (j := 1) rfl; have s2 := HQa.out.cell (j := 2) rfl))
     | (go_at_call 8; go_must (refine (HLa.out.take (-1) 3 (ea, eb) hev HTM).mono ?_); rintro e wb ⟨rfl, Fb, hLb, -⟩; go_must (have HLb := keepG hLb; clear hLb)))
    go_ret
    exact ⟨rfl, HEND.out _ HLb.out.be⟩
  ·have hltI : ¬ (j : Int) < cs.length := by omega
   have hltd : decide ((j : Int) < cs.length) = false := by simpa using hltI
   have HLw := keepG HI.out.1
   have HQw := keepG HI.out.2.1
   have HNw := keepG HI.out.2.2
   have s0 := HQw.out.cell (j := 0) rfl
   have s1 := HQw.out.cell (j := 1) rfl
   have s2 := HQw.out.cell (j := 2) rfl
   have HT4 : Hid (k.take 4 3 (ea, eb) = (2, k)) := by show _ = _; unfold Wk.take; rw [if_pos (by omega)]
   have HTM : Hid (k.take (-1) 3 (ea, eb) = (2, k)) := by show _ = _; unfold Wk.take; rw [if_pos (by omega)]
   have K1 : Hid True := trivial
   go_wp2_with (first
    | (go_at_call 8; (have hq := K1; clear hq); go_must (refine (HLw.out.take 4 3 (ea, eb) hev HT4).mono ?_); rintro e wa ⟨rfl, Fa, hLa, hna⟩; go_must (have HLa := keepG hLa; have HQa := keepG (HQw.out.chg hna.chg HNw.out); clear hLa hna K1 s0 s1 s2; have s0 := HQa.out.cell (j := 0) rfl; have s1 := HQa.out.cell (j := 1) rfl; have s2 := HQa.out.cell (j := 2) rfl))
    | (go_at_call 8; go_must (refine (HLa.out.take (-1) 3 (ea, eb) hev HTM).mono ?_); rintro e wb ⟨rfl, Fb, hLb, -⟩; go_must (have HLb := keepG hLb; clear hLb)))
   go_ret
   exact ⟨rfl, HEND.out _ HLb.out.be⟩
end Go.Proofs.YtkcppeahdfboeaaGreat
