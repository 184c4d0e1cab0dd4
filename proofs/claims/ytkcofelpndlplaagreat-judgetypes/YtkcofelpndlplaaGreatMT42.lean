/-
  J9LeavesC
  J9LeavesD
  J9Leaves
-/
import Derived.Test.YtkcofelpndlplaaGreatMT24
import Derived.Test.YtkcofelpndlplaaGreatMT21
import Derived.Test.YtkcofelpndlplaaGreatMT5
import Derived.Test.YtkcofelpndlplaaGreatMT8
import Derived.Test.YtkcofelpndlplaaGreatMT27
import Derived.Test.YtkcofelpndlplaaGreatMT30
import Derived.Test.YtkcofelpndlplaaGreatMT19
import Derived.Deep.RegionHeld3
namespace Go.Proofs.YtkcofelpndlplaaGreat
open Go.RowKit
set_option linter.unusedVariables false
set_option maxRecDepth 100000
set_option linter.unusedSimpArgs false
theorem optV_getD (o : Option (Int × Int)) : optV o = .tuple #[.agg #[.int .u64 (o.getD (0, 0)).1, .int .u64 (o.getD (0, 0)).2], .bool o.isSome] := by cases o <;> rfl
theorem sdo_as {op a A b B : Int} (ha : W64 a) (hA : W64 A) (hb : W64 b) (hB : W64 B) {lo hi : Int} {ok : Bool} (h1 : Hid ((doR op a A b B).getD (0, 0) = (lo, hi))) (h2 : Hid ((doR op a A b B).isSome = ok)) (w : World) :
  Calls Tryz.prog 87 #[.int .i64 op, .agg #[.int .u64 a, .int .u64 A], .agg #[.int .u64 b, .int .u64 B]] w fun e w' => e = .returned (.tuple #[.agg #[.int .u64 lo, .int .u64 hi], .bool ok]) /\ Below w.heap.size w w' := by
 have := sdo_any or_way op a A b B w ha hA hb hB
 rw [optV_getD, h1.out, h2.out] at this
 exact this
theorem src_ends {i : In} {s : St} (hw : ∀ t ∈ s, W64 t.lo /\ W64 t.hi) (h8 : s.length = 8) (hb : i.b = 8 ∨ (0 <= i.b /\ i.b <= 7)) : W64 (srcT i s).lo /\ W64 (srcT i s).hi := by
 unfold srcT
 by_cases c : i.b = 8
 ·rw [if_pos c]; exact ⟨u64_in _, u64_in _⟩
 ·rw [if_neg c]
  have hr : i.b.toNat < s.length := by omega
  unfold regT
  rw [List.getD_eq_getElem?_getD, List.getElem?_eq_getElem hr]
  exact hw _ (List.getElem_mem hr)
theorem reg_ends {s : St} (hw : ∀ t ∈ s, W64 t.lo /\ W64 t.hi) (h8 : s.length = 8) {r : Nat} (hr : r < 8) : W64 (s.getD r Ty.nil).lo /\ W64 (s.getD r Ty.nil).hi := by
 have hr' : r < s.length := by omega
 rw [List.getD_eq_getElem?_getD, List.getElem?_eq_getElem hr']
 exact hw _ (List.getElem_mem hr')
theorem below_dr' {B : Nat} {w Z : World} (h : Below B w Z) : Below B w Z.drew := ⟨h.os, h.tape, h.output, h.size, h.block⟩
theorem field_span (tk tl th tm : Int) : ∀ w : World, (Instr.field 46 (.agg #[.int .i64 tk, .int .u64 tl, .int .u64 th, .int .i64 tm]) 1).run Tryz.prog w = .ok (.agg #[.int .u64 tl, .int .u64 th]) w := fun w => rfl
theorem SeesT.at8 {w : World} {sb so scap : Nat} {s : St} (h : SeesT w (.slice (some ⟨sb, so, none⟩) 8 scap) s) (h8 : s.length = 8) {r : Nat} (hr : r < 8) : AtT w sb (so + r * 4) (s.getD r Ty.nil) /\ sb < w.heap.size /\ 8 <= scap /\ scap <= 9223372036854775807 := by
 obtain ⟨a, cap, e, h1, h2, _, h4⟩ := h
 obtain ⟨b, off, rfl, hb, hat⟩ := h4 (fun e => by rw [e] at h8; simp at h8)
 injection e with e1 e2 e3
 injection e1 with e1
 injection e1 with e4 e5
 subst e4 e5 e3
 unfold maxLen at h2
 exact ⟨hat r (by omega), hb, by omega, by omega⟩
set_option maxHeartbeats 3200000 in
theorem leaves_three (vm : Value) (cb co N ccap p : Nat) (op d a b imm : Int) (sb so scap : Nat) (s : St) (holds : Bool) (w : World) (hcb : cb < w.heap.size) (hAi : At w cb (co + p * 5) ⟨op, d, a, b, imm⟩) (hpN : p < N) (hN : N <= ccap) (hcc : ccap <= 9223372036854775807)
    (hs : SeesT w (.slice (some ⟨sb, so, none⟩) 8 scap) s) (h8 : s.length = 8) (hop : 1 <= op /\ op <= 10) (hd : 0 <= d /\ d <= 7) (ha : 0 <= a /\ a <= 7) (hb : b = 8 ∨ (0 <= b /\ b <= 7)) (hw : ∀ t ∈ s, W64 t.lo /\ W64 t.hi) :
    Calls Tryz.prog 65 #[.agg #[vm, .slice (some ⟨cb, co, none⟩) N ccap], .int .i64 p, .slice (some ⟨sb, so, none⟩) 8 scap, .bool holds] w fun e w' => ∃ u, e = .returned (.tuple #[u, .bool true]) /\ w'.ownsRow w.heap.size 46 4 u 8 (flatT (s.set d.toNat (doT op (regT s a) (srcT ⟨op, d, a, b, imm⟩ s)))) /\ Below w.heap.size w w' := by
  obtain ⟨dn, rfl⟩ := Int.eq_ofNat_of_zero_le hd.1
  have hd7 : dn < 8 := by omega
  have hdI : (dn : Int) < 8 := by omega
  have hdJ : (0 : Int) <= dn := by omega
  obtain ⟨an, rfl⟩ := Int.eq_ofNat_of_zero_le ha.1
  have ha7 : an < 8 := by omega
  have haI : (an : Int) < 8 := by omega
  have haJ : (0 : Int) <= an := by omega
  obtain ⟨i0, hi, hz0, hz1, hz2⟩ := qBi
  obtain ⟨m0, m1, m2, m3, m4⟩ := hAi
  simp only at m0 m1 m2 m3 m4
  obtain ⟨Z, HZ, hBoxZ, hBZ, hzZ⟩ : ∃ Z, Hid (Z = (w.alloc (.cells #[vm, .slice (some ⟨cb, co, none⟩) N ccap] 25)).alloc (instO op dn an b imm)) /\ Box Z (w.heap.size + 1) op dn an b imm /\ Below w.heap.size w Z /\ Z.heap.size = w.heap.size + 2 :=
    ⟨_, rfl, ⟨by go_cell, by go_cell, by go_cell, by go_cell, by go_cell⟩, by go_grown, by simp⟩
  have HSZ : Hid (SeesT Z (.slice (some ⟨sb, so, none⟩) 8 scap) s) := hs.below hBZ
  have hBs : s ≠ [] := fun e => by rw [e] at h8; simp at h8
  clear hs
  obtain ⟨tk, tl, th, tm, HT⟩ : ∃ k lo hi m, Hid (srcT ⟨op, dn, an, b, imm⟩ s = ⟨k, lo, hi, m⟩) := ⟨_, _, _, _, rfl⟩
  obtain ⟨ak, al, ah, am, HA⟩ : ∃ k lo hi m, Hid (s.getD an Ty.nil = ⟨k, lo, hi, m⟩) := ⟨_, _, _, _, rfl⟩
  have HRA : Hid (regT s (an : Int) = ⟨ak, al, ah, am⟩) := HA.out
  have we := src_ends (i := ⟨op, dn, an, b, imm⟩) hw h8 hb
  rw [HT.out] at we
  have wa := reg_ends hw h8 ha7
  rw [HA.out] at wa
  have HWE : Hid ((W64 tl /\ W64 th) /\ (W64 al /\ W64 ah)) := ⟨we, wa⟩
  rw [HT.out, HRA.out]
  obtain ⟨jl, jh, HJ⟩ : ∃ x y, Hid ((doR op al ah tl th).getD (0, 0) = (x, y)) := ⟨_, _, rfl⟩
  obtain ⟨jb, HJB⟩ : ∃ x, Hid ((doR op al ah tl th).isSome = x) := ⟨_, rfl⟩
  have HE : Hid (doT op ⟨ak, al, ah, am⟩ ⟨tk, tl, th, tm⟩ = ⟨1, jl, jh, 0⟩) := by show _ = _; unfold doT; rw [HJ.out]; rfl
  rw [HE.out]
  have hTh : Hid (threeB op = true) := by show _ = _; unfold threeB; simp; omega
  have ho0 : (op == 0) = false := by simp; omega
  clear hw we wa
  go_enter Tryz.func65, Tryz.ntmps65
  go_wp2_with (first
    | (at_builtin; rw [<- HZ.out]; go_must (refine qAt rfl (.tmp 26) (.tmp 27) 57 rfl Z.heap.size 46 i0 (tyV Ty.nil) Tryz.underlying57 hi hz0 hz1 hz2 rfl _ [] rfl (qCk Z Z.heap.size (w.heap.size + 1 + 1) (Nat.le_refl _) (by omega)) _ s rfl (HSZ.out.below ((Below.refl _ _).alloc (Nat.le_refl _) _)) (by rw [h8]; unfold maxLen; simp) (by rw [h8]; simp) (by simp) ?_); intro v3 w3 hown3 hg3; go_must (have hb3 : Below Z.heap.size Z w3 := ((Below.refl _ _).alloc (Nat.le_refl _) _).grown hg3 (by simp) (fun j hj => by (have hj' : w.heap.size + 1 + 1 = j := Option.some.inj hj); omega); rw [List.nil_append, h8] at hown3; obtain ⟨g, c3, rfl, hg0, hc3, hm3⟩ := qBp hown3; have hS3 := Box.below hBoxZ hb3 (by omega); obtain ⟨x0, x1, x2, x3, x4⟩ := id hS3; have HS3 : Hid (SeesT w3 (.slice (some ⟨sb, so, none⟩) 8 scap) s) := HSZ.out.below hb3; have hz3 := hb3.size; clear hg3))
    | (go_at_call 62; go_must (refine (qAh _ _).mono ?_); rintro e w' ⟨rfl, rfl⟩; rw [hTh.out]))
  obtain ⟨hAt, hsb, hsc, hsm⟩ := HS3.out.at8 h8 ha7
  rw [HA.out] at hAt
  have hP3 : (Box w3 (w.heap.size + 1) op dn an b imm /\ w3.cell? ⟨sb, so + an * 4 + 1, none⟩ = some (.int .u64 al) /\ w3.cell? ⟨sb, so + an * 4 + 2, none⟩ = some (.int .u64 ah)) := ⟨hS3, hAt.2.1, hAt.2.2.1⟩
  have HK : Hid (∀ w' : World, Below w3.heap.size w3 w' -> (Box w' (w.heap.size + 1) op dn an b imm /\ w'.cell? ⟨sb, so + an * 4 + 1, none⟩ = some (.int .u64 al) /\ w'.cell? ⟨sb, so + an * 4 + 2, none⟩ = some (.int .u64 ah))) := fun w' hbx => ⟨Box.below hS3 hbx (by omega), (hbx.cell (p := ⟨sb, so + an * 4 + 1, none⟩) hsb).trans hAt.2.1, (hbx.cell (p := ⟨sb, so + an * 4 + 2, none⟩) hsb).trans hAt.2.2.1⟩
  have hfld := field_span tk tl th tm
  clear hAt
  go_region_held3 (fun w' => (w'.cell? ⟨w.heap.size + 1, 0, none⟩ = some (.int .i64 op) /\ w'.cell? ⟨w.heap.size + 1, 1, none⟩ = some (.int .i64 dn) /\ w'.cell? ⟨w.heap.size + 1, 2, none⟩ = some (.int .i64 an) /\ w'.cell? ⟨w.heap.size + 1, 3, none⟩ = some (.int .i64 b) /\ w'.cell? ⟨w.heap.size + 1, 4, none⟩ = some (.int .i64 imm)) /\ w'.cell? ⟨sb, so + an * 4 + 1, none⟩ = some (.int .u64 al) /\ w'.cell? ⟨sb, so + an * 4 + 2, none⟩ = some (.int .u64 ah))
    (first
      | (with_reducible exact hP5)
      | (with_reducible exact hP4)
      | (with_reducible refine HK.out _ ?_; exact qAa (qAa hB5 (Nat.le_refl _)) (Nat.le_refl _))
      | (with_reducible refine HK.out _ ?_; exact qAa hB5 (Nat.le_refl _))
      | (with_reducible refine HK.out _ ?_; exact qAa (qAa hB5 hz4) hz4)
      | (with_reducible refine HK.out _ ?_; exact qAa hB5 hz4)
      | (with_reducible refine HK.out _ ?_; exact qAa (qAa (hB5.alloc hz5 _) hz5) hz5)
      | (with_reducible refine HK.out _ ?_; exact qAa (hB5.alloc hz5 _) hz5)
      | (with_reducible refine HK.out _ ?_; exact hB5.alloc hz5 _)
      | (with_reducible refine HK.out _ ?_; exact hb4.alloc hz4 _)
      | (with_reducible refine HK.out _ ?_; exact below_dr' ((Below.refl _ _).alloc (Nat.le_refl _) _))
      | exact hP3)
    (first
      | (go_at_call 37; refine (qBb (i := ⟨op, dn, an, b, imm⟩) (w := w3.drew) (HS3.out) h8 hb HT).mono ?_; rintro e w4 ⟨rfl, hb4'⟩; (have hb4 : Below w3.heap.size w3 w4 := qAf hb4'); have hP4 := HK.out _ hb4; have hz4 := hb4.size; clear hb4')
      | (go_at_call 37; refine (qBb (i := ⟨op, dn, an, b, imm⟩) (w := (w3.alloc (spO 0 0)).drew) (HS3.out.below (below_dr' ((Below.refl _ _).alloc (Nat.le_refl _) _))) h8 hb HT).mono ?_; rintro e w4 ⟨rfl, hb40⟩; (have hb4' := qAf hb40); (have hN4 : Bx w4 w3.heap.size 0 0 := Bx.below (w := w3.alloc (spO 0 0)) (B := (w3.alloc (spO 0 0)).heap.size) ⟨⟨by go_cell, by go_cell⟩, by go_simp, by go_simp⟩ hb4' (by simp)); (have hb4 : Below w3.heap.size w3 w4 := ((Below.refl w3.heap.size w3).alloc (Nat.le_refl _) _).trans (Below.mono (B := (w3.alloc (spO 0 0)).heap.size) hb4' (by simp))); have hP4 := HK.out _ hb4; have hz4 := hb4.size; (have hz4' : w3.heap.size < w4.heap.size := by (have := hb4'.size); simp at this; omega); clear hb4' hb40)
      | (go_at_call 87; (have hq := hN4; clear hq); refine (sdo_as HWE.out.2.1 HWE.out.2.2 HWE.out.1.1 HWE.out.1.2 HJ HJB _).mono ?_; rintro e w5 ⟨rfl, hb5'⟩; (have hN5 := Bx.below hN4 hb5' hz4'); (have hB5 : Below w3.heap.size w3 w5 := hb4.trans (hb5'.mono hz4)); obtain ⟨⟨n0, n1⟩, n2, n3⟩ := id hN5; have hP5 := HK.out _ hB5; have hz5 := hB5.size; (have hz5' : w3.heap.size < w5.heap.size := by (have := hb5'.size); omega); clear hb5')
      | (go_at_call 87; refine (sdo_as HWE.out.2.1 HWE.out.2.2 HWE.out.1.1 HWE.out.1.2 HJ HJB _).mono (w := w4.alloc (spO 0 0)) ?_; rintro e w5 ⟨rfl, hb5'⟩; (have hN5 : Bx w5 w4.heap.size 0 0 := Bx.below (w := w4.alloc (spO 0 0)) ⟨⟨by go_cell, by go_cell⟩, by go_simp, by go_simp⟩ hb5' (by simp)); (have hB5 : Below w3.heap.size w3 w5 := (hb4.alloc hz4 _).trans (hb5'.mono (by simp; omega))); obtain ⟨⟨n0, n1⟩, n2, n3⟩ := id hN5; have hP5 := HK.out _ hB5; have hz5 := hB5.size; (have hz5' : w4.heap.size < w5.heap.size := by (have := hb5'.size); simp at this; omega); clear hb5')
      | (go_at_call 87; refine (sdo_as HWE.out.2.1 HWE.out.2.2 HWE.out.1.1 HWE.out.1.2 HJ HJB _).mono ?_; rintro e w5 ⟨rfl, hb5'⟩; (have hB5 : Below w3.heap.size w3 w5 := hb4.trans (hb5'.mono hz4)); have hP5 := HK.out _ hB5; have hz5 := hB5.size; clear hb5'))
  all_goals first
    | (obtain ⟨Y, HY, hYc, hBY, hzY⟩ : ∃ Y, Hid (Y = (w5.setCell ⟨w3.heap.size, 0, none⟩ (.int .u64 jl)).setCell ⟨w3.heap.size, 1, none⟩ (.int .u64 jh)) /\ (Y.cell? ⟨w3.heap.size, 0, none⟩ = some (.int .u64 jl) /\ Y.cell? ⟨w3.heap.size, 1, none⟩ = some (.int .u64 jh)) /\ Below w3.heap.size w3 Y /\ (w3.heap.size <= w3.heap.size /\ w3.heap.size < Y.heap.size) := ⟨_, rfl, qAk n0 n1, qAa (qAa hB5 (by omega)) (by omega), by omega, by first | omega | (simp; done) | (simp; omega) | (simp [World.setCell]; omega)⟩
       rw [<- HY.out]
       go_wp2
       have hPY := (HK.out _ hBY).1
       have hzY3 := hBY.size
       have hSY : Y.cell? ⟨w.heap.size + 1, 1, none⟩ = some (.int .i64 dn) /\ Y.cell? ⟨w3.heap.size, 0, none⟩ = some (.int .u64 jl) /\ Y.cell? ⟨w3.heap.size, 1, none⟩ = some (.int .u64 jh) := ⟨hPY.2.1, hYc⟩
       go_region_held3 (fun w' => w'.cell? ⟨w.heap.size + 1, 1, none⟩ = some (.int .i64 dn) /\ w'.cell? ⟨w3.heap.size, 0, none⟩ = some (.int .u64 jl) /\ w'.cell? ⟨w3.heap.size, 1, none⟩ = some (.int .u64 jh))
         (first | with_reducible exact hS6 | with_reducible exact HKeep.out w6 hS6 | exact hSY)
         (first
           | (go_at_call 67; refine (jnum_any jl jh Y.drew).mono ?_; rintro e w6 ⟨rfl, hb6'⟩; (have hb6 : Below Y.heap.size Y w6 := qAf hb6'); (have hb36 : Below w3.heap.size w3 w6 := hBY.trans (hb6.mono hzY3)); (have hS6 : w6.cell? ⟨w.heap.size + 1, 1, none⟩ = some (.int .i64 dn) /\ w6.cell? ⟨w3.heap.size, 0, none⟩ = some (.int .u64 jl) /\ w6.cell? ⟨w3.heap.size, 1, none⟩ = some (.int .u64 jh) := ⟨(hb6.cell (p := ⟨w.heap.size + 1, 1, none⟩) (show w.heap.size + 1 < Y.heap.size by omega)).trans hSY.1, (hb6.cell (p := ⟨w3.heap.size, 0, none⟩) hzY.2).trans hSY.2.1, (hb6.cell (p := ⟨w3.heap.size, 1, none⟩) hzY.2).trans hSY.2.2⟩); have hown6 := qAz hown3 hb36 (Nat.le_refl _); obtain ⟨y0, y1, y2, y3, q0, q1, q2, q3⟩ := qBu hown6 hd7; have f0 := hown6.frozenAt (dn * 4); have f1 := hown6.frozenAt (dn * 4 + 1); have f2 := hown6.frozenAt (dn * 4 + 2); have f3 := hown6.frozenAt (dn * 4 + 3); (have HOF : Hid ((setT w6 g (dn * 4) ⟨1, jl, jh, 0⟩).ownsRow Z.heap.size 46 4 (.slice (some ⟨g, 0, none⟩) 8 c3) 8 (flatT (s.set dn ⟨1, jl, jh, 0⟩))) := (qCc hown6 dn (by rw [h8]; exact hd7) ⟨1, jl, jh, 0⟩).1); (have hBF : Hid (Below Z.heap.size Z (setT w6 g (dn * 4) ⟨1, jl, jh, 0⟩)) := qAn (hb3.trans (hb36.mono hz3)) hg0.1); (have HKeep : Hid (∀ wx : World, (wx.cell? ⟨w.heap.size + 1, 1, none⟩ = some (.int .i64 dn) /\ wx.cell? ⟨w3.heap.size, 0, none⟩ = some (.int .u64 jl) /\ wx.cell? ⟨w3.heap.size, 1, none⟩ = some (.int .u64 jh)) -> ((setT wx g (dn * 4) ⟨1, jl, jh, 0⟩).cell? ⟨w.heap.size + 1, 1, none⟩ = some (.int .i64 dn) /\ (setT wx g (dn * 4) ⟨1, jl, jh, 0⟩).cell? ⟨w3.heap.size, 0, none⟩ = some (.int .u64 jl) /\ (setT wx g (dn * 4) ⟨1, jl, jh, 0⟩).cell? ⟨w3.heap.size, 1, none⟩ = some (.int .u64 jh))) := fun wx hh => ⟨(qAr (by omega)).trans hh.1, (qAr (by omega)).trans hh.2.1, (qAr (by omega)).trans hh.2.2⟩); clear hb6' hown6))
       go_wp2
       go_ret2
       exact ⟨_, rfl, qAu HOF.out (by omega), hBZ.trans (hBF.out.mono (by omega))⟩)
    | (obtain ⟨Y, HY, hYc, hBY, hzY⟩ : ∃ Y, Hid (Y = (w5.setCell ⟨w4.heap.size, 0, none⟩ (.int .u64 jl)).setCell ⟨w4.heap.size, 1, none⟩ (.int .u64 jh)) /\ (Y.cell? ⟨w4.heap.size, 0, none⟩ = some (.int .u64 jl) /\ Y.cell? ⟨w4.heap.size, 1, none⟩ = some (.int .u64 jh)) /\ Below w3.heap.size w3 Y /\ (w3.heap.size <= w4.heap.size /\ w4.heap.size < Y.heap.size) := ⟨_, rfl, qAk n0 n1, qAa (qAa hB5 (by omega)) (by omega), by omega, by first | omega | (simp; done) | (simp; omega) | (simp [World.setCell]; omega)⟩
       rw [<- HY.out]
       go_wp2
       have hPY := (HK.out _ hBY).1
       have hzY3 := hBY.size
       have hSY : Y.cell? ⟨w.heap.size + 1, 1, none⟩ = some (.int .i64 dn) /\ Y.cell? ⟨w4.heap.size, 0, none⟩ = some (.int .u64 jl) /\ Y.cell? ⟨w4.heap.size, 1, none⟩ = some (.int .u64 jh) := ⟨hPY.2.1, hYc⟩
       go_region_held3 (fun w' => w'.cell? ⟨w.heap.size + 1, 1, none⟩ = some (.int .i64 dn) /\ w'.cell? ⟨w4.heap.size, 0, none⟩ = some (.int .u64 jl) /\ w'.cell? ⟨w4.heap.size, 1, none⟩ = some (.int .u64 jh))
         (first | with_reducible exact hS6 | with_reducible exact HKeep.out w6 hS6 | exact hSY)
         (first
           | (go_at_call 67; refine (jnum_any jl jh Y.drew).mono ?_; rintro e w6 ⟨rfl, hb6'⟩; (have hb6 : Below Y.heap.size Y w6 := qAf hb6'); (have hb36 : Below w3.heap.size w3 w6 := hBY.trans (hb6.mono hzY3)); (have hS6 : w6.cell? ⟨w.heap.size + 1, 1, none⟩ = some (.int .i64 dn) /\ w6.cell? ⟨w4.heap.size, 0, none⟩ = some (.int .u64 jl) /\ w6.cell? ⟨w4.heap.size, 1, none⟩ = some (.int .u64 jh) := ⟨(hb6.cell (p := ⟨w.heap.size + 1, 1, none⟩) (show w.heap.size + 1 < Y.heap.size by omega)).trans hSY.1, (hb6.cell (p := ⟨w4.heap.size, 0, none⟩) hzY.2).trans hSY.2.1, (hb6.cell (p := ⟨w4.heap.size, 1, none⟩) hzY.2).trans hSY.2.2⟩); have hown6 := qAz hown3 hb36 (Nat.le_refl _); obtain ⟨y0, y1, y2, y3, q0, q1, q2, q3⟩ := qBu hown6 hd7; have f0 := hown6.frozenAt (dn * 4); have f1 := hown6.frozenAt (dn * 4 + 1); have f2 := hown6.frozenAt (dn * 4 + 2); have f3 := hown6.frozenAt (dn * 4 + 3); (have HOF : Hid ((setT w6 g (dn * 4) ⟨1, jl, jh, 0⟩).ownsRow Z.heap.size 46 4 (.slice (some ⟨g, 0, none⟩) 8 c3) 8 (flatT (s.set dn ⟨1, jl, jh, 0⟩))) := (qCc hown6 dn (by rw [h8]; exact hd7) ⟨1, jl, jh, 0⟩).1); (have hBF : Hid (Below Z.heap.size Z (setT w6 g (dn * 4) ⟨1, jl, jh, 0⟩)) := qAn (hb3.trans (hb36.mono hz3)) hg0.1); (have HKeep : Hid (∀ wx : World, (wx.cell? ⟨w.heap.size + 1, 1, none⟩ = some (.int .i64 dn) /\ wx.cell? ⟨w4.heap.size, 0, none⟩ = some (.int .u64 jl) /\ wx.cell? ⟨w4.heap.size, 1, none⟩ = some (.int .u64 jh)) -> ((setT wx g (dn * 4) ⟨1, jl, jh, 0⟩).cell? ⟨w.heap.size + 1, 1, none⟩ = some (.int .i64 dn) /\ (setT wx g (dn * 4) ⟨1, jl, jh, 0⟩).cell? ⟨w4.heap.size, 0, none⟩ = some (.int .u64 jl) /\ (setT wx g (dn * 4) ⟨1, jl, jh, 0⟩).cell? ⟨w4.heap.size, 1, none⟩ = some (.int .u64 jh))) := fun wx hh => ⟨(qAr (by omega)).trans hh.1, (qAr (by omega)).trans hh.2.1, (qAr (by omega)).trans hh.2.2⟩); clear hb6' hown6))
       go_wp2
       go_ret2
       exact ⟨_, rfl, qAu HOF.out (by omega), hBZ.trans (hBF.out.mono (by omega))⟩)
    | (obtain ⟨Y, HY, hYc, hBY, hzY⟩ : ∃ Y, Hid (Y = w5.alloc (spO jl jh)) /\ (Y.cell? ⟨w5.heap.size, 0, none⟩ = some (.int .u64 jl) /\ Y.cell? ⟨w5.heap.size, 1, none⟩ = some (.int .u64 jh)) /\ Below w3.heap.size w3 Y /\ (w3.heap.size <= w5.heap.size /\ w5.heap.size < Y.heap.size) := ⟨_, rfl, ⟨by go_cell, by go_cell⟩, hB5.alloc hz5 _, by omega, by first | omega | (simp; done) | (simp; omega) | (simp [World.setCell]; omega)⟩
       rw [<- HY.out]
       go_wp2
       have hPY := (HK.out _ hBY).1
       have hzY3 := hBY.size
       have hSY : Y.cell? ⟨w.heap.size + 1, 1, none⟩ = some (.int .i64 dn) /\ Y.cell? ⟨w5.heap.size, 0, none⟩ = some (.int .u64 jl) /\ Y.cell? ⟨w5.heap.size, 1, none⟩ = some (.int .u64 jh) := ⟨hPY.2.1, hYc⟩
       go_region_held3 (fun w' => w'.cell? ⟨w.heap.size + 1, 1, none⟩ = some (.int .i64 dn) /\ w'.cell? ⟨w5.heap.size, 0, none⟩ = some (.int .u64 jl) /\ w'.cell? ⟨w5.heap.size, 1, none⟩ = some (.int .u64 jh))
         (first | with_reducible exact hS6 | with_reducible exact HKeep.out w6 hS6 | exact hSY)
         (first
           | (go_at_call 67; refine (jnum_any jl jh Y.drew).mono ?_; rintro e w6 ⟨rfl, hb6'⟩; (have hb6 : Below Y.heap.size Y w6 := qAf hb6'); (have hb36 : Below w3.heap.size w3 w6 := hBY.trans (hb6.mono hzY3)); (have hS6 : w6.cell? ⟨w.heap.size + 1, 1, none⟩ = some (.int .i64 dn) /\ w6.cell? ⟨w5.heap.size, 0, none⟩ = some (.int .u64 jl) /\ w6.cell? ⟨w5.heap.size, 1, none⟩ = some (.int .u64 jh) := ⟨(hb6.cell (p := ⟨w.heap.size + 1, 1, none⟩) (show w.heap.size + 1 < Y.heap.size by omega)).trans hSY.1, (hb6.cell (p := ⟨w5.heap.size, 0, none⟩) hzY.2).trans hSY.2.1, (hb6.cell (p := ⟨w5.heap.size, 1, none⟩) hzY.2).trans hSY.2.2⟩); have hown6 := qAz hown3 hb36 (Nat.le_refl _); obtain ⟨y0, y1, y2, y3, q0, q1, q2, q3⟩ := qBu hown6 hd7; have f0 := hown6.frozenAt (dn * 4); have f1 := hown6.frozenAt (dn * 4 + 1); have f2 := hown6.frozenAt (dn * 4 + 2); have f3 := hown6.frozenAt (dn * 4 + 3); (have HOF : Hid ((setT w6 g (dn * 4) ⟨1, jl, jh, 0⟩).ownsRow Z.heap.size 46 4 (.slice (some ⟨g, 0, none⟩) 8 c3) 8 (flatT (s.set dn ⟨1, jl, jh, 0⟩))) := (qCc hown6 dn (by rw [h8]; exact hd7) ⟨1, jl, jh, 0⟩).1); (have hBF : Hid (Below Z.heap.size Z (setT w6 g (dn * 4) ⟨1, jl, jh, 0⟩)) := qAn (hb3.trans (hb36.mono hz3)) hg0.1); (have HKeep : Hid (∀ wx : World, (wx.cell? ⟨w.heap.size + 1, 1, none⟩ = some (.int .i64 dn) /\ wx.cell? ⟨w5.heap.size, 0, none⟩ = some (.int .u64 jl) /\ wx.cell? ⟨w5.heap.size, 1, none⟩ = some (.int .u64 jh)) -> ((setT wx g (dn * 4) ⟨1, jl, jh, 0⟩).cell? ⟨w.heap.size + 1, 1, none⟩ = some (.int .i64 dn) /\ (setT wx g (dn * 4) ⟨1, jl, jh, 0⟩).cell? ⟨w5.heap.size, 0, none⟩ = some (.int .u64 jl) /\ (setT wx g (dn * 4) ⟨1, jl, jh, 0⟩).cell? ⟨w5.heap.size, 1, none⟩ = some (.int .u64 jh))) := fun wx hh => ⟨(qAr (by omega)).trans hh.1, (qAr (by omega)).trans hh.2.1, (qAr (by omega)).trans hh.2.2⟩); clear hb6' hown6))
       go_wp2
       go_ret2
       exact ⟨_, rfl, qAu HOF.out (by omega), hBZ.trans (hBF.out.mono (by omega))⟩)
theorem sref_as {op a A b B : Int} {h : Bool} (ha : W64 a) (hA : W64 A) (hb : W64 b) (hB : W64 B) {lo hi : Int} {ok : Bool} (h1 : Hid ((refineR op a A b B h).getD (0, 0) = (lo, hi))) (h2 : Hid ((refineR op a A b B h).isSome = ok)) (w : World) :
  Calls Tryz.prog 89 #[.int .i64 op, .agg #[.int .u64 a, .int .u64 A], .agg #[.int .u64 b, .int .u64 B], .bool h] w fun e w' => e = .returned (.tuple #[.agg #[.int .u64 lo, .int .u64 hi], .bool ok]) /\ Below w.heap.size w w' := by
 have := srefine_any op a A b B h w ha hA hb hB
 rw [optV_getD, h1.out, h2.out] at this
 exact this
set_option maxHeartbeats 3200000 in
theorem leaves_jump_no (vm : Value) (cb co N ccap p : Nat) (op d a b imm : Int) (sb so scap : Nat) (s : St) (holds : Bool) (w : World) (hcb : cb < w.heap.size) (hAi : At w cb (co + p * 5) ⟨op, d, a, b, imm⟩) (hpN : p < N) (hN : N <= ccap) (hcc : ccap <= 9223372036854775807)
    (hs : SeesT w (.slice (some ⟨sb, so, none⟩) 8 scap) s) (h8 : s.length = 8) (hop : 16 <= op /\ op <= 19) (ha : 0 <= a /\ a <= 7) (hb : b = 8 ∨ (0 <= b /\ b <= 7)) (hw : ∀ t ∈ s, W64 t.lo /\ W64 t.hi) (hq : Hid (refineR op (regT s a).lo (regT s a).hi (srcT ⟨op, d, a, b, imm⟩ s).lo (srcT ⟨op, d, a, b, imm⟩ s).hi holds = none)) :
    Calls Tryz.prog 65 #[.agg #[vm, .slice (some ⟨cb, co, none⟩) N ccap], .int .i64 p, .slice (some ⟨sb, so, none⟩) 8 scap, .bool holds] w fun e w' => e = .returned (.tuple #[.slice none 0 0, .bool false]) /\ Below w.heap.size w w' := by
  obtain ⟨an, rfl⟩ := Int.eq_ofNat_of_zero_le ha.1
  have ha7 : an < 8 := by omega
  have haI : (an : Int) < 8 := by omega
  have haJ : (0 : Int) <= an := by omega
  obtain ⟨i0, hi, hz0, hz1, hz2⟩ := qBi
  obtain ⟨m0, m1, m2, m3, m4⟩ := hAi
  simp only at m0 m1 m2 m3 m4
  obtain ⟨Z, HZ, hBoxZ, hBZ, hzZ⟩ : ∃ Z, Hid (Z = (w.alloc (.cells #[vm, .slice (some ⟨cb, co, none⟩) N ccap] 25)).alloc (instO op d an b imm)) /\ Box Z (w.heap.size + 1) op d an b imm /\ Below w.heap.size w Z /\ Z.heap.size = w.heap.size + 2 :=
    ⟨_, rfl, ⟨by go_cell, by go_cell, by go_cell, by go_cell, by go_cell⟩, by go_grown, by simp⟩
  have HSZ : Hid (SeesT Z (.slice (some ⟨sb, so, none⟩) 8 scap) s) := hs.below hBZ
  have hBs : s ≠ [] := fun e => by rw [e] at h8; simp at h8
  clear hs
  obtain ⟨tk, tl, th, tm, HT⟩ : ∃ k lo hi m, Hid (srcT ⟨op, d, an, b, imm⟩ s = ⟨k, lo, hi, m⟩) := ⟨_, _, _, _, rfl⟩
  obtain ⟨ak, al, ah, am, HA⟩ : ∃ k lo hi m, Hid (s.getD an Ty.nil = ⟨k, lo, hi, m⟩) := ⟨_, _, _, _, rfl⟩
  have HRA : Hid (regT s (an : Int) = ⟨ak, al, ah, am⟩) := HA.out
  have we := src_ends (i := ⟨op, d, an, b, imm⟩) hw h8 hb
  rw [HT.out] at we
  have wa := reg_ends hw h8 ha7
  rw [HA.out] at wa
  have HWE : Hid ((W64 tl /\ W64 th) /\ (W64 al /\ W64 ah)) := ⟨we, wa⟩
  have hq' := hq.out
  rw [HT.out, HRA.out] at hq'
  simp only at hq'
  have HJ : Hid ((refineR op al ah tl th holds).getD (0, 0) = (0, 0)) := by show _ = _; rw [hq']; rfl
  have HJB : Hid ((refineR op al ah tl th holds).isSome = false) := by show _ = _; rw [hq']; rfl
  have hTh : Hid (threeB op = false) := by show _ = _; unfold threeB; simp; omega
  have hJu : Hid (jumpB op = true) := by show _ = _; unfold jumpB; simp; omega
  have ho0 : (op == 0) = false := by simp; omega
  have ho1 : (op == 11) = false := by simp; omega
  have ho2 : (op == 13) = false := by simp; omega
  have ho3 : (op == 14) = false := by simp; omega
  have ho4 : (op == 21) = false := by simp; omega
  clear hw we wa hq hq'
  go_enter Tryz.func65, Tryz.ntmps65
  go_wp2_with (first
    | (at_builtin; rw [<- HZ.out]; go_must (refine qAt rfl (.tmp 26) (.tmp 27) 57 rfl Z.heap.size 46 i0 (tyV Ty.nil) Tryz.underlying57 hi hz0 hz1 hz2 rfl _ [] rfl (qCk Z Z.heap.size (w.heap.size + 1 + 1) (Nat.le_refl _) (by omega)) _ s rfl (HSZ.out.below ((Below.refl _ _).alloc (Nat.le_refl _) _)) (by rw [h8]; unfold maxLen; simp) (by rw [h8]; simp) (by simp) ?_); intro v3 w3 hown3 hg3; go_must (have hb3 : Below Z.heap.size Z w3 := ((Below.refl _ _).alloc (Nat.le_refl _) _).grown hg3 (by simp) (fun j hj => by (have hj' : w.heap.size + 1 + 1 = j := Option.some.inj hj); omega); rw [List.nil_append, h8] at hown3; obtain ⟨g, c3, rfl, hg0, hc3, hm3⟩ := qBp hown3; have hS3 := Box.below hBoxZ hb3 (by omega); obtain ⟨x0, x1, x2, x3, x4⟩ := id hS3; have HS3 : Hid (SeesT w3 (.slice (some ⟨sb, so, none⟩) 8 scap) s) := HSZ.out.below hb3; have hz3 := hb3.size; clear hg3))
    | (go_at_call 62; go_must (refine (qAh _ _).mono ?_); rintro e w' ⟨rfl, rfl⟩; rw [hTh.out])
    | (go_at_call 63; go_must (refine (qAi _ _).mono ?_); rintro e w' ⟨rfl, rfl⟩; rw [hJu.out]))
  obtain ⟨hAt, hsb, hsc, hsm⟩ := HS3.out.at8 h8 ha7
  rw [HA.out] at hAt
  have hP3 : (Box w3 (w.heap.size + 1) op d an b imm /\ w3.cell? ⟨sb, so + an * 4 + 1, none⟩ = some (.int .u64 al) /\ w3.cell? ⟨sb, so + an * 4 + 2, none⟩ = some (.int .u64 ah)) := ⟨hS3, hAt.2.1, hAt.2.2.1⟩
  have HK : Hid (∀ w' : World, Below w3.heap.size w3 w' -> (Box w' (w.heap.size + 1) op d an b imm /\ w'.cell? ⟨sb, so + an * 4 + 1, none⟩ = some (.int .u64 al) /\ w'.cell? ⟨sb, so + an * 4 + 2, none⟩ = some (.int .u64 ah))) := fun w' hbx => ⟨Box.below hS3 hbx (by omega), (hbx.cell (p := ⟨sb, so + an * 4 + 1, none⟩) hsb).trans hAt.2.1, (hbx.cell (p := ⟨sb, so + an * 4 + 2, none⟩) hsb).trans hAt.2.2.1⟩
  have hfld := field_span tk tl th tm
  clear hAt
  go_region_held3 (fun w' => (w'.cell? ⟨w.heap.size + 1, 0, none⟩ = some (.int .i64 op) /\ w'.cell? ⟨w.heap.size + 1, 1, none⟩ = some (.int .i64 d) /\ w'.cell? ⟨w.heap.size + 1, 2, none⟩ = some (.int .i64 an) /\ w'.cell? ⟨w.heap.size + 1, 3, none⟩ = some (.int .i64 b) /\ w'.cell? ⟨w.heap.size + 1, 4, none⟩ = some (.int .i64 imm)) /\ w'.cell? ⟨sb, so + an * 4 + 1, none⟩ = some (.int .u64 al) /\ w'.cell? ⟨sb, so + an * 4 + 2, none⟩ = some (.int .u64 ah))
    (first
      | (with_reducible exact hP5)
      | (with_reducible exact hP4)
      | (with_reducible refine HK.out _ ?_; exact qAa (qAa hB5 (Nat.le_refl _)) (Nat.le_refl _))
      | (with_reducible refine HK.out _ ?_; exact qAa hB5 (Nat.le_refl _))
      | (with_reducible refine HK.out _ ?_; exact qAa (qAa hB5 hz4) hz4)
      | (with_reducible refine HK.out _ ?_; exact qAa hB5 hz4)
      | (with_reducible refine HK.out _ ?_; exact qAa (qAa (hB5.alloc hz5 _) hz5) hz5)
      | (with_reducible refine HK.out _ ?_; exact qAa (hB5.alloc hz5 _) hz5)
      | (with_reducible refine HK.out _ ?_; exact hB5.alloc hz5 _)
      | (with_reducible refine HK.out _ ?_; exact hb4.alloc hz4 _)
      | (with_reducible refine HK.out _ ?_; exact below_dr' ((Below.refl _ _).alloc (Nat.le_refl _) _))
      | exact hP3)
    (first
      | (go_at_call 37; refine (qBb (i := ⟨op, d, an, b, imm⟩) (w := w3.drew) (HS3.out) h8 hb HT).mono ?_; rintro e w4 ⟨rfl, hb4'⟩; (have hb4 : Below w3.heap.size w3 w4 := qAf hb4'); have hP4 := HK.out _ hb4; have hz4 := hb4.size; clear hb4')
      | (go_at_call 37; refine (qBb (i := ⟨op, d, an, b, imm⟩) (w := (w3.alloc (spO 0 0)).drew) (HS3.out.below (below_dr' ((Below.refl _ _).alloc (Nat.le_refl _) _))) h8 hb HT).mono ?_; rintro e w4 ⟨rfl, hb40⟩; (have hb4' := qAf hb40); (have hN4 : Bx w4 w3.heap.size 0 0 := Bx.below (w := w3.alloc (spO 0 0)) (B := (w3.alloc (spO 0 0)).heap.size) ⟨⟨by go_cell, by go_cell⟩, by go_simp, by go_simp⟩ hb4' (by simp)); (have hb4 : Below w3.heap.size w3 w4 := ((Below.refl w3.heap.size w3).alloc (Nat.le_refl _) _).trans (Below.mono (B := (w3.alloc (spO 0 0)).heap.size) hb4' (by simp))); have hP4 := HK.out _ hb4; have hz4 := hb4.size; (have hz4' : w3.heap.size < w4.heap.size := by (have := hb4'.size); simp at this; omega); clear hb4' hb40)
      | (go_at_call 89; (have hq := hN4; clear hq); refine (sref_as HWE.out.2.1 HWE.out.2.2 HWE.out.1.1 HWE.out.1.2 HJ HJB _).mono ?_; rintro e w5 ⟨rfl, hb5'⟩; (have hN5 := Bx.below hN4 hb5' hz4'); (have hB5 : Below w3.heap.size w3 w5 := hb4.trans (hb5'.mono hz4)); obtain ⟨⟨n0, n1⟩, n2, n3⟩ := id hN5; have hP5 := HK.out _ hB5; have hz5 := hB5.size; (have hz5' : w3.heap.size < w5.heap.size := by (have := hb5'.size); omega); clear hb5')
      | (go_at_call 89; refine (sref_as HWE.out.2.1 HWE.out.2.2 HWE.out.1.1 HWE.out.1.2 HJ HJB _).mono (w := w4.alloc (spO 0 0)) ?_; rintro e w5 ⟨rfl, hb5'⟩; (have hN5 : Bx w5 w4.heap.size 0 0 := Bx.below (w := w4.alloc (spO 0 0)) ⟨⟨by go_cell, by go_cell⟩, by go_simp, by go_simp⟩ hb5' (by simp)); (have hB5 : Below w3.heap.size w3 w5 := (hb4.alloc hz4 _).trans (hb5'.mono (by simp; omega))); obtain ⟨⟨n0, n1⟩, n2, n3⟩ := id hN5; have hP5 := HK.out _ hB5; have hz5 := hB5.size; (have hz5' : w4.heap.size < w5.heap.size := by (have := hb5'.size); simp at this; omega); clear hb5')
      | (go_at_call 89; refine (sref_as HWE.out.2.1 HWE.out.2.2 HWE.out.1.1 HWE.out.1.2 HJ HJB _).mono ?_; rintro e w5 ⟨rfl, hb5'⟩; (have hB5 : Below w3.heap.size w3 w5 := hb4.trans (hb5'.mono hz4)); have hP5 := HK.out _ hB5; have hz5 := hB5.size; clear hb5'))
  all_goals first
    | (go_wp2
       go_ret2
       exact ⟨rfl, hBZ.trans ((hb3.trans (Below.mono (B := w3.heap.size) (qAa (qAa hB5 (by omega)) (by omega)) hz3)).mono (by omega))⟩)
    | (go_wp2
       go_ret2
       exact ⟨rfl, hBZ.trans ((hb3.trans (Below.mono (B := w3.heap.size) (qAa (qAa hB5 (by omega)) (by omega)) hz3)).mono (by omega))⟩)
    | (go_wp2
       go_ret2
       exact ⟨rfl, hBZ.trans ((hb3.trans (Below.mono (B := w3.heap.size) (hB5.alloc hz5 _) hz3)).mono (by omega))⟩)
set_option maxHeartbeats 3200000 in
theorem leaves_jump_yes (vm : Value) (cb co N ccap p : Nat) (op d a b imm : Int) (sb so scap : Nat) (s : St) (holds : Bool) (w : World) (hcb : cb < w.heap.size) (hAi : At w cb (co + p * 5) ⟨op, d, a, b, imm⟩) (hpN : p < N) (hN : N <= ccap) (hcc : ccap <= 9223372036854775807)
    (hs : SeesT w (.slice (some ⟨sb, so, none⟩) 8 scap) s) (h8 : s.length = 8) (hop : 16 <= op /\ op <= 19) (ha : 0 <= a /\ a <= 7) (hb : b = 8 ∨ (0 <= b /\ b <= 7)) (hw : ∀ t ∈ s, W64 t.lo /\ W64 t.hi) (jl jh : Int) (hq : Hid (refineR op (regT s a).lo (regT s a).hi (srcT ⟨op, d, a, b, imm⟩ s).lo (srcT ⟨op, d, a, b, imm⟩ s).hi holds = some (jl, jh))) :
    Calls Tryz.prog 65 #[.agg #[vm, .slice (some ⟨cb, co, none⟩) N ccap], .int .i64 p, .slice (some ⟨sb, so, none⟩) 8 scap, .bool holds] w fun e w' => ∃ u, e = .returned (.tuple #[u, .bool true]) /\ w'.ownsRow w.heap.size 46 4 u 8 (flatT (s.set a.toNat (num2 jl jh))) /\ Below w.heap.size w w' := by
  obtain ⟨an, rfl⟩ := Int.eq_ofNat_of_zero_le ha.1
  have ha7 : an < 8 := by omega
  have haI : (an : Int) < 8 := by omega
  have haJ : (0 : Int) <= an := by omega
  obtain ⟨i0, hi, hz0, hz1, hz2⟩ := qBi
  obtain ⟨m0, m1, m2, m3, m4⟩ := hAi
  simp only at m0 m1 m2 m3 m4
  obtain ⟨Z, HZ, hBoxZ, hBZ, hzZ⟩ : ∃ Z, Hid (Z = (w.alloc (.cells #[vm, .slice (some ⟨cb, co, none⟩) N ccap] 25)).alloc (instO op d an b imm)) /\ Box Z (w.heap.size + 1) op d an b imm /\ Below w.heap.size w Z /\ Z.heap.size = w.heap.size + 2 :=
    ⟨_, rfl, ⟨by go_cell, by go_cell, by go_cell, by go_cell, by go_cell⟩, by go_grown, by simp⟩
  have HSZ : Hid (SeesT Z (.slice (some ⟨sb, so, none⟩) 8 scap) s) := hs.below hBZ
  have hBs : s ≠ [] := fun e => by rw [e] at h8; simp at h8
  clear hs
  obtain ⟨tk, tl, th, tm, HT⟩ : ∃ k lo hi m, Hid (srcT ⟨op, d, an, b, imm⟩ s = ⟨k, lo, hi, m⟩) := ⟨_, _, _, _, rfl⟩
  obtain ⟨ak, al, ah, am, HA⟩ : ∃ k lo hi m, Hid (s.getD an Ty.nil = ⟨k, lo, hi, m⟩) := ⟨_, _, _, _, rfl⟩
  have HRA : Hid (regT s (an : Int) = ⟨ak, al, ah, am⟩) := HA.out
  have we := src_ends (i := ⟨op, d, an, b, imm⟩) hw h8 hb
  rw [HT.out] at we
  have wa := reg_ends hw h8 ha7
  rw [HA.out] at wa
  have HWE : Hid ((W64 tl /\ W64 th) /\ (W64 al /\ W64 ah)) := ⟨we, wa⟩
  have hq' := hq.out
  rw [HT.out, HRA.out] at hq'
  simp only at hq'
  have HJ : Hid ((refineR op al ah tl th holds).getD (0, 0) = (jl, jh)) := by show _ = _; rw [hq']; rfl
  have HJB : Hid ((refineR op al ah tl th holds).isSome = true) := by show _ = _; rw [hq']; rfl
  have HE : Hid (num2 jl jh = ⟨1, jl, jh, 0⟩) := show num2 jl jh = ⟨1, jl, jh, 0⟩ from rfl
  rw [HE.out]
  have hTh : Hid (threeB op = false) := by show _ = _; unfold threeB; simp; omega
  have hJu : Hid (jumpB op = true) := by show _ = _; unfold jumpB; simp; omega
  have ho0 : (op == 0) = false := by simp; omega
  have ho1 : (op == 11) = false := by simp; omega
  have ho2 : (op == 13) = false := by simp; omega
  have ho3 : (op == 14) = false := by simp; omega
  have ho4 : (op == 21) = false := by simp; omega
  clear hw we wa hq hq'
  go_enter Tryz.func65, Tryz.ntmps65
  go_wp2_with (first
    | (at_builtin; rw [<- HZ.out]; go_must (refine qAt rfl (.tmp 26) (.tmp 27) 57 rfl Z.heap.size 46 i0 (tyV Ty.nil) Tryz.underlying57 hi hz0 hz1 hz2 rfl _ [] rfl (qCk Z Z.heap.size (w.heap.size + 1 + 1) (Nat.le_refl _) (by omega)) _ s rfl (HSZ.out.below ((Below.refl _ _).alloc (Nat.le_refl _) _)) (by rw [h8]; unfold maxLen; simp) (by rw [h8]; simp) (by simp) ?_); intro v3 w3 hown3 hg3; go_must (have hb3 : Below Z.heap.size Z w3 := ((Below.refl _ _).alloc (Nat.le_refl _) _).grown hg3 (by simp) (fun j hj => by (have hj' : w.heap.size + 1 + 1 = j := Option.some.inj hj); omega); rw [List.nil_append, h8] at hown3; obtain ⟨g, c3, rfl, hg0, hc3, hm3⟩ := qBp hown3; have hS3 := Box.below hBoxZ hb3 (by omega); obtain ⟨x0, x1, x2, x3, x4⟩ := id hS3; have HS3 : Hid (SeesT w3 (.slice (some ⟨sb, so, none⟩) 8 scap) s) := HSZ.out.below hb3; have hz3 := hb3.size; clear hg3))
    | (go_at_call 62; go_must (refine (qAh _ _).mono ?_); rintro e w' ⟨rfl, rfl⟩; rw [hTh.out])
    | (go_at_call 63; go_must (refine (qAi _ _).mono ?_); rintro e w' ⟨rfl, rfl⟩; rw [hJu.out]))
  obtain ⟨hAt, hsb, hsc, hsm⟩ := HS3.out.at8 h8 ha7
  rw [HA.out] at hAt
  have hP3 : (Box w3 (w.heap.size + 1) op d an b imm /\ w3.cell? ⟨sb, so + an * 4 + 1, none⟩ = some (.int .u64 al) /\ w3.cell? ⟨sb, so + an * 4 + 2, none⟩ = some (.int .u64 ah)) := ⟨hS3, hAt.2.1, hAt.2.2.1⟩
  have HK : Hid (∀ w' : World, Below w3.heap.size w3 w' -> (Box w' (w.heap.size + 1) op d an b imm /\ w'.cell? ⟨sb, so + an * 4 + 1, none⟩ = some (.int .u64 al) /\ w'.cell? ⟨sb, so + an * 4 + 2, none⟩ = some (.int .u64 ah))) := fun w' hbx => ⟨Box.below hS3 hbx (by omega), (hbx.cell (p := ⟨sb, so + an * 4 + 1, none⟩) hsb).trans hAt.2.1, (hbx.cell (p := ⟨sb, so + an * 4 + 2, none⟩) hsb).trans hAt.2.2.1⟩
  have hfld := field_span tk tl th tm
  clear hAt
  go_region_held3 (fun w' => (w'.cell? ⟨w.heap.size + 1, 0, none⟩ = some (.int .i64 op) /\ w'.cell? ⟨w.heap.size + 1, 1, none⟩ = some (.int .i64 d) /\ w'.cell? ⟨w.heap.size + 1, 2, none⟩ = some (.int .i64 an) /\ w'.cell? ⟨w.heap.size + 1, 3, none⟩ = some (.int .i64 b) /\ w'.cell? ⟨w.heap.size + 1, 4, none⟩ = some (.int .i64 imm)) /\ w'.cell? ⟨sb, so + an * 4 + 1, none⟩ = some (.int .u64 al) /\ w'.cell? ⟨sb, so + an * 4 + 2, none⟩ = some (.int .u64 ah))
    (first
      | (with_reducible exact hP5)
      | (with_reducible exact hP4)
      | (with_reducible refine HK.out _ ?_; exact qAa (qAa hB5 (Nat.le_refl _)) (Nat.le_refl _))
      | (with_reducible refine HK.out _ ?_; exact qAa hB5 (Nat.le_refl _))
      | (with_reducible refine HK.out _ ?_; exact qAa (qAa hB5 hz4) hz4)
      | (with_reducible refine HK.out _ ?_; exact qAa hB5 hz4)
      | (with_reducible refine HK.out _ ?_; exact qAa (qAa (hB5.alloc hz5 _) hz5) hz5)
      | (with_reducible refine HK.out _ ?_; exact qAa (hB5.alloc hz5 _) hz5)
      | (with_reducible refine HK.out _ ?_; exact hB5.alloc hz5 _)
      | (with_reducible refine HK.out _ ?_; exact hb4.alloc hz4 _)
      | (with_reducible refine HK.out _ ?_; exact below_dr' ((Below.refl _ _).alloc (Nat.le_refl _) _))
      | exact hP3)
    (first
      | (go_at_call 37; refine (qBb (i := ⟨op, d, an, b, imm⟩) (w := w3.drew) (HS3.out) h8 hb HT).mono ?_; rintro e w4 ⟨rfl, hb4'⟩; (have hb4 : Below w3.heap.size w3 w4 := qAf hb4'); have hP4 := HK.out _ hb4; have hz4 := hb4.size; clear hb4')
      | (go_at_call 37; refine (qBb (i := ⟨op, d, an, b, imm⟩) (w := (w3.alloc (spO 0 0)).drew) (HS3.out.below (below_dr' ((Below.refl _ _).alloc (Nat.le_refl _) _))) h8 hb HT).mono ?_; rintro e w4 ⟨rfl, hb40⟩; (have hb4' := qAf hb40); (have hN4 : Bx w4 w3.heap.size 0 0 := Bx.below (w := w3.alloc (spO 0 0)) (B := (w3.alloc (spO 0 0)).heap.size) ⟨⟨by go_cell, by go_cell⟩, by go_simp, by go_simp⟩ hb4' (by simp)); (have hb4 : Below w3.heap.size w3 w4 := ((Below.refl w3.heap.size w3).alloc (Nat.le_refl _) _).trans (Below.mono (B := (w3.alloc (spO 0 0)).heap.size) hb4' (by simp))); have hP4 := HK.out _ hb4; have hz4 := hb4.size; (have hz4' : w3.heap.size < w4.heap.size := by (have := hb4'.size); simp at this; omega); clear hb4' hb40)
      | (go_at_call 89; (have hq := hN4; clear hq); refine (sref_as HWE.out.2.1 HWE.out.2.2 HWE.out.1.1 HWE.out.1.2 HJ HJB _).mono ?_; rintro e w5 ⟨rfl, hb5'⟩; (have hN5 := Bx.below hN4 hb5' hz4'); (have hB5 : Below w3.heap.size w3 w5 := hb4.trans (hb5'.mono hz4)); obtain ⟨⟨n0, n1⟩, n2, n3⟩ := id hN5; have hP5 := HK.out _ hB5; have hz5 := hB5.size; (have hz5' : w3.heap.size < w5.heap.size := by (have := hb5'.size); omega); clear hb5')
      | (go_at_call 89; refine (sref_as HWE.out.2.1 HWE.out.2.2 HWE.out.1.1 HWE.out.1.2 HJ HJB _).mono (w := w4.alloc (spO 0 0)) ?_; rintro e w5 ⟨rfl, hb5'⟩; (have hN5 : Bx w5 w4.heap.size 0 0 := Bx.below (w := w4.alloc (spO 0 0)) ⟨⟨by go_cell, by go_cell⟩, by go_simp, by go_simp⟩ hb5' (by simp)); (have hB5 : Below w3.heap.size w3 w5 := (hb4.alloc hz4 _).trans (hb5'.mono (by simp; omega))); obtain ⟨⟨n0, n1⟩, n2, n3⟩ := id hN5; have hP5 := HK.out _ hB5; have hz5 := hB5.size; (have hz5' : w4.heap.size < w5.heap.size := by (have := hb5'.size); simp at this; omega); clear hb5')
      | (go_at_call 89; refine (sref_as HWE.out.2.1 HWE.out.2.2 HWE.out.1.1 HWE.out.1.2 HJ HJB _).mono ?_; rintro e w5 ⟨rfl, hb5'⟩; (have hB5 : Below w3.heap.size w3 w5 := hb4.trans (hb5'.mono hz4)); have hP5 := HK.out _ hB5; have hz5 := hB5.size; clear hb5'))
  all_goals first
    | (obtain ⟨Y, HY, hYc, hBY, hzY⟩ : ∃ Y, Hid (Y = (w5.setCell ⟨w3.heap.size, 0, none⟩ (.int .u64 jl)).setCell ⟨w3.heap.size, 1, none⟩ (.int .u64 jh)) /\ (Y.cell? ⟨w3.heap.size, 0, none⟩ = some (.int .u64 jl) /\ Y.cell? ⟨w3.heap.size, 1, none⟩ = some (.int .u64 jh)) /\ Below w3.heap.size w3 Y /\ (w3.heap.size <= w3.heap.size /\ w3.heap.size < Y.heap.size) := ⟨_, rfl, qAk n0 n1, qAa (qAa hB5 (by omega)) (by omega), by omega, by first | omega | (simp; done) | (simp; omega) | (simp [World.setCell]; omega)⟩
       rw [<- HY.out]
       go_wp2
       have hPY := (HK.out _ hBY).1
       have hzY3 := hBY.size
       have hSY : Y.cell? ⟨w.heap.size + 1, 2, none⟩ = some (.int .i64 an) /\ Y.cell? ⟨w3.heap.size, 0, none⟩ = some (.int .u64 jl) /\ Y.cell? ⟨w3.heap.size, 1, none⟩ = some (.int .u64 jh) := ⟨hPY.2.2.1, hYc⟩
       go_region_held3 (fun w' => w'.cell? ⟨w.heap.size + 1, 2, none⟩ = some (.int .i64 an) /\ w'.cell? ⟨w3.heap.size, 0, none⟩ = some (.int .u64 jl) /\ w'.cell? ⟨w3.heap.size, 1, none⟩ = some (.int .u64 jh))
         (first | with_reducible exact hS6 | with_reducible exact HKeep.out w6 hS6 | exact hSY)
         (first
           | (go_at_call 67; refine (jnum_any jl jh Y.drew).mono ?_; rintro e w6 ⟨rfl, hb6'⟩; (have hb6 : Below Y.heap.size Y w6 := qAf hb6'); (have hb36 : Below w3.heap.size w3 w6 := hBY.trans (hb6.mono hzY3)); (have hS6 : w6.cell? ⟨w.heap.size + 1, 2, none⟩ = some (.int .i64 an) /\ w6.cell? ⟨w3.heap.size, 0, none⟩ = some (.int .u64 jl) /\ w6.cell? ⟨w3.heap.size, 1, none⟩ = some (.int .u64 jh) := ⟨(hb6.cell (p := ⟨w.heap.size + 1, 2, none⟩) (show w.heap.size + 1 < Y.heap.size by omega)).trans hSY.1, (hb6.cell (p := ⟨w3.heap.size, 0, none⟩) hzY.2).trans hSY.2.1, (hb6.cell (p := ⟨w3.heap.size, 1, none⟩) hzY.2).trans hSY.2.2⟩); have hown6 := qAz hown3 hb36 (Nat.le_refl _); obtain ⟨y0, y1, y2, y3, q0, q1, q2, q3⟩ := qBu hown6 ha7; have f0 := hown6.frozenAt (an * 4); have f1 := hown6.frozenAt (an * 4 + 1); have f2 := hown6.frozenAt (an * 4 + 2); have f3 := hown6.frozenAt (an * 4 + 3); (have HOF : Hid ((setT w6 g (an * 4) ⟨1, jl, jh, 0⟩).ownsRow Z.heap.size 46 4 (.slice (some ⟨g, 0, none⟩) 8 c3) 8 (flatT (s.set an ⟨1, jl, jh, 0⟩))) := (qCc hown6 an (by rw [h8]; exact ha7) ⟨1, jl, jh, 0⟩).1); (have hBF : Hid (Below Z.heap.size Z (setT w6 g (an * 4) ⟨1, jl, jh, 0⟩)) := qAn (hb3.trans (hb36.mono hz3)) hg0.1); (have HKeep : Hid (∀ wx : World, (wx.cell? ⟨w.heap.size + 1, 2, none⟩ = some (.int .i64 an) /\ wx.cell? ⟨w3.heap.size, 0, none⟩ = some (.int .u64 jl) /\ wx.cell? ⟨w3.heap.size, 1, none⟩ = some (.int .u64 jh)) -> ((setT wx g (an * 4) ⟨1, jl, jh, 0⟩).cell? ⟨w.heap.size + 1, 2, none⟩ = some (.int .i64 an) /\ (setT wx g (an * 4) ⟨1, jl, jh, 0⟩).cell? ⟨w3.heap.size, 0, none⟩ = some (.int .u64 jl) /\ (setT wx g (an * 4) ⟨1, jl, jh, 0⟩).cell? ⟨w3.heap.size, 1, none⟩ = some (.int .u64 jh))) := fun wx hh => ⟨(qAr (by omega)).trans hh.1, (qAr (by omega)).trans hh.2.1, (qAr (by omega)).trans hh.2.2⟩); clear hb6' hown6))
       go_wp2
       go_ret2
       exact ⟨_, rfl, qAu HOF.out (by omega), hBZ.trans (hBF.out.mono (by omega))⟩)
    | (obtain ⟨Y, HY, hYc, hBY, hzY⟩ : ∃ Y, Hid (Y = (w5.setCell ⟨w4.heap.size, 0, none⟩ (.int .u64 jl)).setCell ⟨w4.heap.size, 1, none⟩ (.int .u64 jh)) /\ (Y.cell? ⟨w4.heap.size, 0, none⟩ = some (.int .u64 jl) /\ Y.cell? ⟨w4.heap.size, 1, none⟩ = some (.int .u64 jh)) /\ Below w3.heap.size w3 Y /\ (w3.heap.size <= w4.heap.size /\ w4.heap.size < Y.heap.size) := ⟨_, rfl, qAk n0 n1, qAa (qAa hB5 (by omega)) (by omega), by omega, by first | omega | (simp; done) | (simp; omega) | (simp [World.setCell]; omega)⟩
       rw [<- HY.out]
       go_wp2
       have hPY := (HK.out _ hBY).1
       have hzY3 := hBY.size
       have hSY : Y.cell? ⟨w.heap.size + 1, 2, none⟩ = some (.int .i64 an) /\ Y.cell? ⟨w4.heap.size, 0, none⟩ = some (.int .u64 jl) /\ Y.cell? ⟨w4.heap.size, 1, none⟩ = some (.int .u64 jh) := ⟨hPY.2.2.1, hYc⟩
       go_region_held3 (fun w' => w'.cell? ⟨w.heap.size + 1, 2, none⟩ = some (.int .i64 an) /\ w'.cell? ⟨w4.heap.size, 0, none⟩ = some (.int .u64 jl) /\ w'.cell? ⟨w4.heap.size, 1, none⟩ = some (.int .u64 jh))
         (first | with_reducible exact hS6 | with_reducible exact HKeep.out w6 hS6 | exact hSY)
         (first
           | (go_at_call 67; refine (jnum_any jl jh Y.drew).mono ?_; rintro e w6 ⟨rfl, hb6'⟩; (have hb6 : Below Y.heap.size Y w6 := qAf hb6'); (have hb36 : Below w3.heap.size w3 w6 := hBY.trans (hb6.mono hzY3)); (have hS6 : w6.cell? ⟨w.heap.size + 1, 2, none⟩ = some (.int .i64 an) /\ w6.cell? ⟨w4.heap.size, 0, none⟩ = some (.int .u64 jl) /\ w6.cell? ⟨w4.heap.size, 1, none⟩ = some (.int .u64 jh) := ⟨(hb6.cell (p := ⟨w.heap.size + 1, 2, none⟩) (show w.heap.size + 1 < Y.heap.size by omega)).trans hSY.1, (hb6.cell (p := ⟨w4.heap.size, 0, none⟩) hzY.2).trans hSY.2.1, (hb6.cell (p := ⟨w4.heap.size, 1, none⟩) hzY.2).trans hSY.2.2⟩); have hown6 := qAz hown3 hb36 (Nat.le_refl _); obtain ⟨y0, y1, y2, y3, q0, q1, q2, q3⟩ := qBu hown6 ha7; have f0 := hown6.frozenAt (an * 4); have f1 := hown6.frozenAt (an * 4 + 1); have f2 := hown6.frozenAt (an * 4 + 2); have f3 := hown6.frozenAt (an * 4 + 3); (have HOF : Hid ((setT w6 g (an * 4) ⟨1, jl, jh, 0⟩).ownsRow Z.heap.size 46 4 (.slice (some ⟨g, 0, none⟩) 8 c3) 8 (flatT (s.set an ⟨1, jl, jh, 0⟩))) := (qCc hown6 an (by rw [h8]; exact ha7) ⟨1, jl, jh, 0⟩).1); (have hBF : Hid (Below Z.heap.size Z (setT w6 g (an * 4) ⟨1, jl, jh, 0⟩)) := qAn (hb3.trans (hb36.mono hz3)) hg0.1); (have HKeep : Hid (∀ wx : World, (wx.cell? ⟨w.heap.size + 1, 2, none⟩ = some (.int .i64 an) /\ wx.cell? ⟨w4.heap.size, 0, none⟩ = some (.int .u64 jl) /\ wx.cell? ⟨w4.heap.size, 1, none⟩ = some (.int .u64 jh)) -> ((setT wx g (an * 4) ⟨1, jl, jh, 0⟩).cell? ⟨w.heap.size + 1, 2, none⟩ = some (.int .i64 an) /\ (setT wx g (an * 4) ⟨1, jl, jh, 0⟩).cell? ⟨w4.heap.size, 0, none⟩ = some (.int .u64 jl) /\ (setT wx g (an * 4) ⟨1, jl, jh, 0⟩).cell? ⟨w4.heap.size, 1, none⟩ = some (.int .u64 jh))) := fun wx hh => ⟨(qAr (by omega)).trans hh.1, (qAr (by omega)).trans hh.2.1, (qAr (by omega)).trans hh.2.2⟩); clear hb6' hown6))
       go_wp2
       go_ret2
       exact ⟨_, rfl, qAu HOF.out (by omega), hBZ.trans (hBF.out.mono (by omega))⟩)
    | (obtain ⟨Y, HY, hYc, hBY, hzY⟩ : ∃ Y, Hid (Y = w5.alloc (spO jl jh)) /\ (Y.cell? ⟨w5.heap.size, 0, none⟩ = some (.int .u64 jl) /\ Y.cell? ⟨w5.heap.size, 1, none⟩ = some (.int .u64 jh)) /\ Below w3.heap.size w3 Y /\ (w3.heap.size <= w5.heap.size /\ w5.heap.size < Y.heap.size) := ⟨_, rfl, ⟨by go_cell, by go_cell⟩, hB5.alloc hz5 _, by omega, by first | omega | (simp; done) | (simp; omega) | (simp [World.setCell]; omega)⟩
       rw [<- HY.out]
       go_wp2
       have hPY := (HK.out _ hBY).1
       have hzY3 := hBY.size
       have hSY : Y.cell? ⟨w.heap.size + 1, 2, none⟩ = some (.int .i64 an) /\ Y.cell? ⟨w5.heap.size, 0, none⟩ = some (.int .u64 jl) /\ Y.cell? ⟨w5.heap.size, 1, none⟩ = some (.int .u64 jh) := ⟨hPY.2.2.1, hYc⟩
       go_region_held3 (fun w' => w'.cell? ⟨w.heap.size + 1, 2, none⟩ = some (.int .i64 an) /\ w'.cell? ⟨w5.heap.size, 0, none⟩ = some (.int .u64 jl) /\ w'.cell? ⟨w5.heap.size, 1, none⟩ = some (.int .u64 jh))
         (first | with_reducible exact hS6 | with_reducible exact HKeep.out w6 hS6 | exact hSY)
         (first
           | (go_at_call 67; refine (jnum_any jl jh Y.drew).mono ?_; rintro e w6 ⟨rfl, hb6'⟩; (have hb6 : Below Y.heap.size Y w6 := qAf hb6'); (have hb36 : Below w3.heap.size w3 w6 := hBY.trans (hb6.mono hzY3)); (have hS6 : w6.cell? ⟨w.heap.size + 1, 2, none⟩ = some (.int .i64 an) /\ w6.cell? ⟨w5.heap.size, 0, none⟩ = some (.int .u64 jl) /\ w6.cell? ⟨w5.heap.size, 1, none⟩ = some (.int .u64 jh) := ⟨(hb6.cell (p := ⟨w.heap.size + 1, 2, none⟩) (show w.heap.size + 1 < Y.heap.size by omega)).trans hSY.1, (hb6.cell (p := ⟨w5.heap.size, 0, none⟩) hzY.2).trans hSY.2.1, (hb6.cell (p := ⟨w5.heap.size, 1, none⟩) hzY.2).trans hSY.2.2⟩); have hown6 := qAz hown3 hb36 (Nat.le_refl _); obtain ⟨y0, y1, y2, y3, q0, q1, q2, q3⟩ := qBu hown6 ha7; have f0 := hown6.frozenAt (an * 4); have f1 := hown6.frozenAt (an * 4 + 1); have f2 := hown6.frozenAt (an * 4 + 2); have f3 := hown6.frozenAt (an * 4 + 3); (have HOF : Hid ((setT w6 g (an * 4) ⟨1, jl, jh, 0⟩).ownsRow Z.heap.size 46 4 (.slice (some ⟨g, 0, none⟩) 8 c3) 8 (flatT (s.set an ⟨1, jl, jh, 0⟩))) := (qCc hown6 an (by rw [h8]; exact ha7) ⟨1, jl, jh, 0⟩).1); (have hBF : Hid (Below Z.heap.size Z (setT w6 g (an * 4) ⟨1, jl, jh, 0⟩)) := qAn (hb3.trans (hb36.mono hz3)) hg0.1); (have HKeep : Hid (∀ wx : World, (wx.cell? ⟨w.heap.size + 1, 2, none⟩ = some (.int .i64 an) /\ wx.cell? ⟨w5.heap.size, 0, none⟩ = some (.int .u64 jl) /\ wx.cell? ⟨w5.heap.size, 1, none⟩ = some (.int .u64 jh)) -> ((setT wx g (an * 4) ⟨1, jl, jh, 0⟩).cell? ⟨w.heap.size + 1, 2, none⟩ = some (.int .i64 an) /\ (setT wx g (an * 4) ⟨1, jl, jh, 0⟩).cell? ⟨w5.heap.size, 0, none⟩ = some (.int .u64 jl) /\ (setT wx g (an * 4) ⟨1, jl, jh, 0⟩).cell? ⟨w5.heap.size, 1, none⟩ = some (.int .u64 jh))) := fun wx hh => ⟨(qAr (by omega)).trans hh.1, (qAr (by omega)).trans hh.2.1, (qAr (by omega)).trans hh.2.2⟩); clear hb6' hown6))
       go_wp2
       go_ret2
       exact ⟨_, rfl, qAu HOF.out (by omega), hBZ.trans (hBF.out.mono (by omega))⟩)
def Left9 (w : World) (o : Option St) (e : Ending) (w' : World) : Prop := Below w.heap.size w w' /\ match o with
 | none => e = .returned (.tuple #[.slice none 0 0, .bool false])
 | some s' => ∃ u, e = .returned (.tuple #[u, .bool true]) /\ w'.ownsRow w.heap.size 46 4 u 8 (flatT s')
theorem leaves_any (vm vc vs : Value) (xs : List In) (p : Nat) (s : St) (holds : Bool) (w : World) (hc : SeesI w vc xs) (hp : p < xs.length) (hs : SeesT w vs s) (h8 : s.length = 8) (hw : ∀ t ∈ s, W64 t.lo /\ W64 t.hi) (hr : (nth xs p).right = true) :
  Calls Tryz.prog 65 #[.agg #[vm, vc], .int .i64 p, vs, .bool holds] w (Left9 w (leavesJ (nth xs p) s holds)) := by
 obtain ⟨a1, cap, rfl, hcap, hmax, _, hcell⟩ := hc
 obtain ⟨cb, co, rfl, hcb, hat⟩ := hcell (fun e => by rw [e] at hp; simp at hp)
 obtain ⟨a2, scap, rfl, hscap, hsmax, hsn, hscell⟩ := id hs
 obtain ⟨sb, so, rfl, hsb, _⟩ := hscell (fun e => by rw [e] at h8; simp at h8)
 have hA := hat p hp
 unfold maxLen at hmax
 have hs8 : SeesT w (.slice (some ⟨sb, so, none⟩) 8 scap) s := by have := hs; rw [h8] at this; exact this
 rw [h8]
 have hnth : xs.getD p In.nil = nth xs p := rfl
 rw [hnth] at hA
 have h0 : 0 <= (nth xs p).op /\ (nth xs p).op <= 22 := right_op hr
 generalize nth xs p = i at *
 obtain ⟨op, d, a, b, imm⟩ := i
 simp only at h0
 unfold leavesJ
 simp only
 by_cases c0 : op = 0
 ·subst c0
  rw [if_pos rfl]
  have hsrc := qCa hr (.inl (show (0 : Int) <= 12 by decide))
  exact (leaves_set vm cb co xs.length cap p d a b imm sb so scap s holds w hcb hA hp hcap (by omega) hs8 h8 (qCu hr (.inl (show (0 : Int) <= 11 by decide))) hsrc.2).mono fun e w' ⟨u, h1, h2, h3⟩ => ⟨h3, u, h1, h2⟩
 rw [if_neg c0]
 by_cases c1 : 1 <= op /\ op <= 10
 ·rw [if_pos (show threeB op = true by unfold threeB; simp; omega)]
  have hsrc := qCa hr (.inl (show op <= 12 by omega))
  exact (leaves_three vm cb co xs.length cap p op d a b imm sb so scap s holds w hcb hA hp hcap (by omega) hs8 h8 c1 (qCu hr (.inl (show op <= 11 by omega))) (qCr hr (.inl c1)) hsrc.2 hw).mono fun e w' ⟨u, h1, h2, h3⟩ => ⟨h3, u, h1, h2⟩
 rw [if_neg (show ¬ threeB op = true by unfold threeB; simp; omega)]
 by_cases c2 : op = 11 ∨ op = 13
 ·rw [if_pos c2]
  rcases c2 with rfl | rfl
  ·exact (leaves_load vm cb co xs.length cap p d a b imm sb so scap s holds w hcb hA hp hcap (by omega) hs8 h8 (qCu hr (.inl (show (11 : Int) <= 11 by decide)))).mono fun e w' ⟨u, h1, h2, h3⟩ => ⟨h3, u, h1, h2⟩
  ·exact (leaves_field vm cb co xs.length cap p d a b imm sb so scap s holds w hcb hA hp hcap (by omega) hs8 h8 (qCu hr (.inr (.inl rfl)))).mono fun e w' ⟨u, h1, h2, h3⟩ => ⟨h3, u, h1, h2⟩
 rw [if_neg c2]
 by_cases c3 : op = 14
 ·subst c3
  rw [if_pos rfl]
  exact (leaves_map vm cb co xs.length cap p d a b imm sb so scap s holds w hcb hA hp hcap (by omega) hs8 h8 (qCu hr (.inr (.inr rfl)))).mono fun e w' ⟨u, h1, h2, h3⟩ => ⟨h3, u, h1, h2⟩
 rw [if_neg c3]
 by_cases c4 : op = 21
 ·subst c4
  rw [if_pos rfl]
  exact (leaves_call vm cb co xs.length cap p d a b imm sb so scap s holds w hcb hA hp hcap (by omega) hs8 h8).mono fun e w' ⟨u, h1, h2, h3⟩ => ⟨h3, u, h1, h2⟩
 rw [if_neg c4]
 by_cases c5 : 16 <= op /\ op <= 19
 ·rw [if_pos (show jumpB op = true by unfold jumpB; simp; omega)]
  have hsrc := qCa hr (.inr c5)
  have hra := qCr hr (.inr (.inr (.inl (show 16 <= op /\ op <= 20 by omega))))
  cases hq : refineR op (regT s a).lo (regT s a).hi (srcT ⟨op, d, a, b, imm⟩ s).lo (srcT ⟨op, d, a, b, imm⟩ s).hi holds with
  | none => exact (leaves_jump_no vm cb co xs.length cap p op d a b imm sb so scap s holds w hcb hA hp hcap (by omega) hs8 h8 c5 hra hsrc.2 hw hq).mono fun e w' ⟨h1, h2⟩ => ⟨h2, h1⟩
  | some q => exact (leaves_jump_yes vm cb co xs.length cap p op d a b imm sb so scap s holds w hcb hA hp hcap (by omega) hs8 h8 c5 hra hsrc.2 hw q.1 q.2 hq).mono fun e w' ⟨u, h1, h2, h3⟩ => ⟨h3, u, h1, h2⟩
 ·rw [if_neg (show ¬ jumpB op = true by unfold jumpB; simp; omega)]
  exact (leaves_still vm cb co xs.length cap p op d a b imm sb so scap s holds w hcb hA hp hcap (by omega) hs8 h8 (by omega)).mono fun e w' ⟨u, h1, h2, h3⟩ => ⟨h3, u, h1, h2⟩
end Go.Proofs.YtkcofelpndlplaaGreat
