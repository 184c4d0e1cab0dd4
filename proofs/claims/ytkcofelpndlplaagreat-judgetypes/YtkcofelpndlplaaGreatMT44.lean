
/-
 What the document's Asks answers: instructions with a source. Condition: a right instruction, a state of eight types.
-/
import Derived.Test.YtkcofelpndlplaaGreatMT42
import Derived.Test.YtkcofelpndlplaaGreatMT5
import Derived.Test.YtkcofelpndlplaaGreatMT27
namespace Go.Proofs.YtkcofelpndlplaaGreat
open Go.RowKit
set_option linter.unusedVariables false
set_option linter.unusedSimpArgs false
set_option maxRecDepth 100000

theorem qBj (W : World) (n : Nat) (hn : n = W.heap.size) : BxT (W.alloc (tyO Ty.nil)) n 0 Ty.nil := by
 subst hn; exact box_new W
set_option maxHeartbeats 800000 in
theorem asks_set_no (vm : Value) (cb co N ccap p : Nat) (d a b imm : Int) (sb so scap : Nat) (s : St) (vh : Value) (w : World) (hcb : cb < w.heap.size) (hAi : At w cb (co + p * 5) ⟨0, d, a, b, imm⟩) (hpN : p < N) (hN : N <= ccap) (hcc : ccap <= 9223372036854775807)
  (hs : SeesT w (.slice (some ⟨sb, so, none⟩) 8 scap) s) (h8 : s.length = 8) (hb : b = 8 ∨ (0 <= b /\ b <= 7)) (hsrc : Hid (sourceB 0 d a b imm = true)) (tk tl th tm : Int) (HT : Hid (srcT ⟨0, d, a, b, imm⟩ s = ⟨tk, tl, th, tm⟩)) (hk : tk = 0) :
  Calls Tryz.prog 17 #[.agg #[vm, .slice (some ⟨cb, co, none⟩) N ccap], .int .i64 p, .slice (some ⟨sb, so, none⟩) 8 scap, vh] w fun e w' => e = .returned (.int .i64 33) /\ Below w.heap.size w w' := by
 obtain ⟨m0, m1, m2, m3, m4⟩ := hAi
 simp only at m0 m1 m2 m3 m4
 obtain ⟨Z, HZ, hBoxZ, hBxZ, hBZ, hzZ⟩ : ∃ Z, Hid (Z = ((w.alloc (.cells #[vm, .slice (some ⟨cb, co, none⟩) N ccap] 25)).alloc (instO 0 d a b imm)).alloc (.cells #[.int .i64 0, .int .u64 0, .int .u64 0, .int .i64 0] 46)) /\ Box Z (w.heap.size + 1) 0 d a b imm /\ BxT Z (w.heap.size + 1 + 1) 0 Ty.nil /\ Below w.heap.size w Z /\ Z.heap.size = w.heap.size + 3 :=
  ⟨_, rfl, ⟨by go_cell, by go_cell, by go_cell, by go_cell, by go_cell⟩, qBj _ _ (by simp), by go_grown, by simp⟩
 have HSZ : Hid (SeesT Z (.slice (some ⟨sb, so, none⟩) 8 scap) s) := hs.below hBZ
 have hsb0 : sb < w.heap.size := (hs.at8 h8 (r := 0) (by omega)).2.1
 have hsn1 : ¬ sb = w.heap.size + 1 + 1 := by omega
 have hsn2 : ¬ w.heap.size + 1 + 1 = sb := by omega
 clear hs
 subst hk
 go_enter Tryz.func17, Tryz.ntmps17
 go_wp2_with (first
  | (go_at_call 36; rw [<- HZ.out]; go_must (refine (qAy _ _ _ _ _ _).mono ?_); rintro e w1 ⟨rfl, hb1⟩; rw [hsrc.out]; go_must (have hz1 := hb1.size; obtain ⟨x0, x1, x2, x3, x4⟩ := Box.below hBoxZ hb1 (by omega)))
  | (go_at_call 37; go_must (refine (qBb (i := ⟨0, d, a, b, imm⟩) (w := w1) (HSZ.out.below hb1) h8 hb HT).mono ?_); rintro e w5 ⟨rfl, hb5⟩; go_must (have hB5 : Below Z.heap.size Z w5 := hb1.trans (hb5.mono hz1); have hz5 := hB5.size; clear x0 x1 x2 x3 x4; obtain ⟨x0, x1, x2, x3, x4⟩ := Box.below hBoxZ hB5 (by omega); obtain ⟨c0, c1, c2, c3, f0, f1, f2, f3⟩ := (BxT.below hBxZ hB5 (by omega)).parts; clear hb5)))
 go_ret
 exact ⟨rfl, qAa (qAa (qAa (qAa (hBZ.trans (hB5.mono (by omega))) (by omega)) (by omega)) (by omega)) (by omega)⟩
set_option maxHeartbeats 800000 in
theorem asks_set_yes (vm : Value) (cb co N ccap p : Nat) (d a b imm : Int) (sb so scap : Nat) (s : St) (vh : Value) (w : World) (hcb : cb < w.heap.size) (hAi : At w cb (co + p * 5) ⟨0, d, a, b, imm⟩) (hpN : p < N) (hN : N <= ccap) (hcc : ccap <= 9223372036854775807)
  (hs : SeesT w (.slice (some ⟨sb, so, none⟩) 8 scap) s) (h8 : s.length = 8) (hb : b = 8 ∨ (0 <= b /\ b <= 7)) (hsrc : Hid (sourceB 0 d a b imm = true)) (tk tl th tm : Int) (HT : Hid (srcT ⟨0, d, a, b, imm⟩ s = ⟨tk, tl, th, tm⟩)) (hk : ¬ tk = 0) :
  Calls Tryz.prog 17 #[.agg #[vm, .slice (some ⟨cb, co, none⟩) N ccap], .int .i64 p, .slice (some ⟨sb, so, none⟩) 8 scap, vh] w fun e w' => e = .returned (.int .i64 0) /\ Below w.heap.size w w' := by
 obtain ⟨m0, m1, m2, m3, m4⟩ := hAi
 simp only at m0 m1 m2 m3 m4
 obtain ⟨Z, HZ, hBoxZ, hBxZ, hBZ, hzZ⟩ : ∃ Z, Hid (Z = ((w.alloc (.cells #[vm, .slice (some ⟨cb, co, none⟩) N ccap] 25)).alloc (instO 0 d a b imm)).alloc (.cells #[.int .i64 0, .int .u64 0, .int .u64 0, .int .i64 0] 46)) /\ Box Z (w.heap.size + 1) 0 d a b imm /\ BxT Z (w.heap.size + 1 + 1) 0 Ty.nil /\ Below w.heap.size w Z /\ Z.heap.size = w.heap.size + 3 :=
  ⟨_, rfl, ⟨by go_cell, by go_cell, by go_cell, by go_cell, by go_cell⟩, qBj _ _ (by simp), by go_grown, by simp⟩
 have HSZ : Hid (SeesT Z (.slice (some ⟨sb, so, none⟩) 8 scap) s) := hs.below hBZ
 have hsb0 : sb < w.heap.size := (hs.at8 h8 (r := 0) (by omega)).2.1
 have hsn1 : ¬ sb = w.heap.size + 1 + 1 := by omega
 have hsn2 : ¬ w.heap.size + 1 + 1 = sb := by omega
 clear hs
 have hk1 : (tk == 0) = false := by simp [hk]
 go_enter Tryz.func17, Tryz.ntmps17
 go_wp2_with (first
  | (go_at_call 36; rw [<- HZ.out]; go_must (refine (qAy _ _ _ _ _ _).mono ?_); rintro e w1 ⟨rfl, hb1⟩; rw [hsrc.out]; go_must (have hz1 := hb1.size; obtain ⟨x0, x1, x2, x3, x4⟩ := Box.below hBoxZ hb1 (by omega)))
  | (go_at_call 37; go_must (refine (qBb (i := ⟨0, d, a, b, imm⟩) (w := w1) (HSZ.out.below hb1) h8 hb HT).mono ?_); rintro e w5 ⟨rfl, hb5⟩; go_must (have hB5 : Below Z.heap.size Z w5 := hb1.trans (hb5.mono hz1); have hz5 := hB5.size; clear x0 x1 x2 x3 x4; obtain ⟨x0, x1, x2, x3, x4⟩ := Box.below hBoxZ hB5 (by omega); obtain ⟨c0, c1, c2, c3, f0, f1, f2, f3⟩ := (BxT.below hBxZ hB5 (by omega)).parts; clear hb5)))
 go_ret
 exact ⟨rfl, qAa (qAa (qAa (qAa (hBZ.trans (hB5.mono (by omega))) (by omega)) (by omega)) (by omega)) (by omega)⟩
set_option maxHeartbeats 800000 in
theorem asks_load_no (vm : Value) (cb co N ccap p : Nat) (d a b imm : Int) (sb so scap : Nat) (s : St) (vh : Value) (w : World) (hcb : cb < w.heap.size) (hAi : At w cb (co + p * 5) ⟨11, d, a, b, imm⟩) (hpN : p < N) (hN : N <= ccap) (hcc : ccap <= 9223372036854775807)
  (hs : SeesT w (.slice (some ⟨sb, so, none⟩) 8 scap) s) (h8 : s.length = 8) (hb : b = 8 ∨ (0 <= b /\ b <= 7)) (hsrc : Hid (sourceB 11 d a b imm = true)) (tk tl th tm : Int) (HT : Hid (srcT ⟨11, d, a, b, imm⟩ s = ⟨tk, tl, th, tm⟩)) (hk : ¬ tk = 1) :
  Calls Tryz.prog 17 #[.agg #[vm, .slice (some ⟨cb, co, none⟩) N ccap], .int .i64 p, .slice (some ⟨sb, so, none⟩) 8 scap, vh] w fun e w' => e = .returned (.int .i64 33) /\ Below w.heap.size w w' := by
 obtain ⟨m0, m1, m2, m3, m4⟩ := hAi
 simp only at m0 m1 m2 m3 m4
 obtain ⟨Z, HZ, hBoxZ, hBxZ, hBZ, hzZ⟩ : ∃ Z, Hid (Z = ((w.alloc (.cells #[vm, .slice (some ⟨cb, co, none⟩) N ccap] 25)).alloc (instO 11 d a b imm)).alloc (.cells #[.int .i64 0, .int .u64 0, .int .u64 0, .int .i64 0] 46)) /\ Box Z (w.heap.size + 1) 11 d a b imm /\ BxT Z (w.heap.size + 1 + 1) 0 Ty.nil /\ Below w.heap.size w Z /\ Z.heap.size = w.heap.size + 3 :=
  ⟨_, rfl, ⟨by go_cell, by go_cell, by go_cell, by go_cell, by go_cell⟩, qBj _ _ (by simp), by go_grown, by simp⟩
 have HSZ : Hid (SeesT Z (.slice (some ⟨sb, so, none⟩) 8 scap) s) := hs.below hBZ
 have hsb0 : sb < w.heap.size := (hs.at8 h8 (r := 0) (by omega)).2.1
 have hsn1 : ¬ sb = w.heap.size + 1 + 1 := by omega
 have hsn2 : ¬ w.heap.size + 1 + 1 = sb := by omega
 clear hs
 have hk1 : (tk != 1) = true := by simp [hk]
 go_enter Tryz.func17, Tryz.ntmps17
 go_wp2_with (first
  | (go_at_call 36; rw [<- HZ.out]; go_must (refine (qAy _ _ _ _ _ _).mono ?_); rintro e w1 ⟨rfl, hb1⟩; rw [hsrc.out]; go_must (have hz1 := hb1.size; obtain ⟨x0, x1, x2, x3, x4⟩ := Box.below hBoxZ hb1 (by omega)))
  | (go_at_call 37; go_must (refine (qBb (i := ⟨11, d, a, b, imm⟩) (w := w1) (HSZ.out.below hb1) h8 hb HT).mono ?_); rintro e w5 ⟨rfl, hb5⟩; go_must (have hB5 : Below Z.heap.size Z w5 := hb1.trans (hb5.mono hz1); have hz5 := hB5.size; clear x0 x1 x2 x3 x4; obtain ⟨x0, x1, x2, x3, x4⟩ := Box.below hBoxZ hB5 (by omega); obtain ⟨c0, c1, c2, c3, f0, f1, f2, f3⟩ := (BxT.below hBxZ hB5 (by omega)).parts; clear hb5)))
 go_ret
 exact ⟨rfl, qAa (qAa (qAa (qAa (hBZ.trans (hB5.mono (by omega))) (by omega)) (by omega)) (by omega)) (by omega)⟩
set_option maxHeartbeats 800000 in
theorem asks_load_far (vm : Value) (cb co N ccap p : Nat) (d a b imm : Int) (sb so scap : Nat) (s : St) (vh : Value) (w : World) (hcb : cb < w.heap.size) (hAi : At w cb (co + p * 5) ⟨11, d, a, b, imm⟩) (hpN : p < N) (hN : N <= ccap) (hcc : ccap <= 9223372036854775807)
  (hs : SeesT w (.slice (some ⟨sb, so, none⟩) 8 scap) s) (h8 : s.length = 8) (hb : b = 8 ∨ (0 <= b /\ b <= 7)) (hsrc : Hid (sourceB 11 d a b imm = true)) (tk tl th tm : Int) (HT : Hid (srcT ⟨11, d, a, b, imm⟩ s = ⟨tk, tl, th, tm⟩)) (hk : tk = 1) (hh : 15 < th) :
  Calls Tryz.prog 17 #[.agg #[vm, .slice (some ⟨cb, co, none⟩) N ccap], .int .i64 p, .slice (some ⟨sb, so, none⟩) 8 scap, vh] w fun e w' => e = .returned (.int .i64 35) /\ Below w.heap.size w w' := by
 obtain ⟨m0, m1, m2, m3, m4⟩ := hAi
 simp only at m0 m1 m2 m3 m4
 obtain ⟨Z, HZ, hBoxZ, hBxZ, hBZ, hzZ⟩ : ∃ Z, Hid (Z = ((w.alloc (.cells #[vm, .slice (some ⟨cb, co, none⟩) N ccap] 25)).alloc (instO 11 d a b imm)).alloc (.cells #[.int .i64 0, .int .u64 0, .int .u64 0, .int .i64 0] 46)) /\ Box Z (w.heap.size + 1) 11 d a b imm /\ BxT Z (w.heap.size + 1 + 1) 0 Ty.nil /\ Below w.heap.size w Z /\ Z.heap.size = w.heap.size + 3 :=
  ⟨_, rfl, ⟨by go_cell, by go_cell, by go_cell, by go_cell, by go_cell⟩, qBj _ _ (by simp), by go_grown, by simp⟩
 have HSZ : Hid (SeesT Z (.slice (some ⟨sb, so, none⟩) 8 scap) s) := hs.below hBZ
 have hsb0 : sb < w.heap.size := (hs.at8 h8 (r := 0) (by omega)).2.1
 have hsn1 : ¬ sb = w.heap.size + 1 + 1 := by omega
 have hsn2 : ¬ w.heap.size + 1 + 1 = sb := by omega
 clear hs
 subst hk
 go_enter Tryz.func17, Tryz.ntmps17
 go_wp2_with (first
  | (go_at_call 36; rw [<- HZ.out]; go_must (refine (qAy _ _ _ _ _ _).mono ?_); rintro e w1 ⟨rfl, hb1⟩; rw [hsrc.out]; go_must (have hz1 := hb1.size; obtain ⟨x0, x1, x2, x3, x4⟩ := Box.below hBoxZ hb1 (by omega)))
  | (go_at_call 37; go_must (refine (qBb (i := ⟨11, d, a, b, imm⟩) (w := w1) (HSZ.out.below hb1) h8 hb HT).mono ?_); rintro e w5 ⟨rfl, hb5⟩; go_must (have hB5 : Below Z.heap.size Z w5 := hb1.trans (hb5.mono hz1); have hz5 := hB5.size; clear x0 x1 x2 x3 x4; obtain ⟨x0, x1, x2, x3, x4⟩ := Box.below hBoxZ hB5 (by omega); obtain ⟨c0, c1, c2, c3, f0, f1, f2, f3⟩ := (BxT.below hBxZ hB5 (by omega)).parts; clear hb5)))
 go_ret
 exact ⟨rfl, qAa (qAa (qAa (qAa (hBZ.trans (hB5.mono (by omega))) (by omega)) (by omega)) (by omega)) (by omega)⟩
set_option maxHeartbeats 800000 in
theorem asks_load_yes (vm : Value) (cb co N ccap p : Nat) (d a b imm : Int) (sb so scap : Nat) (s : St) (vh : Value) (w : World) (hcb : cb < w.heap.size) (hAi : At w cb (co + p * 5) ⟨11, d, a, b, imm⟩) (hpN : p < N) (hN : N <= ccap) (hcc : ccap <= 9223372036854775807)
  (hs : SeesT w (.slice (some ⟨sb, so, none⟩) 8 scap) s) (h8 : s.length = 8) (hb : b = 8 ∨ (0 <= b /\ b <= 7)) (hsrc : Hid (sourceB 11 d a b imm = true)) (tk tl th tm : Int) (HT : Hid (srcT ⟨11, d, a, b, imm⟩ s = ⟨tk, tl, th, tm⟩)) (hk : tk = 1) (hh : ¬ 15 < th) :
  Calls Tryz.prog 17 #[.agg #[vm, .slice (some ⟨cb, co, none⟩) N ccap], .int .i64 p, .slice (some ⟨sb, so, none⟩) 8 scap, vh] w fun e w' => e = .returned (.int .i64 0) /\ Below w.heap.size w w' := by
 obtain ⟨m0, m1, m2, m3, m4⟩ := hAi
 simp only at m0 m1 m2 m3 m4
 obtain ⟨Z, HZ, hBoxZ, hBxZ, hBZ, hzZ⟩ : ∃ Z, Hid (Z = ((w.alloc (.cells #[vm, .slice (some ⟨cb, co, none⟩) N ccap] 25)).alloc (instO 11 d a b imm)).alloc (.cells #[.int .i64 0, .int .u64 0, .int .u64 0, .int .i64 0] 46)) /\ Box Z (w.heap.size + 1) 11 d a b imm /\ BxT Z (w.heap.size + 1 + 1) 0 Ty.nil /\ Below w.heap.size w Z /\ Z.heap.size = w.heap.size + 3 :=
  ⟨_, rfl, ⟨by go_cell, by go_cell, by go_cell, by go_cell, by go_cell⟩, qBj _ _ (by simp), by go_grown, by simp⟩
 have HSZ : Hid (SeesT Z (.slice (some ⟨sb, so, none⟩) 8 scap) s) := hs.below hBZ
 have hsb0 : sb < w.heap.size := (hs.at8 h8 (r := 0) (by omega)).2.1
 have hsn1 : ¬ sb = w.heap.size + 1 + 1 := by omega
 have hsn2 : ¬ w.heap.size + 1 + 1 = sb := by omega
 clear hs
 subst hk
 go_enter Tryz.func17, Tryz.ntmps17
 go_wp2_with (first
  | (go_at_call 36; rw [<- HZ.out]; go_must (refine (qAy _ _ _ _ _ _).mono ?_); rintro e w1 ⟨rfl, hb1⟩; rw [hsrc.out]; go_must (have hz1 := hb1.size; obtain ⟨x0, x1, x2, x3, x4⟩ := Box.below hBoxZ hb1 (by omega)))
  | (go_at_call 37; go_must (refine (qBb (i := ⟨11, d, a, b, imm⟩) (w := w1) (HSZ.out.below hb1) h8 hb HT).mono ?_); rintro e w5 ⟨rfl, hb5⟩; go_must (have hB5 : Below Z.heap.size Z w5 := hb1.trans (hb5.mono hz1); have hz5 := hB5.size; clear x0 x1 x2 x3 x4; obtain ⟨x0, x1, x2, x3, x4⟩ := Box.below hBoxZ hB5 (by omega); obtain ⟨c0, c1, c2, c3, f0, f1, f2, f3⟩ := (BxT.below hBxZ hB5 (by omega)).parts; clear hb5)))
 go_ret
 exact ⟨rfl, qAa (qAa (qAa (qAa (hBZ.trans (hB5.mono (by omega))) (by omega)) (by omega)) (by omega)) (by omega)⟩
set_option maxHeartbeats 800000 in
theorem asks_two_first (vm : Value) (cb co N ccap p : Nat) (op d a b imm : Int) (sb so scap : Nat) (s : St) (vh : Value) (w : World) (hcb : cb < w.heap.size) (hAi : At w cb (co + p * 5) ⟨op, d, a, b, imm⟩) (hpN : p < N) (hN : N <= ccap) (hcc : ccap <= 9223372036854775807)
  (hs : SeesT w (.slice (some ⟨sb, so, none⟩) 8 scap) s) (h8 : s.length = 8) (hb : b = 8 ∨ (0 <= b /\ b <= 7)) (hsrc : Hid (sourceB op d a b imm = true)) (tk tl th tm : Int) (HT : Hid (srcT ⟨op, d, a, b, imm⟩ s = ⟨tk, tl, th, tm⟩)) (hop : (1 <= op /\ op <= 10) ∨ op = 12 ∨ (16 <= op /\ op <= 19)) (ha : 0 <= a /\ a <= 7) (ak al ah am : Int) (HA : Hid (regT s a = ⟨ak, al, ah, am⟩)) (hk : ¬ ak = 1) :
  Calls Tryz.prog 17 #[.agg #[vm, .slice (some ⟨cb, co, none⟩) N ccap], .int .i64 p, .slice (some ⟨sb, so, none⟩) 8 scap, vh] w fun e w' => e = .returned (.int .i64 33) /\ Below w.heap.size w w' := by
 obtain ⟨an, rfl⟩ := Int.eq_ofNat_of_zero_le ha.1
 have ha7 : an < 8 := by omega
 have haI : (an : Int) < 8 := by omega
 have haJ : (0 : Int) <= an := by omega
 obtain ⟨m0, m1, m2, m3, m4⟩ := hAi
 simp only at m0 m1 m2 m3 m4
 obtain ⟨Z, HZ, hBoxZ, hBxZ, hBZ, hzZ⟩ : ∃ Z, Hid (Z = ((w.alloc (.cells #[vm, .slice (some ⟨cb, co, none⟩) N ccap] 25)).alloc (instO op d an b imm)).alloc (.cells #[.int .i64 0, .int .u64 0, .int .u64 0, .int .i64 0] 46)) /\ Box Z (w.heap.size + 1) op d an b imm /\ BxT Z (w.heap.size + 1 + 1) 0 Ty.nil /\ Below w.heap.size w Z /\ Z.heap.size = w.heap.size + 3 :=
  ⟨_, rfl, ⟨by go_cell, by go_cell, by go_cell, by go_cell, by go_cell⟩, qBj _ _ (by simp), by go_grown, by simp⟩
 have HSZ : Hid (SeesT Z (.slice (some ⟨sb, so, none⟩) 8 scap) s) := hs.below hBZ
 have hsb0 : sb < w.heap.size := (hs.at8 h8 (r := 0) (by omega)).2.1
 have hsn1 : ¬ sb = w.heap.size + 1 + 1 := by omega
 have hsn2 : ¬ w.heap.size + 1 + 1 = sb := by omega
 clear hs
 have ho0 : (op == 0) = false := by simp; omega
 have ho1 : (op == 13) = false := by simp; omega
 have ho2 : (op == 15) = false := by simp; omega
 have ho3 : (op == 14) = false := by simp; omega
 have ho4 : (op == 21) = false := by simp; omega
 have ho5 : (op == 11) = false := by simp; omega
 have ho6 : (op == 20) = false := by simp; omega
 have ho7 : (op == 22) = false := by simp; omega
 have hk1 : (ak != 1) = true := by simp [hk]
 go_enter Tryz.func17, Tryz.ntmps17
 go_wp2_with (first
  | (go_at_call 36; rw [<- HZ.out]; go_must (refine (qAy _ _ _ _ _ _).mono ?_); rintro e w1 ⟨rfl, hb1⟩; rw [hsrc.out]; go_must (have hz1 := hb1.size; obtain ⟨x0, x1, x2, x3, x4⟩ := Box.below hBoxZ hb1 (by omega)))
  | (go_at_call 37; go_must (refine (qBb (i := ⟨op, d, an, b, imm⟩) (w := w1) (HSZ.out.below hb1) h8 hb HT).mono ?_); rintro e w5 ⟨rfl, hb5⟩; go_must (have hB5 : Below Z.heap.size Z w5 := hb1.trans (hb5.mono hz1); have hz5 := hB5.size; clear x0 x1 x2 x3 x4; obtain ⟨x0, x1, x2, x3, x4⟩ := Box.below hBoxZ hB5 (by omega); obtain ⟨c0, c1, c2, c3, f0, f1, f2, f3⟩ := (BxT.below hBxZ hB5 (by omega)).parts; (obtain ⟨hAt, hsb, hsc, hsm⟩ := (HSZ.out.below hB5).at8 h8 ha7); (have HA' := HA.out); (rw [show regT s (an : Int) = s.getD an Ty.nil from rfl] at HA'); (rw [HA'] at hAt); obtain ⟨g0, g1, g2, g3⟩ := hAt; simp only at g0 g1 g2 g3; clear hb5)))
 go_ret
 exact ⟨rfl, qAa (qAa (qAa (qAa (hBZ.trans (hB5.mono (by omega))) (by omega)) (by omega)) (by omega)) (by omega)⟩
set_option maxHeartbeats 800000 in
theorem asks_two_second (vm : Value) (cb co N ccap p : Nat) (op d a b imm : Int) (sb so scap : Nat) (s : St) (vh : Value) (w : World) (hcb : cb < w.heap.size) (hAi : At w cb (co + p * 5) ⟨op, d, a, b, imm⟩) (hpN : p < N) (hN : N <= ccap) (hcc : ccap <= 9223372036854775807)
  (hs : SeesT w (.slice (some ⟨sb, so, none⟩) 8 scap) s) (h8 : s.length = 8) (hb : b = 8 ∨ (0 <= b /\ b <= 7)) (hsrc : Hid (sourceB op d a b imm = true)) (tk tl th tm : Int) (HT : Hid (srcT ⟨op, d, a, b, imm⟩ s = ⟨tk, tl, th, tm⟩)) (hop : (1 <= op /\ op <= 10) ∨ op = 12 ∨ (16 <= op /\ op <= 19)) (ha : 0 <= a /\ a <= 7) (ak al ah am : Int) (HA : Hid (regT s a = ⟨ak, al, ah, am⟩)) (hk : ak = 1) (hk2 : ¬ tk = 1) :
  Calls Tryz.prog 17 #[.agg #[vm, .slice (some ⟨cb, co, none⟩) N ccap], .int .i64 p, .slice (some ⟨sb, so, none⟩) 8 scap, vh] w fun e w' => e = .returned (.int .i64 33) /\ Below w.heap.size w w' := by
 obtain ⟨an, rfl⟩ := Int.eq_ofNat_of_zero_le ha.1
 have ha7 : an < 8 := by omega
 have haI : (an : Int) < 8 := by omega
 have haJ : (0 : Int) <= an := by omega
 obtain ⟨m0, m1, m2, m3, m4⟩ := hAi
 simp only at m0 m1 m2 m3 m4
 obtain ⟨Z, HZ, hBoxZ, hBxZ, hBZ, hzZ⟩ : ∃ Z, Hid (Z = ((w.alloc (.cells #[vm, .slice (some ⟨cb, co, none⟩) N ccap] 25)).alloc (instO op d an b imm)).alloc (.cells #[.int .i64 0, .int .u64 0, .int .u64 0, .int .i64 0] 46)) /\ Box Z (w.heap.size + 1) op d an b imm /\ BxT Z (w.heap.size + 1 + 1) 0 Ty.nil /\ Below w.heap.size w Z /\ Z.heap.size = w.heap.size + 3 :=
  ⟨_, rfl, ⟨by go_cell, by go_cell, by go_cell, by go_cell, by go_cell⟩, qBj _ _ (by simp), by go_grown, by simp⟩
 have HSZ : Hid (SeesT Z (.slice (some ⟨sb, so, none⟩) 8 scap) s) := hs.below hBZ
 have hsb0 : sb < w.heap.size := (hs.at8 h8 (r := 0) (by omega)).2.1
 have hsn1 : ¬ sb = w.heap.size + 1 + 1 := by omega
 have hsn2 : ¬ w.heap.size + 1 + 1 = sb := by omega
 clear hs
 have ho0 : (op == 0) = false := by simp; omega
 have ho1 : (op == 13) = false := by simp; omega
 have ho2 : (op == 15) = false := by simp; omega
 have ho3 : (op == 14) = false := by simp; omega
 have ho4 : (op == 21) = false := by simp; omega
 have ho5 : (op == 11) = false := by simp; omega
 have ho6 : (op == 20) = false := by simp; omega
 have ho7 : (op == 22) = false := by simp; omega
 subst hk
 have hk1 : (tk != 1) = true := by simp [hk2]
 go_enter Tryz.func17, Tryz.ntmps17
 go_wp2_with (first
  | (go_at_call 36; rw [<- HZ.out]; go_must (refine (qAy _ _ _ _ _ _).mono ?_); rintro e w1 ⟨rfl, hb1⟩; rw [hsrc.out]; go_must (have hz1 := hb1.size; obtain ⟨x0, x1, x2, x3, x4⟩ := Box.below hBoxZ hb1 (by omega)))
  | (go_at_call 37; go_must (refine (qBb (i := ⟨op, d, an, b, imm⟩) (w := w1) (HSZ.out.below hb1) h8 hb HT).mono ?_); rintro e w5 ⟨rfl, hb5⟩; go_must (have hB5 : Below Z.heap.size Z w5 := hb1.trans (hb5.mono hz1); have hz5 := hB5.size; clear x0 x1 x2 x3 x4; obtain ⟨x0, x1, x2, x3, x4⟩ := Box.below hBoxZ hB5 (by omega); obtain ⟨c0, c1, c2, c3, f0, f1, f2, f3⟩ := (BxT.below hBxZ hB5 (by omega)).parts; (obtain ⟨hAt, hsb, hsc, hsm⟩ := (HSZ.out.below hB5).at8 h8 ha7); (have HA' := HA.out); (rw [show regT s (an : Int) = s.getD an Ty.nil from rfl] at HA'); (rw [HA'] at hAt); obtain ⟨g0, g1, g2, g3⟩ := hAt; simp only at g0 g1 g2 g3; clear hb5)))
 go_ret
 exact ⟨rfl, qAa (qAa (qAa (qAa (hBZ.trans (hB5.mono (by omega))) (by omega)) (by omega)) (by omega)) (by omega)⟩
set_option maxHeartbeats 800000 in
theorem asks_two_yes (vm : Value) (cb co N ccap p : Nat) (op d a b imm : Int) (sb so scap : Nat) (s : St) (vh : Value) (w : World) (hcb : cb < w.heap.size) (hAi : At w cb (co + p * 5) ⟨op, d, a, b, imm⟩) (hpN : p < N) (hN : N <= ccap) (hcc : ccap <= 9223372036854775807)
  (hs : SeesT w (.slice (some ⟨sb, so, none⟩) 8 scap) s) (h8 : s.length = 8) (hb : b = 8 ∨ (0 <= b /\ b <= 7)) (hsrc : Hid (sourceB op d a b imm = true)) (tk tl th tm : Int) (HT : Hid (srcT ⟨op, d, a, b, imm⟩ s = ⟨tk, tl, th, tm⟩)) (hop : (1 <= op /\ op <= 10) ∨ (16 <= op /\ op <= 19)) (ha : 0 <= a /\ a <= 7) (ak al ah am : Int) (HA : Hid (regT s a = ⟨ak, al, ah, am⟩)) (hk : ak = 1) (hk2 : tk = 1) :
  Calls Tryz.prog 17 #[.agg #[vm, .slice (some ⟨cb, co, none⟩) N ccap], .int .i64 p, .slice (some ⟨sb, so, none⟩) 8 scap, vh] w fun e w' => e = .returned (.int .i64 0) /\ Below w.heap.size w w' := by
 obtain ⟨an, rfl⟩ := Int.eq_ofNat_of_zero_le ha.1
 have ha7 : an < 8 := by omega
 have haI : (an : Int) < 8 := by omega
 have haJ : (0 : Int) <= an := by omega
 obtain ⟨m0, m1, m2, m3, m4⟩ := hAi
 simp only at m0 m1 m2 m3 m4
 obtain ⟨Z, HZ, hBoxZ, hBxZ, hBZ, hzZ⟩ : ∃ Z, Hid (Z = ((w.alloc (.cells #[vm, .slice (some ⟨cb, co, none⟩) N ccap] 25)).alloc (instO op d an b imm)).alloc (.cells #[.int .i64 0, .int .u64 0, .int .u64 0, .int .i64 0] 46)) /\ Box Z (w.heap.size + 1) op d an b imm /\ BxT Z (w.heap.size + 1 + 1) 0 Ty.nil /\ Below w.heap.size w Z /\ Z.heap.size = w.heap.size + 3 :=
  ⟨_, rfl, ⟨by go_cell, by go_cell, by go_cell, by go_cell, by go_cell⟩, qBj _ _ (by simp), by go_grown, by simp⟩
 have HSZ : Hid (SeesT Z (.slice (some ⟨sb, so, none⟩) 8 scap) s) := hs.below hBZ
 have hsb0 : sb < w.heap.size := (hs.at8 h8 (r := 0) (by omega)).2.1
 have hsn1 : ¬ sb = w.heap.size + 1 + 1 := by omega
 have hsn2 : ¬ w.heap.size + 1 + 1 = sb := by omega
 clear hs
 have ho0 : (op == 0) = false := by simp; omega
 have ho1 : (op == 13) = false := by simp; omega
 have ho2 : (op == 15) = false := by simp; omega
 have ho3 : (op == 14) = false := by simp; omega
 have ho4 : (op == 21) = false := by simp; omega
 have ho5 : (op == 11) = false := by simp; omega
 have ho6 : (op == 20) = false := by simp; omega
 have ho7 : (op == 22) = false := by simp; omega
 have ho8 : (op == 12) = false := by simp; omega
 subst hk hk2
 go_enter Tryz.func17, Tryz.ntmps17
 go_wp2_with (first
  | (go_at_call 36; rw [<- HZ.out]; go_must (refine (qAy _ _ _ _ _ _).mono ?_); rintro e w1 ⟨rfl, hb1⟩; rw [hsrc.out]; go_must (have hz1 := hb1.size; obtain ⟨x0, x1, x2, x3, x4⟩ := Box.below hBoxZ hb1 (by omega)))
  | (go_at_call 37; go_must (refine (qBb (i := ⟨op, d, an, b, imm⟩) (w := w1) (HSZ.out.below hb1) h8 hb HT).mono ?_); rintro e w5 ⟨rfl, hb5⟩; go_must (have hB5 : Below Z.heap.size Z w5 := hb1.trans (hb5.mono hz1); have hz5 := hB5.size; clear x0 x1 x2 x3 x4; obtain ⟨x0, x1, x2, x3, x4⟩ := Box.below hBoxZ hB5 (by omega); obtain ⟨c0, c1, c2, c3, f0, f1, f2, f3⟩ := (BxT.below hBxZ hB5 (by omega)).parts; (obtain ⟨hAt, hsb, hsc, hsm⟩ := (HSZ.out.below hB5).at8 h8 ha7); (have HA' := HA.out); (rw [show regT s (an : Int) = s.getD an Ty.nil from rfl] at HA'); (rw [HA'] at hAt); obtain ⟨g0, g1, g2, g3⟩ := hAt; simp only at g0 g1 g2 g3; clear hb5)))
 go_ret
 exact ⟨rfl, qAa (qAa (qAa (qAa (hBZ.trans (hB5.mono (by omega))) (by omega)) (by omega)) (by omega)) (by omega)⟩
set_option maxHeartbeats 800000 in
theorem asks_store_far (vm : Value) (cb co N ccap p : Nat) (d a b imm : Int) (sb so scap : Nat) (s : St) (vh : Value) (w : World) (hcb : cb < w.heap.size) (hAi : At w cb (co + p * 5) ⟨12, d, a, b, imm⟩) (hpN : p < N) (hN : N <= ccap) (hcc : ccap <= 9223372036854775807)
  (hs : SeesT w (.slice (some ⟨sb, so, none⟩) 8 scap) s) (h8 : s.length = 8) (hb : b = 8 ∨ (0 <= b /\ b <= 7)) (hsrc : Hid (sourceB 12 d a b imm = true)) (tk tl th tm : Int) (HT : Hid (srcT ⟨12, d, a, b, imm⟩ s = ⟨tk, tl, th, tm⟩)) (ha : 0 <= a /\ a <= 7) (ak al ah am : Int) (HA : Hid (regT s a = ⟨ak, al, ah, am⟩)) (hk : ak = 1) (hk2 : tk = 1) (hh : 15 < th) :
  Calls Tryz.prog 17 #[.agg #[vm, .slice (some ⟨cb, co, none⟩) N ccap], .int .i64 p, .slice (some ⟨sb, so, none⟩) 8 scap, vh] w fun e w' => e = .returned (.int .i64 35) /\ Below w.heap.size w w' := by
 obtain ⟨an, rfl⟩ := Int.eq_ofNat_of_zero_le ha.1
 have ha7 : an < 8 := by omega
 have haI : (an : Int) < 8 := by omega
 have haJ : (0 : Int) <= an := by omega
 obtain ⟨m0, m1, m2, m3, m4⟩ := hAi
 simp only at m0 m1 m2 m3 m4
 obtain ⟨Z, HZ, hBoxZ, hBxZ, hBZ, hzZ⟩ : ∃ Z, Hid (Z = ((w.alloc (.cells #[vm, .slice (some ⟨cb, co, none⟩) N ccap] 25)).alloc (instO 12 d an b imm)).alloc (.cells #[.int .i64 0, .int .u64 0, .int .u64 0, .int .i64 0] 46)) /\ Box Z (w.heap.size + 1) 12 d an b imm /\ BxT Z (w.heap.size + 1 + 1) 0 Ty.nil /\ Below w.heap.size w Z /\ Z.heap.size = w.heap.size + 3 :=
  ⟨_, rfl, ⟨by go_cell, by go_cell, by go_cell, by go_cell, by go_cell⟩, qBj _ _ (by simp), by go_grown, by simp⟩
 have HSZ : Hid (SeesT Z (.slice (some ⟨sb, so, none⟩) 8 scap) s) := hs.below hBZ
 have hsb0 : sb < w.heap.size := (hs.at8 h8 (r := 0) (by omega)).2.1
 have hsn1 : ¬ sb = w.heap.size + 1 + 1 := by omega
 have hsn2 : ¬ w.heap.size + 1 + 1 = sb := by omega
 clear hs
 subst hk hk2
 go_enter Tryz.func17, Tryz.ntmps17
 go_wp2_with (first
  | (go_at_call 36; rw [<- HZ.out]; go_must (refine (qAy _ _ _ _ _ _).mono ?_); rintro e w1 ⟨rfl, hb1⟩; rw [hsrc.out]; go_must (have hz1 := hb1.size; obtain ⟨x0, x1, x2, x3, x4⟩ := Box.below hBoxZ hb1 (by omega)))
  | (go_at_call 37; go_must (refine (qBb (i := ⟨12, d, an, b, imm⟩) (w := w1) (HSZ.out.below hb1) h8 hb HT).mono ?_); rintro e w5 ⟨rfl, hb5⟩; go_must (have hB5 : Below Z.heap.size Z w5 := hb1.trans (hb5.mono hz1); have hz5 := hB5.size; clear x0 x1 x2 x3 x4; obtain ⟨x0, x1, x2, x3, x4⟩ := Box.below hBoxZ hB5 (by omega); obtain ⟨c0, c1, c2, c3, f0, f1, f2, f3⟩ := (BxT.below hBxZ hB5 (by omega)).parts; (obtain ⟨hAt, hsb, hsc, hsm⟩ := (HSZ.out.below hB5).at8 h8 ha7); (have HA' := HA.out); (rw [show regT s (an : Int) = s.getD an Ty.nil from rfl] at HA'); (rw [HA'] at hAt); obtain ⟨g0, g1, g2, g3⟩ := hAt; simp only at g0 g1 g2 g3; clear hb5)))
 go_ret
 exact ⟨rfl, qAa (qAa (qAa (qAa (hBZ.trans (hB5.mono (by omega))) (by omega)) (by omega)) (by omega)) (by omega)⟩
set_option maxHeartbeats 800000 in
theorem asks_store_yes (vm : Value) (cb co N ccap p : Nat) (d a b imm : Int) (sb so scap : Nat) (s : St) (vh : Value) (w : World) (hcb : cb < w.heap.size) (hAi : At w cb (co + p * 5) ⟨12, d, a, b, imm⟩) (hpN : p < N) (hN : N <= ccap) (hcc : ccap <= 9223372036854775807)
  (hs : SeesT w (.slice (some ⟨sb, so, none⟩) 8 scap) s) (h8 : s.length = 8) (hb : b = 8 ∨ (0 <= b /\ b <= 7)) (hsrc : Hid (sourceB 12 d a b imm = true)) (tk tl th tm : Int) (HT : Hid (srcT ⟨12, d, a, b, imm⟩ s = ⟨tk, tl, th, tm⟩)) (ha : 0 <= a /\ a <= 7) (ak al ah am : Int) (HA : Hid (regT s a = ⟨ak, al, ah, am⟩)) (hk : ak = 1) (hk2 : tk = 1) (hh : ¬ 15 < th) :
  Calls Tryz.prog 17 #[.agg #[vm, .slice (some ⟨cb, co, none⟩) N ccap], .int .i64 p, .slice (some ⟨sb, so, none⟩) 8 scap, vh] w fun e w' => e = .returned (.int .i64 0) /\ Below w.heap.size w w' := by
 obtain ⟨an, rfl⟩ := Int.eq_ofNat_of_zero_le ha.1
 have ha7 : an < 8 := by omega
 have haI : (an : Int) < 8 := by omega
 have haJ : (0 : Int) <= an := by omega
 obtain ⟨m0, m1, m2, m3, m4⟩ := hAi
 simp only at m0 m1 m2 m3 m4
 obtain ⟨Z, HZ, hBoxZ, hBxZ, hBZ, hzZ⟩ : ∃ Z, Hid (Z = ((w.alloc (.cells #[vm, .slice (some ⟨cb, co, none⟩) N ccap] 25)).alloc (instO 12 d an b imm)).alloc (.cells #[.int .i64 0, .int .u64 0, .int .u64 0, .int .i64 0] 46)) /\ Box Z (w.heap.size + 1) 12 d an b imm /\ BxT Z (w.heap.size + 1 + 1) 0 Ty.nil /\ Below w.heap.size w Z /\ Z.heap.size = w.heap.size + 3 :=
  ⟨_, rfl, ⟨by go_cell, by go_cell, by go_cell, by go_cell, by go_cell⟩, qBj _ _ (by simp), by go_grown, by simp⟩
 have HSZ : Hid (SeesT Z (.slice (some ⟨sb, so, none⟩) 8 scap) s) := hs.below hBZ
 have hsb0 : sb < w.heap.size := (hs.at8 h8 (r := 0) (by omega)).2.1
 have hsn1 : ¬ sb = w.heap.size + 1 + 1 := by omega
 have hsn2 : ¬ w.heap.size + 1 + 1 = sb := by omega
 clear hs
 subst hk hk2
 go_enter Tryz.func17, Tryz.ntmps17
 go_wp2_with (first
  | (go_at_call 36; rw [<- HZ.out]; go_must (refine (qAy _ _ _ _ _ _).mono ?_); rintro e w1 ⟨rfl, hb1⟩; rw [hsrc.out]; go_must (have hz1 := hb1.size; obtain ⟨x0, x1, x2, x3, x4⟩ := Box.below hBoxZ hb1 (by omega)))
  | (go_at_call 37; go_must (refine (qBb (i := ⟨12, d, an, b, imm⟩) (w := w1) (HSZ.out.below hb1) h8 hb HT).mono ?_); rintro e w5 ⟨rfl, hb5⟩; go_must (have hB5 : Below Z.heap.size Z w5 := hb1.trans (hb5.mono hz1); have hz5 := hB5.size; clear x0 x1 x2 x3 x4; obtain ⟨x0, x1, x2, x3, x4⟩ := Box.below hBoxZ hB5 (by omega); obtain ⟨c0, c1, c2, c3, f0, f1, f2, f3⟩ := (BxT.below hBxZ hB5 (by omega)).parts; (obtain ⟨hAt, hsb, hsc, hsm⟩ := (HSZ.out.below hB5).at8 h8 ha7); (have HA' := HA.out); (rw [show regT s (an : Int) = s.getD an Ty.nil from rfl] at HA'); (rw [HA'] at hAt); obtain ⟨g0, g1, g2, g3⟩ := hAt; simp only at g0 g1 g2 g3; clear hb5)))
 go_ret
 exact ⟨rfl, qAa (qAa (qAa (qAa (hBZ.trans (hB5.mono (by omega))) (by omega)) (by omega)) (by omega)) (by omega)⟩
end Go.Proofs.YtkcofelpndlplaaGreat
