/-
  J9AsksB
  J9AsksC
  J9AsksD
  J9Asks
-/
import Derived.Test.YtkcofelpndlplaaGreatMT44
import Derived.Test.YtkcofelpndlplaaGreatMT5
import Derived.Test.YtkcofelpndlplaaGreatMT27
import Derived.Test.YtkcofelpndlplaaGreatMT18
import Derived.Deep.RegionHeld3
namespace Go.Proofs.YtkcofelpndlplaaGreat
open Go.RowKit
set_option linter.unusedVariables false
set_option linter.unusedSimpArgs false
set_option maxRecDepth 100000
set_option maxHeartbeats 800000 in
theorem asks_field (am : Option Addr) (nm mcap : Nat) (cb co N ccap p : Nat) (d a b imm : Int) (sb so scap : Nat) (s : St) (vh : Value) (w : World) (hcb : cb < w.heap.size) (hAi : At w cb (co + p * 5) ⟨13, d, a, b, imm⟩) (hpN : p < N) (hN : N <= ccap) (hcc : ccap <= 9223372036854775807)
  (hs : SeesT w (.slice (some ⟨sb, so, none⟩) 8 scap) s) (h8 : s.length = 8) (hsrc : Hid (sourceB 13 d a b imm = false))  :
  Calls Tryz.prog 17 #[.agg #[.slice am nm mcap, .slice (some ⟨cb, co, none⟩) N ccap], .int .i64 p, .slice (some ⟨sb, so, none⟩) 8 scap, vh] w fun e w' => e = .returned (.int .i64 0) /\ Below w.heap.size w w' := by
 obtain ⟨m0, m1, m2, m3, m4⟩ := hAi
 simp only at m0 m1 m2 m3 m4
 obtain ⟨Z, HZ, hBoxZ, hBxZ, hmZ, hBZ, hzZ⟩ : ∃ Z, Hid (Z = ((w.alloc (.cells #[.slice am nm mcap, .slice (some ⟨cb, co, none⟩) N ccap] 25)).alloc (instO 13 d a b imm)).alloc (.cells #[.int .i64 0, .int .u64 0, .int .u64 0, .int .i64 0] 46)) /\ Box Z (w.heap.size + 1) 13 d a b imm /\ BxT Z (w.heap.size + 1 + 1) 0 Ty.nil /\ Z.cell? ⟨w.heap.size, 0, none⟩ = some (.slice am nm mcap) /\ Below w.heap.size w Z /\ Z.heap.size = w.heap.size + 3 :=
  ⟨_, rfl, ⟨by go_cell, by go_cell, by go_cell, by go_cell, by go_cell⟩, qBj _ _ (by simp), by go_cell, by go_grown, by simp⟩
 have HSZ : Hid (SeesT Z (.slice (some ⟨sb, so, none⟩) 8 scap) s) := hs.below hBZ
 have hsb0 : sb < w.heap.size := (hs.at8 h8 (r := 0) (by omega)).2.1
 have hsn1 : ¬ sb = w.heap.size + 1 + 1 := by omega
 have hsn2 : ¬ w.heap.size + 1 + 1 = sb := by omega
 clear hs
 go_enter Tryz.func17, Tryz.ntmps17
 go_wp2_with (go_at_call 36; rw [<- HZ.out]; go_must (refine (qAy _ _ _ _ _ _).mono ?_); rintro e w1 ⟨rfl, hb1⟩; rw [hsrc.out]; go_must (have hz1 := hb1.size; have hmm := (hb1.cell (p := ⟨w.heap.size, 0, none⟩) (show w.heap.size < Z.heap.size by omega)).trans hmZ; obtain ⟨x0, x1, x2, x3, x4⟩ := Box.below hBoxZ hb1 (by omega)))
 go_ret
 exact ⟨rfl, hBZ.trans (hb1.mono (by omega))⟩
set_option maxHeartbeats 800000 in
theorem asks_jump (am : Option Addr) (nm mcap : Nat) (cb co N ccap p : Nat) (d a b imm : Int) (sb so scap : Nat) (s : St) (vh : Value) (w : World) (hcb : cb < w.heap.size) (hAi : At w cb (co + p * 5) ⟨15, d, a, b, imm⟩) (hpN : p < N) (hN : N <= ccap) (hcc : ccap <= 9223372036854775807)
  (hs : SeesT w (.slice (some ⟨sb, so, none⟩) 8 scap) s) (h8 : s.length = 8) (hsrc : Hid (sourceB 15 d a b imm = false))  :
  Calls Tryz.prog 17 #[.agg #[.slice am nm mcap, .slice (some ⟨cb, co, none⟩) N ccap], .int .i64 p, .slice (some ⟨sb, so, none⟩) 8 scap, vh] w fun e w' => e = .returned (.int .i64 0) /\ Below w.heap.size w w' := by
 obtain ⟨m0, m1, m2, m3, m4⟩ := hAi
 simp only at m0 m1 m2 m3 m4
 obtain ⟨Z, HZ, hBoxZ, hBxZ, hmZ, hBZ, hzZ⟩ : ∃ Z, Hid (Z = ((w.alloc (.cells #[.slice am nm mcap, .slice (some ⟨cb, co, none⟩) N ccap] 25)).alloc (instO 15 d a b imm)).alloc (.cells #[.int .i64 0, .int .u64 0, .int .u64 0, .int .i64 0] 46)) /\ Box Z (w.heap.size + 1) 15 d a b imm /\ BxT Z (w.heap.size + 1 + 1) 0 Ty.nil /\ Z.cell? ⟨w.heap.size, 0, none⟩ = some (.slice am nm mcap) /\ Below w.heap.size w Z /\ Z.heap.size = w.heap.size + 3 :=
  ⟨_, rfl, ⟨by go_cell, by go_cell, by go_cell, by go_cell, by go_cell⟩, qBj _ _ (by simp), by go_cell, by go_grown, by simp⟩
 have HSZ : Hid (SeesT Z (.slice (some ⟨sb, so, none⟩) 8 scap) s) := hs.below hBZ
 have hsb0 : sb < w.heap.size := (hs.at8 h8 (r := 0) (by omega)).2.1
 have hsn1 : ¬ sb = w.heap.size + 1 + 1 := by omega
 have hsn2 : ¬ w.heap.size + 1 + 1 = sb := by omega
 clear hs
 go_enter Tryz.func17, Tryz.ntmps17
 go_wp2_with (go_at_call 36; rw [<- HZ.out]; go_must (refine (qAy _ _ _ _ _ _).mono ?_); rintro e w1 ⟨rfl, hb1⟩; rw [hsrc.out]; go_must (have hz1 := hb1.size; have hmm := (hb1.cell (p := ⟨w.heap.size, 0, none⟩) (show w.heap.size < Z.heap.size by omega)).trans hmZ; obtain ⟨x0, x1, x2, x3, x4⟩ := Box.below hBoxZ hb1 (by omega)))
 go_ret
 exact ⟨rfl, hBZ.trans (hb1.mono (by omega))⟩
set_option maxHeartbeats 800000 in
theorem asks_map_no (am : Option Addr) (nm mcap : Nat) (cb co N ccap p : Nat) (d a b imm : Int) (sb so scap : Nat) (s : St) (vh : Value) (w : World) (hcb : cb < w.heap.size) (hAi : At w cb (co + p * 5) ⟨14, d, a, b, imm⟩) (hpN : p < N) (hN : N <= ccap) (hcc : ccap <= 9223372036854775807)
  (hs : SeesT w (.slice (some ⟨sb, so, none⟩) 8 scap) s) (h8 : s.length = 8) (hsrc : Hid (sourceB 14 d a b imm = false)) (hk : (nm : Int) <= imm) :
  Calls Tryz.prog 17 #[.agg #[.slice am nm mcap, .slice (some ⟨cb, co, none⟩) N ccap], .int .i64 p, .slice (some ⟨sb, so, none⟩) 8 scap, vh] w fun e w' => e = .returned (.int .i64 35) /\ Below w.heap.size w w' := by
 obtain ⟨m0, m1, m2, m3, m4⟩ := hAi
 simp only at m0 m1 m2 m3 m4
 obtain ⟨Z, HZ, hBoxZ, hBxZ, hmZ, hBZ, hzZ⟩ : ∃ Z, Hid (Z = ((w.alloc (.cells #[.slice am nm mcap, .slice (some ⟨cb, co, none⟩) N ccap] 25)).alloc (instO 14 d a b imm)).alloc (.cells #[.int .i64 0, .int .u64 0, .int .u64 0, .int .i64 0] 46)) /\ Box Z (w.heap.size + 1) 14 d a b imm /\ BxT Z (w.heap.size + 1 + 1) 0 Ty.nil /\ Z.cell? ⟨w.heap.size, 0, none⟩ = some (.slice am nm mcap) /\ Below w.heap.size w Z /\ Z.heap.size = w.heap.size + 3 :=
  ⟨_, rfl, ⟨by go_cell, by go_cell, by go_cell, by go_cell, by go_cell⟩, qBj _ _ (by simp), by go_cell, by go_grown, by simp⟩
 have HSZ : Hid (SeesT Z (.slice (some ⟨sb, so, none⟩) 8 scap) s) := hs.below hBZ
 have hsb0 : sb < w.heap.size := (hs.at8 h8 (r := 0) (by omega)).2.1
 have hsn1 : ¬ sb = w.heap.size + 1 + 1 := by omega
 have hsn2 : ¬ w.heap.size + 1 + 1 = sb := by omega
 clear hs
 go_enter Tryz.func17, Tryz.ntmps17
 go_wp2_with (go_at_call 36; rw [<- HZ.out]; go_must (refine (qAy _ _ _ _ _ _).mono ?_); rintro e w1 ⟨rfl, hb1⟩; rw [hsrc.out]; go_must (have hz1 := hb1.size; have hmm := (hb1.cell (p := ⟨w.heap.size, 0, none⟩) (show w.heap.size < Z.heap.size by omega)).trans hmZ; obtain ⟨x0, x1, x2, x3, x4⟩ := Box.below hBoxZ hb1 (by omega)))
 go_ret
 exact ⟨rfl, hBZ.trans (hb1.mono (by omega))⟩
set_option maxHeartbeats 800000 in
theorem asks_map_yes (am : Option Addr) (nm mcap : Nat) (cb co N ccap p : Nat) (d a b imm : Int) (sb so scap : Nat) (s : St) (vh : Value) (w : World) (hcb : cb < w.heap.size) (hAi : At w cb (co + p * 5) ⟨14, d, a, b, imm⟩) (hpN : p < N) (hN : N <= ccap) (hcc : ccap <= 9223372036854775807)
  (hs : SeesT w (.slice (some ⟨sb, so, none⟩) 8 scap) s) (h8 : s.length = 8) (hsrc : Hid (sourceB 14 d a b imm = false)) (hk : ¬ (nm : Int) <= imm) :
  Calls Tryz.prog 17 #[.agg #[.slice am nm mcap, .slice (some ⟨cb, co, none⟩) N ccap], .int .i64 p, .slice (some ⟨sb, so, none⟩) 8 scap, vh] w fun e w' => e = .returned (.int .i64 0) /\ Below w.heap.size w w' := by
 obtain ⟨m0, m1, m2, m3, m4⟩ := hAi
 simp only at m0 m1 m2 m3 m4
 obtain ⟨Z, HZ, hBoxZ, hBxZ, hmZ, hBZ, hzZ⟩ : ∃ Z, Hid (Z = ((w.alloc (.cells #[.slice am nm mcap, .slice (some ⟨cb, co, none⟩) N ccap] 25)).alloc (instO 14 d a b imm)).alloc (.cells #[.int .i64 0, .int .u64 0, .int .u64 0, .int .i64 0] 46)) /\ Box Z (w.heap.size + 1) 14 d a b imm /\ BxT Z (w.heap.size + 1 + 1) 0 Ty.nil /\ Z.cell? ⟨w.heap.size, 0, none⟩ = some (.slice am nm mcap) /\ Below w.heap.size w Z /\ Z.heap.size = w.heap.size + 3 :=
  ⟨_, rfl, ⟨by go_cell, by go_cell, by go_cell, by go_cell, by go_cell⟩, qBj _ _ (by simp), by go_cell, by go_grown, by simp⟩
 have HSZ : Hid (SeesT Z (.slice (some ⟨sb, so, none⟩) 8 scap) s) := hs.below hBZ
 have hsb0 : sb < w.heap.size := (hs.at8 h8 (r := 0) (by omega)).2.1
 have hsn1 : ¬ sb = w.heap.size + 1 + 1 := by omega
 have hsn2 : ¬ w.heap.size + 1 + 1 = sb := by omega
 clear hs
 have hk1 : imm < (nm : Int) := by omega
 go_enter Tryz.func17, Tryz.ntmps17
 go_wp2_with (go_at_call 36; rw [<- HZ.out]; go_must (refine (qAy _ _ _ _ _ _).mono ?_); rintro e w1 ⟨rfl, hb1⟩; rw [hsrc.out]; go_must (have hz1 := hb1.size; have hmm := (hb1.cell (p := ⟨w.heap.size, 0, none⟩) (show w.heap.size < Z.heap.size by omega)).trans hmZ; obtain ⟨x0, x1, x2, x3, x4⟩ := Box.below hBoxZ hb1 (by omega)))
 go_ret
 exact ⟨rfl, hBZ.trans (hb1.mono (by omega))⟩
set_option maxHeartbeats 800000 in
theorem asks_exit_no (am : Option Addr) (nm mcap : Nat) (cb co N ccap p : Nat) (d a b imm : Int) (sb so scap : Nat) (s : St) (vh : Value) (w : World) (hcb : cb < w.heap.size) (hAi : At w cb (co + p * 5) ⟨22, d, a, b, imm⟩) (hpN : p < N) (hN : N <= ccap) (hcc : ccap <= 9223372036854775807)
  (hs : SeesT w (.slice (some ⟨sb, so, none⟩) 8 scap) s) (h8 : s.length = 8) (hsrc : Hid (sourceB 22 d a b imm = false)) (ha : 0 <= a /\ a <= 7) (ak al ah an2 : Int) (HA : Hid (regT s a = ⟨ak, al, ah, an2⟩)) (hk : ¬ ak = 1) :
  Calls Tryz.prog 17 #[.agg #[.slice am nm mcap, .slice (some ⟨cb, co, none⟩) N ccap], .int .i64 p, .slice (some ⟨sb, so, none⟩) 8 scap, vh] w fun e w' => e = .returned (.int .i64 33) /\ Below w.heap.size w w' := by
 obtain ⟨an, rfl⟩ := Int.eq_ofNat_of_zero_le ha.1
 have ha7 : an < 8 := by omega
 have haI : (an : Int) < 8 := by omega
 have haJ : (0 : Int) <= an := by omega
 obtain ⟨m0, m1, m2, m3, m4⟩ := hAi
 simp only at m0 m1 m2 m3 m4
 obtain ⟨Z, HZ, hBoxZ, hBxZ, hmZ, hBZ, hzZ⟩ : ∃ Z, Hid (Z = ((w.alloc (.cells #[.slice am nm mcap, .slice (some ⟨cb, co, none⟩) N ccap] 25)).alloc (instO 22 d an b imm)).alloc (.cells #[.int .i64 0, .int .u64 0, .int .u64 0, .int .i64 0] 46)) /\ Box Z (w.heap.size + 1) 22 d an b imm /\ BxT Z (w.heap.size + 1 + 1) 0 Ty.nil /\ Z.cell? ⟨w.heap.size, 0, none⟩ = some (.slice am nm mcap) /\ Below w.heap.size w Z /\ Z.heap.size = w.heap.size + 3 :=
  ⟨_, rfl, ⟨by go_cell, by go_cell, by go_cell, by go_cell, by go_cell⟩, qBj _ _ (by simp), by go_cell, by go_grown, by simp⟩
 have HSZ : Hid (SeesT Z (.slice (some ⟨sb, so, none⟩) 8 scap) s) := hs.below hBZ
 have hsb0 : sb < w.heap.size := (hs.at8 h8 (r := 0) (by omega)).2.1
 have hsn1 : ¬ sb = w.heap.size + 1 + 1 := by omega
 have hsn2 : ¬ w.heap.size + 1 + 1 = sb := by omega
 clear hs
 have hk1 : (ak != 1) = true := by simp [hk]
 go_enter Tryz.func17, Tryz.ntmps17
 go_wp2_with (go_at_call 36; rw [<- HZ.out]; go_must (refine (qAy _ _ _ _ _ _).mono ?_); rintro e w1 ⟨rfl, hb1⟩; rw [hsrc.out]; go_must (have hz1 := hb1.size; have hmm := (hb1.cell (p := ⟨w.heap.size, 0, none⟩) (show w.heap.size < Z.heap.size by omega)).trans hmZ; obtain ⟨x0, x1, x2, x3, x4⟩ := Box.below hBoxZ hb1 (by omega); (obtain ⟨hAt, hsb, hsc, hsm⟩ := (HSZ.out.below hb1).at8 h8 ha7); (have HA' := HA.out); (rw [show regT s (an : Int) = s.getD an Ty.nil from rfl] at HA'); (rw [HA'] at hAt); obtain ⟨g0, g1, g2, g3⟩ := hAt; simp only at g0 g1 g2 g3))
 go_ret
 exact ⟨rfl, hBZ.trans (hb1.mono (by omega))⟩
set_option maxHeartbeats 800000 in
theorem asks_exit_yes (am : Option Addr) (nm mcap : Nat) (cb co N ccap p : Nat) (d a b imm : Int) (sb so scap : Nat) (s : St) (vh : Value) (w : World) (hcb : cb < w.heap.size) (hAi : At w cb (co + p * 5) ⟨22, d, a, b, imm⟩) (hpN : p < N) (hN : N <= ccap) (hcc : ccap <= 9223372036854775807)
  (hs : SeesT w (.slice (some ⟨sb, so, none⟩) 8 scap) s) (h8 : s.length = 8) (hsrc : Hid (sourceB 22 d a b imm = false)) (ha : 0 <= a /\ a <= 7) (ak al ah an2 : Int) (HA : Hid (regT s a = ⟨ak, al, ah, an2⟩)) (hk : ak = 1) :
  Calls Tryz.prog 17 #[.agg #[.slice am nm mcap, .slice (some ⟨cb, co, none⟩) N ccap], .int .i64 p, .slice (some ⟨sb, so, none⟩) 8 scap, vh] w fun e w' => e = .returned (.int .i64 0) /\ Below w.heap.size w w' := by
 obtain ⟨an, rfl⟩ := Int.eq_ofNat_of_zero_le ha.1
 have ha7 : an < 8 := by omega
 have haI : (an : Int) < 8 := by omega
 have haJ : (0 : Int) <= an := by omega
 obtain ⟨m0, m1, m2, m3, m4⟩ := hAi
 simp only at m0 m1 m2 m3 m4
 obtain ⟨Z, HZ, hBoxZ, hBxZ, hmZ, hBZ, hzZ⟩ : ∃ Z, Hid (Z = ((w.alloc (.cells #[.slice am nm mcap, .slice (some ⟨cb, co, none⟩) N ccap] 25)).alloc (instO 22 d an b imm)).alloc (.cells #[.int .i64 0, .int .u64 0, .int .u64 0, .int .i64 0] 46)) /\ Box Z (w.heap.size + 1) 22 d an b imm /\ BxT Z (w.heap.size + 1 + 1) 0 Ty.nil /\ Z.cell? ⟨w.heap.size, 0, none⟩ = some (.slice am nm mcap) /\ Below w.heap.size w Z /\ Z.heap.size = w.heap.size + 3 :=
  ⟨_, rfl, ⟨by go_cell, by go_cell, by go_cell, by go_cell, by go_cell⟩, qBj _ _ (by simp), by go_cell, by go_grown, by simp⟩
 have HSZ : Hid (SeesT Z (.slice (some ⟨sb, so, none⟩) 8 scap) s) := hs.below hBZ
 have hsb0 : sb < w.heap.size := (hs.at8 h8 (r := 0) (by omega)).2.1
 have hsn1 : ¬ sb = w.heap.size + 1 + 1 := by omega
 have hsn2 : ¬ w.heap.size + 1 + 1 = sb := by omega
 clear hs
 subst hk
 go_enter Tryz.func17, Tryz.ntmps17
 go_wp2_with (go_at_call 36; rw [<- HZ.out]; go_must (refine (qAy _ _ _ _ _ _).mono ?_); rintro e w1 ⟨rfl, hb1⟩; rw [hsrc.out]; go_must (have hz1 := hb1.size; have hmm := (hb1.cell (p := ⟨w.heap.size, 0, none⟩) (show w.heap.size < Z.heap.size by omega)).trans hmZ; obtain ⟨x0, x1, x2, x3, x4⟩ := Box.below hBoxZ hb1 (by omega); (obtain ⟨hAt, hsb, hsc, hsm⟩ := (HSZ.out.below hb1).at8 h8 ha7); (have HA' := HA.out); (rw [show regT s (an : Int) = s.getD an Ty.nil from rfl] at HA'); (rw [HA'] at hAt); obtain ⟨g0, g1, g2, g3⟩ := hAt; simp only at g0 g1 g2 g3))
 go_ret
 exact ⟨rfl, hBZ.trans (hb1.mono (by omega))⟩
theorem args_len9 (h : Int) : (argsL h).length <= 3 := by
 unfold argsL
 repeat' split
 all_goals simp
theorem sizeT9 (w : World) : (Go.sizeOf 46).run Tryz.prog w = .ok 4 w := by
 simp [Go.sizeOf]
 rfl
theorem run_midT {t e : TypeId} (ht : Tryz.prog.underlying t = some (.slice e)) (hs : ∀ w, (Go.sizeOf e).run Tryz.prog w = .ok 4 w) (a : Option Addr) (len cap l h : Nat) (hl : l <= h) (hh : h <= cap) (w : World) :
  (Instr.slice t (.slice a len cap) (some (.int .i64 l)) (some (.int .i64 h)) none).run Tryz.prog w = .ok (cutT a l h cap) w := by
 have h0 : (l : Int) <= (h : Int) := by omega
 have h1 : (h : Int) <= (cap : Int) := by omega
 simp [Instr.slice, run_underlying ht, Instr.sliceBounds, run_sliceBound, h0, h1, hs, cutT]
theorem hrcheck_as9 {h : Int} {v : Value} {xs : List Ty} {w : World} (hs : SeesT w v xs) {r : Int} (hr : Hid (r = hcheckL h xs)) : Calls Tryz.prog 39 #[.int .i64 h, v] w fun e w' => e = .returned (.int .i64 r) /\ Below w.heap.size w w' := by
 rw [hr.out]; exact hrcheck_any h v xs w hs
set_option maxHeartbeats 800000 in
theorem asks_call (am : Option Addr) (nm mcap : Nat) (cb co N ccap p : Nat) (d a b imm : Int) (sb so scap : Nat) (s : St) (vh : Value) (w : World) (hcb : cb < w.heap.size) (hAi : At w cb (co + p * 5) ⟨21, d, a, b, imm⟩) (hpN : p < N) (hN : N <= ccap) (hcc : ccap <= 9223372036854775807)
  (hs : SeesT w (.slice (some ⟨sb, so, none⟩) 8 scap) s) (h8 : s.length = 8) (hsrc : Hid (sourceB 21 d a b imm = false)) :
  Calls Tryz.prog 17 #[.agg #[.slice am nm mcap, .slice (some ⟨cb, co, none⟩) N ccap], .int .i64 p, .slice (some ⟨sb, so, none⟩) 8 scap, vh] w fun e w' => e = .returned (.int .i64 (hcheckL imm ((s.drop 1).take (argsL imm).length))) /\ Below w.heap.size w w' := by
 obtain ⟨m0, m1, m2, m3, m4⟩ := hAi
 simp only at m0 m1 m2 m3 m4
 obtain ⟨Z, HZ, hBoxZ, hBxZ, hmZ, hBZ, hzZ⟩ : ∃ Z, Hid (Z = ((w.alloc (.cells #[.slice am nm mcap, .slice (some ⟨cb, co, none⟩) N ccap] 25)).alloc (instO 21 d a b imm)).alloc (.cells #[.int .i64 0, .int .u64 0, .int .u64 0, .int .i64 0] 46)) /\ Box Z (w.heap.size + 1) 21 d a b imm /\ BxT Z (w.heap.size + 1 + 1) 0 Ty.nil /\ Z.cell? ⟨w.heap.size, 0, none⟩ = some (.slice am nm mcap) /\ Below w.heap.size w Z /\ Z.heap.size = w.heap.size + 3 :=
  ⟨_, rfl, ⟨by go_cell, by go_cell, by go_cell, by go_cell, by go_cell⟩, qBj _ _ (by simp), by go_cell, by go_grown, by simp⟩
 have HSZ : Hid (SeesT Z (.slice (some ⟨sb, so, none⟩) 8 scap) s) := hs.below hBZ
 have hsb0 : sb < w.heap.size := (hs.at8 h8 (r := 0) (by omega)).2.1
 have hsn1 : ¬ sb = w.heap.size + 1 + 1 := by omega
 have hsn2 : ¬ w.heap.size + 1 + 1 = sb := by omega
 clear hs
 obtain ⟨_, _, hsc, hsm⟩ := HSZ.out.at8 h8 (r := 0) (by omega)
 obtain ⟨n, HL⟩ : ∃ n, Hid ((argsL imm).length = n) := ⟨_, rfl⟩
 have hn3 : n <= 3 := by rw [<- HL.out]; exact args_len9 _
 rw [HL.out]
 obtain ⟨r, HR⟩ : ∃ r, Hid (r = hcheckL imm ((s.drop 1).take n)) := ⟨_, rfl⟩
 rw [<- HR.out]
 have hwr : IntKind.i64.wrap (1 + (n : Int)) = 1 + (n : Int) := by rw [IntKind.wrap_i64]; omega
 have hsl : ∀ wx : World, (Instr.slice 57 (.slice (some ⟨sb, so, none⟩) 8 scap) (some (.int .i64 1)) (some (.int .i64 (1 + (n : Int)))) none).run Tryz.prog wx = .ok (cutT (some ⟨sb, so, none⟩) 1 (1 + n) scap) wx := fun wx => by
  have := run_midT Tryz.underlying57 sizeT9 (some ⟨sb, so, none⟩) 8 scap 1 (1 + n) (by omega) (by omega) wx
  simpa using this
 have HCut : Hid (∀ wx, SeesT wx (.slice (some ⟨sb, so, none⟩) 8 scap) s -> SeesT wx (cutT (some ⟨sb, so, none⟩) 1 (1 + n) scap) ((s.drop 1).take n)) := fun wx hx => by
  have := SeesT.cut (xs := s) (a := some ⟨sb, so, none⟩) (cap := scap) (w := wx) (by rw [h8]; exact hx) 1 (1 + n) scap (by omega) (by omega) (by omega) (Nat.le_refl _)
  rw [List.drop_take] at this
  simpa using this
 go_enter Tryz.func17, Tryz.ntmps17
 go_wp2_with (first
  | (go_at_call 36; rw [<- HZ.out]; go_must (refine (qAy _ _ _ _ _ _).mono ?_); rintro e w1 ⟨rfl, hb1⟩; rw [hsrc.out]; go_must (have hz1 := hb1.size; obtain ⟨x0, x1, x2, x3, x4⟩ := Box.below hBoxZ hb1 (by omega)))
  | (go_at_call 38; go_must (refine (rargs_any imm _).mono ?_); rintro e w2 ⟨u2, rfl, hown2, hb2⟩; go_must (have hB2 : Below Z.heap.size Z w2 := hb1.trans (hb2.mono hz1); have hz2 := hB2.size; rw [HL.out] at hown2; obtain ⟨a2, c2, rfl⟩ := qCj hown2; clear x0 x1 x2 x3 x4 hown2; obtain ⟨x0, x1, x2, x3, x4⟩ := Box.below hBoxZ hB2 (by omega); clear hb2)))
 go_region_held3 (fun w' => w'.cell? ⟨w.heap.size + 1, 4, none⟩ = some (.int .i64 imm))
  (first | (with_reducible exact y4) | exact x4)
  (first
   | (go_at_call 39; refine (hrcheck_as9 (w := w2.drew) (HCut.out w2 (HSZ.out.below hB2)) HR).mono ?_; rintro e w3 ⟨rfl, hb3'⟩; (have hb3 : Below w2.heap.size w2 w3 := qAf hb3'); (have hB3 : Below Z.heap.size Z w3 := hB2.trans (hb3.mono hz2)); (have y4 := (hb3.cell (p := ⟨w.heap.size + 1, 4, none⟩) (show w.heap.size + 1 < w2.heap.size by omega)).trans x4); clear hb3'))
 go_wp2
 go_ret
 exact ⟨rfl, hBZ.trans (hB3.mono (by omega))⟩
set_option maxHeartbeats 800000 in
theorem asks_loop_no (am : Option Addr) (nm mcap : Nat) (cb co N ccap p : Nat) (d a b imm : Int) (sb so scap : Nat) (s : St) (head : St) (eb eo ecap : Nat) (w : World) (hcb : cb < w.heap.size) (hAi : At w cb (co + p * 5) ⟨20, d, a, b, imm⟩) (hpN : p < N) (hN : N <= ccap) (hcc : ccap <= 9223372036854775807)
  (hs : SeesT w (.slice (some ⟨sb, so, none⟩) 8 scap) s) (h8 : s.length = 8) (he : SeesT w (.slice (some ⟨eb, eo, none⟩) 8 ecap) head) (he8 : head.length = 8) (hsrc : Hid (sourceB 20 d a b imm = false)) (ha : 0 <= a /\ a <= 7) (ak al ah an2 : Int) (HA : Hid (regT s a = ⟨ak, al, ah, an2⟩)) (hk : ¬ ak = 1) :
  Calls Tryz.prog 17 #[.agg #[.slice am nm mcap, .slice (some ⟨cb, co, none⟩) N ccap], .int .i64 p, .slice (some ⟨sb, so, none⟩) 8 scap, .slice (some ⟨eb, eo, none⟩) 8 ecap] w fun e w' => e = .returned (.int .i64 33) /\ Below w.heap.size w w' := by
 obtain ⟨an, rfl⟩ := Int.eq_ofNat_of_zero_le ha.1
 have ha7 : an < 8 := by omega
 have haI : (an : Int) < 8 := by omega
 have haJ : (0 : Int) <= an := by omega
 obtain ⟨m0, m1, m2, m3, m4⟩ := hAi
 simp only at m0 m1 m2 m3 m4
 obtain ⟨Z, HZ, hBoxZ, hBxZ, hmZ, hBZ, hzZ⟩ : ∃ Z, Hid (Z = ((w.alloc (.cells #[.slice am nm mcap, .slice (some ⟨cb, co, none⟩) N ccap] 25)).alloc (instO 20 d an b imm)).alloc (.cells #[.int .i64 0, .int .u64 0, .int .u64 0, .int .i64 0] 46)) /\ Box Z (w.heap.size + 1) 20 d an b imm /\ BxT Z (w.heap.size + 1 + 1) 0 Ty.nil /\ Z.cell? ⟨w.heap.size, 0, none⟩ = some (.slice am nm mcap) /\ Below w.heap.size w Z /\ Z.heap.size = w.heap.size + 3 :=
  ⟨_, rfl, ⟨by go_cell, by go_cell, by go_cell, by go_cell, by go_cell⟩, qBj _ _ (by simp), by go_cell, by go_grown, by simp⟩
 have HSZ : Hid (SeesT Z (.slice (some ⟨sb, so, none⟩) 8 scap) s) := hs.below hBZ
 have hsb0 : sb < w.heap.size := (hs.at8 h8 (r := 0) (by omega)).2.1
 have hsn1 : ¬ sb = w.heap.size + 1 + 1 := by omega
 have hsn2 : ¬ w.heap.size + 1 + 1 = sb := by omega
 clear hs
 have hk1 : (ak != 1) = true := by simp [hk]
 go_enter Tryz.func17, Tryz.ntmps17
 go_wp2_with (go_at_call 36; rw [<- HZ.out]; go_must (refine (qAy _ _ _ _ _ _).mono ?_); rintro e w1 ⟨rfl, hb1⟩; rw [hsrc.out]; go_must (have hz1 := hb1.size; obtain ⟨x0, x1, x2, x3, x4⟩ := Box.below hBoxZ hb1 (by omega); (obtain ⟨hAt, hsb, hsc, hsm⟩ := (HSZ.out.below hb1).at8 h8 ha7); (have HA' := HA.out); (rw [show regT s (an : Int) = s.getD an Ty.nil from rfl] at HA'); (rw [HA'] at hAt); obtain ⟨g0, g1, g2, g3⟩ := hAt; simp only at g0 g1 g2 g3))
 go_ret
 exact ⟨rfl, hBZ.trans (hb1.mono (by omega))⟩
set_option maxHeartbeats 1600000 in
theorem asks_loop (am : Option Addr) (nm mcap : Nat) (cb co N ccap p : Nat) (d a b imm : Int) (sb so scap : Nat) (s : St) (head : St) (eb eo ecap : Nat) (w : World) (hcb : cb < w.heap.size) (hAi : At w cb (co + p * 5) ⟨20, d, a, b, imm⟩) (hpN : p < N) (hN : N <= ccap) (hcc : ccap <= 9223372036854775807)
  (hs : SeesT w (.slice (some ⟨sb, so, none⟩) 8 scap) s) (h8 : s.length = 8) (he : SeesT w (.slice (some ⟨eb, eo, none⟩) 8 ecap) head) (he8 : head.length = 8) (hsrc : Hid (sourceB 20 d a b imm = false)) (ha : 0 <= a /\ a <= 7) (ak al ah an2 : Int) (HA : Hid (regT s a = ⟨ak, al, ah, an2⟩)) (hk : ak = 1) :
  Calls Tryz.prog 17 #[.agg #[.slice am nm mcap, .slice (some ⟨cb, co, none⟩) N ccap], .int .i64 p, .slice (some ⟨sb, so, none⟩) 8 scap, .slice (some ⟨eb, eo, none⟩) 8 ecap] w fun e w' => e = .returned (.int .i64 (if fitsAll s head = true then 0 else 33)) /\ Below w.heap.size w w' := by
 obtain ⟨an, rfl⟩ := Int.eq_ofNat_of_zero_le ha.1
 have ha7 : an < 8 := by omega
 have haI : (an : Int) < 8 := by omega
 have haJ : (0 : Int) <= an := by omega
 obtain ⟨m0, m1, m2, m3, m4⟩ := hAi
 simp only at m0 m1 m2 m3 m4
 obtain ⟨Z, HZ, hBoxZ, hBxZ, hmZ, hBZ, hzZ⟩ : ∃ Z, Hid (Z = ((w.alloc (.cells #[.slice am nm mcap, .slice (some ⟨cb, co, none⟩) N ccap] 25)).alloc (instO 20 d an b imm)).alloc (.cells #[.int .i64 0, .int .u64 0, .int .u64 0, .int .i64 0] 46)) /\ Box Z (w.heap.size + 1) 20 d an b imm /\ BxT Z (w.heap.size + 1 + 1) 0 Ty.nil /\ Z.cell? ⟨w.heap.size, 0, none⟩ = some (.slice am nm mcap) /\ Below w.heap.size w Z /\ Z.heap.size = w.heap.size + 3 :=
  ⟨_, rfl, ⟨by go_cell, by go_cell, by go_cell, by go_cell, by go_cell⟩, qBj _ _ (by simp), by go_cell, by go_grown, by simp⟩
 have HSZ : Hid (SeesT Z (.slice (some ⟨sb, so, none⟩) 8 scap) s) := hs.below hBZ
 have hsb0 : sb < w.heap.size := (hs.at8 h8 (r := 0) (by omega)).2.1
 have hsn1 : ¬ sb = w.heap.size + 1 + 1 := by omega
 have hsn2 : ¬ w.heap.size + 1 + 1 = sb := by omega
 clear hs
 subst hk
 have HEZ : Hid (SeesT Z (.slice (some ⟨eb, eo, none⟩) 8 ecap) head) := he.below hBZ
 obtain ⟨A, HAns⟩ : ∃ A : Int, Hid (A = if fitsAll s head = true then 0 else 33) := ⟨_, rfl⟩
 rw [<- HAns.out]
 clear he
 go_enter Tryz.func17, Tryz.ntmps17
 go_wp2_with (go_at_call 36; rw [<- HZ.out]; go_must (refine (qAy _ _ _ _ _ _).mono ?_); rintro e w1 ⟨rfl, hb1⟩; rw [hsrc.out]; go_must (have hz1 := hb1.size; obtain ⟨x0, x1, x2, x3, x4⟩ := Box.below hBoxZ hb1 (by omega); (obtain ⟨hAt, hsb, hsc, hsm⟩ := (HSZ.out.below hb1).at8 h8 ha7); (have HA' := HA.out); (rw [show regT s (an : Int) = s.getD an Ty.nil from rfl] at HA'); (rw [HA'] at hAt); obtain ⟨g0, g1, g2, g3⟩ := hAt; simp only at g0 g1 g2 g3))
 go_loopw [13] (fun i wr => ∃ r : Nat, r <= 8 /\ i = .int .i64 r /\ Hid ((List.range r).all (fun r => fitsJ (s.getD r Ty.nil) (head.getD r Ty.nil)) = true) /\ Below w1.heap.size w1 wr) (fun i _ => 8 - (intOf i).toNat)
 case atStart => exact ⟨0, by omega, rfl, rfl, Below.refl _ _⟩
 case round =>
  obtain ⟨r, hr8, rfl, HQ, hbr⟩ := hrel
  have hzr := hbr.size
  have hBr : Below Z.heap.size Z wr := hb1.trans (hbr.mono hz1)
  by_cases hlt : r < 8
  ·have hrI : (r : Int) < 8 := by omega
   have hrJ : (0 : Int) <= r := by omega
   obtain ⟨hAs, hsb', hsc', hsm'⟩ := (HSZ.out.below hBr).at8 h8 hlt
   obtain ⟨hAe, heb, hec, hem⟩ := (HEZ.out.below hBr).at8 he8 hlt
   obtain ⟨sk, sl, sh, sm, HS⟩ : ∃ k lo hi m, Hid (s.getD r Ty.nil = ⟨k, lo, hi, m⟩) := ⟨_, _, _, _, rfl⟩
   obtain ⟨ek, el, eh, em, HE⟩ : ∃ k lo hi m, Hid (head.getD r Ty.nil = ⟨k, lo, hi, m⟩) := ⟨_, _, _, _, rfl⟩
   rw [HS.out] at hAs
   rw [HE.out] at hAe
   have hP : At2 wr sb (so + r * 4) ⟨sk, sl, sh, sm⟩ eb (eo + r * 4) ⟨ek, el, eh, em⟩ := ⟨hAs, hAe⟩
   obtain ⟨q, HF⟩ : ∃ q, Hid (q = fitsJ ⟨sk, sl, sh, sm⟩ ⟨ek, el, eh, em⟩) := ⟨_, rfl⟩
   have HN : Hid (fitsJ (s.getD r Ty.nil) (head.getD r Ty.nil) = q) := by show _ = _; rw [HS.out, HE.out, HF.out]
   clear hAs hAe x0 x1 x2 x3 x4 g0 g1 g2 g3
   cases q
   ·have HA0 : Hid (fitsAll s head = false) := by
     show _ = _
     unfold fitsAll
     rw [List.all_eq_false]
     exact ⟨r, List.mem_range.2 hlt, by rw [HN.out]; simp⟩
    go_wp2
    go_region_held3 (fun w' => (w'.cell? ⟨sb, so + r * 4, none⟩ = some (.int .i64 sk) /\ w'.cell? ⟨sb, so + r * 4 + 1, none⟩ = some (.int .u64 sl) /\ w'.cell? ⟨sb, so + r * 4 + 2, none⟩ = some (.int .u64 sh) /\ w'.cell? ⟨sb, so + r * 4 + 3, none⟩ = some (.int .i64 sm)) /\ w'.cell? ⟨eb, eo + r * 4, none⟩ = some (.int .i64 ek) /\ w'.cell? ⟨eb, eo + r * 4 + 1, none⟩ = some (.int .u64 el) /\ w'.cell? ⟨eb, eo + r * 4 + 2, none⟩ = some (.int .u64 eh) /\ w'.cell? ⟨eb, eo + r * 4 + 3, none⟩ = some (.int .i64 em))
     (first | (with_reducible exact hP2) | exact hP)
     (first
      | (go_at_call 40; refine (jfits_as (a := ⟨sk, sl, sh, sm⟩) (b := ⟨ek, el, eh, em⟩) HF wr.drew).mono ?_; rintro e w2 ⟨rfl, hb2'⟩; (have hb2 : Below wr.heap.size wr w2 := qAf hb2'); have hP2 := At2.below hP hb2 hsb' heb; clear hb2'))
    go_wp2
    go_ret
    exact ⟨reti (by rw [HAns.out, HA0.out]; rfl), hBZ.trans ((hBr.trans (hb2.mono hBr.size)).mono (by omega))⟩
   ·have HQ1 : Hid ((List.range (r + 1)).all (fun r => fitsJ (s.getD r Ty.nil) (head.getD r Ty.nil)) = true) := by
     show _ = _
     rw [List.range_succ, List.all_append, HQ.out]
     simp only [List.all_cons, List.all_nil, HN.out, Bool.and_true]
    go_wp2
    go_region_held3 (fun w' => (w'.cell? ⟨sb, so + r * 4, none⟩ = some (.int .i64 sk) /\ w'.cell? ⟨sb, so + r * 4 + 1, none⟩ = some (.int .u64 sl) /\ w'.cell? ⟨sb, so + r * 4 + 2, none⟩ = some (.int .u64 sh) /\ w'.cell? ⟨sb, so + r * 4 + 3, none⟩ = some (.int .i64 sm)) /\ w'.cell? ⟨eb, eo + r * 4, none⟩ = some (.int .i64 ek) /\ w'.cell? ⟨eb, eo + r * 4 + 1, none⟩ = some (.int .u64 el) /\ w'.cell? ⟨eb, eo + r * 4 + 2, none⟩ = some (.int .u64 eh) /\ w'.cell? ⟨eb, eo + r * 4 + 3, none⟩ = some (.int .i64 em))
     (first | (with_reducible exact hP2) | exact hP)
     (first
      | (go_at_call 40; refine (jfits_as (a := ⟨sk, sl, sh, sm⟩) (b := ⟨ek, el, eh, em⟩) HF wr.drew).mono ?_; rintro e w2 ⟨rfl, hb2'⟩; (have hb2 : Below wr.heap.size wr w2 := qAf hb2'); have hP2 := At2.below hP hb2 hsb' heb; clear hb2'))
    go_wp2
    go_roundw
    case rel => exact ⟨r + 1, by omega, by go_num, HQ1, hbr.trans (hb2.mono hzr)⟩
    case measure => simp [intOf]; omega
  ·obtain rfl : r = 8 := by omega
   have HA1 : Hid (fitsAll s head = true) := HQ
   go_wp2
   go_ret
   exact ⟨reti (by rw [HAns.out, HA1.out]; rfl), hBZ.trans (hBr.mono (by omega))⟩
theorem asks_any (am : Option Addr) (nm mcap : Nat) (vc vs vh : Value) (xs : List In) (p : Nat) (s head : St) (w : World) (hc : SeesI w vc xs) (hp : p < xs.length) (hs : SeesT w vs s) (h8 : s.length = 8) (hr : (nth xs p).right = true)
  (hh : (nth xs p).op = 20 -> SeesT w vh head /\ head.length = 8) :
  Calls Tryz.prog 17 #[.agg #[.slice am nm mcap, vc], .int .i64 p, vs, vh] w fun e w' => e = .returned (.int .i64 (asksJ nm (nth xs p) s head)) /\ Below w.heap.size w w' := by
 obtain ⟨a1, cap, rfl, hcap, hmax, _, hcell⟩ := hc
 obtain ⟨cb, co, rfl, hcb, hat⟩ := hcell (fun e => by rw [e] at hp; simp at hp)
 obtain ⟨a2, scap, rfl, hscap, hsmax, hsn, hscell⟩ := id hs
 obtain ⟨sb, so, rfl, hsb, _⟩ := hscell (fun e => by rw [e] at h8; simp at h8)
 have hA := hat p hp
 unfold maxLen at hmax
 have hs8 : SeesT w (.slice (some ⟨sb, so, none⟩) 8 scap) s := by have := hs; rw [h8] at this; exact this
 rw [h8]
 have hnth : xs.getD p In.nil = nth xs p := rfl
 rw [hnth] at hA
 have h0 : 0 <= (nth xs p).op /\ (nth xs p).op <= 22 := right_op hr
 generalize nth xs p = i at *
 obtain ⟨op, d, a, b, imm⟩ := i
 simp only at h0 hh
 obtain ⟨tk, tl, th, tm, HT⟩ : ∃ k lo hi m, Hid (srcT ⟨op, d, a, b, imm⟩ s = ⟨k, lo, hi, m⟩) := ⟨_, _, _, _, rfl⟩
 obtain ⟨ak, al, ah, an2, HA⟩ : ∃ k lo hi m, Hid (regT s a = ⟨k, lo, hi, m⟩) := ⟨_, _, _, _, rfl⟩
 have hccap : cap <= 9223372036854775807 := by omega
 have esrc : (op <= 12 ∨ (16 <= op /\ op <= 19)) -> srcA ⟨op, d, a, b, imm⟩ s = ⟨tk, tl, th, tm⟩ := fun h => by unfold srcA; rw [if_pos (qCa hr h).1, HT.out]
 have nsrc : ¬ (op <= 12 ∨ (16 <= op /\ op <= 19)) -> Hid (sourceB op d a b imm = false) := fun h => by show _ = _; unfold sourceB jumpB; simp; intro _; omega
 unfold asksJ
 simp only
 by_cases c0 : op = 0
 ·subst c0
  have hsr := qCa hr (.inl (show (0 : Int) <= 12 by decide))
  rw [if_pos rfl, esrc (.inl (by decide))]
  by_cases k0 : tk = 0
  ·rw [if_pos k0]; exact asks_set_no _ cb co xs.length cap p d a b imm sb so scap s vh w hcb hA hp hcap hccap hs8 h8 hsr.2 hsr.1 tk tl th tm HT k0
  ·rw [if_neg k0]; exact asks_set_yes _ cb co xs.length cap p d a b imm sb so scap s vh w hcb hA hp hcap hccap hs8 h8 hsr.2 hsr.1 tk tl th tm HT k0
 rw [if_neg c0]
 by_cases c1 : op = 13 ∨ op = 15
 ·rw [if_pos c1]
  have hn := nsrc (by omega)
  rcases c1 with rfl | rfl
  ·exact asks_field am nm mcap cb co xs.length cap p d a b imm sb so scap s vh w hcb hA hp hcap hccap hs8 h8 hn
  ·exact asks_jump am nm mcap cb co xs.length cap p d a b imm sb so scap s vh w hcb hA hp hcap hccap hs8 h8 hn
 rw [if_neg c1]
 by_cases c2 : op = 14
 ·subst c2
  have hn := nsrc (by omega)
  rw [if_pos rfl]
  by_cases k0 : (nm : Int) <= imm
  ·rw [if_pos k0]; exact asks_map_no am nm mcap cb co xs.length cap p d a b imm sb so scap s vh w hcb hA hp hcap hccap hs8 h8 hn k0
  ·rw [if_neg k0]; exact asks_map_yes am nm mcap cb co xs.length cap p d a b imm sb so scap s vh w hcb hA hp hcap hccap hs8 h8 hn k0
 rw [if_neg c2]
 by_cases c3 : op = 21
 ·subst c3
  rw [if_pos rfl]
  exact asks_call am nm mcap cb co xs.length cap p d a b imm sb so scap s vh w hcb hA hp hcap hccap hs8 h8 (nsrc (by omega))
 rw [if_neg c3]
 by_cases c4 : op = 11
 ·subst c4
  have hsr := qCa hr (.inl (show (11 : Int) <= 12 by decide))
  rw [if_pos rfl, esrc (.inl (by decide))]
  by_cases k0 : tk = 1
  ·rw [if_neg (by simpa using k0)]
   by_cases k1 : 15 < th
   ·rw [if_pos k1]; exact asks_load_far _ cb co xs.length cap p d a b imm sb so scap s vh w hcb hA hp hcap hccap hs8 h8 hsr.2 hsr.1 tk tl th tm HT k0 k1
   ·rw [if_neg k1]; exact asks_load_yes _ cb co xs.length cap p d a b imm sb so scap s vh w hcb hA hp hcap hccap hs8 h8 hsr.2 hsr.1 tk tl th tm HT k0 k1
  ·rw [if_pos k0]; exact asks_load_no _ cb co xs.length cap p d a b imm sb so scap s vh w hcb hA hp hcap hccap hs8 h8 hsr.2 hsr.1 tk tl th tm HT k0
 rw [if_neg c4]
 by_cases c5 : op = 20
 ·subst c5
  have hra := qCr hr (.inr (.inr (.inl (show (16 : Int) <= 20 /\ (20 : Int) <= 20 by decide))))
  obtain ⟨hvh, he8⟩ := hh rfl
  obtain ⟨a3, ecap, rfl, hec, hem, _, hecell⟩ := id hvh
  obtain ⟨eb, eo, rfl, _, _⟩ := hecell (fun e => by rw [e] at he8; simp at he8)
  have he : SeesT w (.slice (some ⟨eb, eo, none⟩) 8 ecap) head := by have := hvh; rw [he8] at this; exact this
  have hn := nsrc (by omega)
  rw [if_pos rfl, HA.out, he8]
  by_cases k0 : ak = 1
  ·rw [if_neg (by simpa using k0)]
   exact asks_loop am nm mcap cb co xs.length cap p d a b imm sb so scap s head eb eo ecap w hcb hA hp hcap hccap hs8 h8 he he8 hn hra ak al ah an2 HA k0
  ·rw [if_pos k0]
   exact asks_loop_no am nm mcap cb co xs.length cap p d a b imm sb so scap s head eb eo ecap w hcb hA hp hcap hccap hs8 h8 he he8 hn hra ak al ah an2 HA k0
 rw [if_neg c5]
 by_cases c6 : op = 22
 ·subst c6
  have hra := qCr hr (.inr (.inr (.inr rfl)))
  have hn := nsrc (by omega)
  rw [if_pos rfl, HA.out]
  by_cases k0 : ak = 1
  ·rw [if_neg (by simpa using k0)]
   exact asks_exit_yes am nm mcap cb co xs.length cap p d a b imm sb so scap s vh w hcb hA hp hcap hccap hs8 h8 hn hra ak al ah an2 HA k0
  ·rw [if_pos k0]
   exact asks_exit_no am nm mcap cb co xs.length cap p d a b imm sb so scap s vh w hcb hA hp hcap hccap hs8 h8 hn hra ak al ah an2 HA k0
 rw [if_neg c6]
 have c7 : (1 <= op /\ op <= 10) ∨ op = 12 ∨ (16 <= op /\ op <= 19) := by omega
 have hsr := qCa hr (show op <= 12 ∨ (16 <= op /\ op <= 19) by omega)
 have hra := qCr hr (show (1 <= op /\ op <= 10) ∨ op = 12 ∨ (16 <= op /\ op <= 20) ∨ op = 22 by omega)
 rw [esrc (by omega), HA.out]
 by_cases k0 : ak = 1
 case neg =>
  rw [if_pos (.inl k0)]
  exact asks_two_first _ cb co xs.length cap p op d a b imm sb so scap s vh w hcb hA hp hcap hccap hs8 h8 hsr.2 hsr.1 tk tl th tm HT c7 hra ak al ah an2 HA k0
 by_cases k1 : tk = 1
 case neg =>
  rw [if_pos (.inr k1)]
  exact asks_two_second _ cb co xs.length cap p op d a b imm sb so scap s vh w hcb hA hp hcap hccap hs8 h8 hsr.2 hsr.1 tk tl th tm HT c7 hra ak al ah an2 HA k0 k1
 rw [if_neg (by simp [k0, k1])]
 by_cases c8 : op = 12
 ·subst c8
  by_cases k2 : 15 < th
  ·rw [if_pos ⟨rfl, k2⟩]; exact asks_store_far _ cb co xs.length cap p d a b imm sb so scap s vh w hcb hA hp hcap hccap hs8 h8 hsr.2 hsr.1 tk tl th tm HT hra ak al ah an2 HA k0 k1 k2
  ·rw [if_neg (fun h => k2 h.2)]; exact asks_store_yes _ cb co xs.length cap p d a b imm sb so scap s vh w hcb hA hp hcap hccap hs8 h8 hsr.2 hsr.1 tk tl th tm HT hra ak al ah an2 HA k0 k1 k2
 ·rw [if_neg (fun h => c8 h.1)]
  exact asks_two_yes _ cb co xs.length cap p op d a b imm sb so scap s vh w hcb hA hp hcap hccap hs8 h8 hsr.2 hsr.1 tk tl th tm HT (by omega) hra ak al ah an2 HA k0 k1
end Go.Proofs.YtkcofelpndlplaaGreat
