/-
  J9LeavesA
  J9LeavesB
  J9Joined
-/
import Derived.Test.YtkcofelpndlplaaGreatMT24
import Derived.Test.YtkcofelpndlplaaGreatMT21
import Derived.Test.YtkcofelpndlplaaGreatMT5
import Derived.Test.YtkcofelpndlplaaGreatMT8
import Derived.Test.YtkcofelpndlplaaGreatMT20
import Derived.Deep.RegionHeld3
namespace Go.Proofs.YtkcofelpndlplaaGreat
open Go.RowKit
set_option linter.unusedVariables false
set_option maxRecDepth 100000
theorem qBp {w : World} {base : Nat} {e : TypeId} {v : Value} {xs : List Value} (h : w.ownsRow base e 4 v 8 xs) : ∃ g c, v = .slice (some ⟨g, 0, none⟩) 8 c /\ (base <= g /\ g < w.heap.size) /\ 8 <= c /\ c <= 9223372036854775807 := by
 have hlt := h.lt
 rcases h.2 with ⟨_, h0⟩ | ⟨g, cap, cur, rfl, _, _, h1, h2, _⟩
 ·omega
 ·exact ⟨g, cap, rfl, hlt g rfl, h1, by unfold maxLen at h2; omega⟩
set_option maxHeartbeats 800000 in
theorem leaves_set (vm : Value) (cb co N ccap p : Nat) (d a b imm : Int) (sb so scap : Nat) (s : St) (holds : Bool) (w : World) (hcb : cb < w.heap.size) (hAi : At w cb (co + p * 5) ⟨0, d, a, b, imm⟩) (hpN : p < N) (hN : N <= ccap) (hcc : ccap <= 9223372036854775807)
  (hs : SeesT w (.slice (some ⟨sb, so, none⟩) 8 scap) s) (h8 : s.length = 8) (hd : 0 <= d /\ d <= 7) (hb : b = 8 ∨ (0 <= b /\ b <= 7)) :
  Calls Tryz.prog 65 #[.agg #[vm, .slice (some ⟨cb, co, none⟩) N ccap], .int .i64 p, .slice (some ⟨sb, so, none⟩) 8 scap, .bool holds] w fun e w' => ∃ u, e = .returned (.tuple #[u, .bool true]) /\ w'.ownsRow w.heap.size 46 4 u 8 (flatT (s.set d.toNat (srcT ⟨0, d, a, b, imm⟩ s))) /\ Below w.heap.size w w' := by
 obtain ⟨dn, rfl⟩ := Int.eq_ofNat_of_zero_le hd.1
 have hd7 : dn < 8 := by omega
 have hdI : (dn : Int) < 8 := by omega
 have hdJ : (0 : Int) <= dn := by omega
 obtain ⟨i0, hi, hz0, hz1, hz2⟩ := qBi
 obtain ⟨m0, m1, m2, m3, m4⟩ := hAi
 simp only at m0 m1 m2 m3 m4
 obtain ⟨Z, HZ, hBoxZ, hBZ, hzZ⟩ : ∃ Z, Hid (Z = (w.alloc (.cells #[vm, .slice (some ⟨cb, co, none⟩) N ccap] 25)).alloc (instO 0 dn a b imm)) /\ Box Z (w.heap.size + 1) 0 dn a b imm /\ Below w.heap.size w Z /\ Z.heap.size = w.heap.size + 2 :=
  ⟨_, rfl, ⟨by go_cell, by go_cell, by go_cell, by go_cell, by go_cell⟩, by go_grown, by simp⟩
 have HSZ : Hid (SeesT Z (.slice (some ⟨sb, so, none⟩) 8 scap) s) := hs.below hBZ
 have hBs : s ≠ [] := fun e => by rw [e] at h8; simp at h8
 clear hs
 obtain ⟨tk, tl, th, tm, HT⟩ : ∃ k lo hi m, Hid (srcT ⟨0, dn, a, b, imm⟩ s = ⟨k, lo, hi, m⟩) := ⟨_, _, _, _, rfl⟩
 rw [HT.out]
 go_enter Tryz.func65, Tryz.ntmps65
 go_wp2_with (at_builtin; rw [<- HZ.out]; go_must (refine qAt rfl (.tmp 26) (.tmp 27) 57 rfl Z.heap.size 46 i0 (tyV Ty.nil) Tryz.underlying57 hi hz0 hz1 hz2 rfl _ [] rfl (qCk Z Z.heap.size (w.heap.size + 1 + 1) (Nat.le_refl _) (by omega)) _ s rfl (HSZ.out.below ((Below.refl _ _).alloc (Nat.le_refl _) _)) (by rw [h8]; unfold maxLen; simp) (by rw [h8]; simp) (by simp) ?_); intro v3 w3 hown3 hg3; go_must (have hb3 : Below Z.heap.size Z w3 := ((Below.refl _ _).alloc (Nat.le_refl _) _).grown hg3 (by simp) (fun j hj => by (have hj' : w.heap.size + 1 + 1 = j := Option.some.inj hj); omega); rw [List.nil_append, h8] at hown3; obtain ⟨g, c3, rfl, hg0, hc3, hm3⟩ := qBp hown3; have hS3 := Box.below hBoxZ hb3 (by omega); obtain ⟨x0, x1, x2, x3, x4⟩ := id hS3; have HS3 : Hid (SeesT w3 (.slice (some ⟨sb, so, none⟩) 8 scap) s) := HSZ.out.below hb3; have hz3 := hb3.size; clear hg3))
 go_region_held3 (fun w' => w'.cell? ⟨w.heap.size + 1, 0, none⟩ = some (.int .i64 0) /\ w'.cell? ⟨w.heap.size + 1, 1, none⟩ = some (.int .i64 dn) /\ w'.cell? ⟨w.heap.size + 1, 2, none⟩ = some (.int .i64 a) /\ w'.cell? ⟨w.heap.size + 1, 3, none⟩ = some (.int .i64 b) /\ w'.cell? ⟨w.heap.size + 1, 4, none⟩ = some (.int .i64 imm))
  (first | with_reducible exact hS4 | with_reducible exact HKeep.out w4 hS4 | exact hS3)
  (first
   | (go_at_call 37; go_must (refine (qBb (i := ⟨0, dn, a, b, imm⟩) (w := w3.drew) HS3.out h8 hb HT).mono ?_); rintro e w4 ⟨rfl, hb4'⟩; go_must (have hb4 : Below w3.heap.size w3 w4 := qAf hb4'; have hS4 := Box.below hS3 hb4 (by omega); have hown4 := qAz hown3 hb4 (Nat.le_refl _); obtain ⟨y0, y1, y2, y3, q0, q1, q2, q3⟩ := qBu hown4 hd7; have f0 := hown4.frozenAt (dn * 4); have f1 := hown4.frozenAt (dn * 4 + 1); have f2 := hown4.frozenAt (dn * 4 + 2); have f3 := hown4.frozenAt (dn * 4 + 3); (have HOF : Hid ((setT w4 g (dn * 4) ⟨tk, tl, th, tm⟩).ownsRow Z.heap.size 46 4 (.slice (some ⟨g, 0, none⟩) 8 c3) 8 (flatT (s.set dn ⟨tk, tl, th, tm⟩))) := (qCc hown4 dn (by rw [h8]; exact hd7) ⟨tk, tl, th, tm⟩).1); (have hBF : Hid (Below Z.heap.size Z (setT w4 g (dn * 4) ⟨tk, tl, th, tm⟩)) := qAn (hb3.trans (hb4.mono hz3)) hg0.1); (have HKeep : Hid (∀ wx : World, Box wx (w.heap.size + 1) 0 dn a b imm -> Box (setT wx g (dn * 4) ⟨tk, tl, th, tm⟩) (w.heap.size + 1) 0 dn a b imm) := fun wx hh => ⟨(qAr (by omega)).trans hh.1, (qAr (by omega)).trans hh.2.1, (qAr (by omega)).trans hh.2.2.1, (qAr (by omega)).trans hh.2.2.2.1, (qAr (by omega)).trans hh.2.2.2.2⟩); clear hb4' hown4)))
 go_wp2
 go_ret2
 exact ⟨_, rfl, qAu HOF.out (by omega), hBZ.trans (hBF.out.mono (by omega))⟩
set_option maxHeartbeats 800000 in
theorem leaves_load (vm : Value) (cb co N ccap p : Nat) (d a b imm : Int) (sb so scap : Nat) (s : St) (holds : Bool) (w : World) (hcb : cb < w.heap.size) (hAi : At w cb (co + p * 5) ⟨11, d, a, b, imm⟩) (hpN : p < N) (hN : N <= ccap) (hcc : ccap <= 9223372036854775807)
  (hs : SeesT w (.slice (some ⟨sb, so, none⟩) 8 scap) s) (h8 : s.length = 8) (hd : 0 <= d /\ d <= 7) :
  Calls Tryz.prog 65 #[.agg #[vm, .slice (some ⟨cb, co, none⟩) N ccap], .int .i64 p, .slice (some ⟨sb, so, none⟩) 8 scap, .bool holds] w fun e w' => ∃ u, e = .returned (.tuple #[u, .bool true]) /\ w'.ownsRow w.heap.size 46 4 u 8 (flatT (s.set d.toNat fullT)) /\ Below w.heap.size w w' := by
 obtain ⟨dn, rfl⟩ := Int.eq_ofNat_of_zero_le hd.1
 have hd7 : dn < 8 := by omega
 have hdI : (dn : Int) < 8 := by omega
 have hdJ : (0 : Int) <= dn := by omega
 obtain ⟨i0, hi, hz0, hz1, hz2⟩ := qBi
 obtain ⟨m0, m1, m2, m3, m4⟩ := hAi
 simp only at m0 m1 m2 m3 m4
 obtain ⟨Z, HZ, hBoxZ, hBZ, hzZ⟩ : ∃ Z, Hid (Z = (w.alloc (.cells #[vm, .slice (some ⟨cb, co, none⟩) N ccap] 25)).alloc (instO 11 dn a b imm)) /\ Box Z (w.heap.size + 1) 11 dn a b imm /\ Below w.heap.size w Z /\ Z.heap.size = w.heap.size + 2 :=
  ⟨_, rfl, ⟨by go_cell, by go_cell, by go_cell, by go_cell, by go_cell⟩, by go_grown, by simp⟩
 have HSZ : Hid (SeesT Z (.slice (some ⟨sb, so, none⟩) 8 scap) s) := hs.below hBZ
 have hBs : s ≠ [] := fun e => by rw [e] at h8; simp at h8
 clear hs
 go_enter Tryz.func65, Tryz.ntmps65
 go_wp2_with (first
  | (at_builtin; rw [<- HZ.out]; go_must (refine qAt rfl (.tmp 26) (.tmp 27) 57 rfl Z.heap.size 46 i0 (tyV Ty.nil) Tryz.underlying57 hi hz0 hz1 hz2 rfl _ [] rfl (qCk Z Z.heap.size (w.heap.size + 1 + 1) (Nat.le_refl _) (by omega)) _ s rfl (HSZ.out.below ((Below.refl _ _).alloc (Nat.le_refl _) _)) (by rw [h8]; unfold maxLen; simp) (by rw [h8]; simp) (by simp) ?_); intro v3 w3 hown3 hg3; go_must (have hb3 : Below Z.heap.size Z w3 := ((Below.refl _ _).alloc (Nat.le_refl _) _).grown hg3 (by simp) (fun j hj => by (have hj' : w.heap.size + 1 + 1 = j := Option.some.inj hj); omega); rw [List.nil_append, h8] at hown3; obtain ⟨g, c3, rfl, hg0, hc3, hm3⟩ := qBp hown3; have hS3 := Box.below hBoxZ hb3 (by omega); obtain ⟨x0, x1, x2, x3, x4⟩ := id hS3; have HS3 : Hid (SeesT w3 (.slice (some ⟨sb, so, none⟩) 8 scap) s) := HSZ.out.below hb3; have hz3 := hb3.size; clear hg3))
  | (go_at_call 62; go_must (refine (qAh _ _).mono ?_); rintro e w' ⟨rfl, rfl⟩; rw [show threeB 11 = false from rfl]))
 go_region_held3 (fun w' => w'.cell? ⟨w.heap.size + 1, 0, none⟩ = some (.int .i64 11) /\ w'.cell? ⟨w.heap.size + 1, 1, none⟩ = some (.int .i64 dn) /\ w'.cell? ⟨w.heap.size + 1, 2, none⟩ = some (.int .i64 a) /\ w'.cell? ⟨w.heap.size + 1, 3, none⟩ = some (.int .i64 b) /\ w'.cell? ⟨w.heap.size + 1, 4, none⟩ = some (.int .i64 imm))
  (first | with_reducible exact hS4 | with_reducible exact HKeep.out w4 hS4 | exact hS3)
  (first
   | (go_at_call 35; go_must (refine (jfull_any w3.drew).mono ?_); rintro e w4 ⟨rfl, hb4'⟩; go_must (have hb4 : Below w3.heap.size w3 w4 := qAf hb4'; have hS4 := Box.below hS3 hb4 (by omega); have hown4 := qAz hown3 hb4 (Nat.le_refl _); obtain ⟨y0, y1, y2, y3, q0, q1, q2, q3⟩ := qBu hown4 hd7; have f0 := hown4.frozenAt (dn * 4); have f1 := hown4.frozenAt (dn * 4 + 1); have f2 := hown4.frozenAt (dn * 4 + 2); have f3 := hown4.frozenAt (dn * 4 + 3); (have HOF : Hid ((setT w4 g (dn * 4) fullT).ownsRow Z.heap.size 46 4 (.slice (some ⟨g, 0, none⟩) 8 c3) 8 (flatT (s.set dn fullT))) := (qCc hown4 dn (by rw [h8]; exact hd7) fullT).1); (have hBF : Hid (Below Z.heap.size Z (setT w4 g (dn * 4) fullT)) := qAn (hb3.trans (hb4.mono hz3)) hg0.1); (have HKeep : Hid (∀ wx : World, Box wx (w.heap.size + 1) 11 dn a b imm -> Box (setT wx g (dn * 4) fullT) (w.heap.size + 1) 11 dn a b imm) := fun wx hh => ⟨(qAr (by omega)).trans hh.1, (qAr (by omega)).trans hh.2.1, (qAr (by omega)).trans hh.2.2.1, (qAr (by omega)).trans hh.2.2.2.1, (qAr (by omega)).trans hh.2.2.2.2⟩); clear hb4' hown4)))
 go_wp2
 go_ret2
 exact ⟨_, rfl, qAu HOF.out (by omega), hBZ.trans (hBF.out.mono (by omega))⟩
set_option maxHeartbeats 800000 in
theorem leaves_field (vm : Value) (cb co N ccap p : Nat) (d a b imm : Int) (sb so scap : Nat) (s : St) (holds : Bool) (w : World) (hcb : cb < w.heap.size) (hAi : At w cb (co + p * 5) ⟨13, d, a, b, imm⟩) (hpN : p < N) (hN : N <= ccap) (hcc : ccap <= 9223372036854775807)
  (hs : SeesT w (.slice (some ⟨sb, so, none⟩) 8 scap) s) (h8 : s.length = 8) (hd : 0 <= d /\ d <= 7) :
  Calls Tryz.prog 65 #[.agg #[vm, .slice (some ⟨cb, co, none⟩) N ccap], .int .i64 p, .slice (some ⟨sb, so, none⟩) 8 scap, .bool holds] w fun e w' => ∃ u, e = .returned (.tuple #[u, .bool true]) /\ w'.ownsRow w.heap.size 46 4 u 8 (flatT (s.set d.toNat fullT)) /\ Below w.heap.size w w' := by
 obtain ⟨dn, rfl⟩ := Int.eq_ofNat_of_zero_le hd.1
 have hd7 : dn < 8 := by omega
 have hdI : (dn : Int) < 8 := by omega
 have hdJ : (0 : Int) <= dn := by omega
 obtain ⟨i0, hi, hz0, hz1, hz2⟩ := qBi
 obtain ⟨m0, m1, m2, m3, m4⟩ := hAi
 simp only at m0 m1 m2 m3 m4
 obtain ⟨Z, HZ, hBoxZ, hBZ, hzZ⟩ : ∃ Z, Hid (Z = (w.alloc (.cells #[vm, .slice (some ⟨cb, co, none⟩) N ccap] 25)).alloc (instO 13 dn a b imm)) /\ Box Z (w.heap.size + 1) 13 dn a b imm /\ Below w.heap.size w Z /\ Z.heap.size = w.heap.size + 2 :=
  ⟨_, rfl, ⟨by go_cell, by go_cell, by go_cell, by go_cell, by go_cell⟩, by go_grown, by simp⟩
 have HSZ : Hid (SeesT Z (.slice (some ⟨sb, so, none⟩) 8 scap) s) := hs.below hBZ
 have hBs : s ≠ [] := fun e => by rw [e] at h8; simp at h8
 clear hs
 go_enter Tryz.func65, Tryz.ntmps65
 go_wp2_with (first
  | (at_builtin; rw [<- HZ.out]; go_must (refine qAt rfl (.tmp 26) (.tmp 27) 57 rfl Z.heap.size 46 i0 (tyV Ty.nil) Tryz.underlying57 hi hz0 hz1 hz2 rfl _ [] rfl (qCk Z Z.heap.size (w.heap.size + 1 + 1) (Nat.le_refl _) (by omega)) _ s rfl (HSZ.out.below ((Below.refl _ _).alloc (Nat.le_refl _) _)) (by rw [h8]; unfold maxLen; simp) (by rw [h8]; simp) (by simp) ?_); intro v3 w3 hown3 hg3; go_must (have hb3 : Below Z.heap.size Z w3 := ((Below.refl _ _).alloc (Nat.le_refl _) _).grown hg3 (by simp) (fun j hj => by (have hj' : w.heap.size + 1 + 1 = j := Option.some.inj hj); omega); rw [List.nil_append, h8] at hown3; obtain ⟨g, c3, rfl, hg0, hc3, hm3⟩ := qBp hown3; have hS3 := Box.below hBoxZ hb3 (by omega); obtain ⟨x0, x1, x2, x3, x4⟩ := id hS3; have HS3 : Hid (SeesT w3 (.slice (some ⟨sb, so, none⟩) 8 scap) s) := HSZ.out.below hb3; have hz3 := hb3.size; clear hg3))
  | (go_at_call 62; go_must (refine (qAh _ _).mono ?_); rintro e w' ⟨rfl, rfl⟩; rw [show threeB 13 = false from rfl]))
 go_region_held3 (fun w' => w'.cell? ⟨w.heap.size + 1, 0, none⟩ = some (.int .i64 13) /\ w'.cell? ⟨w.heap.size + 1, 1, none⟩ = some (.int .i64 dn) /\ w'.cell? ⟨w.heap.size + 1, 2, none⟩ = some (.int .i64 a) /\ w'.cell? ⟨w.heap.size + 1, 3, none⟩ = some (.int .i64 b) /\ w'.cell? ⟨w.heap.size + 1, 4, none⟩ = some (.int .i64 imm))
  (first | with_reducible exact hS4 | with_reducible exact HKeep.out w4 hS4 | exact hS3)
  (first
   | (go_at_call 35; go_must (refine (jfull_any w3.drew).mono ?_); rintro e w4 ⟨rfl, hb4'⟩; go_must (have hb4 : Below w3.heap.size w3 w4 := qAf hb4'; have hS4 := Box.below hS3 hb4 (by omega); have hown4 := qAz hown3 hb4 (Nat.le_refl _); obtain ⟨y0, y1, y2, y3, q0, q1, q2, q3⟩ := qBu hown4 hd7; have f0 := hown4.frozenAt (dn * 4); have f1 := hown4.frozenAt (dn * 4 + 1); have f2 := hown4.frozenAt (dn * 4 + 2); have f3 := hown4.frozenAt (dn * 4 + 3); (have HOF : Hid ((setT w4 g (dn * 4) fullT).ownsRow Z.heap.size 46 4 (.slice (some ⟨g, 0, none⟩) 8 c3) 8 (flatT (s.set dn fullT))) := (qCc hown4 dn (by rw [h8]; exact hd7) fullT).1); (have hBF : Hid (Below Z.heap.size Z (setT w4 g (dn * 4) fullT)) := qAn (hb3.trans (hb4.mono hz3)) hg0.1); (have HKeep : Hid (∀ wx : World, Box wx (w.heap.size + 1) 13 dn a b imm -> Box (setT wx g (dn * 4) fullT) (w.heap.size + 1) 13 dn a b imm) := fun wx hh => ⟨(qAr (by omega)).trans hh.1, (qAr (by omega)).trans hh.2.1, (qAr (by omega)).trans hh.2.2.1, (qAr (by omega)).trans hh.2.2.2.1, (qAr (by omega)).trans hh.2.2.2.2⟩); clear hb4' hown4)))
 go_wp2
 go_ret2
 exact ⟨_, rfl, qAu HOF.out (by omega), hBZ.trans (hBF.out.mono (by omega))⟩
set_option maxHeartbeats 800000 in
theorem leaves_map (vm : Value) (cb co N ccap p : Nat) (d a b imm : Int) (sb so scap : Nat) (s : St) (holds : Bool) (w : World) (hcb : cb < w.heap.size) (hAi : At w cb (co + p * 5) ⟨14, d, a, b, imm⟩) (hpN : p < N) (hN : N <= ccap) (hcc : ccap <= 9223372036854775807)
  (hs : SeesT w (.slice (some ⟨sb, so, none⟩) 8 scap) s) (h8 : s.length = 8) (hd : 0 <= d /\ d <= 7) :
  Calls Tryz.prog 65 #[.agg #[vm, .slice (some ⟨cb, co, none⟩) N ccap], .int .i64 p, .slice (some ⟨sb, so, none⟩) 8 scap, .bool holds] w fun e w' => ∃ u, e = .returned (.tuple #[u, .bool true]) /\ w'.ownsRow w.heap.size 46 4 u 8 (flatT (s.set d.toNat ⟨2, 0, 0, imm⟩)) /\ Below w.heap.size w w' := by
 obtain ⟨dn, rfl⟩ := Int.eq_ofNat_of_zero_le hd.1
 have hd7 : dn < 8 := by omega
 have hdI : (dn : Int) < 8 := by omega
 have hdJ : (0 : Int) <= dn := by omega
 obtain ⟨i0, hi, hz0, hz1, hz2⟩ := qBi
 obtain ⟨m0, m1, m2, m3, m4⟩ := hAi
 simp only at m0 m1 m2 m3 m4
 obtain ⟨Z, HZ, hBoxZ, hBZ, hzZ⟩ : ∃ Z, Hid (Z = (w.alloc (.cells #[vm, .slice (some ⟨cb, co, none⟩) N ccap] 25)).alloc (instO 14 dn a b imm)) /\ Box Z (w.heap.size + 1) 14 dn a b imm /\ Below w.heap.size w Z /\ Z.heap.size = w.heap.size + 2 :=
  ⟨_, rfl, ⟨by go_cell, by go_cell, by go_cell, by go_cell, by go_cell⟩, by go_grown, by simp⟩
 have HSZ : Hid (SeesT Z (.slice (some ⟨sb, so, none⟩) 8 scap) s) := hs.below hBZ
 have hBs : s ≠ [] := fun e => by rw [e] at h8; simp at h8
 clear hs
 go_enter Tryz.func65, Tryz.ntmps65
 go_wp2_with (first
  | (at_builtin; rw [<- HZ.out]; go_must (refine qAt rfl (.tmp 26) (.tmp 27) 57 rfl Z.heap.size 46 i0 (tyV Ty.nil) Tryz.underlying57 hi hz0 hz1 hz2 rfl _ [] rfl (qCk Z Z.heap.size (w.heap.size + 1 + 1) (Nat.le_refl _) (by omega)) _ s rfl (HSZ.out.below ((Below.refl _ _).alloc (Nat.le_refl _) _)) (by rw [h8]; unfold maxLen; simp) (by rw [h8]; simp) (by simp) ?_); intro v3 w3 hown3 hg3; go_must (have hb3 : Below Z.heap.size Z w3 := ((Below.refl _ _).alloc (Nat.le_refl _) _).grown hg3 (by simp) (fun j hj => by (have hj' : w.heap.size + 1 + 1 = j := Option.some.inj hj); omega); rw [List.nil_append, h8] at hown3; obtain ⟨g, c3, rfl, hg0, hc3, hm3⟩ := qBp hown3; have hS3 := Box.below hBoxZ hb3 (by omega); obtain ⟨x0, x1, x2, x3, x4⟩ := id hS3; have HS3 : Hid (SeesT w3 (.slice (some ⟨sb, so, none⟩) 8 scap) s) := HSZ.out.below hb3; have hz3 := hb3.size; obtain ⟨y0, y1, y2, y3, q0, q1, q2, q3⟩ := qBu hown3 hd7; have f0 := hown3.frozenAt (dn * 4); have f1 := hown3.frozenAt (dn * 4 + 1); have f2 := hown3.frozenAt (dn * 4 + 2); have f3 := hown3.frozenAt (dn * 4 + 3); (have HOF : Hid ((setT w3 g (dn * 4) ⟨2, 0, 0, imm⟩).ownsRow Z.heap.size 46 4 (.slice (some ⟨g, 0, none⟩) 8 c3) 8 (flatT (s.set dn ⟨2, 0, 0, imm⟩))) := (qCc hown3 dn (by rw [h8]; exact hd7) ⟨2, 0, 0, imm⟩).1); (have hBF : Hid (Below Z.heap.size Z (setT w3 g (dn * 4) ⟨2, 0, 0, imm⟩)) := qAn hb3 hg0.1); clear hg3 hown3))
  | (go_at_call 62; go_must (refine (qAh _ _).mono ?_); rintro e w' ⟨rfl, rfl⟩; rw [show threeB 14 = false from rfl]))
 go_ret2
 exact ⟨_, rfl, qAu HOF.out (by omega), hBZ.trans (hBF.out.mono (by omega))⟩
theorem rresult_as {h : Int} {k lo hi m : Int} {b : Bool} (hr : Hid (resL h = (⟨k, lo, hi, m⟩, b))) (w : World) : Calls Tryz.prog 88 #[.int .i64 h] w fun e w' => e = .returned (.tuple #[.agg #[.int .i64 k, .int .u64 lo, .int .u64 hi, .int .i64 m], .bool b]) /\ Below w.heap.size w w' := by
 have := rresult_any h w; rw [hr.out] at this; exact this
theorem own_set0 {w : World} {base g n cap : Nat} {e : TypeId} {xs : List Ty} (h : w.ownsRow base e 4 (.slice (some ⟨g, 0, none⟩) n cap) n (flatT xs)) (hk : 0 < xs.length) (k lo hi m : Int) :
  ((((w.setCell ⟨g, 0, none⟩ (.int .i64 k)).setCell ⟨g, 1, none⟩ (.int .u64 lo)).setCell ⟨g, 2, none⟩ (.int .u64 hi)).setCell ⟨g, 3, none⟩ (.int .i64 m)).ownsRow base e 4 (.slice (some ⟨g, 0, none⟩) n cap) n (flatT (xs.set 0 ⟨k, lo, hi, m⟩)) := by
 have := (qCc h 0 hk ⟨k, lo, hi, m⟩).1
 simpa only [setT, Nat.zero_mul, Nat.zero_add] using this
set_option maxHeartbeats 400000 in
theorem leaves_call (vm : Value) (cb co N ccap p : Nat) (d a b imm : Int) (sb so scap : Nat) (s : St) (holds : Bool) (w : World) (hcb : cb < w.heap.size) (hAi : At w cb (co + p * 5) ⟨21, d, a, b, imm⟩) (hpN : p < N) (hN : N <= ccap) (hcc : ccap <= 9223372036854775807)
  (hs : SeesT w (.slice (some ⟨sb, so, none⟩) 8 scap) s) (h8 : s.length = 8) :
  Calls Tryz.prog 65 #[.agg #[vm, .slice (some ⟨cb, co, none⟩) N ccap], .int .i64 p, .slice (some ⟨sb, so, none⟩) 8 scap, .bool holds] w fun e w' => ∃ u, e = .returned (.tuple #[u, .bool true]) /\ w'.ownsRow w.heap.size 46 4 u 8 (flatT (s.set 0 (resL imm).1)) /\ Below w.heap.size w w' := by
 obtain ⟨i0, hi, hz0, hz1, hz2⟩ := qBi
 obtain ⟨m0, m1, m2, m3, m4⟩ := hAi
 simp only at m0 m1 m2 m3 m4
 obtain ⟨Z, HZ, hBoxZ, hBZ, hzZ⟩ : ∃ Z, Hid (Z = (w.alloc (.cells #[vm, .slice (some ⟨cb, co, none⟩) N ccap] 25)).alloc (instO 21 d a b imm)) /\ Box Z (w.heap.size + 1) 21 d a b imm /\ Below w.heap.size w Z /\ Z.heap.size = w.heap.size + 2 :=
  ⟨_, rfl, ⟨by go_cell, by go_cell, by go_cell, by go_cell, by go_cell⟩, by go_grown, by simp⟩
 have HSZ : Hid (SeesT Z (.slice (some ⟨sb, so, none⟩) 8 scap) s) := hs.below hBZ
 have hBs : s ≠ [] := fun e => by rw [e] at h8; simp at h8
 clear hs
 obtain ⟨tk, tl, th, tm, tb, HT⟩ : ∃ k lo hi m b, Hid (resL imm = (⟨k, lo, hi, m⟩, b)) := ⟨_, _, _, _, _, rfl⟩
 rw [HT.out]
 go_enter Tryz.func65, Tryz.ntmps65
 go_wp2_with (first
  | (at_builtin; rw [<- HZ.out]; go_must (refine qAt rfl (.tmp 26) (.tmp 27) 57 rfl Z.heap.size 46 i0 (tyV Ty.nil) Tryz.underlying57 hi hz0 hz1 hz2 rfl _ [] rfl (qCk Z Z.heap.size (w.heap.size + 1 + 1) (Nat.le_refl _) (by omega)) _ s rfl (HSZ.out.below ((Below.refl _ _).alloc (Nat.le_refl _) _)) (by rw [h8]; unfold maxLen; simp) (by rw [h8]; simp) (by simp) ?_); intro v3 w3 hown3 hg3; go_must (have hb3 : Below Z.heap.size Z w3 := ((Below.refl _ _).alloc (Nat.le_refl _) _).grown hg3 (by simp) (fun j hj => by (have hj' : w.heap.size + 1 + 1 = j := Option.some.inj hj); omega); rw [List.nil_append, h8] at hown3; obtain ⟨g, c3, rfl, hg0, hc3, hm3⟩ := qBp hown3; have hS3 := Box.below hBoxZ hb3 (by omega); obtain ⟨x0, x1, x2, x3, x4⟩ := id hS3; have HS3 : Hid (SeesT w3 (.slice (some ⟨sb, so, none⟩) 8 scap) s) := HSZ.out.below hb3; have hz3 := hb3.size; clear hg3))
  | (go_at_call 62; go_must (refine (qAh _ _).mono ?_); rintro e w' ⟨rfl, rfl⟩; rw [show threeB 21 = false from rfl])
  | (go_at_call 88; go_must (refine (rresult_as HT _).mono ?_); rintro e w4 ⟨rfl, hb4⟩; go_must (have hz4 := hb4.size; have hown4 := qAz hown3 hb4 (Nat.le_refl _); have hgw : g < w4.heap.size := (by omega); obtain ⟨y0, y1, y2, y3, q0, q1, q2, q3⟩ := qBu (qAz hown3 hb4 (Nat.le_refl _)) (k := 0) (by omega); have f0 := (qAz hown3 hb4 (Nat.le_refl _)).frozenAt 0; have f1 := (qAz hown3 hb4 (Nat.le_refl _)).frozenAt 1; have f2 := (qAz hown3 hb4 (Nat.le_refl _)).frozenAt 2; have f3 := (qAz hown3 hb4 (Nat.le_refl _)).frozenAt 3; simp only [Nat.zero_mul, Nat.zero_add] at q0 q1 q2 q3; (have HOF : Hid ((((((w4.setCell ⟨g, 0, none⟩ (.int .i64 tk)).setCell ⟨g, 1, none⟩ (.int .u64 tl)).setCell ⟨g, 2, none⟩ (.int .u64 th)).setCell ⟨g, 3, none⟩ (.int .i64 tm)).alloc (tyO ⟨tk, tl, th, tm⟩)).ownsRow Z.heap.size 46 4 (.slice (some ⟨g, 0, none⟩) 8 c3) 8 (flatT (s.set 0 ⟨tk, tl, th, tm⟩))) := (own_set0 hown4 (by rw [h8]; omega) tk tl th tm).alloc _); (have hBF : Hid (Below Z.heap.size Z (((((w4.setCell ⟨g, 0, none⟩ (.int .i64 tk)).setCell ⟨g, 1, none⟩ (.int .u64 tl)).setCell ⟨g, 2, none⟩ (.int .u64 th)).setCell ⟨g, 3, none⟩ (.int .i64 tm)).alloc (tyO ⟨tk, tl, th, tm⟩))) := Below.alloc (qAa (qAa (qAa (qAa (hb3.trans (hb4.mono hz3)) hg0.1) hg0.1) hg0.1) hg0.1) (by simp [World.setCell]; omega) _); clear hown4)))
 go_ret2
 refine ⟨_, rfl, ?_, ?_⟩
 ·exact qAu HOF.out (by omega)
 ·exact hBZ.trans (hBF.out.mono (by omega))
set_option maxHeartbeats 1600000 in
theorem leaves_still (vm : Value) (cb co N ccap p : Nat) (op d a b imm : Int) (sb so scap : Nat) (s : St) (holds : Bool) (w : World) (hcb : cb < w.heap.size) (hAi : At w cb (co + p * 5) ⟨op, d, a, b, imm⟩) (hpN : p < N) (hN : N <= ccap) (hcc : ccap <= 9223372036854775807)
  (hs : SeesT w (.slice (some ⟨sb, so, none⟩) 8 scap) s) (h8 : s.length = 8) (hop : op = 12 ∨ op = 15 ∨ op = 20 ∨ op = 22) :
  Calls Tryz.prog 65 #[.agg #[vm, .slice (some ⟨cb, co, none⟩) N ccap], .int .i64 p, .slice (some ⟨sb, so, none⟩) 8 scap, .bool holds] w fun e w' => ∃ u, e = .returned (.tuple #[u, .bool true]) /\ w'.ownsRow w.heap.size 46 4 u 8 (flatT s) /\ Below w.heap.size w w' := by
 obtain ⟨i0, hi, hz0, hz1, hz2⟩ := qBi
 obtain ⟨m0, m1, m2, m3, m4⟩ := hAi
 simp only at m0 m1 m2 m3 m4
 obtain ⟨Z, HZ, hBoxZ, hBZ, hzZ⟩ : ∃ Z, Hid (Z = (w.alloc (.cells #[vm, .slice (some ⟨cb, co, none⟩) N ccap] 25)).alloc (instO op d a b imm)) /\ Box Z (w.heap.size + 1) op d a b imm /\ Below w.heap.size w Z /\ Z.heap.size = w.heap.size + 2 :=
  ⟨_, rfl, ⟨by go_cell, by go_cell, by go_cell, by go_cell, by go_cell⟩, by go_grown, by simp⟩
 have HSZ : Hid (SeesT Z (.slice (some ⟨sb, so, none⟩) 8 scap) s) := hs.below hBZ
 have hBs : s ≠ [] := fun e => by rw [e] at h8; simp at h8
 clear hs
 rcases hop with rfl | rfl | rfl | rfl
 all_goals go_enter Tryz.func65, Tryz.ntmps65
 all_goals go_wp2_with (first
  | (at_builtin; rw [<- HZ.out]; go_must (refine qAt rfl (.tmp 26) (.tmp 27) 57 rfl Z.heap.size 46 i0 (tyV Ty.nil) Tryz.underlying57 hi hz0 hz1 hz2 rfl _ [] rfl (qCk Z Z.heap.size (w.heap.size + 1 + 1) (Nat.le_refl _) (by omega)) _ s rfl (HSZ.out.below ((Below.refl _ _).alloc (Nat.le_refl _) _)) (by rw [h8]; unfold maxLen; simp) (by rw [h8]; simp) (by simp) ?_); intro v3 w3 hown3 hg3; go_must (have hb3 : Below Z.heap.size Z w3 := ((Below.refl _ _).alloc (Nat.le_refl _) _).grown hg3 (by simp) (fun j hj => by (have hj' : w.heap.size + 1 + 1 = j := Option.some.inj hj); omega); rw [List.nil_append, h8] at hown3; obtain ⟨g, c3, rfl, hg0, hc3, hm3⟩ := qBp hown3; have hS3 := Box.below hBoxZ hb3 (by omega); obtain ⟨x0, x1, x2, x3, x4⟩ := id hS3; have HS3 : Hid (SeesT w3 (.slice (some ⟨sb, so, none⟩) 8 scap) s) := HSZ.out.below hb3; have hz3 := hb3.size; clear hg3))
  | (go_at_call 62; go_must (refine (qAh _ _).mono ?_); rintro e w' ⟨rfl, rfl⟩; first | rw [show threeB 12 = false from rfl] | rw [show threeB 15 = false from rfl] | rw [show threeB 20 = false from rfl] | rw [show threeB 22 = false from rfl])
  | (go_at_call 63; go_must (refine (qAi _ _).mono ?_); rintro e w' ⟨rfl, rfl⟩; first | rw [show jumpB 12 = false from rfl] | rw [show jumpB 15 = false from rfl] | rw [show jumpB 20 = false from rfl] | rw [show jumpB 22 = false from rfl]))
 all_goals go_ret2
 all_goals exact ⟨_, rfl, qAu hown3 (by omega), hBZ.trans (hb3.mono (by omega))⟩
theorem Tryz.infoSpan9 : (Tryz.prog.info? 44).map (fun i => (i.zero, i.size, i.bytes)) = some (some (.agg #[.int .u64 0, .int .u64 0]), 2, 16) := by kernel_rfl
theorem infoS_parts : ∃ i, Tryz.prog.info? 44 = some i /\ i.zero = some (.agg #[.int .u64 0, .int .u64 0]) /\ i.size = 2 /\ i.bytes = 16 := by
 have h := Tryz.infoSpan9
 simp only [Option.map_eq_some_iff, Prod.mk.injEq] at h
 obtain ⟨i, h1, h2, h3, h4⟩ := h
 exact ⟨i, h1, h2, h3, h4⟩
theorem optV_join (ss : List (Int × Int)) : optV (if joinB ss = true then some (joinL ss) else none) = .tuple #[.agg #[.int .u64 (joinL ss).1, .int .u64 (joinL ss).2], .bool (joinB ss)] := by
 by_cases h : joinB ss = true
 ·rw [if_pos h, h]; rfl
 ·have h' : joinB ss = false := by simpa using h
  rw [if_neg h, h']
  unfold joinL
  rw [if_neg h]; rfl
theorem join_as {v : Value} {ss : List (Int × Int)} {w : World} (hs : SeesS w v ss) (hwf : ∀ s ∈ ss, wfS s) {lo hi : Int} {b : Bool} (h1 : Hid (joinL ss = (lo, hi))) (h2 : Hid (joinB ss = b)) :
  Calls Tryz.prog 66 #[v] w fun e w' => e = .returned (.tuple #[.agg #[.int .u64 lo, .int .u64 hi], .bool b]) /\ Below w.heap.size w w' := by
 have := rjoin_any v ss w hs hwf
 rw [optV_join, h1.out, h2.out] at this
 exact this
theorem one_span (w : World) (e : TypeId) (g : Nat) (hg : g = w.heap.size) (lo hi : Int) : ∀ j u, (flatS [(lo, hi)])[j]? = some u -> (w.alloc (.cells #[.int .u64 lo, .int .u64 hi] e)).cell? ((⟨g, 0, none⟩ : Addr).add j) = some u := by
 subst hg
 intro j u hu
 have hf : flatS [(lo, hi)] = [.int .u64 lo, .int .u64 hi] := by simp [flatS]
 rw [hf] at hu
 rw [Addr.add_mid, Nat.zero_add, World.cell?_alloc_at _ _ _ _ rfl]
 simpa using hu
theorem take_step (l : List Ty) (k : Nat) (h : k < l.length) : l.take (k + 1) = l.take k ++ [l.getD k Ty.nil] := by
 rw [List.take_succ_eq_append_getElem h]; simp [List.getD, h]
theorem like_fails {l : List Ty} {k : Nat} (hk : k < l.length) (h : likeB (l.getD 0 Ty.nil) (l.getD k Ty.nil) = false) : joinT l = Ty.nil := by
 unfold joinT
 rw [if_neg]
 intro ha
 have := (List.all_eq_true.1 ha) (l.getD k Ty.nil) (by simp [List.getD, hk])
 rw [h] at this; cases this
theorem BxT.parts {w : World} {n : Nat} {t : Ty} (h : BxT w n 0 t) : w.cell? ⟨n, 0, none⟩ = some (.int .i64 t.k) /\ w.cell? ⟨n, 1, none⟩ = some (.int .u64 t.lo) /\ w.cell? ⟨n, 2, none⟩ = some (.int .u64 t.hi) /\ w.cell? ⟨n, 3, none⟩ = some (.int .i64 t.m) /\
  w.frozen? ⟨n, 0, none⟩ = false /\ w.frozen? ⟨n, 1, none⟩ = false /\ w.frozen? ⟨n, 2, none⟩ = false /\ w.frozen? ⟨n, 3, none⟩ = false := ⟨h.1.1, h.1.2.1, h.1.2.2.1, h.1.2.2.2, h.2.1, h.2.2.1, h.2.2.2.1, h.2.2.2.2⟩
theorem BxT.grown {w w' : World} {n off : Nat} {t : Ty} {r : Option Nat} (h : BxT w n off t) (hg : w.grownBy w' r) (hn : n < w.heap.size) (hne : some n ≠ r) : BxT w' n off t := by
 have hb : w'.heap[n]? = w.heap[n]? := hg.block n hn hne
 have hc : ∀ j, w'.cell? ⟨n, j, none⟩ = w.cell? ⟨n, j, none⟩ := fun j => by simp only [World.cell?, hb]
 have hf : ∀ j, w'.frozen? ⟨n, j, none⟩ = w.frozen? ⟨n, j, none⟩ := fun j => by simp only [World.frozen?, hb]
 unfold BxT AtT
 rw [hc, hc, hc, hc, hf, hf, hf, hf]
 exact h
set_option maxHeartbeats 3200000 in
theorem joined_any (v : Value) (l : List Ty) (w : World) (hs : SeesT w v l) (hne : l ≠ []) (hw : ∀ t ∈ l, (0 <= t.lo /\ t.lo <= 18446744073709551615) /\ (0 <= t.hi /\ t.hi <= 18446744073709551615)) (hlen : l.length <= 1048576) :
  Calls Tryz.prog 33 #[v] w fun e w' => e = .returned (tyV (joinT l)) /\ Below w.heap.size w w' := by
 obtain ⟨i0, hi, hz0, hz1, hz2⟩ := infoS_parts
 obtain ⟨a, cap, rfl, hcap, hmax, _, hcell⟩ := hs
 obtain ⟨bk, off, rfl, hlt, hat⟩ := hcell hne
 unfold maxLen at hmax
 obtain ⟨n, HL⟩ : ∃ n, Hid (l.length = n) := ⟨_, rfl⟩
 have hn0 : 0 < n := by rw [<- HL.out]; exact List.length_pos_iff.2 hne
 obtain ⟨xk, xl, xh, xm, HX0⟩ : ∃ k lo hi m, Hid (l.getD 0 Ty.nil = ⟨k, lo, hi, m⟩) := ⟨_, _, _, _, rfl⟩
 have HW : Hid (∀ t ∈ l, (0 <= t.lo /\ t.lo <= 18446744073709551615) /\ (0 <= t.hi /\ t.hi <= 18446744073709551615)) := hw
 have HA0 : Hid (AtT w bk off ⟨xk, xl, xh, xm⟩) := by
  have := hat 0 (by rw [HL.out]; exact hn0)
  rw [HX0.out, Nat.zero_mul, Nat.add_zero] at this
  exact this
 rw [HL.out] at hcap hlen ⊢
 have HAT : Hid (∀ k, k < l.length -> AtT w bk (off + k * 4) (l.getD k Ty.nil)) := hat
 clear hat hcell hw
 go_enter Tryz.func33, Tryz.ntmps33
 go_wp2
 go_loopw [3, 4] (fun sp i wr => ∃ k : Nat, k <= n /\ i = .int .i64 k /\ wr.ownsRow (w.heap.size + 1) 44 2 sp k (flatS (spansT (l.take k))) /\ Hid ((l.take k).all (likeB ⟨xk, xl, xh, xm⟩) = true) /\ BxT wr w.heap.size 0 Ty.nil /\ Below w.heap.size w wr /\ w.heap.size < wr.heap.size) (fun _ i _ => n - (intOf i).toNat)
 case atStart => exact ⟨0, by omega, rfl, ⟨rfl, .inl ⟨rfl, rfl⟩⟩, rfl, box_new w, (Below.refl _ _).alloc (Nat.le_refl _) _, by simp⟩
 case round =>
  obtain ⟨k, hk, rfl, hown, HLK, hX, hbr, hzr⟩ := hrel
  have HX : Hid (BxT wr w.heap.size 0 Ty.nil) := hX
  obtain ⟨c0, c1, c2, c3, f0, f1, f2, f3⟩ := hX.parts
  obtain ⟨x0, x1, x2, x3⟩ := HA0.out.below hbr hlt
  simp only at x0 x1 x2 x3
  clear hX
  by_cases hkn : k < n
  ·have hkl : k < l.length := by rw [HL.out]; exact hkn
   obtain ⟨tk, tl, th, tm, HT⟩ : ∃ k' lo hi m, Hid (l.getD k Ty.nil = ⟨k', lo, hi, m⟩) := ⟨_, _, _, _, rfl⟩
   have hA := (HAT.out k hkl).below hbr hlt
   rw [HT.out] at hA
   obtain ⟨t0, t1, t2, t3⟩ := hA
   simp only at t0 t1 t2 t3
   have hfail : Hid (likeB ⟨xk, xl, xh, xm⟩ ⟨tk, tl, th, tm⟩ = false -> joinT l = Ty.nil) := fun e => like_fails hkl (by rw [HX0.out, HT.out]; exact e)
   have hstep : Hid (likeB ⟨xk, xl, xh, xm⟩ ⟨tk, tl, th, tm⟩ = true -> (l.take (k + 1)).all (likeB ⟨xk, xl, xh, xm⟩) = true) := fun e => by
    rw [take_step l k hkl, List.all_append, HLK.out, HT.out]; simp [e]
   have HSP : Hid (spansT (l.take (k + 1)) = spansT (l.take k) ++ [(tl, th)]) := by show _ = _; rw [take_step l k hkl, HT.out]; simp [spansT]
   by_cases hkk : tk = xk
   case neg =>
    have hg1 : (tk != xk) = true := by simp [hkk]
    have HE : Hid (joinT l = Ty.nil) := hfail.out (by simp [likeB, hkk])
    clear hfail hstep hkk
    go_wp2
    go_region
    go_wp2
    rw [HE.out]
    exact qBn rfl rfl (t := Ty.nil) (show BxT wr.drew w.heap.size 0 Ty.nil from HX.out) (below_drewN hbr 1) (Nat.le_refl _)
   subst hkk
   have HRest : Hid (likeB ⟨tk, xl, xh, xm⟩ ⟨tk, tl, th, tm⟩ = true -> True) := fun _ => trivial
   by_cases h2 : tk = 2
   ·subst h2
    by_cases hmm : tm = xm
    case neg =>
     have hg2 : (tm != xm) = true := by simp [hmm]
     have HE : Hid (joinT l = Ty.nil) := hfail.out (by simp [likeB, hmm])
     clear hfail hstep hmm
     go_wp2
     go_region
     go_wp2
     rw [HE.out]
     exact qBn rfl rfl (t := Ty.nil) (show BxT wr.drew w.heap.size 0 Ty.nil from HX.out) (below_drewN hbr 1) (Nat.le_refl _)
    subst hmm
    have HLK1 := hstep.out (by simp [likeB])
    have HLK' : Hid ((l.take (k + 1)).all (likeB ⟨2, xl, xh, tm⟩) = true) := HLK1
    clear HLK1 hstep hfail
    go_wp2
    go_region
    go_wp2_with (at_builtin; go_must (refine wpList_append_own _ rfl (.tmp 44) (.tmp 50) 111 rfl (w.heap.size + 1) 44 i0 (.agg #[.int .u64 0, .int .u64 0]) 2 16 Tryz.underlying111 hi hz0 hz1 hz2 rfl (by decide) _ _ _ rfl (hown.drew.alloc _) ⟨_, 0, none⟩ 1 1 (flatS [(tl, th)]) rfl rfl (one_span _ _ _ (by first | rfl | simp) tl th) (flatS_one _) (by unfold maxLen; omega) (by omega) (by simp; omega) ?_); intro v6 w6 hown6 hg6 _; go_must (have hg6' := hg6; have HB6 : Hid (Below w.heap.size w w6) := ((below_drewN hbr 1).alloc hbr.size _).grown hg6 (by have := hbr.size; first | omega | (simp; done) | (simp; omega)) (fun j hj => by have := (hown.lt j hj).1; omega); have HX6 : Hid (BxT w6 w.heap.size 0 Ty.nil) := BxT.grown (BxT.below (show BxT wr.drew w.heap.size 0 Ty.nil from HX.out) ((Below.refl _ _).alloc (Nat.le_refl _) _) hzr) hg6 (by first | omega | (simp; done) | (simp; omega)) (fun e => by have := (hown.lt _ e.symm).1; omega); (have hz6 : w.heap.size < w6.heap.size := by (have := hg6.size); simp at this; omega); rw [flatS_app, <- HSP.out] at hown6; clear hg6 hg6'))
    go_roundw
    case rel => exact ⟨k + 1, by omega, by go_num, hown6, HLK', HX6.out, HB6.out, hz6⟩
    case measure => simp [intOf]; omega
   ·have hg2 : (tk == 2) = false := by simp [h2]
    have HLK1 := hstep.out (by simp [likeB, h2])
    have HLK' : Hid ((l.take (k + 1)).all (likeB ⟨tk, xl, xh, xm⟩) = true) := HLK1
    clear HLK1 hstep hfail
    go_wp2
    go_region
    go_wp2_with (at_builtin; go_must (refine wpList_append_own _ rfl (.tmp 44) (.tmp 50) 111 rfl (w.heap.size + 1) 44 i0 (.agg #[.int .u64 0, .int .u64 0]) 2 16 Tryz.underlying111 hi hz0 hz1 hz2 rfl (by decide) _ _ _ rfl (hown.drew.alloc _) ⟨_, 0, none⟩ 1 1 (flatS [(tl, th)]) rfl rfl (one_span _ _ _ (by first | rfl | simp) tl th) (flatS_one _) (by unfold maxLen; omega) (by omega) (by simp; omega) ?_); intro v6 w6 hown6 hg6 _; go_must (have hg6' := hg6; have HB6 : Hid (Below w.heap.size w w6) := ((below_drewN hbr 1).alloc hbr.size _).grown hg6 (by have := hbr.size; first | omega | (simp; done) | (simp; omega)) (fun j hj => by have := (hown.lt j hj).1; omega); have HX6 : Hid (BxT w6 w.heap.size 0 Ty.nil) := BxT.grown (BxT.below (show BxT wr.drew w.heap.size 0 Ty.nil from HX.out) ((Below.refl _ _).alloc (Nat.le_refl _) _) hzr) hg6 (by first | omega | (simp; done) | (simp; omega)) (fun e => by have := (hown.lt _ e.symm).1; omega); (have hz6 : w.heap.size < w6.heap.size := by (have := hg6.size); simp at this; omega); rw [flatS_app, <- HSP.out] at hown6; clear hg6 hg6'))
    go_roundw
    case rel => exact ⟨k + 1, by omega, by go_num, hown6, HLK', HX6.out, HB6.out, hz6⟩
    case measure => simp [intOf]; omega
  ·obtain rfl : k = n := by omega
   have e : l.take k = l := by rw [<- HL.out]; exact List.take_length
   have HALL : Hid (l.all (likeB ⟨xk, xl, xh, xm⟩) = true) := by have := HLK.out; rw [e] at this; exact this
   rw [e] at hown
   by_cases h1 : xk = 1
   ·subst h1
    have e2 : (spansT l).length = k := by rw [spansT, List.length_map]; exact HL.out
    have hown2 : wr.ownsRow (w.heap.size + 1) 44 2 u3 (spansT l).length (flatS (spansT l)) := by rw [e2]; exact hown
    have HSS : Hid (SeesS wr u3 (spansT l)) := own_seesS hown2
    clear e2 hown2
    have HWF : Hid (∀ s ∈ spansT l, wfS s) := fun s hs => by
     obtain ⟨t, ht, rfl⟩ := List.mem_map.1 hs
     exact HW.out t ht
    obtain ⟨jl, jh, HJ⟩ : ∃ a b, Hid (joinL (spansT l) = (a, b)) := ⟨_, _, rfl⟩
    obtain ⟨jb, HB⟩ : ∃ b, Hid (joinB (spansT l) = b) := ⟨_, rfl⟩
    have HE : Hid (joinT l = num2 jl jh) := by
     show _ = _
     unfold joinT
     rw [HX0.out, if_pos HALL.out, if_pos rfl, HJ.out]
    clear hown
    go_wp2_with (first
     | (go_at_call 66; go_must (refine (join_as HSS.out HWF.out HJ HB).mono ?_); rintro e w5 ⟨rfl, hb5⟩; go_must (have hz5 := hb5.size))
     | (go_at_call 67; go_must (refine (jnum_any _ _ _).mono ?_); rintro e w6 ⟨rfl, hb6⟩; go_must (have hb6' : Below wr.heap.size wr w6 := (hb5.alloc hz5 _).trans (hb6.mono (by simp; omega)); have HX6 : Hid (BxT w6 w.heap.size 0 Ty.nil) := HX.out.below hb6' hzr; have hB6 : Below w.heap.size w w6 := hbr.trans (hb6'.mono hbr.size); obtain ⟨c0, c1, c2, c3, f0, f1, f2, f3⟩ := HX6.out.parts; clear hb6 hb6')))
    rw [HE.out]
    exact qBn rfl rfl (t := num2 jl jh) HX6.out hB6 (Nat.le_refl _)
   ·have hg1 : (xk == 1) = false := by simp [h1]
    have HE : Hid (joinT l = ⟨xk, xl, xh, xm⟩) := by
     show _ = _
     unfold joinT
     rw [HX0.out, if_pos HALL.out, if_neg h1]
    clear hown h1
    go_wp2
    rw [HE.out]
    exact qBn rfl rfl (t := ⟨xk, xl, xh, xm⟩) HX.out hbr (Nat.le_refl _)
end Go.Proofs.YtkcofelpndlplaaGreat
