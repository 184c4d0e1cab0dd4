/-
  W9Judges
  W9Types
  W9TypesW
  W9TypesG
-/
import Derived.Test.YtkcofelpndlplaaGreatMT51
import Derived.Test.YtkcofelpndlplaaGreatMT34
import Derived.Test.YtkcofelpndlplaaGreatMT48
import Derived.Test.YtkcofelpndlplaaGreatMT47
namespace Go.Proofs.YtkcofelpndlplaaGreat
open Go.RowKit
set_option linter.unusedVariables false
set_option linter.unusedSimpArgs false
set_option maxRecDepth 100000
theorem rall_as {vm vc : Value} {ms : List Int} {xs : List In} {w : World} (hm : Sees .i64 w vm ms) (hx : SeesI w vc xs) {P E : Int} (h : Hid ((allJ ms xs).2 = (P, E))) {K : List St} (hK : Hid ((allJ ms xs).1 = K)) :
  Calls Tryz.prog 8 #[.agg #[vm, vc]] w fun e w' => ∃ u, e = .returned (.tuple #[u, .int .i64 P, .int .i64 E]) /\ Ss w.heap.size w' u K /\ Below w.heap.size w w' := by
 have := rall_any vm ms vc xs w hm hx
 rw [h.out, hK.out] at this
 exact this
theorem ltypes_at {vm vc : Value} {ms : List Int} {xs : List In} {w : World} (hm : Sees .i64 w vm ms) (hx : SeesI w vc xs) {K : Kn} (h : Hid (inqR ms xs = .ok K)) : Calls Tryz.prog 10 #[.agg #[vm, vc]] w fun e w' => ∃ tb vs, e = .returned (.tuple #[.slice (some ⟨tb, 0, none⟩) xs.length xs.length, .int .i64 0]) /\ Rows9 w' tb K xs.length vs /\ w.heap.size <= tb /\ Below w.heap.size w w' := by
 refine (ltypes_any vm ms vc xs w hm hx).mono ?_
 rintro e w' (⟨P, E, h1, _⟩ | ⟨K', tb, vs, h1, hT, hmf, hr, hl, hM, rfl, hR, ht, hb⟩)
 ·rw [h.out] at h1; cases h1
 ·rw [h.out] at h1; injection h1 with h1; subst h1
  exact ⟨tb, vs, rfl, hR, ht, hb⟩
theorem ltypes_bad {vm vc : Value} {ms : List Int} {xs : List In} {w : World} (hm : Sees .i64 w vm ms) (hx : SeesI w vc xs) {P E : Int} (h : Hid (inqR ms xs = .error (P, E))) : Calls Tryz.prog 10 #[.agg #[vm, vc]] w fun e w' => e = .returned (.tuple #[.slice none 0 0, .int .i64 E]) /\ Below w.heap.size w w' := by
 refine (ltypes_any vm ms vc xs w hm hx).mono ?_
 rintro e w' (⟨P', E', h1, h2, rfl, hb⟩ | ⟨K', tb, vs, h1, _⟩)
 ·rw [h.out] at h1
  injection h1 with h1
  injection h1 with h3 h4
  subst h4
  exact ⟨rfl, hb⟩
 ·rw [h.out] at h1; cases h1
theorem all_err {ms : List Int} {xs : List In} {P E : Int} (h : inqR ms xs = .error (P, E)) : allJ ms xs = ([], P, E) := by
 have hj := judge_all ms xs
 unfold judgeR at hj
 rw [h] at hj
 simp only at hj
 have h1 : (allJ ms xs).1 = [] := by
  unfold inqR at h
  unfold allJ
  by_cases hmf : mapsJ ms = false
  ·rw [if_pos hmf]
  ·rw [if_neg hmf] at h ⊢
   by_cases hE : (checkL xs).2 = 0
   ·rw [if_neg (show ¬ errL xs ≠ 0 from fun h => h hE)] at h
    rw [if_neg (show ¬ (checkL xs).2 ≠ 0 from fun h => h hE)]
    rcases pull_run (nm := ms.length) (check_ok.1 hE) xs.length (Nat.le_refl _) with ⟨e, h1, h2⟩ | ⟨K', known, h1, h2, hP⟩
    ·rw [h2]
    ·rw [h1] at h; cases h
   ·rw [if_pos (show (checkL xs).2 ≠ 0 from hE)]
 exact Prod.ext h1 hj.symm
theorem all_ok {ms : List Int} {xs : List In} {K : Kn} (h : inqR ms xs = .ok K) : ∃ S, allJ ms xs = (S, 0, 0) /\ S.length = xs.length /\ K.length = xs.length /\ xs.length <= 64 /\ ∀ j, j < xs.length -> S.getD j [] = if (K.getD j kn0).1 = true then (K.getD j kn0).2 else [] := by
 unfold inqR at h
 unfold allJ
 by_cases hmf : mapsJ ms = false
 ·rw [if_pos hmf] at h; cases h
 ·rw [if_neg hmf] at h ⊢
  by_cases hE : (checkL xs).2 = 0
  ·rw [if_neg (show ¬ errL xs ≠ 0 from fun h => h hE)] at h
   rw [if_neg (show ¬ (checkL xs).2 ≠ 0 from fun h => h hE)]
   have hT := check_ok.1 hE
   rcases pull_run (nm := ms.length) hT xs.length (Nat.le_refl _) with ⟨e, h1, h2⟩ | ⟨K', known, h1, h2, hP⟩
   ·rw [h1] at h; cases h
   ·rw [h1] at h
    injection h with h
    subst h
    rw [h2]
    exact ⟨known, rfl, hP.len, hP.klen, hT.top, hP.low⟩
  ·rw [if_pos (show errL xs ≠ 0 from hE)] at h; cases h
def Near (w0 : World) (vi v : Value) (m k : Nat) : Prop := (∃ g cap, vi = .slice (some ⟨g, 0, none⟩) m cap /\ v = .slice (some ⟨g, 0, none⟩) (m + k) cap) ∨ ∀ b, v.ownBlock = some b -> w0.heap.size <= b
theorem Pt.append {B1 B2 : Nat} {w0 w w' : World} {tb : Nat} {T : List St} {vs : List Value} {i k : Nat} {s ys : St} {t : Ty} {v v' : Value} {o : Obj} (h : Pt B1 B2 w0 w tb T vs) (hi : i < T.length) (hs : T.getD i [] = s) (hk : ys.length = k) (hB2 : B2 <= w0.heap.size) (htb : tb < w0.heap.size)
  (hn : Near w0 (vs.getD i nilV) v s.length k) (hown : w'.ownsRow B1 46 4 v' (s.length + k + 1) (flatT (s ++ ys) ++ flatT [t])) (hg : (w.alloc o).grownBy w' v.ownBlock)
  (hat : (∃ g cap, v = .slice (some ⟨g, 0, none⟩) (s.length + k) cap /\ v' = .slice (some ⟨g, 0, none⟩) (s.length + k + 1) cap) ∨ ((w.alloc o).grownBy w' none /\ v'.ownBlock = some (w.alloc o).heap.size)) :
  Pt B1 B2 w0 w' tb T vs /\ Near w0 (vs.getD i nilV) v' s.length (k + 1) := by
 have ha := h.alloc o
 rcases hat with ⟨g, cap, rfl, rfl⟩ | ⟨hq, hb⟩
 ·rcases hn with ⟨g', cap', hvi, hv⟩ | hf
  ·injection hv with e1 e2 e3
   injection e1 with e1
   injection e1 with e1
   subst e1
   subst e3
   have hrow : w'.ownsRow B1 46 4 (vs.getD i nilV) s.length (flatT s) := by
    obtain ⟨hl, ⟨e, _⟩ | ⟨g', cap', cur, e, hb, hh, hn, hm, hcs, htake⟩⟩ := hown
    ·cases e
    ·injection e with e1 e2 e3
     injection e1 with e1
     injection e1 with e1
     subst e1
     subst e3
     refine ⟨qCq s, .inr ⟨g, cap, cur, hvi, hb, hh, by omega, hm, hcs, ?_⟩⟩
     have h2 := congrArg (List.take (s.length * 4)) htake
     rw [List.take_take, Nat.min_eq_left (by omega), <- flatT_app, List.append_assoc] at h2
     rw [h2]
     exact List.take_left' (qCq s)
   have hp := ha.turn hi (g := g) (s := s) (by rw [hvi]; rfl) hrow (by simpa [Value.ownBlock] using hg)
   have hset : T.set i s = T := listS_ext (by simp) fun j hj => by
    rw [setS_at hi]
    split
    ·rename_i e; subst e; exact hs.symm
    ·rfl
   rw [hset] at hp
   exact ⟨hp, .inl ⟨g, cap, hvi, by rw [Nat.add_assoc]⟩⟩
  ·have hgz := hf g rfl
   refine ⟨ha.grown hg (fun e => ?_) (fun j hj => ?_) (fun b e => ?_), .inr fun b e => ?_⟩
   ·have : g = tb := by simpa [Value.ownBlock] using e
    omega
   ·cases hv : (vs.getD j nilV).ownBlock with
    | none => exact .inl rfl
    | some b =>
     right
     intro e
     have e2 : b = g := by simpa [Value.ownBlock] using e
     have := h.low j hj b hv
     omega
   ·have : g = b := by simpa [Value.ownBlock] using e
    omega
   ·have : g = b := by simpa [Value.ownBlock] using e
    omega
 ·refine ⟨ha.quiet hq, .inr fun b e => ?_⟩
  rw [hb] at e
  injection e with e
  have := h.only.size
  rw [World.size_alloc] at e
  omega
def t99 : Ty := ⟨99, 0, 0, 0⟩
set_option maxHeartbeats 6400000 in
theorem types9_bad (vm vc : Value) (ms : List Int) (xs : List In) (w : World) (h : SeesM w vm vc ms xs) (z : ms.length * 8 <= 140737488351232 /\ xs.length * 40 <= 140737488355328) (P E : Int) (hI : Hid (inqR ms xs = .error (P, E))) :
  Calls Tryz.prog 4 #[modV vm vc] w fun e w' => e = .returned (.bool true) /\ Below w.heap.size w w' := by
 have HM := keepJ h
 have HZ := keepJ z
 have HA : Hid ((allJ ms xs).2 = (P, E)) := by show _ = _; rw [all_err hI.out]
 have HK : Hid ((allJ ms xs).1 = []) := by show _ = _; rw [all_err hI.out]
 obtain ⟨W, HW, HBW, hWz, m0, m1⟩ : ∃ W, Hid (W = w.alloc (Obj.cells #[vm, vc] 25)) /\ Hid (Below w.heap.size w W) /\ w.heap.size < W.heap.size /\ W.cell? ⟨w.heap.size, 0, none⟩ = some vm /\ W.cell? ⟨w.heap.size, 1, none⟩ = some vc :=
  ⟨_, rfl, keepJ (by go_grown), by simp, by go_cell, by go_cell⟩
 have HMW := keepJ (HM.out.below HBW.out)
 have K1 : Hid True := trivial
 have K2 : Hid True := trivial
 have K3 : Hid True := trivial
 have K4 : Hid True := trivial
 have K5 : Hid True := trivial
 clear h z
 go_enter Tryz.func4, Tryz.ntmps4
 go_wp2_with (first
  | (go_at_call 5; rw [<- HW.out]; go_must (refine (awake9_any _).mono ?_); rintro e w1 ⟨rfl, hb1⟩; go_must (have hS1 := keepM2 ⟨m0, m1⟩ hb1 hWz; have hz1 := hb1.size; have HM1 := keepJ (HMW.out.below hb1); clear m0 m1; obtain ⟨m0, m1⟩ := hS1))
  | (go_at_call 6; (have hq := K1; clear hq); go_must (refine (copied9_any _ _ ms xs _ HM1.out HZ.out).mono ?_); rintro e w2 ⟨um, uc, rfl, hM2, hb2⟩; go_must (have HM2 := keepJ hM2; have hz2 := hb2.size; have hS2 := keepM2 ⟨m0, m1⟩ hb2 (by omega); clear m0 m1; obtain ⟨m0, m1⟩ := hS2; clear hM2 K1))
  | (go_at_call 10; (have hq := K2; clear hq); go_must (refine (ltypes_bad HM2.out.maps HM2.out.code hI).mono ?_); rintro e w3 ⟨rfl, hb3⟩; go_must (have hz3 := hb3.size; have hS3 := keepM2 ⟨m0, m1⟩ hb3 (by omega); clear m0 m1; obtain ⟨m0, m1⟩ := hS3; have HB3 : Hid (Below w1.heap.size w1 w3) := hb2.trans (hb3.mono hz2); have HM3 := keepJ (HM1.out.below HB3.out); clear K2))
  | (go_at_call 6; go_must (refine (copied9_any _ _ ms xs _ HM3.out HZ.out).mono ?_); rintro e w4 ⟨um', uc', rfl, hM4, hb4⟩; go_must (have HM4 := keepJ hM4; have hz4 := hb4.size; have hS4 := keepM2 ⟨m0, m1⟩ hb4 (by omega); clear m0 m1; obtain ⟨m0, m1⟩ := hS4; clear hM4))
  | (go_at_call 10; go_must (refine (ltypes_bad HM4.out.maps HM4.out.code hI).mono ?_); rintro e w5 ⟨rfl, hb5⟩; go_must (have hz5 := hb5.size; have hS5 := keepM2 ⟨m0, m1⟩ hb5 (by omega); clear m0 m1; obtain ⟨m0, m1⟩ := hS5; have HB5 : Hid (Below w1.heap.size w1 w5) := HB3.out.trans ((hb4.trans (hb5.mono hz4)).mono HB3.out.size); have HM5 := keepJ (HM1.out.below HB5.out)))
  | (go_at_call 8; go_must (refine (rall_as HM5.out.maps HM5.out.code HA HK).mono ?_); rintro e w6 ⟨u, rfl, hS, hb6⟩; go_must (have HB6 : Hid (Below w1.heap.size w1 w6) := HB5.out.trans (hb6.mono HB5.out.size); have HU := keepJ hS.rd; obtain ⟨ua, uk, rfl⟩ := hS.shape; clear hS))
  | (go_at_call 11; (have hq := K3; clear hq); go_must (refine (alike_any _ _ [] 0 _ _ (Rd.nil 0 _) HU.out).mono ?_); rintro e w7 ⟨rfl, hb7⟩; go_must (have HB7 : Hid (Below w1.heap.size w1 w7) := HB6.out.trans (hb7.mono HB6.out.size); have HU7 := keepJ (HU.out.below hb7); clear K3))
  | (go_at_call 11; (have hq := K4; clear hq); go_must (refine (alike_any _ _ [] 0 _ _ (Rd.nil 0 _) HU7.out).mono ?_); rintro e w8 ⟨rfl, hb8⟩; go_must (have HB8 : Hid (Below w1.heap.size w1 w8) := HB7.out.trans (hb8.mono HB7.out.size); have HU8 := keepJ (HU7.out.below hb8); clear K4)))
 go_loopw [10] (fun v10 wr => v10 = .int .i64 0 /\ w8 = wr) (fun _ _ => 0)
 case atStart => exact ⟨rfl, rfl⟩
 case round =>
  obtain ⟨rfl, rfl⟩ := hrel
  go_wp2
  go_loopw [12] (fun v12 wr => v12 = .int .i64 0 /\ w8 = wr) (fun _ _ => 0)
  case atStart => exact ⟨rfl, rfl⟩
  case round =>
   obtain ⟨rfl, rfl⟩ := hrel
   go_wp2_with (go_at_call 11; go_must (refine (alike_any _ _ [] 0 _ _ (Rd.nil 0 _) HU8.out).mono ?_); rintro e w9 ⟨rfl, hb9⟩; go_must (have HB9 : Hid (Below w1.heap.size w1 w9) := HB8.out.trans (hb9.mono HB8.out.size)))
   go_ret
   exact ⟨rfl, HBW.out.trans ((hb1.trans (HB9.out.mono hz1)).mono HBW.out.size)⟩
theorem flat_pnt {m i k : Nat} (hk : k < m) (ys : List Ty) {j : Nat} (hj : j < 4) : (flatT (List.replicate m (pnt i) ++ ys))[k * 4 + j]? = (tyC (pnt i))[j]? := by
 rw [flatT_at _ k j (by simp; omega) hj]
 congr 2
 simp [List.getD, List.getElem?_append_left (show k < (List.replicate m (pnt i)).length by simpa using hk), List.getElem?_replicate, hk]
theorem lit99 (w : World) (g : Nat) (hg : g = w.heap.size) : ∀ j x, (flatT [t99])[j]? = some x -> (w.alloc (.cells #[.int .i64 99, .int .u64 0, .int .u64 0, .int .i64 0] 46)).cell? ((⟨g, 0, none⟩ : Addr).add j) = some x := by
 intro j x hx
 subst hg
 have hj : j < 4 := by have := (List.getElem?_eq_some_iff.1 hx).1; simpa [flatT] using this
 have : (flatT [t99])[j]? = (#[Value.int .i64 99, .int .u64 0, .int .u64 0, .int .i64 0] : Array Value)[j]? := by
  match j, hj with
  | 0, _ => rfl
  | 1, _ => rfl
  | 2, _ => rfl
  | 3, _ => rfl
 rw [this] at hx
 match j, hj with
 | 0, _ => simp at hx; subst hx; simp [Addr.add]
 | 1, _ => simp at hx; subst hx; simp [Addr.add]
 | 2, _ => simp at hx; subst hx; simp [Addr.add]
 | 3, _ => simp at hx; subst hx; simp [Addr.add]
set_option maxHeartbeats 12800000 in
theorem types9_good (vm vc : Value) (ms : List Int) (xs : List In) (w : World) (h : SeesM w vm vc ms xs) (z : ms.length * 8 <= 140737488351232 /\ xs.length * 40 <= 140737488355328) (K : Kn) (hI : Hid (inqR ms xs = .ok K)) :
  Calls Tryz.prog 4 #[modV vm vc] w fun e w' => e = .returned (.bool true) /\ Below w.heap.size w w' := by
 have HM := keepJ h
 have HZ := keepJ z
 obtain ⟨Q, hQ, hQl, hKl, h64, hQK⟩ := all_ok hI.out
 have HQK := keepJ hQK
 have HQL := keepJ hQl
 have HKL := keepJ hKl
 have HA : Hid ((allJ ms xs).2 = (0, 0)) := by show _ = _; rw [hQ]
 have HK : Hid ((allJ ms xs).1 = Q) := by show _ = _; rw [hQ]
 obtain ⟨i0, hi, hz0, hzz1, hz2i⟩ := qBi
 obtain ⟨N, HN⟩ : ∃ N, Hid (xs.length = N) := ⟨_, rfl⟩
 have hN64 : N <= 64 := by rw [<- HN.out]; exact h64
 rw [HN.out] at HQK HQL HKL
 obtain ⟨W, HW, HBW, hWz, m0, m1⟩ : ∃ W, Hid (W = w.alloc (Obj.cells #[vm, vc] 25)) /\ Hid (Below w.heap.size w W) /\ w.heap.size < W.heap.size /\ W.cell? ⟨w.heap.size, 0, none⟩ = some vm /\ W.cell? ⟨w.heap.size, 1, none⟩ = some vc :=
  ⟨_, rfl, keepJ (by go_grown), by simp, by go_cell, by go_cell⟩
 have HMW := keepJ (HM.out.below HBW.out)
 have K1 : Hid True := trivial
 have K2 : Hid True := trivial
 have K3 : Hid True := trivial
 clear h z hQ hQl hKl h64 hQK
 go_enter Tryz.func4, Tryz.ntmps4
 go_wp2_with (first
  | (go_at_call 5; rw [<- HW.out]; go_must (refine (awake9_any _).mono ?_); rintro e w1 ⟨rfl, hb1⟩; go_must (have hS1 := keepM2 ⟨m0, m1⟩ hb1 hWz; have hz1 := hb1.size; have HM1 := keepJ (HMW.out.below hb1); clear m0 m1; obtain ⟨m0, m1⟩ := hS1))
  | (go_at_call 6; (have hq := K1; clear hq); go_must (refine (copied9_any _ _ ms xs _ HM1.out HZ.out).mono ?_); rintro e w2 ⟨um, uc, rfl, hM2, hb2⟩; go_must (have HM2 := keepJ hM2; have hz2 := hb2.size; have hS2 := keepM2 ⟨m0, m1⟩ hb2 (by omega); clear m0 m1; obtain ⟨m0, m1⟩ := hS2; clear hM2 K1))
  | (go_at_call 10; (have hq := K2; clear hq); go_must (refine (ltypes_at HM2.out.maps HM2.out.code hI).mono ?_); rintro e w3 ⟨tb, vs, rfl, hRA, htA, hb3⟩; go_must (rw [HN.out] at hRA ⊢; have HRA := keepJ hRA; have hz3 := hb3.size; have hS3 := keepM2 ⟨m0, m1⟩ hb3 (by omega); clear m0 m1; obtain ⟨m0, m1⟩ := hS3; have HB3 : Hid (Below w1.heap.size w1 w3) := hb2.trans (hb3.mono hz2); have HM3 := keepJ (HM1.out.below HB3.out); clear K2 hRA))
  | (go_at_call 6; go_must (refine (copied9_any _ _ ms xs _ HM3.out HZ.out).mono ?_); rintro e w4 ⟨um', uc', rfl, hM4, hb4⟩; go_must (have HM4 := keepJ hM4; have hz4 := hb4.size; have hS4 := keepM2 ⟨m0, m1⟩ hb4 (by omega); clear m0 m1; obtain ⟨m0, m1⟩ := hS4; clear hM4))
  | (go_at_call 10; go_must (refine (ltypes_at HM4.out.maps HM4.out.code hI).mono ?_); rintro e w5 ⟨tc, us, rfl, hRB, htB, hb5⟩; go_must (rw [HN.out] at hRB ⊢; have HRB := keepJ (hRB.rd (S := Q) HKL.out HQL.out hN64 HQK.out htB); have hz5 := hb5.size; have hS5 := keepM2 ⟨m0, m1⟩ hb5 (by omega); clear m0 m1; obtain ⟨m0, m1⟩ := hS5; have HB35 : Hid (Below w3.heap.size w3 w5) := hb4.trans (hb5.mono hz4); have HM5 := keepJ (HM3.out.below HB35.out); clear hRB))
  | (go_at_call 8; go_must (refine (rall_as HM5.out.maps HM5.out.code HA HK).mono ?_); rintro e w6 ⟨u, rfl, hS, hb6⟩; go_must (have HB36 : Hid (Below w3.heap.size w3 w6) := HB35.out.trans (hb6.mono HB35.out.size); have HU := keepJ hS.rd; have HRB6 := keepJ (HRB.out.below hb6); have HRA6 := keepJ ((HRA.out.rd (S := Q) HKL.out HQL.out hN64 HQK.out (Nat.le_refl _)).below HB36.out); have hz6 := hb6.size; obtain ⟨ua, uk, rfl⟩ := hS.shape; rw [HQL.out] at HU ⊢; clear hS HRB))
  | (go_at_call 11; (have hq := K3; clear hq); go_must (refine (alike_any _ _ Q _ _ _ HRA6.out HU.out).mono ?_); rintro e w7 ⟨rfl, hb7⟩; go_must (have HB37 : Hid (Below w3.heap.size w3 w7) := HB36.out.trans (hb7.mono HB36.out.size); have HU7 := keepJ (HU.out.below hb7); have HRB7 := keepJ (HRB6.out.below hb7); have hz7 := hb7.size; clear K3 HRA6 HRB6 HU))
  | (go_at_call 11; go_must (refine (alike_any _ _ Q _ _ _ HRB7.out HU7.out).mono ?_); rintro e w8 ⟨rfl, hb8⟩; go_must (have HB38 : Hid (Below w3.heap.size w3 w8) := HB37.out.trans (hb8.mono HB37.out.size); have HU8 := keepJ (HU7.out.below hb8); have HRB8 := keepJ (HRB7.out.below hb8); have hz8 := hb8.size; clear HU7 HRB7)))
 have HPT : Hid (Pt w2.heap.size w3.heap.size w8 w8 tb Q vs) := HRA.out.pt HKL.out HQL.out HQK.out htA HB38.out
 have HZ8 := keepJ HB38.out.size
 have htb8 : tb < w8.heap.size := by have := HRA.out.cells.lt; have := HZ8.out; omega
 have hz38 : w3.heap.size <= w8.heap.size := HZ8.out
 have HB18 : Hid (Below w1.heap.size w1 w8) := HB3.out.trans (HB38.out.mono HB3.out.size)
 have hQ9 : ∀ i, i < N -> (Q.getD i []).length <= 8 := fun i hi => by
  rw [HQK.out i hi]
  split
  ·rename_i hk
   have := ((HRA.out.row i hi).2 hk).2.1
   omega
  ·simp
 have HQ9 := keepJ hQ9
 clear hQ9 HRA
 go_loopw [10] (fun v10 wr => ∃ i : Nat, i <= N /\ v10 = .int .i64 i /\ Hid (Pt w2.heap.size w3.heap.size w8 wr tb (pntU Q i) vs)) (fun v10 _ => N - (intOf v10).toNat)
 case atStart => exact ⟨0, by omega, rfl, by show Pt _ _ _ _ _ _ _; rw [pntU_zero]; exact HPT.out⟩
 case round =>
  clear HPT m0 m1
  rename World => wa
  obtain ⟨i, hiN, rfl, HP⟩ := hrel
  by_cases hlt : i < N
  ·have hltI : (i : Int) < N := by omega
   have hiQ : i < Q.length := by rw [HQL.out]; exact hlt
   obtain ⟨s, HS⟩ : ∃ s, Hid (Q.getD i [] = s) := ⟨_, rfl⟩
   obtain ⟨m, Hm⟩ : ∃ m, Hid (s.length = m) := ⟨_, rfl⟩
   have hm8 : m <= 8 := by have := HQ9.out i hlt; rw [HS.out, Hm.out] at this; exact this
   have HSt := keepJ (pntU_start Q hiQ)
   have HNx := keepJ (pntU_next Q hiQ)
   rw [HS.out] at HSt HNx
   rw [Hm.out] at HNx
   obtain ⟨va, ca, hva⟩ : ∃ a c, vs.getD i nilV = .slice a m c := by
    have := qCj (HP.out.row i (by rw [qCi]; exact hiQ))
    rw [pntU_at Q hiQ, if_neg (by omega), HS.out, Hm.out] at this
    exact this
   have HVA := keepJ hva
   clear hva
   go_wp2
   go_loopw [11] (fun v11 wr => ∃ k : Nat, k <= m /\ v11 = .int .i64 k /\ Hid (Pt w2.heap.size w3.heap.size w8 wr tb ((pntU Q i).set i (pntR i s k)) vs)) (fun v11 _ => m - (intOf v11).toNat)
   case atStart => exact ⟨0, by omega, rfl, by show Pt _ _ _ _ _ _ _; rw [HSt.out]; exact HP.out⟩
   case round =>
    clear HP
    rename World => wb
    obtain ⟨k, hk, rfl, HP⟩ := hrel
    have hTl : ((pntU Q i).set i (pntR i s k)).length = N := by rw [List.length_set, qCi, HQL.out]
    have c0 := HP.out.cell (j := i) (by rw [hTl]; exact hlt)
    rw [HVA.out] at c0
    have htbz := HP.out.cells.lt
    clear hTl
    by_cases hkm : k < m
    ·have hkmI : (k : Int) < m := by omega
     have hTl : i < ((pntU Q i).set i (pntR i s k)).length := by rw [List.length_set, qCi]; exact hiQ
     have hrow := HP.out.row i hTl
     have hat : ((pntU Q i).set i (pntR i s k)).getD i [] = pntR i s k := by rw [setS_at (by rw [qCi]; exact hiQ), if_pos rfl]
     have hpl : (pntR i s k).length = m := by rw [pntR_len i (by rw [Hm.out]; exact hk)]; exact Hm.out
     rw [hat, hpl, HVA.out] at hrow
     obtain ⟨g, cap, hv, _, hgz, hcap⟩ := own_block hrow (by omega)
     injection hv with e1 _ e3
     subst e1
     subst e3
     obtain ⟨z0, z1, z2, z3, y0, y1, y2, y3⟩ := qBu hrow hkm
     have f0 := hrow.frozenAt (k * 4)
     have f1 := hrow.frozenAt (k * 4 + 1)
     have f2 := hrow.frozenAt (k * 4 + 2)
     have f3 := hrow.frozenAt (k * 4 + 3)
     have HX : Hid (Pt w2.heap.size w3.heap.size w8 (setT wb g (k * 4) (pnt i)) tb ((pntU Q i).set i (pntR i s (k + 1))) vs) := by
      have hset := qCc hrow k (by rw [hpl]; exact hkm) (pnt i)
      have hsl : ((pntR i s k).set k (pnt i)).length = m := by rw [List.length_set]; exact hpl
      have := HP.out.turn hTl (g := g) (s := (pntR i s k).set k (pnt i)) (by rw [HVA.out]; rfl) (by rw [HVA.out, hsl]; exact hset.1) hset.2
      rw [List.set_set, pntR_succ i (by rw [Hm.out]; exact hkm)] at this
      exact this
     clear hrow hat hpl
     go_wp2
     go_roundw
     case rel => exact ⟨k + 1, by omega, by go_num, HX.out⟩
     case measure => simp [intOf]; omega
    ·have hkmI : ¬ (k : Int) < m := by omega
     have HE : Hid (k = m) := by show _ = _; omega
     rw [HE.out, HNx.out] at HP
     go_wp2
     go_roundw
     case rel => exact ⟨i + 1, by omega, by go_num, HP.out⟩
     case measure => simp [intOf]; omega
  ·have hltI : ¬ (i : Int) < N := by omega
   have HE : Hid (i = N) := by show _ = _; omega
   rw [HE.out] at HP
   go_wp2
   clear hlt hltI hiN HE
   go_loopw [12] (fun v12 wr => ∃ i : Nat, i <= N /\ v12 = .int .i64 i /\ Hid (Pt w2.heap.size w3.heap.size w8 wr tb (pntU Q N) vs)) (fun v12 _ => N - (intOf v12).toNat)
   case atStart => exact ⟨0, by omega, rfl, HP.out⟩
   case round =>
    clear HP
    rename World => wb
    obtain ⟨j, hjN, rfl, HP⟩ := hrel
    have htbz := HP.out.cells.lt
    by_cases hlt : j < N
    ·have hltI : (j : Int) < N := by omega
     have hjQ : j < Q.length := by rw [HQL.out]; exact hlt
     have hjT : j < (pntU Q N).length := by rw [qCi]; exact hjQ
     obtain ⟨m, Hm⟩ : ∃ m, Hid ((Q.getD j []).length = m) := ⟨_, rfl⟩
     have hm8 : m <= 8 := by have := HQ9.out j hlt; rw [Hm.out] at this; exact this
     have HT : Hid ((pntU Q N).getD j [] = List.replicate m (pnt j)) := by
      have := pntU_all Q hjQ
      rw [HQL.out, Hm.out] at this
      exact this
     have HRow : Hid (∀ wx, Pt w2.heap.size w3.heap.size w8 wx tb (pntU Q N) vs -> wx.ownsRow w2.heap.size 46 4 (vs.getD j nilV) m (flatT (List.replicate m (pnt j)))) := fun wx hp => by
      have := hp.row j hjT
      rw [HT.out, List.length_replicate] at this
      exact this
     obtain ⟨va, ca, hva⟩ := qCj (HRow.out wb HP.out)
     have HVA := keepJ hva
     clear hva
     have c0 := HP.out.cell (j := j) hjT
     rw [HVA.out] at c0
     go_wp2
     go_loopw [13, 14] (fun v13 v14 wr => ∃ k : Nat, k <= 9 /\ v14 = .int .i64 k /\ Hid (wr.ownsRow w2.heap.size 46 4 v13 (m + k) (flatT (List.replicate m (pnt j) ++ List.replicate k t99))) /\ Hid (Near w8 (vs.getD j nilV) v13 m k) /\ Hid (Pt w2.heap.size w3.heap.size w8 wr tb (pntU Q N) vs)) (fun _ v14 _ => 9 - (intOf v14).toNat)
     case atStart =>
      have hr := HRow.out wb HP.out
      rw [HVA.out] at hr
      refine ⟨0, by omega, rfl, by show World.ownsRow _ _ _ _ _ _ _; rw [List.replicate_zero, List.append_nil]; exact hr, ?_, HP.out⟩
      show Near _ _ _ _ _
      rw [HVA.out]
      rcases hr.2 with ⟨e, _⟩ | ⟨g, cap, cur, e, _⟩
      ·rw [e]; exact .inr fun b hb => by cases hb
      ·rw [e]; exact .inl ⟨g, cap, rfl, rfl⟩
     case round =>
      clear HP c0 htbz
      rename World => wc
      obtain ⟨k, hk, rfl, HO, HNr, HP⟩ := hrel
      have htbz := HP.out.cells.lt
      have hoz := HP.out.only.size
      by_cases hk9 : k < 9
      ·have hk9I : (k : Int) < 9 := by omega
       go_wp2_with (at_builtin; go_must (refine wpList_append_kept _ rfl (.tmp 89) (.tmp 91) 40 rfl w2.heap.size 46 i0 (tyV Ty.nil) 4 32 Tryz.underlying40 hi hz0 hzz1 hz2i rfl (by decide) _ _ _ rfl (HO.out.alloc _) ⟨_, 0, none⟩ 1 1 (flatT [t99]) rfl rfl (lit99 _ _ rfl) (flatT_one _) (by unfold maxLen; omega) (by omega) (by first | omega | (simp; done) | (simp; omega)) (by decide) ?_); intro v6 w6 hown6 hg6 hat6; go_must (have hA := Pt.append (s := List.replicate m (pnt j)) (ys := List.replicate k t99) (t := t99) HP.out hjT HT.out (List.length_replicate ..) hz38 htb8 (by rw [List.length_replicate]; exact HNr.out) (by rw [List.length_replicate]; exact hown6) hg6 (by rw [List.length_replicate]; exact hat6); rw [List.length_replicate] at hA; have HP6 := keepJ hA.1; have HN6 := keepJ hA.2; have HO6 : Hid (w6.ownsRow w2.heap.size 46 4 v6 (m + (k + 1)) (flatT (List.replicate m (pnt j) ++ List.replicate (k + 1) t99))) := (by rw [flatT_app, List.append_assoc, <- List.replicate_succ'] at hown6; exact hown6); clear hA hown6 hg6 hat6))
       go_roundw
       case rel => exact ⟨k + 1, by omega, by go_num, HO6.out, HN6.out, HP6.out⟩
       case measure => simp [intOf]; omega
      ·have hk9I : ¬ (k : Int) < 9 := by omega
       have HE9 : Hid (k = 9) := by show _ = _; omega
       rw [HE9.out] at HO
       obtain ⟨g3, c3, hv3, _, hg3, hc3⟩ := own_block HO.out (by omega)
       subst hv3
       have c0 := HP.out.cell (j := j) hjT
       rw [HVA.out] at c0
       clear HNr
       go_wp2
       go_loopw [15] (fun v15 wr => ∃ r : Nat, r <= m /\ v15 = .int .i64 r /\ wc = wr) (fun v15 _ => m - (intOf v15).toNat)
       case atStart => exact ⟨0, by omega, rfl, rfl⟩
       case round =>
        obtain ⟨r, hr, rfl, rfl⟩ := hrel
        by_cases hrm : r < m
        ·have hrmI : (r : Int) < m := by omega
         have hrm9 : (r : Int) < m + 9 := by omega
         have hrow := HRow.out wc HP.out
         rw [HVA.out] at hrow
         obtain ⟨g, cap, hv, _, hgz, hcap⟩ := own_block hrow (by omega)
         injection hv with e1 _ e3
         subst e1
         subst e3
         have y0 : wc.cell? ⟨g, r * 4, none⟩ = some (.int .i64 (100 + j)) := by
          have h1 := hrow.cellAt (r * 4 + 0) (by omega)
          have h2 := flat_pnt (i := j) hrm [] (j := 0) (by omega)
          rw [List.append_nil] at h2
          rw [h2] at h1
          exact h1
         have y1 : wc.cell? ⟨g3, r * 4, none⟩ = some (.int .i64 (100 + j)) := by
          have h1 := HO.out.cellAt (r * 4 + 0) (by omega)
          rw [flat_pnt (i := j) hrm _ (j := 0) (by omega)] at h1
          exact h1
         clear hrow
         go_wp2
         go_roundw
         case rel => exact ⟨r + 1, by omega, by go_num, by first | rfl | trivial⟩
         case measure => simp [intOf]; omega
        ·have hrmI : ¬ (r : Int) < m := by omega
         go_wp2
         go_roundw
         case rel => exact ⟨j + 1, by omega, by go_num, HP.out⟩
         case measure => simp [intOf]; omega
    ·have hltI : ¬ (j : Int) < N := by omega
     have HRBf := keepJ (HRB8.out.only HP.out.only (by omega))
     have HUf := keepJ (HU8.out.only HP.out.only (by have := HB35.out.size; omega))
     have hof := HP.out.only.to_below (B := w1.heap.size) (by omega) (by omega)
     go_wp2_with (go_at_call 11; go_must (refine (alike_any _ _ Q _ _ _ HRBf.out HUf.out).mono ?_); rintro e w9 ⟨rfl, hb9⟩; go_must (have HB9 : Hid (Below w1.heap.size w1 w9) := (HB18.out.trans hof).trans (hb9.mono (by have := hof.size; have := HB18.out.size; omega))))
     go_ret
     exact ⟨rfl, HBW.out.trans ((hb1.trans (HB9.out.mono hz1)).mono HBW.out.size)⟩
theorem types9_any (vm vc : Value) (ms : List Int) (xs : List In) (w : World) (h : SeesM w vm vc ms xs) (z : ms.length * 8 <= 140737488351232 /\ xs.length * 40 <= 140737488355328) :
  Calls Tryz.prog 4 #[modV vm vc] w fun e w' => e = .returned (.bool true) /\ Below w.heap.size w w' := by
 cases hI : inqR ms xs with
 | error e => exact types9_bad vm vc ms xs w h z e.1 e.2 hI
 | ok K => exact types9_good vm vc ms xs w h z K hI
end Go.Proofs.YtkcofelpndlplaaGreat
