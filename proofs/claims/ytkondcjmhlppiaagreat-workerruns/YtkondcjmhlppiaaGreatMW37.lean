
/-
 What the landed judge's refined answers: what is known on a way of a conditional jump. Conditions: a state of eight well made types; the registers that the instruction names are there.
-/
import Derived.Test.YtkondcjmhlppiaaGreatMW0
import Derived.Test.YtkondcjmhlppiaaGreatMW36
namespace Go.Proofs.YtkondcjmhlppiaaGreat
open Go.RowKit
set_option linter.unusedVariables false
set_option linter.unusedSimpArgs false
set_option maxRecDepth 100000

theorem lnumber_as (lo hi : Int) (w : World) : Calls Tryz.prog 80 #[.agg #[.int .u64 lo, .int .u64 hi]] w fun e w' => e = .returned (.agg #[.int .i64 1, .int .u64 lo, .int .u64 hi, .int .i64 0]) /\ Below w.heap.size w w' := lnumber_any lo hi w
theorem keep3 {w w' : World} {ib nb : Nat} {x y z : Value} (h : w.cell? ⟨ib, 2, none⟩ = some x /\ w.cell? ⟨nb, 0, none⟩ = some y /\ w.cell? ⟨nb, 1, none⟩ = some z) (hb : Below w.heap.size w w') (hi : ib < w.heap.size) (hn : nb < w.heap.size) : w'.cell? ⟨ib, 2, none⟩ = some x /\ w'.cell? ⟨nb, 0, none⟩ = some y /\ w'.cell? ⟨nb, 1, none⟩ = some z := by
 rw [hb.cell (p := ⟨ib, 2, none⟩) hi, hb.cell (p := ⟨nb, 0, none⟩) hn, hb.cell (p := ⟨nb, 1, none⟩) hn]
 exact h
theorem keep3s {w : World} {ib nb sb o : Nat} {t : Ty} {x y z : Value} (h : w.cell? ⟨ib, 2, none⟩ = some x /\ w.cell? ⟨nb, 0, none⟩ = some y /\ w.cell? ⟨nb, 1, none⟩ = some z) (hi : ib ≠ sb) (hn : nb ≠ sb) : (setT w sb o t).cell? ⟨ib, 2, none⟩ = some x /\ (setT w sb o t).cell? ⟨nb, 0, none⟩ = some y /\ (setT w sb o t).cell? ⟨nb, 1, none⟩ = some z := by
 have key : ∀ b j u, b ≠ sb -> w.cell? ⟨b, j, none⟩ = some u -> (setT w sb o t).cell? ⟨b, j, none⟩ = some u := fun b j u hb hc =>
  (grown_sets sb (tyC t) w o).cell hc (fun e => hb (by injection e))
 exact ⟨key _ _ _ hi h.1, key _ _ _ hn h.2.1, key _ _ _ hn h.2.2⟩
theorem run_zero (w : World) : (Instr.build 115 #[]).run Tryz.prog w = .ok (.agg zeroC.toArray) w := by kernel_rfl
theorem wpList_zero {ops : Array Oper} {rest : List Oper} {op : Oper} {a : Act} {w : World} {Q : Exit -> Act -> World -> Prop} (hgd : op.guard = none) (ho : op.op = .build 115 #[]) (zc : List Value) (hz : Hid (zc = zeroC)) (h : wpList Tryz.prog ops Q rest (a.put op.dst (.agg zc.toArray)) w) : wpList Tryz.prog ops Q (op :: rest) a w :=
 wpList_plain hgd fun K hK => by
  have h' := hK _ _ h
  rw [hz.out] at h'
  unfold Oper.wp execOp
  simp only [ho]
  simp only [List.map_toArray, List.map_nil, Array.map_empty, Sem.run_bind, run_zero, Result.andThen_ok, Sem.run_pure]
  exact h'
set_option maxHeartbeats 3200000 in
theorem lrefined_no (nm : Nat) (op d b imm : Int) (n : Nat) (r : Bool) (s : St) (holds : Bool) (w : World) (h8 : Made8 nm s) (hn : n < 8) (hb : b = 8 ∨ (0 <= b /\ b <= 7)) (jl jh : Int) (sk sl sh sm tk tl th tm : Int) (HS : Hid (s.getD n Ty.nil = ⟨sk, sl, sh, sm⟩)) (HT : Hid (srcT ⟨op, d, n, b, imm⟩ s = ⟨tk, tl, th, tm⟩))
  (HJ : Hid (optV (refineR op sl sh tl th holds) = .tuple #[.agg #[.int .u64 jl, .int .u64 jh], .bool false])) : Calls Tryz.prog 62 #[stV r s, In.v ⟨op, d, n, b, imm⟩, .bool holds] w fun e w' => e = .returned (stV false stZ) /\ Below w.heap.size w w' := by
 have HM1 : Hid (wfS (sl, sh)) := by have := h8.ends hn; rw [HS.out] at this; exact this
 have HM2 : Hid (wfS (tl, th)) := by have := (made_src (i := ⟨op, d, n, b, imm⟩) h8 hb).ends; rw [HT.out] at this; exact this
 obtain ⟨Z, HZ, HsZ, HbZ, HtZ, HBZ, hZz⟩ := boxes3s w r s op d n b imm
 have H8 := keepJ h8.1
 have HB := keepJ hb
 have hnI : (n : Int) < 8 := by omega
 obtain ⟨zc, HZC⟩ : ∃ zc, Hid (zc = zeroC) := ⟨_, rfl⟩
 have HSA := keepJ (show (Tryz.prog.info? 115).map (·.size) = some zc.toArray.size from by rw [HZC.out]; kernel_rfl)
 have HS1 := keepJ (show zc.toArray.all (·.oneCell') = true from by rw [HZC.out]; exact stC_all false stZ)
 clear h8 hb
 go_enter Tryz.func62, Tryz.ntmps62
 go_wp2
 rw [<- HZ.out]
 clear HZ
 have hsz := HsZ.out.lt
 have hfl : ∀ wy : World, (Instr.field 112 (.agg #[.int .i64 tk, .int .u64 tl, .int .u64 th, .int .i64 tm]) 1).run Tryz.prog wy = .ok (.agg #[.int .u64 tl, .int .u64 th]) wy := fun _ => by kernel_rfl
 have HP : Hid (∀ w', Below Z.heap.size Z w' -> w'.cell? ⟨w.heap.size + 1, 0, none⟩ = some (.int .i64 op) /\ w'.cell? ⟨w.heap.size + 1, 1, none⟩ = some (.int .i64 d) /\ w'.cell? ⟨w.heap.size + 1, 2, none⟩ = some (.int .i64 n) /\ w'.cell? ⟨w.heap.size + 1, 3, none⟩ = some (.int .i64 b) /\ w'.cell? ⟨w.heap.size + 1, 4, none⟩ = some (.int .i64 imm) /\ w'.cell? ⟨w.heap.size, 1 + n * 4 + 1, none⟩ = some (.int .u64 sl) /\ w'.cell? ⟨w.heap.size, 1 + n * 4 + 1 + 1, none⟩ = some (.int .u64 sh) /\ StAt w' w.heap.size 0 r s /\ True) := fun w' hb' => by
  obtain ⟨q0, q1, q2, q3⟩ := stC_typ (r := r) H8.out hn HS.out
  have hh := HsZ.out.below hb' hsz
  obtain ⟨x0, x1, x2, x3, x4⟩ := Box.below HbZ.out hb' (by omega)
  exact ⟨x0, x1, x2, x3, x4, hh.cell q1, hh.cell q2, hh.one, trivial⟩
 refine wp_region_held_drew (S := fun w' => w'.cell? ⟨w.heap.size + 1, 0, none⟩ = some (.int .i64 op) /\ w'.cell? ⟨w.heap.size + 1, 1, none⟩ = some (.int .i64 d) /\ w'.cell? ⟨w.heap.size + 1, 2, none⟩ = some (.int .i64 n) /\ w'.cell? ⟨w.heap.size + 1, 3, none⟩ = some (.int .i64 b) /\ w'.cell? ⟨w.heap.size + 1, 4, none⟩ = some (.int .i64 imm) /\ w'.cell? ⟨w.heap.size, 1 + n * 4 + 1, none⟩ = some (.int .u64 sl) /\ w'.cell? ⟨w.heap.size, 1 + n * 4 + 1 + 1, none⟩ = some (.int .u64 sh) /\ StAt w' w.heap.size 0 r s /\ True) (by kernel_rfl) (HP.out _ (Below.refl _ _).drew) (fun hHeld => ?_)
-- NO BEGIN
 refine tkGo [0, 1, 2, 3, 4, 5, 6, 7] ?_
 repeat (refine tkO (v := ?_) rfl ?_ ?_; rotate_left; (intro wy hSw; (try dsimp only at hSw); go_simp; (first | done | with_reducible rfl)); try simp only [Act.put, p1q, p2q, p3q, p4q, p5q, p6q])
 refine tkEnd ?_
 refine wpAnyH_take (i := 8) rfl (by kernel_rfl) (by kernel_rfl) (by kernel_rfl) (fun _ _ _ h => h) (yieldsIf_load_mid (by rfl) _ _ rfl _ _ rfl (stC r s) _ (fun w h => h.2.2.2.2.2.2.2.1) Tryz.underlying115 rfl (sizeJ H8.out)) (by assumption) ?_
 try simp only [Act.put, p1q, p2q, p3q, p4q, p5q, p6q]
 refine tkGo [9, 12] ?_
 repeat (refine tkO (v := ?_) rfl ?_ ?_; rotate_left; (intro wy hSw; (try dsimp only at hSw); go_simp; (first | done | with_reducible rfl)); try simp only [Act.put, p1q, p2q, p3q, p4q, p5q, p6q])
 refine tkEnd ?_
 refine runT 10 17 (by kernel_rfl) rfl rfl (by rfl) (by rfl) (fun KK hK => ?_) (fun KK hK => ?_)
 ·go_simp
  go_at_call 54
  refine (lsource_as4 (i := ⟨op, d, n, b, imm⟩) HT r Z.drew H8.out HB.out).mono ?_
  rintro e w1 ⟨rfl, hb1'⟩
  have hb1 : Below Z.heap.size Z w1 := below_undrew hb1'
  have hz1 := hb1.size
  refine hK.out _ _ (HP.out _ hb1) (fun hHeld => ?_)
  clear hK KK
  try simp only [Act.put, p1q, p2q, p3q, p4q, p5q, p6q]
  refine tkGo [11] ?_
  repeat (refine tkO (v := ?_) rfl ?_ ?_; rotate_left; (intro wy hSw; (try dsimp only at hSw); go_simp; (first | done | with_reducible rfl)); try simp only [Act.put, p1q, p2q, p3q, p4q, p5q, p6q])
  refine tkEnd ?_
  refine runT 13 17 (by kernel_rfl) rfl rfl (by rfl) (by rfl) (fun KK hK => ?_) (fun KK hK => ?_)
  ·go_simp
   go_at_call 90
   refine (lrefine_as HM1 HM2 HJ w1).mono ?_
   rintro e w2 ⟨rfl, hb2'⟩
   have hb2 : Below Z.heap.size Z w2 := hb1.trans (hb2'.mono hz1)
   refine hK.out _ _ (HP.out _ hb2) (fun hHeld => ?_)
   clear hK KK
   try simp only [Act.put, p1q, p2q, p3q, p4q, p5q, p6q]
   refine tkGo [14, 15, 16] ?_
   repeat (refine tkO (v := ?_) rfl ?_ ?_; rotate_left; (intro wy hSw; (try dsimp only at hSw); go_simp; (first | done | with_reducible rfl)); try simp only [Act.put, p1q, p2q, p3q, p4q, p5q, p6q])
   refine tkEnd ?_
   refine runO 17 (by kernel_rfl) rfl (by rfl) (fun KK hK => ?_)
   go_simp
   refine hK.out _ _ (HP.out _ (hb2.alloc hb2.size _)) (fun hHeld => ?_)
   clear hK KK
   try simp only [Act.put, p1q, p2q, p3q, p4q, p5q, p6q]
   refine runO 18 (by kernel_rfl) rfl (by rfl) (fun KK hK => ?_)
   go_simp
   refine hK.out _ _ (HP.out _ (hb2.alloc hb2.size _)) (fun hHeld => ?_)
   clear hK KK
   try simp only [Act.put, p1q, p2q, p3q, p4q, p5q, p6q]
   refine tkGo [19] ?_
   repeat (refine tkO (v := ?_) rfl ?_ ?_; rotate_left; (intro wy hSw; (try dsimp only at hSw); go_simp; (first | done | with_reducible rfl)); try simp only [Act.put, p1q, p2q, p3q, p4q, p5q, p6q])
   refine tkEnd ?_
   refine wpAnyH_done (by kernel_rfl) ?_ _
   obtain ⟨Y, nb, HY, HNB, hbY, hnb, e0, e1⟩ : ∃ Y nb, Hid (Y = w2.alloc (Obj.cells #[.int .u64 jl, .int .u64 jh] 110)) /\ Hid (w2.heap.size = nb) /\ Below Z.heap.size Z Y /\ (nb < Y.heap.size /\ Z.heap.size <= nb) /\ Y.cell? ⟨nb, 0, none⟩ = some (.int .u64 jl) /\ Y.cell? ⟨nb, 1, none⟩ = some (.int .u64 jh) := ⟨_, _, rfl, rfl, hb2.alloc hb2.size _, ⟨by simp, hb2.size⟩, by go_cell, by go_cell⟩
   rw [<- HY.out, HNB.out]
   clear HY HNB hHeld
   have hzY := hbY.size
   have hBY := HBZ.out.trans (hbY.mono HBZ.out.size)
   have HtY := keepJ (HtZ.out.below hbY (by omega))
   have HTY := keepJ (show Y.there (w.heap.size + 1 + 1) 0 zc.toArray.size from (by rw [HZC.out]; exact HtY.out.there (by rw [zeroC_len]; decide)))
   go_wp2_with (first | ((with_reducible refine wpList_zero ?za4 ?zb4 zc HZC ?zd4); (case za4 => rfl); (case zb4 => rfl)) | ((with_reducible refine wpList_store_mid ?ra4 115 (.tmp 6) (.tmp 28) ?rb4 (w.heap.size + 1 + 1) 0 zc.toArray ?rc4 ?rd4 HTY.out HSA.out HS1.out ?re4); (case ra4 => rfl); (case rb4 => rfl); (case rc4 => rfl); (case rd4 => rfl)))
   refine st_ret (n := w.heap.size + 1 + 1) rfl rfl ?_ stZ_len ?_
   ·rw [HZC.out]; exact (HtY.out.box (r := false) (s := stZ) zeroC_len stZ_len).one
   ·exact hBY.trans (grown_to_below (grown_sets _ _ _ _) (by omega) hBY.size)
  ·go_simp
   refine hK.out _ _ (HP.out _ (hb1.alloc hz1 _)) (fun hHeld => ?_)
   clear hK KK
   try simp only [Act.put, p1q, p2q, p3q, p4q, p5q, p6q]
   refine runO 13 (by kernel_rfl) rfl (by rfl) (fun KK hK => ?_)
   go_simp
   go_at_call 90
   refine (lrefine_as HM1 HM2 HJ _).mono ?_
   rintro e w2 ⟨rfl, hb2'⟩
   obtain ⟨hNW, n0, n1, g0, g1⟩ := bxs_kept hb2'
   have hb2 : Below Z.heap.size Z w2 := (hb1.alloc hz1 _).trans (hb2'.mono (by simp; omega))
   have hNB : Z.heap.size <= w1.heap.size := hz1
   have hNZ : w1.heap.size < w2.heap.size := hNW
   refine hK.out _ _ (HP.out _ hb2) (fun hHeld => ?_)
   clear hK KK
   try simp only [Act.put, p1q, p2q, p3q, p4q, p5q, p6q]
   refine tkGo [14, 15, 16] ?_
   repeat (refine tkO (v := ?_) rfl ?_ ?_; rotate_left; (intro wy hSw; (try dsimp only at hSw); go_simp; (first | done | with_reducible rfl)); try simp only [Act.put, p1q, p2q, p3q, p4q, p5q, p6q])
   refine tkEnd ?_
   refine runO 18 (by kernel_rfl) rfl (by rfl) (fun KK hK => ?_)
   go_simp
   refine hK.out _ _ (HP.out _ (below_set (below_set hb2 hNB) hNB)) (fun hHeld => ?_)
   clear hK KK
   try simp only [Act.put, p1q, p2q, p3q, p4q, p5q, p6q]
   refine tkGo [19] ?_
   repeat (refine tkO (v := ?_) rfl ?_ ?_; rotate_left; (intro wy hSw; (try dsimp only at hSw); go_simp; (first | done | with_reducible rfl)); try simp only [Act.put, p1q, p2q, p3q, p4q, p5q, p6q])
   refine tkEnd ?_
   refine wpAnyH_done (by kernel_rfl) ?_ _
   obtain ⟨Y, nb, HY, HNB, hbY, hnb, e0, e1⟩ : ∃ Y nb, Hid (Y = (w2.setCell ⟨w1.heap.size, 0, none⟩ (.int .u64 jl)).setCell ⟨w1.heap.size, 1, none⟩ (.int .u64 jh)) /\ Hid (w1.heap.size = nb) /\ Below Z.heap.size Z Y /\ (nb < Y.heap.size /\ Z.heap.size <= nb) /\ Y.cell? ⟨nb, 0, none⟩ = some (.int .u64 jl) /\ Y.cell? ⟨nb, 1, none⟩ = some (.int .u64 jh) := ⟨_, _, rfl, rfl, below_set (below_set hb2 hNB) hNB, ⟨by simpa [World.setCell] using hNZ, hNB⟩, (set_two n0 n1).1, (set_two n0 n1).2⟩
   rw [<- HY.out, HNB.out]
   clear HY HNB hHeld
   have hzY := hbY.size
   have hBY := HBZ.out.trans (hbY.mono HBZ.out.size)
   have HtY := keepJ (HtZ.out.below hbY (by omega))
   have HTY := keepJ (show Y.there (w.heap.size + 1 + 1) 0 zc.toArray.size from (by rw [HZC.out]; exact HtY.out.there (by rw [zeroC_len]; decide)))
   go_wp2_with (first | ((with_reducible refine wpList_zero ?za5 ?zb5 zc HZC ?zd5); (case za5 => rfl); (case zb5 => rfl)) | ((with_reducible refine wpList_store_mid ?ra5 115 (.tmp 6) (.tmp 28) ?rb5 (w.heap.size + 1 + 1) 0 zc.toArray ?rc5 ?rd5 HTY.out HSA.out HS1.out ?re5); (case ra5 => rfl); (case rb5 => rfl); (case rc5 => rfl); (case rd5 => rfl)))
   refine st_ret (n := w.heap.size + 1 + 1) rfl rfl ?_ stZ_len ?_
   ·rw [HZC.out]; exact (HtY.out.box (r := false) (s := stZ) zeroC_len stZ_len).one
   ·exact hBY.trans (grown_to_below (grown_sets _ _ _ _) (by omega) hBY.size)
 ·go_simp
  have hb0 : Below Z.heap.size Z (Z.alloc (Obj.cells #[.int .u64 0, .int .u64 0] 110)) := (Below.refl _ _).alloc (Nat.le_refl _) _
  refine hK.out _ _ (HP.out _ (hb0.drew)) (fun hHeld => ?_)
  clear hK KK
  try simp only [Act.put, p1q, p2q, p3q, p4q, p5q, p6q]
  refine runO 10 (by kernel_rfl) rfl (by rfl) (fun KK hK => ?_)
  go_simp
  go_at_call 54
  refine (lsource_as4 (i := ⟨op, d, n, b, imm⟩) HT r _ H8.out HB.out).mono ?_
  rintro e w1 ⟨rfl, hb1'⟩
  have hb1u := below_undrew hb1'
  obtain ⟨hNW1, m0, m1, k0, k1⟩ := bxs_kept hb1u
  have hb1 : Below Z.heap.size Z w1 := hb0.trans (hb1u.mono (by simp))
  have hz1 := hb1.size
  refine hK.out _ _ (HP.out _ hb1) (fun hHeld => ?_)
  clear hK KK
  try simp only [Act.put, p1q, p2q, p3q, p4q, p5q, p6q]
  refine tkGo [11] ?_
  repeat (refine tkO (v := ?_) rfl ?_ ?_; rotate_left; (intro wy hSw; (try dsimp only at hSw); go_simp; (first | done | with_reducible rfl)); try simp only [Act.put, p1q, p2q, p3q, p4q, p5q, p6q])
  refine tkEnd ?_
  refine runO 13 (by kernel_rfl) rfl (by rfl) (fun KK hK => ?_)
  go_simp
  go_at_call 90
  refine (lrefine_as HM1 HM2 HJ w1).mono ?_
  rintro e w2 ⟨rfl, hb2'⟩
  have hb2 : Below Z.heap.size Z w2 := hb1.trans (hb2'.mono hz1)
  obtain ⟨n0, n1, g0, g1⟩ := bxs_below ⟨m0, m1, k0, k1⟩ hb2' hNW1
  have hNB : Z.heap.size <= Z.heap.size := Nat.le_refl _
  have hNZ : Z.heap.size < w2.heap.size := Nat.lt_of_lt_of_le hNW1 hb2'.size
  refine hK.out _ _ (HP.out _ hb2) (fun hHeld => ?_)
  clear hK KK
  try simp only [Act.put, p1q, p2q, p3q, p4q, p5q, p6q]
  refine tkGo [14, 15, 16] ?_
  repeat (refine tkO (v := ?_) rfl ?_ ?_; rotate_left; (intro wy hSw; (try dsimp only at hSw); go_simp; (first | done | with_reducible rfl)); try simp only [Act.put, p1q, p2q, p3q, p4q, p5q, p6q])
  refine tkEnd ?_
  refine runO 18 (by kernel_rfl) rfl (by rfl) (fun KK hK => ?_)
  go_simp
  refine hK.out _ _ (HP.out _ (below_set (below_set hb2 hNB) hNB)) (fun hHeld => ?_)
  clear hK KK
  try simp only [Act.put, p1q, p2q, p3q, p4q, p5q, p6q]
  refine tkGo [19] ?_
  repeat (refine tkO (v := ?_) rfl ?_ ?_; rotate_left; (intro wy hSw; (try dsimp only at hSw); go_simp; (first | done | with_reducible rfl)); try simp only [Act.put, p1q, p2q, p3q, p4q, p5q, p6q])
  refine tkEnd ?_
  refine wpAnyH_done (by kernel_rfl) ?_ _
  obtain ⟨Y, nb, HY, HNB, hbY, hnb, e0, e1⟩ : ∃ Y nb, Hid (Y = (w2.setCell ⟨Z.heap.size, 0, none⟩ (.int .u64 jl)).setCell ⟨Z.heap.size, 1, none⟩ (.int .u64 jh)) /\ Hid (Z.heap.size = nb) /\ Below Z.heap.size Z Y /\ (nb < Y.heap.size /\ Z.heap.size <= nb) /\ Y.cell? ⟨nb, 0, none⟩ = some (.int .u64 jl) /\ Y.cell? ⟨nb, 1, none⟩ = some (.int .u64 jh) := ⟨_, _, rfl, rfl, below_set (below_set hb2 hNB) hNB, ⟨by simpa [World.setCell] using hNZ, hNB⟩, (set_two n0 n1).1, (set_two n0 n1).2⟩
  rw [<- HY.out, HNB.out]
  clear HY HNB hHeld
  have hzY := hbY.size
  have hBY := HBZ.out.trans (hbY.mono HBZ.out.size)
  have HtY := keepJ (HtZ.out.below hbY (by omega))
  have HTY := keepJ (show Y.there (w.heap.size + 1 + 1) 0 zc.toArray.size from (by rw [HZC.out]; exact HtY.out.there (by rw [zeroC_len]; decide)))
  go_wp2_with (first | ((with_reducible refine wpList_zero ?za6 ?zb6 zc HZC ?zd6); (case za6 => rfl); (case zb6 => rfl)) | ((with_reducible refine wpList_store_mid ?ra6 115 (.tmp 6) (.tmp 28) ?rb6 (w.heap.size + 1 + 1) 0 zc.toArray ?rc6 ?rd6 HTY.out HSA.out HS1.out ?re6); (case ra6 => rfl); (case rb6 => rfl); (case rc6 => rfl); (case rd6 => rfl)))
  refine st_ret (n := w.heap.size + 1 + 1) rfl rfl ?_ stZ_len ?_
  ·rw [HZC.out]; exact (HtY.out.box (r := false) (s := stZ) zeroC_len stZ_len).one
  ·exact hBY.trans (grown_to_below (grown_sets _ _ _ _) (by omega) hBY.size)
-- NO END
set_option maxHeartbeats 3200000 in
theorem lrefined_yes (nm : Nat) (op d b imm : Int) (n : Nat) (r : Bool) (s : St) (holds : Bool) (w : World) (h8 : Made8 nm s) (hn : n < 8) (hb : b = 8 ∨ (0 <= b /\ b <= 7)) (jl jh : Int) (sk sl sh sm tk tl th tm : Int) (HS : Hid (s.getD n Ty.nil = ⟨sk, sl, sh, sm⟩)) (HT : Hid (srcT ⟨op, d, n, b, imm⟩ s = ⟨tk, tl, th, tm⟩))
  (HJ : Hid (optV (refineR op sl sh tl th holds) = .tuple #[.agg #[.int .u64 jl, .int .u64 jh], .bool true])) : Calls Tryz.prog 62 #[stV r s, In.v ⟨op, d, n, b, imm⟩, .bool holds] w fun e w' => e = .returned (stV r (s.set n ⟨1, jl, jh, 0⟩)) /\ Below w.heap.size w w' := by
 have HM1 : Hid (wfS (sl, sh)) := by have := h8.ends hn; rw [HS.out] at this; exact this
 have HM2 : Hid (wfS (tl, th)) := by have := (made_src (i := ⟨op, d, n, b, imm⟩) h8 hb).ends; rw [HT.out] at this; exact this
 obtain ⟨Z, HZ, HsZ, HbZ, HtZ, HBZ, hZz⟩ := boxes3s w r s op d n b imm
 have H8 := keepJ h8.1
 have HB := keepJ hb
 have hnI : (n : Int) < 8 := by omega
 have h8' : (s.set n ⟨1, jl, jh, 0⟩).length = 8 := by rw [List.length_set]; exact h8.1
 have HSZ2 := keepJ (sizeJ (r := r) h8')
 have HSA2 := keepJ (sizeJA (r := r) h8')
 have HS2 := keepJ (stC_all r (s.set n ⟨1, jl, jh, 0⟩))
 clear h8 hb
 go_enter Tryz.func62, Tryz.ntmps62
 go_wp2
 rw [<- HZ.out]
 clear HZ
 have hsz := HsZ.out.lt
 have hfl : ∀ wy : World, (Instr.field 112 (.agg #[.int .i64 tk, .int .u64 tl, .int .u64 th, .int .i64 tm]) 1).run Tryz.prog wy = .ok (.agg #[.int .u64 tl, .int .u64 th]) wy := fun _ => by kernel_rfl
 have HP : Hid (∀ w', Below Z.heap.size Z w' -> w'.cell? ⟨w.heap.size + 1, 0, none⟩ = some (.int .i64 op) /\ w'.cell? ⟨w.heap.size + 1, 1, none⟩ = some (.int .i64 d) /\ w'.cell? ⟨w.heap.size + 1, 2, none⟩ = some (.int .i64 n) /\ w'.cell? ⟨w.heap.size + 1, 3, none⟩ = some (.int .i64 b) /\ w'.cell? ⟨w.heap.size + 1, 4, none⟩ = some (.int .i64 imm) /\ w'.cell? ⟨w.heap.size, 1 + n * 4 + 1, none⟩ = some (.int .u64 sl) /\ w'.cell? ⟨w.heap.size, 1 + n * 4 + 1 + 1, none⟩ = some (.int .u64 sh) /\ StAt w' w.heap.size 0 r s /\ True) := fun w' hb' => by
  obtain ⟨q0, q1, q2, q3⟩ := stC_typ (r := r) H8.out hn HS.out
  have hh := HsZ.out.below hb' hsz
  obtain ⟨x0, x1, x2, x3, x4⟩ := Box.below HbZ.out hb' (by omega)
  exact ⟨x0, x1, x2, x3, x4, hh.cell q1, hh.cell q2, hh.one, trivial⟩
 refine wp_region_held_drew (S := fun w' => w'.cell? ⟨w.heap.size + 1, 0, none⟩ = some (.int .i64 op) /\ w'.cell? ⟨w.heap.size + 1, 1, none⟩ = some (.int .i64 d) /\ w'.cell? ⟨w.heap.size + 1, 2, none⟩ = some (.int .i64 n) /\ w'.cell? ⟨w.heap.size + 1, 3, none⟩ = some (.int .i64 b) /\ w'.cell? ⟨w.heap.size + 1, 4, none⟩ = some (.int .i64 imm) /\ w'.cell? ⟨w.heap.size, 1 + n * 4 + 1, none⟩ = some (.int .u64 sl) /\ w'.cell? ⟨w.heap.size, 1 + n * 4 + 1 + 1, none⟩ = some (.int .u64 sh) /\ StAt w' w.heap.size 0 r s /\ True) (by kernel_rfl) (HP.out _ (Below.refl _ _).drew) (fun hHeld => ?_)
-- YES BEGIN
 refine tkGo [0, 1, 2, 3, 4, 5, 6, 7] ?_
 repeat (refine tkO (v := ?_) rfl ?_ ?_; rotate_left; (intro wy hSw; (try dsimp only at hSw); go_simp; (first | done | with_reducible rfl)); try simp only [Act.put, p1q, p2q, p3q, p4q, p5q, p6q])
 refine tkEnd ?_
 refine wpAnyH_take (i := 8) rfl (by kernel_rfl) (by kernel_rfl) (by kernel_rfl) (fun _ _ _ h => h) (yieldsIf_load_mid (by rfl) _ _ rfl _ _ rfl (stC r s) _ (fun w h => h.2.2.2.2.2.2.2.1) Tryz.underlying115 rfl (sizeJ H8.out)) (by assumption) ?_
 try simp only [Act.put, p1q, p2q, p3q, p4q, p5q, p6q]
 refine tkGo [9, 12] ?_
 repeat (refine tkO (v := ?_) rfl ?_ ?_; rotate_left; (intro wy hSw; (try dsimp only at hSw); go_simp; (first | done | with_reducible rfl)); try simp only [Act.put, p1q, p2q, p3q, p4q, p5q, p6q])
 refine tkEnd ?_
 refine runT 10 17 (by kernel_rfl) rfl rfl (by rfl) (by rfl) (fun KK hK => ?_) (fun KK hK => ?_)
 ·go_simp
  go_at_call 54
  refine (lsource_as4 (i := ⟨op, d, n, b, imm⟩) HT r Z.drew H8.out HB.out).mono ?_
  rintro e w1 ⟨rfl, hb1'⟩
  have hb1 : Below Z.heap.size Z w1 := below_undrew hb1'
  have hz1 := hb1.size
  refine hK.out _ _ (HP.out _ hb1) (fun hHeld => ?_)
  clear hK KK
  try simp only [Act.put, p1q, p2q, p3q, p4q, p5q, p6q]
  refine tkGo [11] ?_
  repeat (refine tkO (v := ?_) rfl ?_ ?_; rotate_left; (intro wy hSw; (try dsimp only at hSw); go_simp; (first | done | with_reducible rfl)); try simp only [Act.put, p1q, p2q, p3q, p4q, p5q, p6q])
  refine tkEnd ?_
  refine runT 13 17 (by kernel_rfl) rfl rfl (by rfl) (by rfl) (fun KK hK => ?_) (fun KK hK => ?_)
  ·go_simp
   go_at_call 90
   refine (lrefine_as HM1 HM2 HJ w1).mono ?_
   rintro e w2 ⟨rfl, hb2'⟩
   have hb2 : Below Z.heap.size Z w2 := hb1.trans (hb2'.mono hz1)
   refine hK.out _ _ (HP.out _ hb2) (fun hHeld => ?_)
   clear hK KK
   try simp only [Act.put, p1q, p2q, p3q, p4q, p5q, p6q]
   refine tkGo [14, 15, 16] ?_
   repeat (refine tkO (v := ?_) rfl ?_ ?_; rotate_left; (intro wy hSw; (try dsimp only at hSw); go_simp; (first | done | with_reducible rfl)); try simp only [Act.put, p1q, p2q, p3q, p4q, p5q, p6q])
   refine tkEnd ?_
   refine runO 17 (by kernel_rfl) rfl (by rfl) (fun KK hK => ?_)
   go_simp
   refine hK.out _ _ (HP.out _ (hb2.alloc hb2.size _)) (fun hHeld => ?_)
   clear hK KK
   try simp only [Act.put, p1q, p2q, p3q, p4q, p5q, p6q]
   refine runO 18 (by kernel_rfl) rfl (by rfl) (fun KK hK => ?_)
   go_simp
   refine hK.out _ _ (HP.out _ (hb2.alloc hb2.size _)) (fun hHeld => ?_)
   clear hK KK
   try simp only [Act.put, p1q, p2q, p3q, p4q, p5q, p6q]
   refine tkGo [19] ?_
   repeat (refine tkO (v := ?_) rfl ?_ ?_; rotate_left; (intro wy hSw; (try dsimp only at hSw); go_simp; (first | done | with_reducible rfl)); try simp only [Act.put, p1q, p2q, p3q, p4q, p5q, p6q])
   refine tkEnd ?_
   refine wpAnyH_done (by kernel_rfl) ?_ _
   obtain ⟨Y, nb, HY, HNB, hbY, hnb, e0, e1⟩ : ∃ Y nb, Hid (Y = w2.alloc (Obj.cells #[.int .u64 jl, .int .u64 jh] 110)) /\ Hid (w2.heap.size = nb) /\ Below Z.heap.size Z Y /\ (nb < Y.heap.size /\ Z.heap.size <= nb) /\ Y.cell? ⟨nb, 0, none⟩ = some (.int .u64 jl) /\ Y.cell? ⟨nb, 1, none⟩ = some (.int .u64 jh) := ⟨_, _, rfl, rfl, hb2.alloc hb2.size _, ⟨by simp, hb2.size⟩, by go_cell, by go_cell⟩
   rw [<- HY.out, HNB.out]
   clear HY HNB hHeld
   go_wp2
   have hzY := hbY.size
   have hBY := HBZ.out.trans (hbY.mono HBZ.out.size)
   have HtY := keepJ (HtZ.out.below hbY (by omega))
   have HsY := keepJ (HsZ.out.below hbY (by omega))
   obtain ⟨x0, x1, x2, x3, x4⟩ := Box.below HbZ.out hbY (by omega)
   refine wp_region_held_drew (S := fun w' => w'.cell? ⟨w.heap.size + 1, 2, none⟩ = some (.int .i64 n) /\ w'.cell? ⟨nb, 0, none⟩ = some (.int .u64 jl) /\ w'.cell? ⟨nb, 1, none⟩ = some (.int .u64 jh)) (by kernel_rfl) ⟨x2, e0, e1⟩ (fun hHeld => ?_)
   refine tkGo [0, 1, 2, 4] ?_
   repeat (refine tkO (v := ?_) rfl ?_ ?_; rotate_left; (intro wy hSw; (try dsimp only at hSw); go_simp; (first | done | with_reducible rfl)); try simp only [Act.put, p1q, p2q, p3q, p4q, p5q, p6q])
   refine tkEnd ?_
   refine runO 3 (by kernel_rfl) rfl (by rfl) (fun KK hK => ?_)
   go_simp
   go_at_call 80
   refine (lnumber_as jl jh Y.drew).mono ?_
   rintro e w5 ⟨rfl, hb5'⟩
   have hb5 : Below Y.heap.size Y w5 := below_undrew hb5'
   have hz5 := hb5.size
   have hS5 := keep3 ⟨x2, e0, e1⟩ hb5 (by omega) hnb.1
   have Hs5 := keepJ (HsY.out.below hb5 (by omega))
   have Ht5 := keepJ (HtY.out.below hb5 (by omega))
   have hB5 := hBY.trans (hb5.mono hBY.size)
   refine hK.out _ _ hS5 (fun hHeld => ?_)
   clear hK KK
   try simp only [Act.put, p1q, p2q, p3q, p4q, p5q, p6q]
   obtain ⟨m0, m1, m2, m3⟩ := (Hs5.out.one.typ H8.out hn : AtT w5 w.heap.size (0 + 1 + n * 4) (s.getD n Ty.nil))
   simp only [Nat.zero_add] at m0 m1 m2 m3
   have f0 := Hs5.out.frozen (1 + n * 4)
   have f1 := Hs5.out.frozen (1 + n * 4 + 1)
   have f2 := Hs5.out.frozen (1 + n * 4 + 2)
   have f3 := Hs5.out.frozen (1 + n * 4 + 3)
   have hnbw : nb ≠ w.heap.size := by omega
   have HS6 := keepJ (keep3s (sb := w.heap.size) (o := 1 + n * 4) (t := ⟨1, jl, jh, 0⟩) hS5 (by omega) hnbw)
   have HP6 := keepJ (Hs5.out.boxT H8.out hn ⟨1, jl, jh, 0⟩)
   have HL6 := keepJ HP6.out.oneR
   have Hu6 := keepJ (Ht5.out.grown (grown_sets w.heap.size (tyC ⟨1, jl, jh, 0⟩) w5 (1 + n * 4)) (fun e => by injection e with e; omega))
   have HT6 := keepJ (show (setT w5 w.heap.size (1 + n * 4) ⟨1, jl, jh, 0⟩).there (w.heap.size + 1 + 1) 0 (stC r (s.set n ⟨1, jl, jh, 0⟩)).toArray.size from (by rw [stC_size r h8']; exact Hu6.out.there (by rw [zeroC_len]; omega)))
   refine tkGo [5] ?_
   repeat (refine tkO (v := ?_) rfl ?_ ?_; rotate_left; (intro wy hSw; (try dsimp only at hSw); go_simp; (first | done | with_reducible rfl)); try simp only [Act.put, p1q, p2q, p3q, p4q, p5q, p6q])
   refine tkEnd ?_
   refine runO 6 (by kernel_rfl) rfl (by rfl) (fun KK hK => ?_)
   go_simp
   refine hK.out _ _ HS6.out (fun hHeld => ?_)
   clear hK KK
   try simp only [Act.put, p1q, p2q, p3q, p4q, p5q, p6q]
   refine wpAnyH_done (by kernel_rfl) ?_ _
   clear m0 m1 m2 m3 f0 f1 f2 f3 hHeld
   go_wp2_with (first
    | ((with_reducible refine wpList_load_mid ?pa7 115 (.tmp 3) ?pb7 w.heap.size 0 ?pc7 (stC r (s.set n ⟨1, jl, jh, 0⟩)) _ HL6.out Tryz.underlying115 ?pd7 HSZ2.out ?pe7); (case pa7 => rfl); (case pb7 => rfl); (case pc7 => rfl); (case pd7 => rfl))
    | ((with_reducible refine wpList_store_mid ?ra7 115 (.tmp 6) (.tmp 35) ?rb7 (w.heap.size + 1 + 1) 0 (stC r (s.set n ⟨1, jl, jh, 0⟩)).toArray ?rc7 ?rd7 HT6.out HSA2.out HS2.out ?re7); (case ra7 => rfl); (case rb7 => rfl); (case rc7 => rfl); (case rd7 => rfl)))
   refine st_ret (n := w.heap.size + 1 + 1) rfl rfl ?_ h8' ?_
   ·exact (Hu6.out.box zeroC_len h8').one
   ·exact (below_setT (t := ⟨1, jl, jh, 0⟩) (off := 1 + n * 4) hB5 (Nat.le_refl _)).trans (grown_to_below (grown_sets _ _ _ _) (by omega) (below_setT (t := ⟨1, jl, jh, 0⟩) (off := 1 + n * 4) hB5 (Nat.le_refl _)).size)
  ·go_simp
   refine hK.out _ _ (HP.out _ (hb1.alloc hz1 _)) (fun hHeld => ?_)
   clear hK KK
   try simp only [Act.put, p1q, p2q, p3q, p4q, p5q, p6q]
   refine runO 13 (by kernel_rfl) rfl (by rfl) (fun KK hK => ?_)
   go_simp
   go_at_call 90
   refine (lrefine_as HM1 HM2 HJ _).mono ?_
   rintro e w2 ⟨rfl, hb2'⟩
   obtain ⟨hNW, n0, n1, g0, g1⟩ := bxs_kept hb2'
   have hb2 : Below Z.heap.size Z w2 := (hb1.alloc hz1 _).trans (hb2'.mono (by simp; omega))
   have hNB : Z.heap.size <= w1.heap.size := hz1
   have hNZ : w1.heap.size < w2.heap.size := hNW
   refine hK.out _ _ (HP.out _ hb2) (fun hHeld => ?_)
   clear hK KK
   try simp only [Act.put, p1q, p2q, p3q, p4q, p5q, p6q]
   refine tkGo [14, 15, 16] ?_
   repeat (refine tkO (v := ?_) rfl ?_ ?_; rotate_left; (intro wy hSw; (try dsimp only at hSw); go_simp; (first | done | with_reducible rfl)); try simp only [Act.put, p1q, p2q, p3q, p4q, p5q, p6q])
   refine tkEnd ?_
   refine runO 18 (by kernel_rfl) rfl (by rfl) (fun KK hK => ?_)
   go_simp
   refine hK.out _ _ (HP.out _ (below_set (below_set hb2 hNB) hNB)) (fun hHeld => ?_)
   clear hK KK
   try simp only [Act.put, p1q, p2q, p3q, p4q, p5q, p6q]
   refine tkGo [19] ?_
   repeat (refine tkO (v := ?_) rfl ?_ ?_; rotate_left; (intro wy hSw; (try dsimp only at hSw); go_simp; (first | done | with_reducible rfl)); try simp only [Act.put, p1q, p2q, p3q, p4q, p5q, p6q])
   refine tkEnd ?_
   refine wpAnyH_done (by kernel_rfl) ?_ _
   obtain ⟨Y, nb, HY, HNB, hbY, hnb, e0, e1⟩ : ∃ Y nb, Hid (Y = (w2.setCell ⟨w1.heap.size, 0, none⟩ (.int .u64 jl)).setCell ⟨w1.heap.size, 1, none⟩ (.int .u64 jh)) /\ Hid (w1.heap.size = nb) /\ Below Z.heap.size Z Y /\ (nb < Y.heap.size /\ Z.heap.size <= nb) /\ Y.cell? ⟨nb, 0, none⟩ = some (.int .u64 jl) /\ Y.cell? ⟨nb, 1, none⟩ = some (.int .u64 jh) := ⟨_, _, rfl, rfl, below_set (below_set hb2 hNB) hNB, ⟨by simpa [World.setCell] using hNZ, hNB⟩, (set_two n0 n1).1, (set_two n0 n1).2⟩
   rw [<- HY.out, HNB.out]
   clear HY HNB hHeld
   go_wp2
   have hzY := hbY.size
   have hBY := HBZ.out.trans (hbY.mono HBZ.out.size)
   have HtY := keepJ (HtZ.out.below hbY (by omega))
   have HsY := keepJ (HsZ.out.below hbY (by omega))
   obtain ⟨x0, x1, x2, x3, x4⟩ := Box.below HbZ.out hbY (by omega)
   refine wp_region_held_drew (S := fun w' => w'.cell? ⟨w.heap.size + 1, 2, none⟩ = some (.int .i64 n) /\ w'.cell? ⟨nb, 0, none⟩ = some (.int .u64 jl) /\ w'.cell? ⟨nb, 1, none⟩ = some (.int .u64 jh)) (by kernel_rfl) ⟨x2, e0, e1⟩ (fun hHeld => ?_)
   refine tkGo [0, 1, 2, 4] ?_
   repeat (refine tkO (v := ?_) rfl ?_ ?_; rotate_left; (intro wy hSw; (try dsimp only at hSw); go_simp; (first | done | with_reducible rfl)); try simp only [Act.put, p1q, p2q, p3q, p4q, p5q, p6q])
   refine tkEnd ?_
   refine runO 3 (by kernel_rfl) rfl (by rfl) (fun KK hK => ?_)
   go_simp
   go_at_call 80
   refine (lnumber_as jl jh Y.drew).mono ?_
   rintro e w5 ⟨rfl, hb5'⟩
   have hb5 : Below Y.heap.size Y w5 := below_undrew hb5'
   have hz5 := hb5.size
   have hS5 := keep3 ⟨x2, e0, e1⟩ hb5 (by omega) hnb.1
   have Hs5 := keepJ (HsY.out.below hb5 (by omega))
   have Ht5 := keepJ (HtY.out.below hb5 (by omega))
   have hB5 := hBY.trans (hb5.mono hBY.size)
   refine hK.out _ _ hS5 (fun hHeld => ?_)
   clear hK KK
   try simp only [Act.put, p1q, p2q, p3q, p4q, p5q, p6q]
   obtain ⟨m0, m1, m2, m3⟩ := (Hs5.out.one.typ H8.out hn : AtT w5 w.heap.size (0 + 1 + n * 4) (s.getD n Ty.nil))
   simp only [Nat.zero_add] at m0 m1 m2 m3
   have f0 := Hs5.out.frozen (1 + n * 4)
   have f1 := Hs5.out.frozen (1 + n * 4 + 1)
   have f2 := Hs5.out.frozen (1 + n * 4 + 2)
   have f3 := Hs5.out.frozen (1 + n * 4 + 3)
   have hnbw : nb ≠ w.heap.size := by omega
   have HS6 := keepJ (keep3s (sb := w.heap.size) (o := 1 + n * 4) (t := ⟨1, jl, jh, 0⟩) hS5 (by omega) hnbw)
   have HP6 := keepJ (Hs5.out.boxT H8.out hn ⟨1, jl, jh, 0⟩)
   have HL6 := keepJ HP6.out.oneR
   have Hu6 := keepJ (Ht5.out.grown (grown_sets w.heap.size (tyC ⟨1, jl, jh, 0⟩) w5 (1 + n * 4)) (fun e => by injection e with e; omega))
   have HT6 := keepJ (show (setT w5 w.heap.size (1 + n * 4) ⟨1, jl, jh, 0⟩).there (w.heap.size + 1 + 1) 0 (stC r (s.set n ⟨1, jl, jh, 0⟩)).toArray.size from (by rw [stC_size r h8']; exact Hu6.out.there (by rw [zeroC_len]; omega)))
   refine tkGo [5] ?_
   repeat (refine tkO (v := ?_) rfl ?_ ?_; rotate_left; (intro wy hSw; (try dsimp only at hSw); go_simp; (first | done | with_reducible rfl)); try simp only [Act.put, p1q, p2q, p3q, p4q, p5q, p6q])
   refine tkEnd ?_
   refine runO 6 (by kernel_rfl) rfl (by rfl) (fun KK hK => ?_)
   go_simp
   refine hK.out _ _ HS6.out (fun hHeld => ?_)
   clear hK KK
   try simp only [Act.put, p1q, p2q, p3q, p4q, p5q, p6q]
   refine wpAnyH_done (by kernel_rfl) ?_ _
   clear m0 m1 m2 m3 f0 f1 f2 f3 hHeld
   go_wp2_with (first
    | ((with_reducible refine wpList_load_mid ?pa8 115 (.tmp 3) ?pb8 w.heap.size 0 ?pc8 (stC r (s.set n ⟨1, jl, jh, 0⟩)) _ HL6.out Tryz.underlying115 ?pd8 HSZ2.out ?pe8); (case pa8 => rfl); (case pb8 => rfl); (case pc8 => rfl); (case pd8 => rfl))
    | ((with_reducible refine wpList_store_mid ?ra8 115 (.tmp 6) (.tmp 35) ?rb8 (w.heap.size + 1 + 1) 0 (stC r (s.set n ⟨1, jl, jh, 0⟩)).toArray ?rc8 ?rd8 HT6.out HSA2.out HS2.out ?re8); (case ra8 => rfl); (case rb8 => rfl); (case rc8 => rfl); (case rd8 => rfl)))
   refine st_ret (n := w.heap.size + 1 + 1) rfl rfl ?_ h8' ?_
   ·exact (Hu6.out.box zeroC_len h8').one
   ·exact (below_setT (t := ⟨1, jl, jh, 0⟩) (off := 1 + n * 4) hB5 (Nat.le_refl _)).trans (grown_to_below (grown_sets _ _ _ _) (by omega) (below_setT (t := ⟨1, jl, jh, 0⟩) (off := 1 + n * 4) hB5 (Nat.le_refl _)).size)
 ·go_simp
  have hb0 : Below Z.heap.size Z (Z.alloc (Obj.cells #[.int .u64 0, .int .u64 0] 110)) := (Below.refl _ _).alloc (Nat.le_refl _) _
  refine hK.out _ _ (HP.out _ (hb0.drew)) (fun hHeld => ?_)
  clear hK KK
  try simp only [Act.put, p1q, p2q, p3q, p4q, p5q, p6q]
  refine runO 10 (by kernel_rfl) rfl (by rfl) (fun KK hK => ?_)
  go_simp
  go_at_call 54
  refine (lsource_as4 (i := ⟨op, d, n, b, imm⟩) HT r _ H8.out HB.out).mono ?_
  rintro e w1 ⟨rfl, hb1'⟩
  have hb1u := below_undrew hb1'
  obtain ⟨hNW1, m0, m1, k0, k1⟩ := bxs_kept hb1u
  have hb1 : Below Z.heap.size Z w1 := hb0.trans (hb1u.mono (by simp))
  have hz1 := hb1.size
  refine hK.out _ _ (HP.out _ hb1) (fun hHeld => ?_)
  clear hK KK
  try simp only [Act.put, p1q, p2q, p3q, p4q, p5q, p6q]
  refine tkGo [11] ?_
  repeat (refine tkO (v := ?_) rfl ?_ ?_; rotate_left; (intro wy hSw; (try dsimp only at hSw); go_simp; (first | done | with_reducible rfl)); try simp only [Act.put, p1q, p2q, p3q, p4q, p5q, p6q])
  refine tkEnd ?_
  refine runO 13 (by kernel_rfl) rfl (by rfl) (fun KK hK => ?_)
  go_simp
  go_at_call 90
  refine (lrefine_as HM1 HM2 HJ w1).mono ?_
  rintro e w2 ⟨rfl, hb2'⟩
  have hb2 : Below Z.heap.size Z w2 := hb1.trans (hb2'.mono hz1)
  obtain ⟨n0, n1, g0, g1⟩ := bxs_below ⟨m0, m1, k0, k1⟩ hb2' hNW1
  have hNB : Z.heap.size <= Z.heap.size := Nat.le_refl _
  have hNZ : Z.heap.size < w2.heap.size := Nat.lt_of_lt_of_le hNW1 hb2'.size
  refine hK.out _ _ (HP.out _ hb2) (fun hHeld => ?_)
  clear hK KK
  try simp only [Act.put, p1q, p2q, p3q, p4q, p5q, p6q]
  refine tkGo [14, 15, 16] ?_
  repeat (refine tkO (v := ?_) rfl ?_ ?_; rotate_left; (intro wy hSw; (try dsimp only at hSw); go_simp; (first | done | with_reducible rfl)); try simp only [Act.put, p1q, p2q, p3q, p4q, p5q, p6q])
  refine tkEnd ?_
  refine runO 18 (by kernel_rfl) rfl (by rfl) (fun KK hK => ?_)
  go_simp
  refine hK.out _ _ (HP.out _ (below_set (below_set hb2 hNB) hNB)) (fun hHeld => ?_)
  clear hK KK
  try simp only [Act.put, p1q, p2q, p3q, p4q, p5q, p6q]
  refine tkGo [19] ?_
  repeat (refine tkO (v := ?_) rfl ?_ ?_; rotate_left; (intro wy hSw; (try dsimp only at hSw); go_simp; (first | done | with_reducible rfl)); try simp only [Act.put, p1q, p2q, p3q, p4q, p5q, p6q])
  refine tkEnd ?_
  refine wpAnyH_done (by kernel_rfl) ?_ _
  obtain ⟨Y, nb, HY, HNB, hbY, hnb, e0, e1⟩ : ∃ Y nb, Hid (Y = (w2.setCell ⟨Z.heap.size, 0, none⟩ (.int .u64 jl)).setCell ⟨Z.heap.size, 1, none⟩ (.int .u64 jh)) /\ Hid (Z.heap.size = nb) /\ Below Z.heap.size Z Y /\ (nb < Y.heap.size /\ Z.heap.size <= nb) /\ Y.cell? ⟨nb, 0, none⟩ = some (.int .u64 jl) /\ Y.cell? ⟨nb, 1, none⟩ = some (.int .u64 jh) := ⟨_, _, rfl, rfl, below_set (below_set hb2 hNB) hNB, ⟨by simpa [World.setCell] using hNZ, hNB⟩, (set_two n0 n1).1, (set_two n0 n1).2⟩
  rw [<- HY.out, HNB.out]
  clear HY HNB hHeld
  go_wp2
  have hzY := hbY.size
  have hBY := HBZ.out.trans (hbY.mono HBZ.out.size)
  have HtY := keepJ (HtZ.out.below hbY (by omega))
  have HsY := keepJ (HsZ.out.below hbY (by omega))
  obtain ⟨x0, x1, x2, x3, x4⟩ := Box.below HbZ.out hbY (by omega)
  refine wp_region_held_drew (S := fun w' => w'.cell? ⟨w.heap.size + 1, 2, none⟩ = some (.int .i64 n) /\ w'.cell? ⟨nb, 0, none⟩ = some (.int .u64 jl) /\ w'.cell? ⟨nb, 1, none⟩ = some (.int .u64 jh)) (by kernel_rfl) ⟨x2, e0, e1⟩ (fun hHeld => ?_)
  refine tkGo [0, 1, 2, 4] ?_
  repeat (refine tkO (v := ?_) rfl ?_ ?_; rotate_left; (intro wy hSw; (try dsimp only at hSw); go_simp; (first | done | with_reducible rfl)); try simp only [Act.put, p1q, p2q, p3q, p4q, p5q, p6q])
  refine tkEnd ?_
  refine runO 3 (by kernel_rfl) rfl (by rfl) (fun KK hK => ?_)
  go_simp
  go_at_call 80
  refine (lnumber_as jl jh Y.drew).mono ?_
  rintro e w5 ⟨rfl, hb5'⟩
  have hb5 : Below Y.heap.size Y w5 := below_undrew hb5'
  have hz5 := hb5.size
  have hS5 := keep3 ⟨x2, e0, e1⟩ hb5 (by omega) hnb.1
  have Hs5 := keepJ (HsY.out.below hb5 (by omega))
  have Ht5 := keepJ (HtY.out.below hb5 (by omega))
  have hB5 := hBY.trans (hb5.mono hBY.size)
  refine hK.out _ _ hS5 (fun hHeld => ?_)
  clear hK KK
  try simp only [Act.put, p1q, p2q, p3q, p4q, p5q, p6q]
  obtain ⟨m0, m1, m2, m3⟩ := (Hs5.out.one.typ H8.out hn : AtT w5 w.heap.size (0 + 1 + n * 4) (s.getD n Ty.nil))
  simp only [Nat.zero_add] at m0 m1 m2 m3
  have f0 := Hs5.out.frozen (1 + n * 4)
  have f1 := Hs5.out.frozen (1 + n * 4 + 1)
  have f2 := Hs5.out.frozen (1 + n * 4 + 2)
  have f3 := Hs5.out.frozen (1 + n * 4 + 3)
  have hnbw : nb ≠ w.heap.size := by omega
  have HS6 := keepJ (keep3s (sb := w.heap.size) (o := 1 + n * 4) (t := ⟨1, jl, jh, 0⟩) hS5 (by omega) hnbw)
  have HP6 := keepJ (Hs5.out.boxT H8.out hn ⟨1, jl, jh, 0⟩)
  have HL6 := keepJ HP6.out.oneR
  have Hu6 := keepJ (Ht5.out.grown (grown_sets w.heap.size (tyC ⟨1, jl, jh, 0⟩) w5 (1 + n * 4)) (fun e => by injection e with e; omega))
  have HT6 := keepJ (show (setT w5 w.heap.size (1 + n * 4) ⟨1, jl, jh, 0⟩).there (w.heap.size + 1 + 1) 0 (stC r (s.set n ⟨1, jl, jh, 0⟩)).toArray.size from (by rw [stC_size r h8']; exact Hu6.out.there (by rw [zeroC_len]; omega)))
  refine tkGo [5] ?_
  repeat (refine tkO (v := ?_) rfl ?_ ?_; rotate_left; (intro wy hSw; (try dsimp only at hSw); go_simp; (first | done | with_reducible rfl)); try simp only [Act.put, p1q, p2q, p3q, p4q, p5q, p6q])
  refine tkEnd ?_
  refine runO 6 (by kernel_rfl) rfl (by rfl) (fun KK hK => ?_)
  go_simp
  refine hK.out _ _ HS6.out (fun hHeld => ?_)
  clear hK KK
  try simp only [Act.put, p1q, p2q, p3q, p4q, p5q, p6q]
  refine wpAnyH_done (by kernel_rfl) ?_ _
  clear m0 m1 m2 m3 f0 f1 f2 f3 hHeld
  go_wp2_with (first
   | ((with_reducible refine wpList_load_mid ?pa9 115 (.tmp 3) ?pb9 w.heap.size 0 ?pc9 (stC r (s.set n ⟨1, jl, jh, 0⟩)) _ HL6.out Tryz.underlying115 ?pd9 HSZ2.out ?pe9); (case pa9 => rfl); (case pb9 => rfl); (case pc9 => rfl); (case pd9 => rfl))
   | ((with_reducible refine wpList_store_mid ?ra9 115 (.tmp 6) (.tmp 35) ?rb9 (w.heap.size + 1 + 1) 0 (stC r (s.set n ⟨1, jl, jh, 0⟩)).toArray ?rc9 ?rd9 HT6.out HSA2.out HS2.out ?re9); (case ra9 => rfl); (case rb9 => rfl); (case rc9 => rfl); (case rd9 => rfl)))
  refine st_ret (n := w.heap.size + 1 + 1) rfl rfl ?_ h8' ?_
  ·exact (Hu6.out.box zeroC_len h8').one
  ·exact (below_setT (t := ⟨1, jl, jh, 0⟩) (off := 1 + n * 4) hB5 (Nat.le_refl _)).trans (grown_to_below (grown_sets _ _ _ _) (by omega) (below_setT (t := ⟨1, jl, jh, 0⟩) (off := 1 + n * 4) hB5 (Nat.le_refl _)).size)
-- YES END
def refS (i : In) (r : Bool) (s : St) (holds : Bool) : Bool × St :=
 match refineR i.op (regT s i.a).lo (regT s i.a).hi (srcT i s).lo (srcT i s).hi holds with
 | none => (false, stZ)
 | some p => (r, s.set i.a.toNat (num2 p.1 p.2))
theorem lrefined_any (nm : Nat) (i : In) (r : Bool) (s : St) (holds : Bool) (w : World) (h8 : Made8 nm s) (ha : 0 <= i.a /\ i.a <= 7) (hb : i.b = 8 ∨ (0 <= i.b /\ i.b <= 7)) : Calls Tryz.prog 62 #[stV r s, i.v, .bool holds] w fun e w' => e = .returned (stV (refS i r s holds).1 (refS i r s holds).2) /\ Below w.heap.size w w' := by
 obtain ⟨op, d, a, b, imm⟩ := i
 simp only at ha hb
 obtain ⟨n, rfl⟩ := Int.eq_ofNat_of_zero_le ha.1
 have hn : n < 8 := by omega
 have e1 : regT s (n : Int) = s.getD n Ty.nil := rfl
 unfold refS
 simp only
 rw [e1]
 cases hq : refineR op (s.getD n Ty.nil).lo (s.getD n Ty.nil).hi (srcT ⟨op, d, n, b, imm⟩ s).lo (srcT ⟨op, d, n, b, imm⟩ s).hi holds with
 | none => exact lrefined_no nm op d b imm n r s holds w h8 hn hb 0 0 _ _ _ _ _ _ _ _ rfl rfl (show optV (refineR op (s.getD n Ty.nil).lo (s.getD n Ty.nil).hi (srcT ⟨op, d, n, b, imm⟩ s).lo (srcT ⟨op, d, n, b, imm⟩ s).hi holds) = _ by rw [hq]; rfl)
 | some p => exact lrefined_yes nm op d b imm n r s holds w h8 hn hb p.1 p.2 _ _ _ _ _ _ _ _ rfl rfl (show optV (refineR op (s.getD n Ty.nil).lo (s.getD n Ty.nil).hi (srcT ⟨op, d, n, b, imm⟩ s).lo (srcT ⟨op, d, n, b, imm⟩ s).hi holds) = _ by rw [hq]; rfl)
end Go.Proofs.YtkondcjmhlppiaaGreat
