
/-
 What the landed judge's refined answers: what is known on a way of a conditional jump. Conditions: a state of eight well made types; the registers that the instruction names are there.
-/
import Derived.Test.YtbaeakbnoijkcaaGreatMT32
namespace Go.Proofs.YtbaeakbnoijkcaaGreat
open Go.RowKit
set_option linter.unusedVariables false
set_option linter.unusedSimpArgs false
set_option maxRecDepth 100000

theorem lnumber_as (lo hi : Int) (w : World) : Calls Tryz.prog 77 #[.agg #[.int .u64 lo, .int .u64 hi]] w fun e w' => e = .returned (.agg #[.int .i64 1, .int .u64 lo, .int .u64 hi, .int .i64 0]) /\ Below w.heap.size w w' := qBe lo hi w
theorem keep3 {w w' : World} {ib nb : Nat} {x y z : Value} (h : w.cell? ⟨ib, 2, none⟩ = some x /\ w.cell? ⟨nb, 0, none⟩ = some y /\ w.cell? ⟨nb, 1, none⟩ = some z) (hb : Below w.heap.size w w') (hi : ib < w.heap.size) (hn : nb < w.heap.size) : w'.cell? ⟨ib, 2, none⟩ = some x /\ w'.cell? ⟨nb, 0, none⟩ = some y /\ w'.cell? ⟨nb, 1, none⟩ = some z := by
 rw [hb.cell (p := ⟨ib, 2, none⟩) hi, hb.cell (p := ⟨nb, 0, none⟩) hn, hb.cell (p := ⟨nb, 1, none⟩) hn]
 exact h
theorem keep3s {w : World} {ib nb sb o : Nat} {t : Ty} {x y z : Value} (h : w.cell? ⟨ib, 2, none⟩ = some x /\ w.cell? ⟨nb, 0, none⟩ = some y /\ w.cell? ⟨nb, 1, none⟩ = some z) (hi : ib ≠ sb) (hn : nb ≠ sb) : (setT w sb o t).cell? ⟨ib, 2, none⟩ = some x /\ (setT w sb o t).cell? ⟨nb, 0, none⟩ = some y /\ (setT w sb o t).cell? ⟨nb, 1, none⟩ = some z := by
 have key : ∀ b j u, b ≠ sb -> w.cell? ⟨b, j, none⟩ = some u -> (setT w sb o t).cell? ⟨b, j, none⟩ = some u := fun b j u hb hc =>
  (qAa sb (tyC t) w o).cell hc (fun e => hb (by injection e))
 exact ⟨key _ _ _ hi h.1, key _ _ _ hn h.2.1, key _ _ _ hn h.2.2⟩
theorem run_zero (w : World) : (Instr.build 111 #[]).run Tryz.prog w = .ok (.agg zeroC.toArray) w := by kernel_rfl
theorem wpList_zero {ops : Array Oper} {rest : List Oper} {op : Oper} {a : Act} {w : World} {Q : Exit -> Act -> World -> Prop} (hgd : op.guard = none) (ho : op.op = .build 111 #[]) (zc : List Value) (hz : Hid (zc = zeroC)) (h : wpList Tryz.prog ops Q rest (a.put op.dst (.agg zc.toArray)) w) : wpList Tryz.prog ops Q (op :: rest) a w :=
 wpList_plain hgd fun K hK => by
  have h' := hK _ _ h
  rw [hz.out] at h'
  unfold Oper.wp execOp
  simp only [ho]
  simp only [List.map_toArray, List.map_nil, Array.map_empty, Sem.run_bind, run_zero, Result.andThen_ok, Sem.run_pure]
  exact h'
set_option maxHeartbeats 3200000 in
theorem lrefined_no (nm : Nat) (op d b imm : Int) (n : Nat) (r : Bool) (s : St) (holds : Bool) (w : World) (h8 : Made8 nm s) (hn : n < 8) (hb : b = 8 ∨ (0 <= b /\ b <= 7)) (jl jh : Int) (sk sl sh sm tk tl th tm : Int) (HS : Hid (s.getD n Ty.nil = ⟨sk, sl, sh, sm⟩)) (HT : Hid (srcT ⟨op, d, n, b, imm⟩ s = ⟨tk, tl, th, tm⟩))
  (HJ : Hid (optV (refineR op sl sh tl th holds) = .tuple #[.agg #[.int .u64 jl, .int .u64 jh], .bool false])) : Calls Tryz.prog 67 #[stV r s, In.v ⟨op, d, n, b, imm⟩, .bool holds] w fun e w' => e = .returned (stV false stZ) /\ Below w.heap.size w w' := by
 have HM1 : Hid (wfS (sl, sh)) := by have := h8.ends hn; rw [HS.out] at this; exact this
 have HM2 : Hid (wfS (tl, th)) := by have := (made_src (i := ⟨op, d, n, b, imm⟩) h8 hb).ends; rw [HT.out] at this; exact this
 obtain ⟨Z, HZ, HsZ, HbZ, HtZ, HBZ, hZz⟩ := boxes3s w r s op d n b imm
 have H8 := keepJ h8.1
 have HB := keepJ hb
 have hnI : (n : Int) < 8 := by omega
 obtain ⟨zc, HZC⟩ : ∃ zc, Hid (zc = zeroC) := ⟨_, rfl⟩
 have HSA := keepJ (show (Tryz.prog.info? 111).map (·.size) = some zc.toArray.size from by rw [HZC.out]; kernel_rfl)
 have HS1 := keepJ (show zc.toArray.all (·.oneCell') = true from by rw [HZC.out]; exact qAz false stZ)
 clear h8 hb
 go_enter Tryz.func67, Tryz.ntmps67
 go_wp2
 rw [<- HZ.out]
 clear HZ
 have hsz := HsZ.out.lt
 have hfl : ∀ wy : World, (Instr.field 108 (.agg #[.int .i64 tk, .int .u64 tl, .int .u64 th, .int .i64 tm]) 1).run Tryz.prog wy = .ok (.agg #[.int .u64 tl, .int .u64 th]) wy := fun _ => by kernel_rfl
 have HP : Hid (∀ w', Below Z.heap.size Z w' -> w'.cell? ⟨w.heap.size + 1, 0, none⟩ = some (.int .i64 op) /\ w'.cell? ⟨w.heap.size + 1, 1, none⟩ = some (.int .i64 d) /\ w'.cell? ⟨w.heap.size + 1, 2, none⟩ = some (.int .i64 n) /\ w'.cell? ⟨w.heap.size + 1, 3, none⟩ = some (.int .i64 b) /\ w'.cell? ⟨w.heap.size + 1, 4, none⟩ = some (.int .i64 imm) /\ w'.cell? ⟨w.heap.size, 1 + n * 4 + 1, none⟩ = some (.int .u64 sl) /\ w'.cell? ⟨w.heap.size, 1 + n * 4 + 1 + 1, none⟩ = some (.int .u64 sh) /\ StAt w' w.heap.size 0 r s /\ True) := fun w' hb' => by
  obtain ⟨q0, q1, q2, q3⟩ := stC_typ (r := r) H8.out hn HS.out
  have hh := HsZ.out.below hb' hsz
  obtain ⟨x0, x1, x2, x3, x4⟩ := Box.below HbZ.out hb' (by omega)
  exact ⟨x0, x1, x2, x3, x4, hh.cell q1, hh.cell q2, hh.one, trivial⟩
 refine wp_region_held_drew (S := fun w' => w'.cell? ⟨w.heap.size + 1, 0, none⟩ = some (.int .i64 op) /\ w'.cell? ⟨w.heap.size + 1, 1, none⟩ = some (.int .i64 d) /\ w'.cell? ⟨w.heap.size + 1, 2, none⟩ = some (.int .i64 n) /\ w'.cell? ⟨w.heap.size + 1, 3, none⟩ = some (.int .i64 b) /\ w'.cell? ⟨w.heap.size + 1, 4, none⟩ = some (.int .i64 imm) /\ w'.cell? ⟨w.heap.size, 1 + n * 4 + 1, none⟩ = some (.int .u64 sl) /\ w'.cell? ⟨w.heap.size, 1 + n * 4 + 1 + 1, none⟩ = some (.int .u64 sh) /\ StAt w' w.heap.size 0 r s /\ True) (by kernel_rfl) (HP.out _ (Below.refl _ _).drew) (fun hHeld => ?_)
-- NO BEGIN
 refine wpAnyH_take (i := 0) (v := ?v1) rfl (by kernel_rfl) (by kernel_rfl) (by kernel_rfl) (fun _ _ _ h => h) (Or.inl ⟨by rfl, ?hy1⟩) (by assumption) ?rest1
 case hy1 => (intro wy hSw; (try dsimp only at hSw); go_simp; (first | done | with_reducible rfl))
 try simp only [Act.put, p1q, p2q, p3q, p4q, p5q, p6q]
 refine wpAnyH_take (i := 1) (v := ?v2) rfl (by kernel_rfl) (by kernel_rfl) (by kernel_rfl) (fun _ _ _ h => h) (Or.inl ⟨by rfl, ?hy2⟩) (by assumption) ?rest2
 case hy2 => (intro wy hSw; (try dsimp only at hSw); go_simp; (first | done | with_reducible rfl))
 try simp only [Act.put, p1q, p2q, p3q, p4q, p5q, p6q]
 refine wpAnyH_take (i := 2) (v := ?v3) rfl (by kernel_rfl) (by kernel_rfl) (by kernel_rfl) (fun _ _ _ h => h) (Or.inl ⟨by rfl, ?hy3⟩) (by assumption) ?rest3
 case hy3 => (intro wy hSw; (try dsimp only at hSw); go_simp; (first | done | with_reducible rfl))
 try simp only [Act.put, p1q, p2q, p3q, p4q, p5q, p6q]
 refine wpAnyH_take (i := 3) (v := ?v4) rfl (by kernel_rfl) (by kernel_rfl) (by kernel_rfl) (fun _ _ _ h => h) (Or.inl ⟨by rfl, ?hy4⟩) (by assumption) ?rest4
 case hy4 => (intro wy hSw; (try dsimp only at hSw); go_simp; (first | done | with_reducible rfl))
 try simp only [Act.put, p1q, p2q, p3q, p4q, p5q, p6q]
 refine wpAnyH_take (i := 4) (v := ?v5) rfl (by kernel_rfl) (by kernel_rfl) (by kernel_rfl) (fun _ _ _ h => h) (Or.inl ⟨by rfl, ?hy5⟩) (by assumption) ?rest5
 case hy5 => (intro wy hSw; (try dsimp only at hSw); go_simp; (first | done | with_reducible rfl))
 try simp only [Act.put, p1q, p2q, p3q, p4q, p5q, p6q]
 refine wpAnyH_take (i := 5) (v := ?v6) rfl (by kernel_rfl) (by kernel_rfl) (by kernel_rfl) (fun _ _ _ h => h) (Or.inl ⟨by rfl, ?hy6⟩) (by assumption) ?rest6
 case hy6 => (intro wy hSw; (try dsimp only at hSw); go_simp; (first | done | with_reducible rfl))
 try simp only [Act.put, p1q, p2q, p3q, p4q, p5q, p6q]
 refine wpAnyH_take (i := 6) (v := ?v7) rfl (by kernel_rfl) (by kernel_rfl) (by kernel_rfl) (fun _ _ _ h => h) (Or.inl ⟨by rfl, ?hy7⟩) (by assumption) ?rest7
 case hy7 => (intro wy hSw; (try dsimp only at hSw); go_simp; (first | done | with_reducible rfl))
 try simp only [Act.put, p1q, p2q, p3q, p4q, p5q, p6q]
 refine wpAnyH_take (i := 7) (v := ?v8) rfl (by kernel_rfl) (by kernel_rfl) (by kernel_rfl) (fun _ _ _ h => h) (Or.inl ⟨by rfl, ?hy8⟩) (by assumption) ?rest8
 case hy8 => (intro wy hSw; (try dsimp only at hSw); go_simp; (first | done | with_reducible rfl))
 try simp only [Act.put, p1q, p2q, p3q, p4q, p5q, p6q]
 refine wpAnyH_take (i := 8) rfl (by kernel_rfl) (by kernel_rfl) (by kernel_rfl) (fun _ _ _ h => h) (yieldsIf_load_mid (by rfl) _ _ rfl _ _ rfl (stC r s) _ (fun w h => h.2.2.2.2.2.2.2.1) Tryz.underlying111 rfl (sizeJ H8.out)) (by assumption) ?_
 try simp only [Act.put, p1q, p2q, p3q, p4q, p5q, p6q]
 refine wpAnyH_take (i := 9) (v := ?v9) rfl (by kernel_rfl) (by kernel_rfl) (by kernel_rfl) (fun _ _ _ h => h) (Or.inl ⟨by rfl, ?hy9⟩) (by assumption) ?rest9
 case hy9 => (intro wy hSw; (try dsimp only at hSw); go_simp; (first | done | with_reducible rfl))
 try simp only [Act.put, p1q, p2q, p3q, p4q, p5q, p6q]
 refine wpAnyH_take (i := 12) (v := ?v10) rfl (by kernel_rfl) (by kernel_rfl) (by kernel_rfl) (fun _ _ _ h => h) (Or.inl ⟨by rfl, ?hy10⟩) (by assumption) ?rest10
 case hy10 => (intro wy hSw; (try dsimp only at hSw); go_simp; (first | done | with_reducible rfl))
 try simp only [Act.put, p1q, p2q, p3q, p4q, p5q, p6q]
 refine wpAnyH_ready (rs := [10, 17]) (by kernel_rfl) (by simp) ?_
 refine AllReadyH.cons rfl (fun KK hK => ?_) (AllReadyH.cons rfl (fun KK hK => ?_) AllReadyH.nil) <;> rw [if_pos (by rfl)]
 ·go_simp
  go_at_call 60
  refine (qBd (i := ⟨op, d, n, b, imm⟩) HT r Z.drew H8.out HB.out).mono ?_
  rintro e w1 ⟨rfl, hb1'⟩
  have hb1 : Below Z.heap.size Z w1 := qAi hb1'
  have hz1 := hb1.size
  refine hK.out _ _ (HP.out _ hb1) (fun hHeld => ?_)
  clear hK KK
  try simp only [Act.put, p1q, p2q, p3q, p4q, p5q, p6q]
  refine wpAnyH_take (i := 11) (v := ?v11) rfl (by kernel_rfl) (by kernel_rfl) (by kernel_rfl) (fun _ _ _ h => h) (Or.inl ⟨by rfl, ?hy11⟩) (by assumption) ?rest11
  case hy11 => (intro wy hSw; (try dsimp only at hSw); go_simp; (first | done | with_reducible rfl))
  try simp only [Act.put, p1q, p2q, p3q, p4q, p5q, p6q]
  refine wpAnyH_ready (rs := [13, 17]) (by kernel_rfl) (by simp) ?_
  refine AllReadyH.cons rfl (fun KK hK => ?_) (AllReadyH.cons rfl (fun KK hK => ?_) AllReadyH.nil) <;> rw [if_pos (by rfl)]
  ·go_simp
   go_at_call 87
   refine (lrefine_as HM1 HM2 HJ w1).mono ?_
   rintro e w2 ⟨rfl, hb2'⟩
   have hb2 : Below Z.heap.size Z w2 := hb1.trans (hb2'.mono hz1)
   refine hK.out _ _ (HP.out _ hb2) (fun hHeld => ?_)
   clear hK KK
   try simp only [Act.put, p1q, p2q, p3q, p4q, p5q, p6q]
   refine wpAnyH_take (i := 14) (v := ?v12) rfl (by kernel_rfl) (by kernel_rfl) (by kernel_rfl) (fun _ _ _ h => h) (Or.inl ⟨by rfl, ?hy12⟩) (by assumption) ?rest12
   case hy12 => (intro wy hSw; (try dsimp only at hSw); go_simp; (first | done | with_reducible rfl))
   try simp only [Act.put, p1q, p2q, p3q, p4q, p5q, p6q]
   refine wpAnyH_take (i := 15) (v := ?v13) rfl (by kernel_rfl) (by kernel_rfl) (by kernel_rfl) (fun _ _ _ h => h) (Or.inl ⟨by rfl, ?hy13⟩) (by assumption) ?rest13
   case hy13 => (intro wy hSw; (try dsimp only at hSw); go_simp; (first | done | with_reducible rfl))
   try simp only [Act.put, p1q, p2q, p3q, p4q, p5q, p6q]
   refine wpAnyH_take (i := 16) (v := ?v14) rfl (by kernel_rfl) (by kernel_rfl) (by kernel_rfl) (fun _ _ _ h => h) (Or.inl ⟨by rfl, ?hy14⟩) (by assumption) ?rest14
   case hy14 => (intro wy hSw; (try dsimp only at hSw); go_simp; (first | done | with_reducible rfl))
   try simp only [Act.put, p1q, p2q, p3q, p4q, p5q, p6q]
   refine wpAnyH_ready (rs := [17]) (by kernel_rfl) (by simp) ?_
   refine AllReadyH.cons rfl (fun KK hK => ?_) AllReadyH.nil
   rw [if_pos (by rfl)]
   go_simp
   refine hK.out _ _ (HP.out _ (hb2.alloc hb2.size _)) (fun hHeld => ?_)
   clear hK KK
   try simp only [Act.put, p1q, p2q, p3q, p4q, p5q, p6q]
   refine wpAnyH_ready (rs := [18]) (by kernel_rfl) (by simp) ?_
   refine AllReadyH.cons rfl (fun KK hK => ?_) AllReadyH.nil
   rw [if_pos (by rfl)]
   go_simp
   refine hK.out _ _ (HP.out _ (hb2.alloc hb2.size _)) (fun hHeld => ?_)
   clear hK KK
   try simp only [Act.put, p1q, p2q, p3q, p4q, p5q, p6q]
   refine wpAnyH_take (i := 19) (v := ?v15) rfl (by kernel_rfl) (by kernel_rfl) (by kernel_rfl) (fun _ _ _ h => h) (Or.inl ⟨by rfl, ?hy15⟩) (by assumption) ?rest15
   case hy15 => (intro wy hSw; (try dsimp only at hSw); go_simp; (first | done | with_reducible rfl))
   try simp only [Act.put, p1q, p2q, p3q, p4q, p5q, p6q]
   refine wpAnyH_done (by kernel_rfl) ?_ _
   obtain ⟨Y, nb, HY, HNB, hbY, hnb, e0, e1⟩ : ∃ Y nb, Hid (Y = w2.alloc (Obj.cells #[.int .u64 jl, .int .u64 jh] 106)) /\ Hid (w2.heap.size = nb) /\ Below Z.heap.size Z Y /\ (nb < Y.heap.size /\ Z.heap.size <= nb) /\ Y.cell? ⟨nb, 0, none⟩ = some (.int .u64 jl) /\ Y.cell? ⟨nb, 1, none⟩ = some (.int .u64 jh) := ⟨_, _, rfl, rfl, hb2.alloc hb2.size _, ⟨by simp, hb2.size⟩, by go_cell, by go_cell⟩
   rw [<- HY.out, HNB.out]
   clear HY HNB hHeld
   have hzY := hbY.size
   have hBY := HBZ.out.trans (hbY.mono HBZ.out.size)
   have HtY := keepJ (HtZ.out.below hbY (by omega))
   have HTY := keepJ (show Y.there (w.heap.size + 1 + 1) 0 zc.toArray.size from (by rw [HZC.out]; exact HtY.out.there (by rw [qAe]; decide)))
   go_wp2_with (first | ((with_reducible refine wpList_zero ?za4 ?zb4 zc HZC ?zd4); (case za4 => rfl); (case zb4 => rfl)) | ((with_reducible refine wpList_store_mid ?ra4 111 (.tmp 6) (.tmp 28) ?rb4 (w.heap.size + 1 + 1) 0 zc.toArray ?rc4 ?rd4 HTY.out HSA.out HS1.out ?re4); (case ra4 => rfl); (case rb4 => rfl); (case rc4 => rfl); (case rd4 => rfl)))
   refine st_ret (n := w.heap.size + 1 + 1) rfl rfl ?_ stZ_len ?_
   ·rw [HZC.out]; exact (HtY.out.box (r := false) (s := stZ) qAe stZ_len).one
   ·exact hBY.trans (qAc (qAa _ _ _ _) (by omega) hBY.size)
  ·go_simp
   refine hK.out _ _ (HP.out _ (hb1.alloc hz1 _)) (fun hHeld => ?_)
   clear hK KK
   try simp only [Act.put, p1q, p2q, p3q, p4q, p5q, p6q]
   refine wpAnyH_ready (rs := [13]) (by kernel_rfl) (by simp) ?_
   refine AllReadyH.cons rfl (fun KK hK => ?_) AllReadyH.nil
   rw [if_pos (by rfl)]
   go_simp
   go_at_call 87
   refine (lrefine_as HM1 HM2 HJ _).mono ?_
   rintro e w2 ⟨rfl, hb2'⟩
   obtain ⟨hNW, n0, n1, g0, g1⟩ := bxs_kept hb2'
   have hb2 : Below Z.heap.size Z w2 := (hb1.alloc hz1 _).trans (hb2'.mono (by simp; omega))
   have hNB : Z.heap.size <= w1.heap.size := hz1
   have hNZ : w1.heap.size < w2.heap.size := hNW
   refine hK.out _ _ (HP.out _ hb2) (fun hHeld => ?_)
   clear hK KK
   try simp only [Act.put, p1q, p2q, p3q, p4q, p5q, p6q]
   refine wpAnyH_take (i := 14) (v := ?v16) rfl (by kernel_rfl) (by kernel_rfl) (by kernel_rfl) (fun _ _ _ h => h) (Or.inl ⟨by rfl, ?hy16⟩) (by assumption) ?rest16
   case hy16 => (intro wy hSw; (try dsimp only at hSw); go_simp; (first | done | with_reducible rfl))
   try simp only [Act.put, p1q, p2q, p3q, p4q, p5q, p6q]
   refine wpAnyH_take (i := 15) (v := ?v17) rfl (by kernel_rfl) (by kernel_rfl) (by kernel_rfl) (fun _ _ _ h => h) (Or.inl ⟨by rfl, ?hy17⟩) (by assumption) ?rest17
   case hy17 => (intro wy hSw; (try dsimp only at hSw); go_simp; (first | done | with_reducible rfl))
   try simp only [Act.put, p1q, p2q, p3q, p4q, p5q, p6q]
   refine wpAnyH_take (i := 16) (v := ?v18) rfl (by kernel_rfl) (by kernel_rfl) (by kernel_rfl) (fun _ _ _ h => h) (Or.inl ⟨by rfl, ?hy18⟩) (by assumption) ?rest18
   case hy18 => (intro wy hSw; (try dsimp only at hSw); go_simp; (first | done | with_reducible rfl))
   try simp only [Act.put, p1q, p2q, p3q, p4q, p5q, p6q]
   refine wpAnyH_ready (rs := [18]) (by kernel_rfl) (by simp) ?_
   refine AllReadyH.cons rfl (fun KK hK => ?_) AllReadyH.nil
   rw [if_pos (by rfl)]
   go_simp
   refine hK.out _ _ (HP.out _ (qAb (qAb hb2 hNB) hNB)) (fun hHeld => ?_)
   clear hK KK
   try simp only [Act.put, p1q, p2q, p3q, p4q, p5q, p6q]
   refine wpAnyH_take (i := 19) (v := ?v19) rfl (by kernel_rfl) (by kernel_rfl) (by kernel_rfl) (fun _ _ _ h => h) (Or.inl ⟨by rfl, ?hy19⟩) (by assumption) ?rest19
   case hy19 => (intro wy hSw; (try dsimp only at hSw); go_simp; (first | done | with_reducible rfl))
   try simp only [Act.put, p1q, p2q, p3q, p4q, p5q, p6q]
   refine wpAnyH_done (by kernel_rfl) ?_ _
   obtain ⟨Y, nb, HY, HNB, hbY, hnb, e0, e1⟩ : ∃ Y nb, Hid (Y = (w2.setCell ⟨w1.heap.size, 0, none⟩ (.int .u64 jl)).setCell ⟨w1.heap.size, 1, none⟩ (.int .u64 jh)) /\ Hid (w1.heap.size = nb) /\ Below Z.heap.size Z Y /\ (nb < Y.heap.size /\ Z.heap.size <= nb) /\ Y.cell? ⟨nb, 0, none⟩ = some (.int .u64 jl) /\ Y.cell? ⟨nb, 1, none⟩ = some (.int .u64 jh) := ⟨_, _, rfl, rfl, qAb (qAb hb2 hNB) hNB, ⟨by simpa [World.setCell] using hNZ, hNB⟩, (qAj n0 n1).1, (qAj n0 n1).2⟩
   rw [<- HY.out, HNB.out]
   clear HY HNB hHeld
   have hzY := hbY.size
   have hBY := HBZ.out.trans (hbY.mono HBZ.out.size)
   have HtY := keepJ (HtZ.out.below hbY (by omega))
   have HTY := keepJ (show Y.there (w.heap.size + 1 + 1) 0 zc.toArray.size from (by rw [HZC.out]; exact HtY.out.there (by rw [qAe]; decide)))
   go_wp2_with (first | ((with_reducible refine wpList_zero ?za5 ?zb5 zc HZC ?zd5); (case za5 => rfl); (case zb5 => rfl)) | ((with_reducible refine wpList_store_mid ?ra5 111 (.tmp 6) (.tmp 28) ?rb5 (w.heap.size + 1 + 1) 0 zc.toArray ?rc5 ?rd5 HTY.out HSA.out HS1.out ?re5); (case ra5 => rfl); (case rb5 => rfl); (case rc5 => rfl); (case rd5 => rfl)))
   refine st_ret (n := w.heap.size + 1 + 1) rfl rfl ?_ stZ_len ?_
   ·rw [HZC.out]; exact (HtY.out.box (r := false) (s := stZ) qAe stZ_len).one
   ·exact hBY.trans (qAc (qAa _ _ _ _) (by omega) hBY.size)
 ·go_simp
  have hb0 : Below Z.heap.size Z (Z.alloc (Obj.cells #[.int .u64 0, .int .u64 0] 106)) := (Below.refl _ _).alloc (Nat.le_refl _) _
  refine hK.out _ _ (HP.out _ (hb0.drew)) (fun hHeld => ?_)
  clear hK KK
  try simp only [Act.put, p1q, p2q, p3q, p4q, p5q, p6q]
  refine wpAnyH_ready (rs := [10]) (by kernel_rfl) (by simp) ?_
  refine AllReadyH.cons rfl (fun KK hK => ?_) AllReadyH.nil
  rw [if_pos (by rfl)]
  go_simp
  go_at_call 60
  refine (qBd (i := ⟨op, d, n, b, imm⟩) HT r _ H8.out HB.out).mono ?_
  rintro e w1 ⟨rfl, hb1'⟩
  have hb1u := qAi hb1'
  obtain ⟨hNW1, m0, m1, k0, k1⟩ := bxs_kept hb1u
  have hb1 : Below Z.heap.size Z w1 := hb0.trans (hb1u.mono (by simp))
  have hz1 := hb1.size
  refine hK.out _ _ (HP.out _ hb1) (fun hHeld => ?_)
  clear hK KK
  try simp only [Act.put, p1q, p2q, p3q, p4q, p5q, p6q]
  refine wpAnyH_take (i := 11) (v := ?v20) rfl (by kernel_rfl) (by kernel_rfl) (by kernel_rfl) (fun _ _ _ h => h) (Or.inl ⟨by rfl, ?hy20⟩) (by assumption) ?rest20
  case hy20 => (intro wy hSw; (try dsimp only at hSw); go_simp; (first | done | with_reducible rfl))
  try simp only [Act.put, p1q, p2q, p3q, p4q, p5q, p6q]
  refine wpAnyH_ready (rs := [13]) (by kernel_rfl) (by simp) ?_
  refine AllReadyH.cons rfl (fun KK hK => ?_) AllReadyH.nil
  rw [if_pos (by rfl)]
  go_simp
  go_at_call 87
  refine (lrefine_as HM1 HM2 HJ w1).mono ?_
  rintro e w2 ⟨rfl, hb2'⟩
  have hb2 : Below Z.heap.size Z w2 := hb1.trans (hb2'.mono hz1)
  obtain ⟨n0, n1, g0, g1⟩ := bxs_below ⟨m0, m1, k0, k1⟩ hb2' hNW1
  have hNB : Z.heap.size <= Z.heap.size := Nat.le_refl _
  have hNZ : Z.heap.size < w2.heap.size := Nat.lt_of_lt_of_le hNW1 hb2'.size
  refine hK.out _ _ (HP.out _ hb2) (fun hHeld => ?_)
  clear hK KK
  try simp only [Act.put, p1q, p2q, p3q, p4q, p5q, p6q]
  refine wpAnyH_take (i := 14) (v := ?v21) rfl (by kernel_rfl) (by kernel_rfl) (by kernel_rfl) (fun _ _ _ h => h) (Or.inl ⟨by rfl, ?hy21⟩) (by assumption) ?rest21
  case hy21 => (intro wy hSw; (try dsimp only at hSw); go_simp; (first | done | with_reducible rfl))
  try simp only [Act.put, p1q, p2q, p3q, p4q, p5q, p6q]
  refine wpAnyH_take (i := 15) (v := ?v22) rfl (by kernel_rfl) (by kernel_rfl) (by kernel_rfl) (fun _ _ _ h => h) (Or.inl ⟨by rfl, ?hy22⟩) (by assumption) ?rest22
  case hy22 => (intro wy hSw; (try dsimp only at hSw); go_simp; (first | done | with_reducible rfl))
  try simp only [Act.put, p1q, p2q, p3q, p4q, p5q, p6q]
  refine wpAnyH_take (i := 16) (v := ?v23) rfl (by kernel_rfl) (by kernel_rfl) (by kernel_rfl) (fun _ _ _ h => h) (Or.inl ⟨by rfl, ?hy23⟩) (by assumption) ?rest23
  case hy23 => (intro wy hSw; (try dsimp only at hSw); go_simp; (first | done | with_reducible rfl))
  try simp only [Act.put, p1q, p2q, p3q, p4q, p5q, p6q]
  refine wpAnyH_ready (rs := [18]) (by kernel_rfl) (by simp) ?_
  refine AllReadyH.cons rfl (fun KK hK => ?_) AllReadyH.nil
  rw [if_pos (by rfl)]
  go_simp
  refine hK.out _ _ (HP.out _ (qAb (qAb hb2 hNB) hNB)) (fun hHeld => ?_)
  clear hK KK
  try simp only [Act.put, p1q, p2q, p3q, p4q, p5q, p6q]
  refine wpAnyH_take (i := 19) (v := ?v24) rfl (by kernel_rfl) (by kernel_rfl) (by kernel_rfl) (fun _ _ _ h => h) (Or.inl ⟨by rfl, ?hy24⟩) (by assumption) ?rest24
  case hy24 => (intro wy hSw; (try dsimp only at hSw); go_simp; (first | done | with_reducible rfl))
  try simp only [Act.put, p1q, p2q, p3q, p4q, p5q, p6q]
  refine wpAnyH_done (by kernel_rfl) ?_ _
  obtain ⟨Y, nb, HY, HNB, hbY, hnb, e0, e1⟩ : ∃ Y nb, Hid (Y = (w2.setCell ⟨Z.heap.size, 0, none⟩ (.int .u64 jl)).setCell ⟨Z.heap.size, 1, none⟩ (.int .u64 jh)) /\ Hid (Z.heap.size = nb) /\ Below Z.heap.size Z Y /\ (nb < Y.heap.size /\ Z.heap.size <= nb) /\ Y.cell? ⟨nb, 0, none⟩ = some (.int .u64 jl) /\ Y.cell? ⟨nb, 1, none⟩ = some (.int .u64 jh) := ⟨_, _, rfl, rfl, qAb (qAb hb2 hNB) hNB, ⟨by simpa [World.setCell] using hNZ, hNB⟩, (qAj n0 n1).1, (qAj n0 n1).2⟩
  rw [<- HY.out, HNB.out]
  clear HY HNB hHeld
  have hzY := hbY.size
  have hBY := HBZ.out.trans (hbY.mono HBZ.out.size)
  have HtY := keepJ (HtZ.out.below hbY (by omega))
  have HTY := keepJ (show Y.there (w.heap.size + 1 + 1) 0 zc.toArray.size from (by rw [HZC.out]; exact HtY.out.there (by rw [qAe]; decide)))
  go_wp2_with (first | ((with_reducible refine wpList_zero ?za6 ?zb6 zc HZC ?zd6); (case za6 => rfl); (case zb6 => rfl)) | ((with_reducible refine wpList_store_mid ?ra6 111 (.tmp 6) (.tmp 28) ?rb6 (w.heap.size + 1 + 1) 0 zc.toArray ?rc6 ?rd6 HTY.out HSA.out HS1.out ?re6); (case ra6 => rfl); (case rb6 => rfl); (case rc6 => rfl); (case rd6 => rfl)))
  refine st_ret (n := w.heap.size + 1 + 1) rfl rfl ?_ stZ_len ?_
  ·rw [HZC.out]; exact (HtY.out.box (r := false) (s := stZ) qAe stZ_len).one
  ·exact hBY.trans (qAc (qAa _ _ _ _) (by omega) hBY.size)
-- NO END
set_option maxHeartbeats 3200000 in
theorem lrefined_yes (nm : Nat) (op d b imm : Int) (n : Nat) (r : Bool) (s : St) (holds : Bool) (w : World) (h8 : Made8 nm s) (hn : n < 8) (hb : b = 8 ∨ (0 <= b /\ b <= 7)) (jl jh : Int) (sk sl sh sm tk tl th tm : Int) (HS : Hid (s.getD n Ty.nil = ⟨sk, sl, sh, sm⟩)) (HT : Hid (srcT ⟨op, d, n, b, imm⟩ s = ⟨tk, tl, th, tm⟩))
  (HJ : Hid (optV (refineR op sl sh tl th holds) = .tuple #[.agg #[.int .u64 jl, .int .u64 jh], .bool true])) : Calls Tryz.prog 67 #[stV r s, In.v ⟨op, d, n, b, imm⟩, .bool holds] w fun e w' => e = .returned (stV r (s.set n ⟨1, jl, jh, 0⟩)) /\ Below w.heap.size w w' := by
 have HM1 : Hid (wfS (sl, sh)) := by have := h8.ends hn; rw [HS.out] at this; exact this
 have HM2 : Hid (wfS (tl, th)) := by have := (made_src (i := ⟨op, d, n, b, imm⟩) h8 hb).ends; rw [HT.out] at this; exact this
 obtain ⟨Z, HZ, HsZ, HbZ, HtZ, HBZ, hZz⟩ := boxes3s w r s op d n b imm
 have H8 := keepJ h8.1
 have HB := keepJ hb
 have hnI : (n : Int) < 8 := by omega
 have h8' : (s.set n ⟨1, jl, jh, 0⟩).length = 8 := by rw [List.length_set]; exact h8.1
 have HSZ2 := keepJ (sizeJ (r := r) h8')
 have HSA2 := keepJ (sizeJA (r := r) h8')
 have HS2 := keepJ (qAz r (s.set n ⟨1, jl, jh, 0⟩))
 clear h8 hb
 go_enter Tryz.func67, Tryz.ntmps67
 go_wp2
 rw [<- HZ.out]
 clear HZ
 have hsz := HsZ.out.lt
 have hfl : ∀ wy : World, (Instr.field 108 (.agg #[.int .i64 tk, .int .u64 tl, .int .u64 th, .int .i64 tm]) 1).run Tryz.prog wy = .ok (.agg #[.int .u64 tl, .int .u64 th]) wy := fun _ => by kernel_rfl
 have HP : Hid (∀ w', Below Z.heap.size Z w' -> w'.cell? ⟨w.heap.size + 1, 0, none⟩ = some (.int .i64 op) /\ w'.cell? ⟨w.heap.size + 1, 1, none⟩ = some (.int .i64 d) /\ w'.cell? ⟨w.heap.size + 1, 2, none⟩ = some (.int .i64 n) /\ w'.cell? ⟨w.heap.size + 1, 3, none⟩ = some (.int .i64 b) /\ w'.cell? ⟨w.heap.size + 1, 4, none⟩ = some (.int .i64 imm) /\ w'.cell? ⟨w.heap.size, 1 + n * 4 + 1, none⟩ = some (.int .u64 sl) /\ w'.cell? ⟨w.heap.size, 1 + n * 4 + 1 + 1, none⟩ = some (.int .u64 sh) /\ StAt w' w.heap.size 0 r s /\ True) := fun w' hb' => by
  obtain ⟨q0, q1, q2, q3⟩ := stC_typ (r := r) H8.out hn HS.out
  have hh := HsZ.out.below hb' hsz
  obtain ⟨x0, x1, x2, x3, x4⟩ := Box.below HbZ.out hb' (by omega)
  exact ⟨x0, x1, x2, x3, x4, hh.cell q1, hh.cell q2, hh.one, trivial⟩
 refine wp_region_held_drew (S := fun w' => w'.cell? ⟨w.heap.size + 1, 0, none⟩ = some (.int .i64 op) /\ w'.cell? ⟨w.heap.size + 1, 1, none⟩ = some (.int .i64 d) /\ w'.cell? ⟨w.heap.size + 1, 2, none⟩ = some (.int .i64 n) /\ w'.cell? ⟨w.heap.size + 1, 3, none⟩ = some (.int .i64 b) /\ w'.cell? ⟨w.heap.size + 1, 4, none⟩ = some (.int .i64 imm) /\ w'.cell? ⟨w.heap.size, 1 + n * 4 + 1, none⟩ = some (.int .u64 sl) /\ w'.cell? ⟨w.heap.size, 1 + n * 4 + 1 + 1, none⟩ = some (.int .u64 sh) /\ StAt w' w.heap.size 0 r s /\ True) (by kernel_rfl) (HP.out _ (Below.refl _ _).drew) (fun hHeld => ?_)
-- YES BEGIN
 refine wpAnyH_take (i := 0) (v := ?v25) rfl (by kernel_rfl) (by kernel_rfl) (by kernel_rfl) (fun _ _ _ h => h) (Or.inl ⟨by rfl, ?hy25⟩) (by assumption) ?rest25
 case hy25 => (intro wy hSw; (try dsimp only at hSw); go_simp; (first | done | with_reducible rfl))
 try simp only [Act.put, p1q, p2q, p3q, p4q, p5q, p6q]
 refine wpAnyH_take (i := 1) (v := ?v26) rfl (by kernel_rfl) (by kernel_rfl) (by kernel_rfl) (fun _ _ _ h => h) (Or.inl ⟨by rfl, ?hy26⟩) (by assumption) ?rest26
 case hy26 => (intro wy hSw; (try dsimp only at hSw); go_simp; (first | done | with_reducible rfl))
 try simp only [Act.put, p1q, p2q, p3q, p4q, p5q, p6q]
 refine wpAnyH_take (i := 2) (v := ?v27) rfl (by kernel_rfl) (by kernel_rfl) (by kernel_rfl) (fun _ _ _ h => h) (Or.inl ⟨by rfl, ?hy27⟩) (by assumption) ?rest27
 case hy27 => (intro wy hSw; (try dsimp only at hSw); go_simp; (first | done | with_reducible rfl))
 try simp only [Act.put, p1q, p2q, p3q, p4q, p5q, p6q]
 refine wpAnyH_take (i := 3) (v := ?v28) rfl (by kernel_rfl) (by kernel_rfl) (by kernel_rfl) (fun _ _ _ h => h) (Or.inl ⟨by rfl, ?hy28⟩) (by assumption) ?rest28
 case hy28 => (intro wy hSw; (try dsimp only at hSw); go_simp; (first | done | with_reducible rfl))
 try simp only [Act.put, p1q, p2q, p3q, p4q, p5q, p6q]
 refine wpAnyH_take (i := 4) (v := ?v29) rfl (by kernel_rfl) (by kernel_rfl) (by kernel_rfl) (fun _ _ _ h => h) (Or.inl ⟨by rfl, ?hy29⟩) (by assumption) ?rest29
 case hy29 => (intro wy hSw; (try dsimp only at hSw); go_simp; (first | done | with_reducible rfl))
 try simp only [Act.put, p1q, p2q, p3q, p4q, p5q, p6q]
 refine wpAnyH_take (i := 5) (v := ?v30) rfl (by kernel_rfl) (by kernel_rfl) (by kernel_rfl) (fun _ _ _ h => h) (Or.inl ⟨by rfl, ?hy30⟩) (by assumption) ?rest30
 case hy30 => (intro wy hSw; (try dsimp only at hSw); go_simp; (first | done | with_reducible rfl))
 try simp only [Act.put, p1q, p2q, p3q, p4q, p5q, p6q]
 refine wpAnyH_take (i := 6) (v := ?v31) rfl (by kernel_rfl) (by kernel_rfl) (by kernel_rfl) (fun _ _ _ h => h) (Or.inl ⟨by rfl, ?hy31⟩) (by assumption) ?rest31
 case hy31 => (intro wy hSw; (try dsimp only at hSw); go_simp; (first | done | with_reducible rfl))
 try simp only [Act.put, p1q, p2q, p3q, p4q, p5q, p6q]
 refine wpAnyH_take (i := 7) (v := ?v32) rfl (by kernel_rfl) (by kernel_rfl) (by kernel_rfl) (fun _ _ _ h => h) (Or.inl ⟨by rfl, ?hy32⟩) (by assumption) ?rest32
 case hy32 => (intro wy hSw; (try dsimp only at hSw); go_simp; (first | done | with_reducible rfl))
 try simp only [Act.put, p1q, p2q, p3q, p4q, p5q, p6q]
 refine wpAnyH_take (i := 8) rfl (by kernel_rfl) (by kernel_rfl) (by kernel_rfl) (fun _ _ _ h => h) (yieldsIf_load_mid (by rfl) _ _ rfl _ _ rfl (stC r s) _ (fun w h => h.2.2.2.2.2.2.2.1) Tryz.underlying111 rfl (sizeJ H8.out)) (by assumption) ?_
 try simp only [Act.put, p1q, p2q, p3q, p4q, p5q, p6q]
 refine wpAnyH_take (i := 9) (v := ?v33) rfl (by kernel_rfl) (by kernel_rfl) (by kernel_rfl) (fun _ _ _ h => h) (Or.inl ⟨by rfl, ?hy33⟩) (by assumption) ?rest33
 case hy33 => (intro wy hSw; (try dsimp only at hSw); go_simp; (first | done | with_reducible rfl))
 try simp only [Act.put, p1q, p2q, p3q, p4q, p5q, p6q]
 refine wpAnyH_take (i := 12) (v := ?v34) rfl (by kernel_rfl) (by kernel_rfl) (by kernel_rfl) (fun _ _ _ h => h) (Or.inl ⟨by rfl, ?hy34⟩) (by assumption) ?rest34
 case hy34 => (intro wy hSw; (try dsimp only at hSw); go_simp; (first | done | with_reducible rfl))
 try simp only [Act.put, p1q, p2q, p3q, p4q, p5q, p6q]
 refine wpAnyH_ready (rs := [10, 17]) (by kernel_rfl) (by simp) ?_
 refine AllReadyH.cons rfl (fun KK hK => ?_) (AllReadyH.cons rfl (fun KK hK => ?_) AllReadyH.nil) <;> rw [if_pos (by rfl)]
 ·go_simp
  go_at_call 60
  refine (qBd (i := ⟨op, d, n, b, imm⟩) HT r Z.drew H8.out HB.out).mono ?_
  rintro e w1 ⟨rfl, hb1'⟩
  have hb1 : Below Z.heap.size Z w1 := qAi hb1'
  have hz1 := hb1.size
  refine hK.out _ _ (HP.out _ hb1) (fun hHeld => ?_)
  clear hK KK
  try simp only [Act.put, p1q, p2q, p3q, p4q, p5q, p6q]
  refine wpAnyH_take (i := 11) (v := ?v35) rfl (by kernel_rfl) (by kernel_rfl) (by kernel_rfl) (fun _ _ _ h => h) (Or.inl ⟨by rfl, ?hy35⟩) (by assumption) ?rest35
  case hy35 => (intro wy hSw; (try dsimp only at hSw); go_simp; (first | done | with_reducible rfl))
  try simp only [Act.put, p1q, p2q, p3q, p4q, p5q, p6q]
  refine wpAnyH_ready (rs := [13, 17]) (by kernel_rfl) (by simp) ?_
  refine AllReadyH.cons rfl (fun KK hK => ?_) (AllReadyH.cons rfl (fun KK hK => ?_) AllReadyH.nil) <;> rw [if_pos (by rfl)]
  ·go_simp
   go_at_call 87
   refine (lrefine_as HM1 HM2 HJ w1).mono ?_
   rintro e w2 ⟨rfl, hb2'⟩
   have hb2 : Below Z.heap.size Z w2 := hb1.trans (hb2'.mono hz1)
   refine hK.out _ _ (HP.out _ hb2) (fun hHeld => ?_)
   clear hK KK
   try simp only [Act.put, p1q, p2q, p3q, p4q, p5q, p6q]
   refine wpAnyH_take (i := 14) (v := ?v36) rfl (by kernel_rfl) (by kernel_rfl) (by kernel_rfl) (fun _ _ _ h => h) (Or.inl ⟨by rfl, ?hy36⟩) (by assumption) ?rest36
   case hy36 => (intro wy hSw; (try dsimp only at hSw); go_simp; (first | done | with_reducible rfl))
   try simp only [Act.put, p1q, p2q, p3q, p4q, p5q, p6q]
   refine wpAnyH_take (i := 15) (v := ?v37) rfl (by kernel_rfl) (by kernel_rfl) (by kernel_rfl) (fun _ _ _ h => h) (Or.inl ⟨by rfl, ?hy37⟩) (by assumption) ?rest37
   case hy37 => (intro wy hSw; (try dsimp only at hSw); go_simp; (first | done | with_reducible rfl))
   try simp only [Act.put, p1q, p2q, p3q, p4q, p5q, p6q]
   refine wpAnyH_take (i := 16) (v := ?v38) rfl (by kernel_rfl) (by kernel_rfl) (by kernel_rfl) (fun _ _ _ h => h) (Or.inl ⟨by rfl, ?hy38⟩) (by assumption) ?rest38
   case hy38 => (intro wy hSw; (try dsimp only at hSw); go_simp; (first | done | with_reducible rfl))
   try simp only [Act.put, p1q, p2q, p3q, p4q, p5q, p6q]
   refine wpAnyH_ready (rs := [17]) (by kernel_rfl) (by simp) ?_
   refine AllReadyH.cons rfl (fun KK hK => ?_) AllReadyH.nil
   rw [if_pos (by rfl)]
   go_simp
   refine hK.out _ _ (HP.out _ (hb2.alloc hb2.size _)) (fun hHeld => ?_)
   clear hK KK
   try simp only [Act.put, p1q, p2q, p3q, p4q, p5q, p6q]
   refine wpAnyH_ready (rs := [18]) (by kernel_rfl) (by simp) ?_
   refine AllReadyH.cons rfl (fun KK hK => ?_) AllReadyH.nil
   rw [if_pos (by rfl)]
   go_simp
   refine hK.out _ _ (HP.out _ (hb2.alloc hb2.size _)) (fun hHeld => ?_)
   clear hK KK
   try simp only [Act.put, p1q, p2q, p3q, p4q, p5q, p6q]
   refine wpAnyH_take (i := 19) (v := ?v39) rfl (by kernel_rfl) (by kernel_rfl) (by kernel_rfl) (fun _ _ _ h => h) (Or.inl ⟨by rfl, ?hy39⟩) (by assumption) ?rest39
   case hy39 => (intro wy hSw; (try dsimp only at hSw); go_simp; (first | done | with_reducible rfl))
   try simp only [Act.put, p1q, p2q, p3q, p4q, p5q, p6q]
   refine wpAnyH_done (by kernel_rfl) ?_ _
   obtain ⟨Y, nb, HY, HNB, hbY, hnb, e0, e1⟩ : ∃ Y nb, Hid (Y = w2.alloc (Obj.cells #[.int .u64 jl, .int .u64 jh] 106)) /\ Hid (w2.heap.size = nb) /\ Below Z.heap.size Z Y /\ (nb < Y.heap.size /\ Z.heap.size <= nb) /\ Y.cell? ⟨nb, 0, none⟩ = some (.int .u64 jl) /\ Y.cell? ⟨nb, 1, none⟩ = some (.int .u64 jh) := ⟨_, _, rfl, rfl, hb2.alloc hb2.size _, ⟨by simp, hb2.size⟩, by go_cell, by go_cell⟩
   rw [<- HY.out, HNB.out]
   clear HY HNB hHeld
   go_wp2
   have hzY := hbY.size
   have hBY := HBZ.out.trans (hbY.mono HBZ.out.size)
   have HtY := keepJ (HtZ.out.below hbY (by omega))
   have HsY := keepJ (HsZ.out.below hbY (by omega))
   obtain ⟨x0, x1, x2, x3, x4⟩ := Box.below HbZ.out hbY (by omega)
   refine wp_region_held_drew (S := fun w' => w'.cell? ⟨w.heap.size + 1, 2, none⟩ = some (.int .i64 n) /\ w'.cell? ⟨nb, 0, none⟩ = some (.int .u64 jl) /\ w'.cell? ⟨nb, 1, none⟩ = some (.int .u64 jh)) (by kernel_rfl) ⟨x2, e0, e1⟩ (fun hHeld => ?_)
   refine wpAnyH_take (i := 0) (v := ?v40) rfl (by kernel_rfl) (by kernel_rfl) (by kernel_rfl) (fun _ _ _ h => h) (Or.inl ⟨by rfl, ?hy40⟩) (by assumption) ?rest40
   case hy40 => (intro wy hSw; (try dsimp only at hSw); go_simp; (first | done | with_reducible rfl))
   try simp only [Act.put, p1q, p2q, p3q, p4q, p5q, p6q]
   refine wpAnyH_take (i := 1) (v := ?v41) rfl (by kernel_rfl) (by kernel_rfl) (by kernel_rfl) (fun _ _ _ h => h) (Or.inl ⟨by rfl, ?hy41⟩) (by assumption) ?rest41
   case hy41 => (intro wy hSw; (try dsimp only at hSw); go_simp; (first | done | with_reducible rfl))
   try simp only [Act.put, p1q, p2q, p3q, p4q, p5q, p6q]
   refine wpAnyH_take (i := 2) (v := ?v42) rfl (by kernel_rfl) (by kernel_rfl) (by kernel_rfl) (fun _ _ _ h => h) (Or.inl ⟨by rfl, ?hy42⟩) (by assumption) ?rest42
   case hy42 => (intro wy hSw; (try dsimp only at hSw); go_simp; (first | done | with_reducible rfl))
   try simp only [Act.put, p1q, p2q, p3q, p4q, p5q, p6q]
   refine wpAnyH_take (i := 4) (v := ?v43) rfl (by kernel_rfl) (by kernel_rfl) (by kernel_rfl) (fun _ _ _ h => h) (Or.inl ⟨by rfl, ?hy43⟩) (by assumption) ?rest43
   case hy43 => (intro wy hSw; (try dsimp only at hSw); go_simp; (first | done | with_reducible rfl))
   try simp only [Act.put, p1q, p2q, p3q, p4q, p5q, p6q]
   refine wpAnyH_ready (rs := [3]) (by kernel_rfl) (by simp) ?_
   refine AllReadyH.cons rfl (fun KK hK => ?_) AllReadyH.nil
   rw [if_pos (by rfl)]
   go_simp
   go_at_call 77
   refine (lnumber_as jl jh Y.drew).mono ?_
   rintro e w5 ⟨rfl, hb5'⟩
   have hb5 : Below Y.heap.size Y w5 := qAi hb5'
   have hz5 := hb5.size
   have hS5 := keep3 ⟨x2, e0, e1⟩ hb5 (by omega) hnb.1
   have Hs5 := keepJ (HsY.out.below hb5 (by omega))
   have Ht5 := keepJ (HtY.out.below hb5 (by omega))
   have hB5 := hBY.trans (hb5.mono hBY.size)
   refine hK.out _ _ hS5 (fun hHeld => ?_)
   clear hK KK
   try simp only [Act.put, p1q, p2q, p3q, p4q, p5q, p6q]
   obtain ⟨m0, m1, m2, m3⟩ := (Hs5.out.one.typ H8.out hn : AtT w5 w.heap.size (0 + 1 + n * 4) (s.getD n Ty.nil))
   simp only [Nat.zero_add] at m0 m1 m2 m3
   have f0 := Hs5.out.frozen (1 + n * 4)
   have f1 := Hs5.out.frozen (1 + n * 4 + 1)
   have f2 := Hs5.out.frozen (1 + n * 4 + 2)
   have f3 := Hs5.out.frozen (1 + n * 4 + 3)
   have hnbw : nb ≠ w.heap.size := by omega
   have HS6 := keepJ (keep3s (sb := w.heap.size) (o := 1 + n * 4) (t := ⟨1, jl, jh, 0⟩) hS5 (by omega) hnbw)
   have HP6 := keepJ (Hs5.out.boxT H8.out hn ⟨1, jl, jh, 0⟩)
   have HL6 := keepJ HP6.out.oneR
   have Hu6 := keepJ (Ht5.out.grown (qAa w.heap.size (tyC ⟨1, jl, jh, 0⟩) w5 (1 + n * 4)) (fun e => by injection e with e; omega))
   have HT6 := keepJ (show (setT w5 w.heap.size (1 + n * 4) ⟨1, jl, jh, 0⟩).there (w.heap.size + 1 + 1) 0 (stC r (s.set n ⟨1, jl, jh, 0⟩)).toArray.size from (by rw [qAu r h8']; exact Hu6.out.there (by rw [qAe]; omega)))
   refine wpAnyH_take (i := 5) (v := ?v44) rfl (by kernel_rfl) (by kernel_rfl) (by kernel_rfl) (fun _ _ _ h => h) (Or.inl ⟨by rfl, ?hy44⟩) (by assumption) ?rest44
   case hy44 => (intro wy hSw; (try dsimp only at hSw); go_simp; (first | done | with_reducible rfl))
   try simp only [Act.put, p1q, p2q, p3q, p4q, p5q, p6q]
   refine wpAnyH_ready (rs := [6]) (by kernel_rfl) (by simp) ?_
   refine AllReadyH.cons rfl (fun KK hK => ?_) AllReadyH.nil
   rw [if_pos (by rfl)]
   go_simp
   refine hK.out _ _ HS6.out (fun hHeld => ?_)
   clear hK KK
   try simp only [Act.put, p1q, p2q, p3q, p4q, p5q, p6q]
   refine wpAnyH_done (by kernel_rfl) ?_ _
   clear m0 m1 m2 m3 f0 f1 f2 f3 hHeld
   go_wp2_with (first
    | ((with_reducible refine wpList_load_mid ?pa7 111 (.tmp 3) ?pb7 w.heap.size 0 ?pc7 (stC r (s.set n ⟨1, jl, jh, 0⟩)) _ HL6.out Tryz.underlying111 ?pd7 HSZ2.out ?pe7); (case pa7 => rfl); (case pb7 => rfl); (case pc7 => rfl); (case pd7 => rfl))
    | ((with_reducible refine wpList_store_mid ?ra7 111 (.tmp 6) (.tmp 35) ?rb7 (w.heap.size + 1 + 1) 0 (stC r (s.set n ⟨1, jl, jh, 0⟩)).toArray ?rc7 ?rd7 HT6.out HSA2.out HS2.out ?re7); (case ra7 => rfl); (case rb7 => rfl); (case rc7 => rfl); (case rd7 => rfl)))
   refine st_ret (n := w.heap.size + 1 + 1) rfl rfl ?_ h8' ?_
   ·exact (Hu6.out.box qAe h8').one
   ·exact (qAp (t := ⟨1, jl, jh, 0⟩) (off := 1 + n * 4) hB5 (Nat.le_refl _)).trans (qAc (qAa _ _ _ _) (by omega) (qAp (t := ⟨1, jl, jh, 0⟩) (off := 1 + n * 4) hB5 (Nat.le_refl _)).size)
  ·go_simp
   refine hK.out _ _ (HP.out _ (hb1.alloc hz1 _)) (fun hHeld => ?_)
   clear hK KK
   try simp only [Act.put, p1q, p2q, p3q, p4q, p5q, p6q]
   refine wpAnyH_ready (rs := [13]) (by kernel_rfl) (by simp) ?_
   refine AllReadyH.cons rfl (fun KK hK => ?_) AllReadyH.nil
   rw [if_pos (by rfl)]
   go_simp
   go_at_call 87
   refine (lrefine_as HM1 HM2 HJ _).mono ?_
   rintro e w2 ⟨rfl, hb2'⟩
   obtain ⟨hNW, n0, n1, g0, g1⟩ := bxs_kept hb2'
   have hb2 : Below Z.heap.size Z w2 := (hb1.alloc hz1 _).trans (hb2'.mono (by simp; omega))
   have hNB : Z.heap.size <= w1.heap.size := hz1
   have hNZ : w1.heap.size < w2.heap.size := hNW
   refine hK.out _ _ (HP.out _ hb2) (fun hHeld => ?_)
   clear hK KK
   try simp only [Act.put, p1q, p2q, p3q, p4q, p5q, p6q]
   refine wpAnyH_take (i := 14) (v := ?v45) rfl (by kernel_rfl) (by kernel_rfl) (by kernel_rfl) (fun _ _ _ h => h) (Or.inl ⟨by rfl, ?hy45⟩) (by assumption) ?rest45
   case hy45 => (intro wy hSw; (try dsimp only at hSw); go_simp; (first | done | with_reducible rfl))
   try simp only [Act.put, p1q, p2q, p3q, p4q, p5q, p6q]
   refine wpAnyH_take (i := 15) (v := ?v46) rfl (by kernel_rfl) (by kernel_rfl) (by kernel_rfl) (fun _ _ _ h => h) (Or.inl ⟨by rfl, ?hy46⟩) (by assumption) ?rest46
   case hy46 => (intro wy hSw; (try dsimp only at hSw); go_simp; (first | done | with_reducible rfl))
   try simp only [Act.put, p1q, p2q, p3q, p4q, p5q, p6q]
   refine wpAnyH_take (i := 16) (v := ?v47) rfl (by kernel_rfl) (by kernel_rfl) (by kernel_rfl) (fun _ _ _ h => h) (Or.inl ⟨by rfl, ?hy47⟩) (by assumption) ?rest47
   case hy47 => (intro wy hSw; (try dsimp only at hSw); go_simp; (first | done | with_reducible rfl))
   try simp only [Act.put, p1q, p2q, p3q, p4q, p5q, p6q]
   refine wpAnyH_ready (rs := [18]) (by kernel_rfl) (by simp) ?_
   refine AllReadyH.cons rfl (fun KK hK => ?_) AllReadyH.nil
   rw [if_pos (by rfl)]
   go_simp
   refine hK.out _ _ (HP.out _ (qAb (qAb hb2 hNB) hNB)) (fun hHeld => ?_)
   clear hK KK
   try simp only [Act.put, p1q, p2q, p3q, p4q, p5q, p6q]
   refine wpAnyH_take (i := 19) (v := ?v48) rfl (by kernel_rfl) (by kernel_rfl) (by kernel_rfl) (fun _ _ _ h => h) (Or.inl ⟨by rfl, ?hy48⟩) (by assumption) ?rest48
   case hy48 => (intro wy hSw; (try dsimp only at hSw); go_simp; (first | done | with_reducible rfl))
   try simp only [Act.put, p1q, p2q, p3q, p4q, p5q, p6q]
   refine wpAnyH_done (by kernel_rfl) ?_ _
   obtain ⟨Y, nb, HY, HNB, hbY, hnb, e0, e1⟩ : ∃ Y nb, Hid (Y = (w2.setCell ⟨w1.heap.size, 0, none⟩ (.int .u64 jl)).setCell ⟨w1.heap.size, 1, none⟩ (.int .u64 jh)) /\ Hid (w1.heap.size = nb) /\ Below Z.heap.size Z Y /\ (nb < Y.heap.size /\ Z.heap.size <= nb) /\ Y.cell? ⟨nb, 0, none⟩ = some (.int .u64 jl) /\ Y.cell? ⟨nb, 1, none⟩ = some (.int .u64 jh) := ⟨_, _, rfl, rfl, qAb (qAb hb2 hNB) hNB, ⟨by simpa [World.setCell] using hNZ, hNB⟩, (qAj n0 n1).1, (qAj n0 n1).2⟩
   rw [<- HY.out, HNB.out]
   clear HY HNB hHeld
   go_wp2
   have hzY := hbY.size
   have hBY := HBZ.out.trans (hbY.mono HBZ.out.size)
   have HtY := keepJ (HtZ.out.below hbY (by omega))
   have HsY := keepJ (HsZ.out.below hbY (by omega))
   obtain ⟨x0, x1, x2, x3, x4⟩ := Box.below HbZ.out hbY (by omega)
   refine wp_region_held_drew (S := fun w' => w'.cell? ⟨w.heap.size + 1, 2, none⟩ = some (.int .i64 n) /\ w'.cell? ⟨nb, 0, none⟩ = some (.int .u64 jl) /\ w'.cell? ⟨nb, 1, none⟩ = some (.int .u64 jh)) (by kernel_rfl) ⟨x2, e0, e1⟩ (fun hHeld => ?_)
   refine wpAnyH_take (i := 0) (v := ?v49) rfl (by kernel_rfl) (by kernel_rfl) (by kernel_rfl) (fun _ _ _ h => h) (Or.inl ⟨by rfl, ?hy49⟩) (by assumption) ?rest49
   case hy49 => (intro wy hSw; (try dsimp only at hSw); go_simp; (first | done | with_reducible rfl))
   try simp only [Act.put, p1q, p2q, p3q, p4q, p5q, p6q]
   refine wpAnyH_take (i := 1) (v := ?v50) rfl (by kernel_rfl) (by kernel_rfl) (by kernel_rfl) (fun _ _ _ h => h) (Or.inl ⟨by rfl, ?hy50⟩) (by assumption) ?rest50
   case hy50 => (intro wy hSw; (try dsimp only at hSw); go_simp; (first | done | with_reducible rfl))
   try simp only [Act.put, p1q, p2q, p3q, p4q, p5q, p6q]
   refine wpAnyH_take (i := 2) (v := ?v51) rfl (by kernel_rfl) (by kernel_rfl) (by kernel_rfl) (fun _ _ _ h => h) (Or.inl ⟨by rfl, ?hy51⟩) (by assumption) ?rest51
   case hy51 => (intro wy hSw; (try dsimp only at hSw); go_simp; (first | done | with_reducible rfl))
   try simp only [Act.put, p1q, p2q, p3q, p4q, p5q, p6q]
   refine wpAnyH_take (i := 4) (v := ?v52) rfl (by kernel_rfl) (by kernel_rfl) (by kernel_rfl) (fun _ _ _ h => h) (Or.inl ⟨by rfl, ?hy52⟩) (by assumption) ?rest52
   case hy52 => (intro wy hSw; (try dsimp only at hSw); go_simp; (first | done | with_reducible rfl))
   try simp only [Act.put, p1q, p2q, p3q, p4q, p5q, p6q]
   refine wpAnyH_ready (rs := [3]) (by kernel_rfl) (by simp) ?_
   refine AllReadyH.cons rfl (fun KK hK => ?_) AllReadyH.nil
   rw [if_pos (by rfl)]
   go_simp
   go_at_call 77
   refine (lnumber_as jl jh Y.drew).mono ?_
   rintro e w5 ⟨rfl, hb5'⟩
   have hb5 : Below Y.heap.size Y w5 := qAi hb5'
   have hz5 := hb5.size
   have hS5 := keep3 ⟨x2, e0, e1⟩ hb5 (by omega) hnb.1
   have Hs5 := keepJ (HsY.out.below hb5 (by omega))
   have Ht5 := keepJ (HtY.out.below hb5 (by omega))
   have hB5 := hBY.trans (hb5.mono hBY.size)
   refine hK.out _ _ hS5 (fun hHeld => ?_)
   clear hK KK
   try simp only [Act.put, p1q, p2q, p3q, p4q, p5q, p6q]
   obtain ⟨m0, m1, m2, m3⟩ := (Hs5.out.one.typ H8.out hn : AtT w5 w.heap.size (0 + 1 + n * 4) (s.getD n Ty.nil))
   simp only [Nat.zero_add] at m0 m1 m2 m3
   have f0 := Hs5.out.frozen (1 + n * 4)
   have f1 := Hs5.out.frozen (1 + n * 4 + 1)
   have f2 := Hs5.out.frozen (1 + n * 4 + 2)
   have f3 := Hs5.out.frozen (1 + n * 4 + 3)
   have hnbw : nb ≠ w.heap.size := by omega
   have HS6 := keepJ (keep3s (sb := w.heap.size) (o := 1 + n * 4) (t := ⟨1, jl, jh, 0⟩) hS5 (by omega) hnbw)
   have HP6 := keepJ (Hs5.out.boxT H8.out hn ⟨1, jl, jh, 0⟩)
   have HL6 := keepJ HP6.out.oneR
   have Hu6 := keepJ (Ht5.out.grown (qAa w.heap.size (tyC ⟨1, jl, jh, 0⟩) w5 (1 + n * 4)) (fun e => by injection e with e; omega))
   have HT6 := keepJ (show (setT w5 w.heap.size (1 + n * 4) ⟨1, jl, jh, 0⟩).there (w.heap.size + 1 + 1) 0 (stC r (s.set n ⟨1, jl, jh, 0⟩)).toArray.size from (by rw [qAu r h8']; exact Hu6.out.there (by rw [qAe]; omega)))
   refine wpAnyH_take (i := 5) (v := ?v53) rfl (by kernel_rfl) (by kernel_rfl) (by kernel_rfl) (fun _ _ _ h => h) (Or.inl ⟨by rfl, ?hy53⟩) (by assumption) ?rest53
   case hy53 => (intro wy hSw; (try dsimp only at hSw); go_simp; (first | done | with_reducible rfl))
   try simp only [Act.put, p1q, p2q, p3q, p4q, p5q, p6q]
   refine wpAnyH_ready (rs := [6]) (by kernel_rfl) (by simp) ?_
   refine AllReadyH.cons rfl (fun KK hK => ?_) AllReadyH.nil
   rw [if_pos (by rfl)]
   go_simp
   refine hK.out _ _ HS6.out (fun hHeld => ?_)
   clear hK KK
   try simp only [Act.put, p1q, p2q, p3q, p4q, p5q, p6q]
   refine wpAnyH_done (by kernel_rfl) ?_ _
   clear m0 m1 m2 m3 f0 f1 f2 f3 hHeld
   go_wp2_with (first
    | ((with_reducible refine wpList_load_mid ?pa8 111 (.tmp 3) ?pb8 w.heap.size 0 ?pc8 (stC r (s.set n ⟨1, jl, jh, 0⟩)) _ HL6.out Tryz.underlying111 ?pd8 HSZ2.out ?pe8); (case pa8 => rfl); (case pb8 => rfl); (case pc8 => rfl); (case pd8 => rfl))
    | ((with_reducible refine wpList_store_mid ?ra8 111 (.tmp 6) (.tmp 35) ?rb8 (w.heap.size + 1 + 1) 0 (stC r (s.set n ⟨1, jl, jh, 0⟩)).toArray ?rc8 ?rd8 HT6.out HSA2.out HS2.out ?re8); (case ra8 => rfl); (case rb8 => rfl); (case rc8 => rfl); (case rd8 => rfl)))
   refine st_ret (n := w.heap.size + 1 + 1) rfl rfl ?_ h8' ?_
   ·exact (Hu6.out.box qAe h8').one
   ·exact (qAp (t := ⟨1, jl, jh, 0⟩) (off := 1 + n * 4) hB5 (Nat.le_refl _)).trans (qAc (qAa _ _ _ _) (by omega) (qAp (t := ⟨1, jl, jh, 0⟩) (off := 1 + n * 4) hB5 (Nat.le_refl _)).size)
 ·go_simp
  have hb0 : Below Z.heap.size Z (Z.alloc (Obj.cells #[.int .u64 0, .int .u64 0] 106)) := (Below.refl _ _).alloc (Nat.le_refl _) _
  refine hK.out _ _ (HP.out _ (hb0.drew)) (fun hHeld => ?_)
  clear hK KK
  try simp only [Act.put, p1q, p2q, p3q, p4q, p5q, p6q]
  refine wpAnyH_ready (rs := [10]) (by kernel_rfl) (by simp) ?_
  refine AllReadyH.cons rfl (fun KK hK => ?_) AllReadyH.nil
  rw [if_pos (by rfl)]
  go_simp
  go_at_call 60
  refine (qBd (i := ⟨op, d, n, b, imm⟩) HT r _ H8.out HB.out).mono ?_
  rintro e w1 ⟨rfl, hb1'⟩
  have hb1u := qAi hb1'
  obtain ⟨hNW1, m0, m1, k0, k1⟩ := bxs_kept hb1u
  have hb1 : Below Z.heap.size Z w1 := hb0.trans (hb1u.mono (by simp))
  have hz1 := hb1.size
  refine hK.out _ _ (HP.out _ hb1) (fun hHeld => ?_)
  clear hK KK
  try simp only [Act.put, p1q, p2q, p3q, p4q, p5q, p6q]
  refine wpAnyH_take (i := 11) (v := ?v54) rfl (by kernel_rfl) (by kernel_rfl) (by kernel_rfl) (fun _ _ _ h => h) (Or.inl ⟨by rfl, ?hy54⟩) (by assumption) ?rest54
  case hy54 => (intro wy hSw; (try dsimp only at hSw); go_simp; (first | done | with_reducible rfl))
  try simp only [Act.put, p1q, p2q, p3q, p4q, p5q, p6q]
  refine wpAnyH_ready (rs := [13]) (by kernel_rfl) (by simp) ?_
  refine AllReadyH.cons rfl (fun KK hK => ?_) AllReadyH.nil
  rw [if_pos (by rfl)]
  go_simp
  go_at_call 87
  refine (lrefine_as HM1 HM2 HJ w1).mono ?_
  rintro e w2 ⟨rfl, hb2'⟩
  have hb2 : Below Z.heap.size Z w2 := hb1.trans (hb2'.mono hz1)
  obtain ⟨n0, n1, g0, g1⟩ := bxs_below ⟨m0, m1, k0, k1⟩ hb2' hNW1
  have hNB : Z.heap.size <= Z.heap.size := Nat.le_refl _
  have hNZ : Z.heap.size < w2.heap.size := Nat.lt_of_lt_of_le hNW1 hb2'.size
  refine hK.out _ _ (HP.out _ hb2) (fun hHeld => ?_)
  clear hK KK
  try simp only [Act.put, p1q, p2q, p3q, p4q, p5q, p6q]
  refine wpAnyH_take (i := 14) (v := ?v55) rfl (by kernel_rfl) (by kernel_rfl) (by kernel_rfl) (fun _ _ _ h => h) (Or.inl ⟨by rfl, ?hy55⟩) (by assumption) ?rest55
  case hy55 => (intro wy hSw; (try dsimp only at hSw); go_simp; (first | done | with_reducible rfl))
  try simp only [Act.put, p1q, p2q, p3q, p4q, p5q, p6q]
  refine wpAnyH_take (i := 15) (v := ?v56) rfl (by kernel_rfl) (by kernel_rfl) (by kernel_rfl) (fun _ _ _ h => h) (Or.inl ⟨by rfl, ?hy56⟩) (by assumption) ?rest56
  case hy56 => (intro wy hSw; (try dsimp only at hSw); go_simp; (first | done | with_reducible rfl))
  try simp only [Act.put, p1q, p2q, p3q, p4q, p5q, p6q]
  refine wpAnyH_take (i := 16) (v := ?v57) rfl (by kernel_rfl) (by kernel_rfl) (by kernel_rfl) (fun _ _ _ h => h) (Or.inl ⟨by rfl, ?hy57⟩) (by assumption) ?rest57
  case hy57 => (intro wy hSw; (try dsimp only at hSw); go_simp; (first | done | with_reducible rfl))
  try simp only [Act.put, p1q, p2q, p3q, p4q, p5q, p6q]
  refine wpAnyH_ready (rs := [18]) (by kernel_rfl) (by simp) ?_
  refine AllReadyH.cons rfl (fun KK hK => ?_) AllReadyH.nil
  rw [if_pos (by rfl)]
  go_simp
  refine hK.out _ _ (HP.out _ (qAb (qAb hb2 hNB) hNB)) (fun hHeld => ?_)
  clear hK KK
  try simp only [Act.put, p1q, p2q, p3q, p4q, p5q, p6q]
  refine wpAnyH_take (i := 19) (v := ?v58) rfl (by kernel_rfl) (by kernel_rfl) (by kernel_rfl) (fun _ _ _ h => h) (Or.inl ⟨by rfl, ?hy58⟩) (by assumption) ?rest58
  case hy58 => (intro wy hSw; (try dsimp only at hSw); go_simp; (first | done | with_reducible rfl))
  try simp only [Act.put, p1q, p2q, p3q, p4q, p5q, p6q]
  refine wpAnyH_done (by kernel_rfl) ?_ _
  obtain ⟨Y, nb, HY, HNB, hbY, hnb, e0, e1⟩ : ∃ Y nb, Hid (Y = (w2.setCell ⟨Z.heap.size, 0, none⟩ (.int .u64 jl)).setCell ⟨Z.heap.size, 1, none⟩ (.int .u64 jh)) /\ Hid (Z.heap.size = nb) /\ Below Z.heap.size Z Y /\ (nb < Y.heap.size /\ Z.heap.size <= nb) /\ Y.cell? ⟨nb, 0, none⟩ = some (.int .u64 jl) /\ Y.cell? ⟨nb, 1, none⟩ = some (.int .u64 jh) := ⟨_, _, rfl, rfl, qAb (qAb hb2 hNB) hNB, ⟨by simpa [World.setCell] using hNZ, hNB⟩, (qAj n0 n1).1, (qAj n0 n1).2⟩
  rw [<- HY.out, HNB.out]
  clear HY HNB hHeld
  go_wp2
  have hzY := hbY.size
  have hBY := HBZ.out.trans (hbY.mono HBZ.out.size)
  have HtY := keepJ (HtZ.out.below hbY (by omega))
  have HsY := keepJ (HsZ.out.below hbY (by omega))
  obtain ⟨x0, x1, x2, x3, x4⟩ := Box.below HbZ.out hbY (by omega)
  refine wp_region_held_drew (S := fun w' => w'.cell? ⟨w.heap.size + 1, 2, none⟩ = some (.int .i64 n) /\ w'.cell? ⟨nb, 0, none⟩ = some (.int .u64 jl) /\ w'.cell? ⟨nb, 1, none⟩ = some (.int .u64 jh)) (by kernel_rfl) ⟨x2, e0, e1⟩ (fun hHeld => ?_)
  refine wpAnyH_take (i := 0) (v := ?v59) rfl (by kernel_rfl) (by kernel_rfl) (by kernel_rfl) (fun _ _ _ h => h) (Or.inl ⟨by rfl, ?hy59⟩) (by assumption) ?rest59
  case hy59 => (intro wy hSw; (try dsimp only at hSw); go_simp; (first | done | with_reducible rfl))
  try simp only [Act.put, p1q, p2q, p3q, p4q, p5q, p6q]
  refine wpAnyH_take (i := 1) (v := ?v60) rfl (by kernel_rfl) (by kernel_rfl) (by kernel_rfl) (fun _ _ _ h => h) (Or.inl ⟨by rfl, ?hy60⟩) (by assumption) ?rest60
  case hy60 => (intro wy hSw; (try dsimp only at hSw); go_simp; (first | done | with_reducible rfl))
  try simp only [Act.put, p1q, p2q, p3q, p4q, p5q, p6q]
  refine wpAnyH_take (i := 2) (v := ?v61) rfl (by kernel_rfl) (by kernel_rfl) (by kernel_rfl) (fun _ _ _ h => h) (Or.inl ⟨by rfl, ?hy61⟩) (by assumption) ?rest61
  case hy61 => (intro wy hSw; (try dsimp only at hSw); go_simp; (first | done | with_reducible rfl))
  try simp only [Act.put, p1q, p2q, p3q, p4q, p5q, p6q]
  refine wpAnyH_take (i := 4) (v := ?v62) rfl (by kernel_rfl) (by kernel_rfl) (by kernel_rfl) (fun _ _ _ h => h) (Or.inl ⟨by rfl, ?hy62⟩) (by assumption) ?rest62
  case hy62 => (intro wy hSw; (try dsimp only at hSw); go_simp; (first | done | with_reducible rfl))
  try simp only [Act.put, p1q, p2q, p3q, p4q, p5q, p6q]
  refine wpAnyH_ready (rs := [3]) (by kernel_rfl) (by simp) ?_
  refine AllReadyH.cons rfl (fun KK hK => ?_) AllReadyH.nil
  rw [if_pos (by rfl)]
  go_simp
  go_at_call 77
  refine (lnumber_as jl jh Y.drew).mono ?_
  rintro e w5 ⟨rfl, hb5'⟩
  have hb5 : Below Y.heap.size Y w5 := qAi hb5'
  have hz5 := hb5.size
  have hS5 := keep3 ⟨x2, e0, e1⟩ hb5 (by omega) hnb.1
  have Hs5 := keepJ (HsY.out.below hb5 (by omega))
  have Ht5 := keepJ (HtY.out.below hb5 (by omega))
  have hB5 := hBY.trans (hb5.mono hBY.size)
  refine hK.out _ _ hS5 (fun hHeld => ?_)
  clear hK KK
  try simp only [Act.put, p1q, p2q, p3q, p4q, p5q, p6q]
  obtain ⟨m0, m1, m2, m3⟩ := (Hs5.out.one.typ H8.out hn : AtT w5 w.heap.size (0 + 1 + n * 4) (s.getD n Ty.nil))
  simp only [Nat.zero_add] at m0 m1 m2 m3
  have f0 := Hs5.out.frozen (1 + n * 4)
  have f1 := Hs5.out.frozen (1 + n * 4 + 1)
  have f2 := Hs5.out.frozen (1 + n * 4 + 2)
  have f3 := Hs5.out.frozen (1 + n * 4 + 3)
  have hnbw : nb ≠ w.heap.size := by omega
  have HS6 := keepJ (keep3s (sb := w.heap.size) (o := 1 + n * 4) (t := ⟨1, jl, jh, 0⟩) hS5 (by omega) hnbw)
  have HP6 := keepJ (Hs5.out.boxT H8.out hn ⟨1, jl, jh, 0⟩)
  have HL6 := keepJ HP6.out.oneR
  have Hu6 := keepJ (Ht5.out.grown (qAa w.heap.size (tyC ⟨1, jl, jh, 0⟩) w5 (1 + n * 4)) (fun e => by injection e with e; omega))
  have HT6 := keepJ (show (setT w5 w.heap.size (1 + n * 4) ⟨1, jl, jh, 0⟩).there (w.heap.size + 1 + 1) 0 (stC r (s.set n ⟨1, jl, jh, 0⟩)).toArray.size from (by rw [qAu r h8']; exact Hu6.out.there (by rw [qAe]; omega)))
  refine wpAnyH_take (i := 5) (v := ?v63) rfl (by kernel_rfl) (by kernel_rfl) (by kernel_rfl) (fun _ _ _ h => h) (Or.inl ⟨by rfl, ?hy63⟩) (by assumption) ?rest63
  case hy63 => (intro wy hSw; (try dsimp only at hSw); go_simp; (first | done | with_reducible rfl))
  try simp only [Act.put, p1q, p2q, p3q, p4q, p5q, p6q]
  refine wpAnyH_ready (rs := [6]) (by kernel_rfl) (by simp) ?_
  refine AllReadyH.cons rfl (fun KK hK => ?_) AllReadyH.nil
  rw [if_pos (by rfl)]
  go_simp
  refine hK.out _ _ HS6.out (fun hHeld => ?_)
  clear hK KK
  try simp only [Act.put, p1q, p2q, p3q, p4q, p5q, p6q]
  refine wpAnyH_done (by kernel_rfl) ?_ _
  clear m0 m1 m2 m3 f0 f1 f2 f3 hHeld
  go_wp2_with (first
   | ((with_reducible refine wpList_load_mid ?pa9 111 (.tmp 3) ?pb9 w.heap.size 0 ?pc9 (stC r (s.set n ⟨1, jl, jh, 0⟩)) _ HL6.out Tryz.underlying111 ?pd9 HSZ2.out ?pe9); (case pa9 => rfl); (case pb9 => rfl); (case pc9 => rfl); (case pd9 => rfl))
   | ((with_reducible refine wpList_store_mid ?ra9 111 (.tmp 6) (.tmp 35) ?rb9 (w.heap.size + 1 + 1) 0 (stC r (s.set n ⟨1, jl, jh, 0⟩)).toArray ?rc9 ?rd9 HT6.out HSA2.out HS2.out ?re9); (case ra9 => rfl); (case rb9 => rfl); (case rc9 => rfl); (case rd9 => rfl)))
  refine st_ret (n := w.heap.size + 1 + 1) rfl rfl ?_ h8' ?_
  ·exact (Hu6.out.box qAe h8').one
  ·exact (qAp (t := ⟨1, jl, jh, 0⟩) (off := 1 + n * 4) hB5 (Nat.le_refl _)).trans (qAc (qAa _ _ _ _) (by omega) (qAp (t := ⟨1, jl, jh, 0⟩) (off := 1 + n * 4) hB5 (Nat.le_refl _)).size)
-- YES END
def refS (i : In) (r : Bool) (s : St) (holds : Bool) : Bool × St :=
 match refineR i.op (regT s i.a).lo (regT s i.a).hi (srcT i s).lo (srcT i s).hi holds with
 | none => (false, stZ)
 | some p => (r, s.set i.a.toNat (num2 p.1 p.2))
theorem lrefined_any (nm : Nat) (i : In) (r : Bool) (s : St) (holds : Bool) (w : World) (h8 : Made8 nm s) (ha : 0 <= i.a /\ i.a <= 7) (hb : i.b = 8 ∨ (0 <= i.b /\ i.b <= 7)) : Calls Tryz.prog 67 #[stV r s, i.v, .bool holds] w fun e w' => e = .returned (stV (refS i r s holds).1 (refS i r s holds).2) /\ Below w.heap.size w w' := by
 obtain ⟨op, d, a, b, imm⟩ := i
 simp only at ha hb
 obtain ⟨n, rfl⟩ := Int.eq_ofNat_of_zero_le ha.1
 have hn : n < 8 := by omega
 have e1 : regT s (n : Int) = s.getD n Ty.nil := rfl
 unfold refS
 simp only
 rw [e1]
 cases hq : refineR op (s.getD n Ty.nil).lo (s.getD n Ty.nil).hi (srcT ⟨op, d, n, b, imm⟩ s).lo (srcT ⟨op, d, n, b, imm⟩ s).hi holds with
 | none => exact lrefined_no nm op d b imm n r s holds w h8 hn hb 0 0 _ _ _ _ _ _ _ _ rfl rfl (show optV (refineR op (s.getD n Ty.nil).lo (s.getD n Ty.nil).hi (srcT ⟨op, d, n, b, imm⟩ s).lo (srcT ⟨op, d, n, b, imm⟩ s).hi holds) = _ by rw [hq]; rfl)
 | some p => exact lrefined_yes nm op d b imm n r s holds w h8 hn hb p.1 p.2 _ _ _ _ _ _ _ _ rfl rfl (show optV (refineR op (s.getD n Ty.nil).lo (s.getD n Ty.nil).hi (srcT ⟨op, d, n, b, imm⟩ s).lo (srcT ⟨op, d, n, b, imm⟩ s).hi holds) = _ by rw [hq]; rfl)
end Go.Proofs.YtbaeakbnoijkcaaGreat
