/-
  E11LAsk
  E11LCall
  E11LMark
  E11LMap
-/
import Derived.Test.YtbmjanejecfjmaaGreatMP33
import Derived.Test.YtbmjanejecfjmaaGreatMP11
namespace Go.Proofs.YtbmjanejecfjmaaGreat
open Go.RowKit
set_option linter.unusedVariables false
set_option linter.unusedSimpArgs false
set_option maxRecDepth 100000
abbrev itemC (im io ik iv : Int) : List Value := [.int .i64 im, .int .i64 io, .int .u64 ik, .int .u64 iv]
abbrev itemV (im io ik iv : Int) : Value := .agg #[.int .i64 im, .int .i64 io, .int .u64 ik, .int .u64 iv]
theorem run_boxM {w : World} {n : Nat} {im io ik iv : Int} (h : Hp w n 78 (itemC im io ik iv)) : (loadVar 78 ⟨n, 0, none⟩).run Tryz.prog w = .ok (itemV im io ik iv) w := by
 refine run_loadVar_mid w n 0 78 (itemC im io ik iv) _ ?_ Tryz.underlying78 rfl (by kernel_rfl)
 intro j x hx
 rw [Nat.zero_add]
 exact h.cell hx
theorem item_ret {fn : Func} {p : Tmp} {w2 : World} {n : Nat} {tmps : Array Value} {im io ik iv : Int} {Q : Ending -> World -> Prop} (hr : fn.results = #[.cell p 78]) (hp : tmps.getD p undef = .pointer (some ⟨n, 0, none⟩)) (hx : Hp w2 n 78 (itemC im io ik iv)) (hQ : Q (.returned (itemV im io ik iv)) w2) : bodyPost Tryz.prog fn Q .ret ⟨tmps, []⟩ w2 := by
 refine bodyPost_ret (v := itemV im io ik iv) ?_ rfl hQ
 rw [qAn hr, hp]
 simp only [asAddr, Sem.run_pure, Result.andThen]
 rw [run_boxM hx]
theorem lasks5 (h : Int) (hh : 0 <= h /\ h <= 4) (w : World) : Calls Tryz.prog 107 #[.int .i64 h] w fun e w' => e = .returned (.tuple #[.int .i64 h, .bool true]) /\ w = w' := by
 obtain rfl | rfl | rfl | rfl | rfl : h = 0 ∨ h = 1 ∨ h = 2 ∨ h = 3 ∨ h = 4 := by omega
 all_goals go_enter Tryz.func107, Tryz.ntmps107
 all_goals go_wp2
 all_goals go_ret2
 all_goals exact ⟨rfl, rfl⟩
section
variable {b sb : Nat} {vc : Value} {ev : Int × Int} {M : Mc}
set_option maxHeartbeats 6400000 in
theorem masks_any (hh : Int) (hi : 0 <= hh /\ hh <= 4) {mb mo mcap nm j : Nat} (w : World) (h : Ma w b sb (.slice (some ⟨mb, mo, none⟩) nm mcap) vc ev M) (hj : j < nm) (hmb : mb < w.heap.size) (hmc : nm <= mcap) {g : Int} (hcell : w.cell? ⟨mb, mo + j, none⟩ = some (.int .i64 g)) {y z q : Int} (H1 : Hid (regV M.regs 1 = (j : Int))) (H2 : Hid (regV M.regs 2 = y)) (H3 : Hid (regV M.regs 3 = z)) (HQ : Hid ((if hh = 2 ∨ hh = 4 then z else 0) = q)) :
  Calls Tryz.prog 68 #[.pointer (some ⟨b, 0, none⟩), .int .i64 hh] w fun e w' => e = .returned (itemV g hh y q) /\ Below w.heap.size w w' := by
 have hlt := h.hp.lt
 have hjI : (j : Int) < nm := by omega
 obtain ⟨V, HV, hBV, hzV, HoV, HmV⟩ : ∃ V, Hid (V = w.alloc (.cells #[.int .i64 0, .int .i64 0, .int .u64 0, .int .u64 0] 78)) /\ Below w.heap.size w V /\ V.heap.size = w.heap.size + 1 /\ Hid (Hp V w.heap.size 78 (itemC 0 0 0 0)) /\ Hid (Ma V b sb (.slice (some ⟨mb, mo, none⟩) nm mcap) vc ev M) :=
  ⟨_, rfl, by go_grown, by simp, Hp.new w _ _, h.below ((Below.refl _ _).alloc (Nat.le_refl _) _) hlt⟩
 have HP : Hid (∀ wx : World, Below w.heap.size w wx -> wx.cell? ⟨b, 2, none⟩ = some (.slice (some ⟨mb, mo, none⟩) nm mcap) /\ wx.cell? ⟨b, 6, none⟩ = some (.int .u64 j) /\ wx.cell? ⟨b, 7, none⟩ = some (.int .u64 y) /\ wx.cell? ⟨mb, mo + j, none⟩ = some (.int .i64 g)) := fun wx hb => by
  have r1 := (h.below hb hlt).reg (show 1 < 8 by omega)
  have r2 := (h.below hb hlt).reg (show 2 < 8 by omega)
  rw [show M.regs.getD 1 0 = (j : Int) from H1.out] at r1
  rw [show M.regs.getD 2 0 = y from H2.out] at r2
  exact ⟨(h.below hb hlt).low.2.2.1, r1, r2, (hb.cell (p := ⟨mb, mo + j, none⟩) hmb).trans hcell⟩
 have HP3 : Hid (∀ wx : World, Below w.heap.size w wx -> wx.cell? ⟨b, 8, none⟩ = some (.int .u64 z)) := fun wx hb => by
  have r3 := (h.below hb hlt).reg (show 3 < 8 by omega)
  rw [show M.regs.getD 3 0 = z from H3.out] at r3
  exact r3
 go_enter Tryz.func68, Tryz.ntmps68
 go_wp2_with (go_at_call 107; rw [<- HV.out]; go_must (refine (lasks5 hh hi _).mono ?_); rintro e w1 ⟨rfl, rfl⟩)
 refine wp_region_held_drew (S := fun w' => w'.cell? ⟨b, 2, none⟩ = some (.slice (some ⟨mb, mo, none⟩) nm mcap) /\ w'.cell? ⟨b, 6, none⟩ = some (.int .u64 j) /\ w'.cell? ⟨b, 7, none⟩ = some (.int .u64 y) /\ w'.cell? ⟨mb, mo + j, none⟩ = some (.int .i64 g)) (by kernel_rfl) (HP.out _ (qAr hBV)) (fun hHeld => ?_)
 refine wpAnyH_take (i := 0) (v := ?v1) rfl (by kernel_rfl) (by kernel_rfl) (by kernel_rfl) (fun _ _ _ h => h) (Or.inl ⟨by rfl, ?hy1⟩) (by assumption) ?rest1
 case hy1 => (intro wy hSw; (try dsimp only at hSw); go_simp; (first | done | with_reducible rfl))
 try simp only [Act.put, p1q, p2q, p3q, p4q, p5q, p6q]
 refine wpAnyH_take (i := 1) (v := ?v2) rfl (by kernel_rfl) (by kernel_rfl) (by kernel_rfl) (fun _ _ _ h => h) (Or.inl ⟨by rfl, ?hy2⟩) (by assumption) ?rest2
 case hy2 => (intro wy hSw; (try dsimp only at hSw); go_simp; (first | done | with_reducible rfl))
 try simp only [Act.put, p1q, p2q, p3q, p4q, p5q, p6q]
 refine wpAnyH_take (i := 2) (v := ?v3) rfl (by kernel_rfl) (by kernel_rfl) (by kernel_rfl) (fun _ _ _ h => h) (Or.inl ⟨by rfl, ?hy3⟩) (by assumption) ?rest3
 case hy3 => (intro wy hSw; (try dsimp only at hSw); go_simp; (first | done | with_reducible rfl))
 try simp only [Act.put, p1q, p2q, p3q, p4q, p5q, p6q]
 refine wpAnyH_take (i := 3) (v := ?v4) rfl (by kernel_rfl) (by kernel_rfl) (by kernel_rfl) (fun _ _ _ h => h) (Or.inl ⟨by rfl, ?hy4⟩) (by assumption) ?rest4
 case hy4 => (intro wy hSw; (try dsimp only at hSw); go_simp; (first | done | with_reducible rfl))
 try simp only [Act.put, p1q, p2q, p3q, p4q, p5q, p6q]
 refine wpAnyH_take (i := 4) (v := ?v5) rfl (by kernel_rfl) (by kernel_rfl) (by kernel_rfl) (fun _ _ _ h => h) (Or.inl ⟨by rfl, ?hy5⟩) (by assumption) ?rest5
 case hy5 => (intro wy hSw; (try dsimp only at hSw); go_simp; (first | done | with_reducible rfl))
 try simp only [Act.put, p1q, p2q, p3q, p4q, p5q, p6q]
 refine wpAnyH_take (i := 5) (v := ?v6) rfl (by kernel_rfl) (by kernel_rfl) (by kernel_rfl) (fun _ _ _ h => h) (Or.inl ⟨by rfl, ?hy6⟩) (by assumption) ?rest6
 case hy6 => (intro wy hSw; (try dsimp only at hSw); go_simp; (first | done | with_reducible rfl))
 try simp only [Act.put, p1q, p2q, p3q, p4q, p5q, p6q]
 refine wpAnyH_take (i := 6) (v := ?v7) rfl (by kernel_rfl) (by kernel_rfl) (by kernel_rfl) (fun _ _ _ h => h) (Or.inl ⟨by rfl, ?hy7⟩) (by assumption) ?rest7
 case hy7 => (intro wy hSw; (try dsimp only at hSw); go_simp; (first | done | with_reducible rfl))
 try simp only [Act.put, p1q, p2q, p3q, p4q, p5q, p6q]
 refine wpAnyH_take (i := 7) (v := ?v8) rfl (by kernel_rfl) (by kernel_rfl) (by kernel_rfl) (fun _ _ _ h => h) (Or.inl ⟨by rfl, ?hy8⟩) (by assumption) ?rest8
 case hy8 => (intro wy hSw; (try dsimp only at hSw); go_simp; (first | done | with_reducible rfl))
 try simp only [Act.put, p1q, p2q, p3q, p4q, p5q, p6q]
 refine wpAnyH_take (i := 8) (v := ?v9) rfl (by kernel_rfl) (by kernel_rfl) (by kernel_rfl) (fun _ _ _ h => h) (Or.inl ⟨by rfl, ?hy9⟩) (by assumption) ?rest9
 case hy9 => (intro wy hSw; (try dsimp only at hSw); go_simp; (first | done | with_reducible rfl))
 try simp only [Act.put, p1q, p2q, p3q, p4q, p5q, p6q]
 refine wpAnyH_take (i := 9) (v := ?v10) rfl (by kernel_rfl) (by kernel_rfl) (by kernel_rfl) (fun _ _ _ h => h) (Or.inl ⟨by rfl, ?hy10⟩) (by assumption) ?rest10
 case hy10 => (intro wy hSw; (try dsimp only at hSw); go_simp; (first | done | with_reducible rfl))
 try simp only [Act.put, p1q, p2q, p3q, p4q, p5q, p6q]
 refine wpAnyH_take (i := 10) (v := ?v11) rfl (by kernel_rfl) (by kernel_rfl) (by kernel_rfl) (fun _ _ _ h => h) (Or.inl ⟨by rfl, ?hy11⟩) (by assumption) ?rest11
 case hy11 => (intro wy hSw; (try dsimp only at hSw); go_simp; (first | done | with_reducible rfl))
 try simp only [Act.put, p1q, p2q, p3q, p4q, p5q, p6q]
 refine wpAnyH_take (i := 11) (v := ?v12) rfl (by kernel_rfl) (by kernel_rfl) (by kernel_rfl) (fun _ _ _ h => h) (Or.inl ⟨by rfl, ?hy12⟩) (by assumption) ?rest12
 case hy12 => (intro wy hSw; (try dsimp only at hSw); go_simp; (first | done | with_reducible rfl))
 try simp only [Act.put, p1q, p2q, p3q, p4q, p5q, p6q]
 refine wpAnyH_take (i := 12) (v := ?v13) rfl (by kernel_rfl) (by kernel_rfl) (by kernel_rfl) (fun _ _ _ h => h) (Or.inl ⟨by rfl, ?hy13⟩) (by assumption) ?rest13
 case hy13 => (intro wy hSw; (try dsimp only at hSw); go_simp; (first | done | with_reducible rfl))
 try simp only [Act.put, p1q, p2q, p3q, p4q, p5q, p6q]
 refine wpAnyH_take (i := 13) (v := ?v14) rfl (by kernel_rfl) (by kernel_rfl) (by kernel_rfl) (fun _ _ _ h => h) (Or.inl ⟨by rfl, ?hy14⟩) (by assumption) ?rest14
 case hy14 => (intro wy hSw; (try dsimp only at hSw); go_simp; (first | done | with_reducible rfl))
 try simp only [Act.put, p1q, p2q, p3q, p4q, p5q, p6q]
 refine wpAnyH_take (i := 14) (v := ?v15) rfl (by kernel_rfl) (by kernel_rfl) (by kernel_rfl) (fun _ _ _ h => h) (Or.inl ⟨by rfl, ?hy15⟩) (by assumption) ?rest15
 case hy15 => (intro wy hSw; (try dsimp only at hSw); go_simp; (first | done | with_reducible rfl))
 try simp only [Act.put, p1q, p2q, p3q, p4q, p5q, p6q]
 refine wpAnyH_take (i := 15) (v := ?v16) rfl (by kernel_rfl) (by kernel_rfl) (by kernel_rfl) (fun _ _ _ h => h) (Or.inl ⟨by rfl, ?hy16⟩) (by assumption) ?rest16
 case hy16 => (intro wy hSw; (try dsimp only at hSw); go_simp; (first | done | with_reducible rfl))
 try simp only [Act.put, p1q, p2q, p3q, p4q, p5q, p6q]
 refine wpAnyH_take (i := 16) (v := ?v17) rfl (by kernel_rfl) (by kernel_rfl) (by kernel_rfl) (fun _ _ _ h => h) (Or.inl ⟨by rfl, ?hy17⟩) (by assumption) ?rest17
 case hy17 => (intro wy hSw; (try dsimp only at hSw); go_simp; (first | done | with_reducible rfl))
 try simp only [Act.put, p1q, p2q, p3q, p4q, p5q, p6q]
 refine wpAnyH_take (i := 17) (v := ?v18) rfl (by kernel_rfl) (by kernel_rfl) (by kernel_rfl) (fun _ _ _ h => h) (Or.inl ⟨by rfl, ?hy18⟩) (by assumption) ?rest18
 case hy18 => (intro wy hSw; (try dsimp only at hSw); go_simp; (first | done | with_reducible rfl))
 try simp only [Act.put, p1q, p2q, p3q, p4q, p5q, p6q]
 refine wpAnyH_ready (rs := [18]) (by kernel_rfl) (by simp) ?_
 refine AllReadyH.cons rfl (fun KK hK => ?_) AllReadyH.nil
 rw [if_pos (by rfl)]
 go_simp
 obtain ⟨Y, HY, hBY, HoY, HiY, hzY⟩ : ∃ Y, Hid (Y = V.alloc (.cells #[.int .i64 0, .int .i64 0, .int .u64 0, .int .u64 0] 78)) /\ Below w.heap.size w Y /\ Hid (Hp Y w.heap.size 78 (itemC 0 0 0 0)) /\ Hid (Hp Y (w.heap.size + 1) 78 (itemC 0 0 0 0)) /\ Y.heap.size = w.heap.size + 2 :=
  ⟨_, rfl, hBV.alloc (by omega) _, HoV.out.alloc _, by have := Hp.new V (itemC 0 0 0 0) 78; rw [hzV] at this; exact this, by simp [hzV]⟩
 rw [<- HY.out]
 refine hK.out _ _ (HP.out _ (qAr hBY)) (fun hHeld => ?_)
 clear hK KK
 try simp only [Act.put, p1q, p2q, p3q, p4q, p5q, p6q]
 have a0 := HiY.out.cell (j := 0) rfl
 have a1 := HiY.out.cell (j := 1) rfl
 have a2 := HiY.out.cell (j := 2) rfl
 have a3 := HiY.out.cell (j := 3) rfl
 have q0 := HiY.out.frozen 0
 have q1 := HiY.out.frozen 1
 have q2 := HiY.out.frozen 2
 have q3 := HiY.out.frozen 3
 refine wpAnyH_ready (rs := [19]) (by kernel_rfl) (by simp) ?_
 refine AllReadyH.cons rfl (fun KK hK => ?_) AllReadyH.nil
 rw [if_pos (by rfl)]
 go_simp
 obtain ⟨U, HU, hBU, HoU, HiU, hzU⟩ : ∃ U, Hid (U = (((Y.setCell ⟨w.heap.size + 1, 0, none⟩ (.int .i64 g)).setCell ⟨w.heap.size + 1, 1, none⟩ (.int .i64 hh)).setCell ⟨w.heap.size + 1, 2, none⟩ (.int .u64 y)).setCell ⟨w.heap.size + 1, 3, none⟩ (.int .u64 0)) /\ Below w.heap.size w U /\ Hid (Hp U w.heap.size 78 (itemC 0 0 0 0)) /\ Hid (Hp U (w.heap.size + 1) 78 (itemC g hh y 0)) /\ w.heap.size + 2 <= U.heap.size :=
  ⟨_, rfl, hBY.trans (qAc (qAa (w.heap.size + 1) (itemC g hh y 0) Y 0) (by omega) hBY.size), by have := HoY.out.fars (show w.heap.size ≠ w.heap.size + 1 by omega) (itemC g hh y 0) 0; exact this, by have := HiY.out.sets (itemC g hh y 0) 0; rw [qBa (itemC g hh y 0) (itemC 0 0 0 0) rfl] at this; exact this, by have := (qAa (w.heap.size + 1) (itemC g hh y 0) Y 0).size; show w.heap.size + 2 <= (Y.setCells (w.heap.size + 1) 0 (itemC g hh y 0)).heap.size; omega⟩
 rw [<- HU.out]
 refine hK.out _ _ (HP.out _ (qAr hBU)) (fun hHeld => ?_)
 clear hK KK
 try simp only [Act.put, p1q, p2q, p3q, p4q, p5q, p6q]
 refine wpAnyH_done (by kernel_rfl) ?_ _
 clear a0 a1 a2 a3 q0 q1 q2 q3 hHeld
 have z3 := HP3.out U hBU
 have hn01 : w.heap.size ≠ w.heap.size + 1 := by omega
 by_cases h24 : hh = 2 ∨ hh = 4
 ·rw [if_pos h24] at HQ
  have HI3 : Hid (Hp (U.setCell ⟨w.heap.size + 1, 3, none⟩ (.int .u64 z)) (w.heap.size + 1) 78 (itemC g hh y z)) := HiU.out.set 3 _
  have HO3 : Hid (Hp (U.setCell ⟨w.heap.size + 1, 3, none⟩ (.int .u64 z)) w.heap.size 78 (itemC 0 0 0 0)) := HoU.out.far hn01
  have HB3 : Hid (Below w.heap.size w (U.setCell ⟨w.heap.size + 1, 3, none⟩ (.int .u64 z))) := hBU.trans (qAc (qAj U (w.heap.size + 1) 3 _) (by omega) hBU.size)
  have a3 := HiU.out.cell (j := 3) rfl
  have q3 := HiU.out.frozen 3
  obtain ⟨T, HT⟩ : ∃ T, Hid (U.setCell ⟨w.heap.size + 1, 3, none⟩ (.int .u64 z) = T) := ⟨_, rfl⟩
  rw [HT.out] at HI3 HO3 HB3
  have i0 := HI3.out.cell (j := 0) rfl
  have i1 := HI3.out.cell (j := 1) rfl
  have i2 := HI3.out.cell (j := 2) rfl
  have i3 := HI3.out.cell (j := 3) rfl
  have o0 := HO3.out.cell (j := 0) rfl
  have p0 := HO3.out.frozen 0
  have o1 := HO3.out.cell (j := 1) rfl
  have p1 := HO3.out.frozen 1
  have o2 := HO3.out.cell (j := 2) rfl
  have p2 := HO3.out.frozen 2
  have o3 := HO3.out.cell (j := 3) rfl
  have p3 := HO3.out.frozen 3
  have HF : Hid (Hp (T.setCells w.heap.size 0 (itemC g hh y z)) w.heap.size 78 (itemC g hh y z)) := by have := HO3.out.sets (itemC g hh y z) 0; rw [qBa (itemC g hh y z) (itemC 0 0 0 0) rfl] at this; exact this
  have HFB : Hid (Below w.heap.size w (T.setCells w.heap.size 0 (itemC g hh y z))) := HB3.out.trans (qAc (qAa w.heap.size (itemC g hh y z) T 0) (Nat.le_refl _) HB3.out.size)
  rcases h24 with rfl | rfl
  all_goals go_wp2_with (rw [HT.out])
  all_goals exact item_ret rfl rfl HF.out.drew ⟨by rw [HQ.out], qAr HFB.out⟩
 ·have c2 : (hh == 2) = false := by simp; omega
  have c4 : (hh == 4) = false := by simp; omega
  rw [if_neg h24] at HQ
  have HI3 := HiU
  have HO3 := HoU
  have i0 := HI3.out.cell (j := 0) rfl
  have i1 := HI3.out.cell (j := 1) rfl
  have i2 := HI3.out.cell (j := 2) rfl
  have i3 := HI3.out.cell (j := 3) rfl
  have o0 := HO3.out.cell (j := 0) rfl
  have p0 := HO3.out.frozen 0
  have o1 := HO3.out.cell (j := 1) rfl
  have p1 := HO3.out.frozen 1
  have o2 := HO3.out.cell (j := 2) rfl
  have p2 := HO3.out.frozen 2
  have o3 := HO3.out.cell (j := 3) rfl
  have p3 := HO3.out.frozen 3
  have HF : Hid (Hp (U.setCells w.heap.size 0 (itemC g hh y 0)) w.heap.size 78 (itemC g hh y 0)) := by have := HO3.out.sets (itemC g hh y 0) 0; rw [qBa (itemC g hh y 0) (itemC 0 0 0 0) rfl] at this; exact this
  have HFB : Hid (Below w.heap.size w (U.setCells w.heap.size 0 (itemC g hh y 0))) := hBU.trans (qAc (qAa w.heap.size (itemC g hh y 0) U 0) (Nat.le_refl _) hBU.size)
  go_wp2
  exact item_ret rfl rfl HF.out.drew ⟨by rw [HQ.out], qAr HFB.out⟩
end
section
variable {b sb : Nat} {vm vc : Value} {ev : Int × Int} {M : Mc}
theorem boxO {w : World} (h : Ma w b sb vm vc ev M) : ∃ V, Hid (w.alloc (.cells #[.int .i64 0, .int .i64 0, .int .i64 0, .int .i64 0, .int .u64 0, .int .u64 0, .int .u64 0] 80) = V) /\ Hid (Ma V b sb vm vc ev M) /\ Hid (Hp V w.heap.size 80 (actC 0 0 0 0 0 0 0)) /\ Below w.heap.size w V /\ V.heap.size = w.heap.size + 1 :=
 ⟨_, rfl, h.below ((Below.refl _ _).alloc (Nat.le_refl _) _) h.hp.lt, Hp.new w _ _, (Below.refl _ _).alloc (Nat.le_refl _) _, by simp⟩
theorem boxA {w4 : World} {n0 : Nat} (h : Ma w4 b sb vm vc ev M) (ho : Hp w4 n0 80 (actC 0 0 0 0 0 0 0)) (k pc im io ik iv v : Int) : ∃ Y, Hid (w4.alloc (.cells #[.int .i64 k, .int .i64 pc, .int .i64 im, .int .i64 io, .int .u64 ik, .int .u64 iv, .int .u64 v] 80) = Y) /\ Hid (Ma Y b sb vm vc ev M) /\ Hid (Hp Y w4.heap.size 80 (actC k pc im io ik iv v)) /\ Hid (Hp Y n0 80 (actC 0 0 0 0 0 0 0)) /\ Below w4.heap.size w4 Y /\ Y.heap.size = w4.heap.size + 1 :=
 ⟨_, rfl, h.below ((Below.refl _ _).alloc (Nat.le_refl _) _) h.hp.lt, Hp.new w4 _ _, ho.alloc _, (Below.refl _ _).alloc (Nat.le_refl _) _, by simp⟩
set_option maxHeartbeats 6400000 in
theorem mcall_note (w : World) (h : Ma w b sb vm vc ev M) (hp : M.pc + 1 < 64) {x : Int} (HX : Hid (regV M.regs 1 = x)) :
  Calls Tryz.prog 42 #[.pointer (some ⟨b, 0, none⟩), .int .i64 6] w fun e w' => e = .returned (actV 3 M.pc 0 0 0 0 x) /\ Chg w w' (fun k => k = b) /\ Ma w' b sb vm vc ev { M with regs := M.regs.set 0 0, pc := M.pc + 1 } := by
 have hlt := h.hp.lt
 obtain ⟨V, HV, HmV, HoV, hBV, hzV⟩ := boxO h
 have c6 := h.reg (show 1 < 8 by omega)
 rw [show M.regs.getD 1 0 = x from HX.out] at c6
 have hn0 : w.heap.size ≠ b := by omega
 go_enter Tryz.func42, Tryz.ntmps42
 go_wp2_with (first
  | (go_at_call 40; rw [HV.out]; go_must (refine (mtold_any 3 x V HmV.out).mono ?_); rintro e w4 ⟨rfl, hb4⟩; go_must (obtain ⟨Y, HY, HmY, HaY, HoY, hbY, hzY⟩ := boxA (HmV.out.below hb4 HmV.out.hp.lt) (HoV.out.below hb4 HoV.out.lt) 3 M.pc 0 0 0 0 x; have hz4 := hb4.size))
  | (go_at_call 38; rw [HY.out]; go_must (refine (mtakes_any 0 Y HmY.out (by decide) hp).mono ?_); rintro e w6 ⟨rfl, hg6, hm6'⟩; go_must (have HM6 := keepJ hm6'; have HA6 := keepJ (HaY.out.grown hg6 (fun e => by injection e with e; omega)); have HO6 := keepJ (HoY.out.grown hg6 (fun e => by injection e with e; omega)); (have a0 := HA6.out.cell (j := 0) rfl); (have a1 := HA6.out.cell (j := 1) rfl); (have a2 := HA6.out.cell (j := 2) rfl); (have a3 := HA6.out.cell (j := 3) rfl); (have a4 := HA6.out.cell (j := 4) rfl); (have a5 := HA6.out.cell (j := 5) rfl); (have a6 := HA6.out.cell (j := 6) rfl); (have o0 := HO6.out.cell (j := 0) rfl); (have o1 := HO6.out.cell (j := 1) rfl); (have o2 := HO6.out.cell (j := 2) rfl); (have o3 := HO6.out.cell (j := 3) rfl); (have o4 := HO6.out.cell (j := 4) rfl); (have o5 := HO6.out.cell (j := 5) rfl); (have o6 := HO6.out.cell (j := 6) rfl); (have q0 := HO6.out.frozen 0); (have q1 := HO6.out.frozen 1); (have q2 := HO6.out.frozen 2); (have q3 := HO6.out.frozen 3); (have q4 := HO6.out.frozen 4); (have q5 := HO6.out.frozen 5); (have q6 := HO6.out.frozen 6); clear hm6')))
 have hO := HO6.out.sets (actC 3 M.pc 0 0 0 0 x) 0
 rw [qBa (actC 3 M.pc 0 0 0 0 x) (actC 0 0 0 0 0 0 0) rfl] at hO
 refine act_ret rfl rfl hO ⟨rfl, ?_, ?_⟩
 ·exact (((Chg.of_below (S := fun k => k = b) hBV).trans (Chg.of_below (S := fun k => k = b) (hb4.mono (by omega))) (fun _ _ e => e)).trans (Chg.of_below (S := fun k => k = b) hbY) (fun _ _ e => e) |>.trans (Chg.of_grown (S := fun k => k = b) hg6 rfl) (fun _ _ e => e)).trans (Chg.of_grown (qAa w.heap.size (actC 3 M.pc 0 0 0 0 x) w6 0) (S := fun k => k = w.heap.size) rfl) (fun k hk e => by omega)
 ·exact HM6.out.grown (qAa w.heap.size (actC 3 M.pc 0 0 0 0 x) w6 0) (fun e => by injection e with e; omega)
end
section
variable {b sb : Nat} {vm vc : Value} {ev : Int × Int} {M : Mc}
set_option maxHeartbeats 800000 in
theorem mcall_mark (w : World) (h : Ma w b sb vm vc ev M) (hp : M.pc + 1 < 64) {ws cs us : List Int} (hs : Sc w sb ws cs) (hne : b ≠ sb) {x n : Int} (HX : Hid (regV M.regs 1 = x)) (hx : 0 <= x /\ x <= 15) (HN : Hid (upW (cs.getD x.toNat 0) 1 = n)) (HU : Hid (cs.set x.toNat n = us)) :
  Calls Tryz.prog 42 #[.pointer (some ⟨b, 0, none⟩), .int .i64 5] w fun e w' => e = .returned (actV 1 M.pc 0 0 0 0 n) /\ Chg w w' (fun k => k = b ∨ k = sb) /\ Ma w' b sb vm vc ev { M with regs := M.regs.set 0 n, pc := M.pc + 1 } /\ Sc w' sb ws us := by
 have hlt := h.hp.lt
 have hsl := hs.lt
 have hwx : IntKind.i64.wrap x = x := by rw [IntKind.wrap_i64]; omega
 have HIn : Hid (inB x = true) := decide_eq_true (by omega)
 have hn : 0 <= n /\ n <= 18446744073709551615 := by rw [<- HN.out]; exact upW_in _ _
 have HN2 : Hid ((if inB x then addW (cs.getD x.toNat 0) 1 else 0) = n) := by show _ = _; rw [HIn.out]; exact HN.out
 have HU2 : Hid ((if inB x then oneUp cs x.toNat else cs) = us) := by
  show _ = _
  rw [HIn.out, <- HU.out]
  show cs.set x.toNat (addW (cs.getD x.toNat 0) 1) = _
  rw [show addW (cs.getD x.toNat 0) 1 = n from HN.out]
 have HN3 : Hid ((if inB x then 0 else 35 : Int) = 0) := by show _ = _; rw [HIn.out]; rfl
 obtain ⟨V, HV, HmV, HoV, hBV, hzV⟩ := boxO h
 have hS0 : V.cell? ⟨b, 4, none⟩ = some (.pointer (some ⟨sb, 0, none⟩)) /\ V.cell? ⟨b, 6, none⟩ = some (.int .u64 x) := by
  have c6 := HmV.out.reg (show 1 < 8 by omega)
  rw [show M.regs.getD 1 0 = x from HX.out] at c6
  exact ⟨HmV.out.low.2.2.2.2, c6⟩
 have HSV := keepJ (hs.below hBV hsl)
 have hn0 : w.heap.size ≠ b := by omega
 have hltV := HmV.out.hp.lt
 go_enter Tryz.func42, Tryz.ntmps42
 go_wp2
 rw [HV.out]
 go_region_held3 (fun w' => w'.cell? ⟨b, 4, none⟩ = some (.pointer (some ⟨sb, 0, none⟩)) /\ w'.cell? ⟨b, 6, none⟩ = some (.int .u64 x))
  (first | with_reducible exact hS3 | exact hS0)
  (first | (go_at_call 67; go_must (refine (mark_as HN2 HU2 HN3 V.drew HSV.out.drew).mono ?_); rintro e w3 ⟨rfl, hs3', hg3', hz3⟩; go_must (have hg3 : V.grownBy w3 (some sb) := grown_undrew hg3'; have HS3 := keepJ hs3'; have HM3 := keepJ (HmV.out.grown hg3 (fun e => hne (by injection e))); have HO3 := keepJ (HoV.out.grown hg3 (fun e => by injection e with e; omega)); have hS3 : w3.cell? ⟨b, 4, none⟩ = some (.pointer (some ⟨sb, 0, none⟩)) /\ w3.cell? ⟨b, 6, none⟩ = some (.int .u64 x) := ⟨(qAf hg3 hltV hne).trans hS0.1, (qAf hg3 hltV hne).trans hS0.2⟩; clear hg3' hs3')))
 have hz3V := hg3.size
 go_wp2_with (first
  | (go_at_call 40; go_must (refine (mtold_any 1 n w3 HM3.out).mono ?_); rintro e w4 ⟨rfl, hb4⟩; go_must (obtain ⟨Y, HY, HmY, HaY, HoY, hbY, hzY⟩ := boxA (HM3.out.below hb4 HM3.out.hp.lt) (HO3.out.below hb4 HO3.out.lt) 1 M.pc 0 0 0 0 n; have hz4 := hb4.size))
  | (go_at_call 38; rw [HY.out]; go_must (refine (mtakes_any n Y HmY.out hn hp).mono ?_); rintro e w6 ⟨rfl, hg6, hm6'⟩; go_must (have HM6 := keepJ hm6'; have HA6 := keepJ (HaY.out.grown hg6 (fun e => by injection e with e; omega)); have HO6 := keepJ (HoY.out.grown hg6 (fun e => by injection e with e; omega)); (have a0 := HA6.out.cell (j := 0) rfl); (have a1 := HA6.out.cell (j := 1) rfl); (have a2 := HA6.out.cell (j := 2) rfl); (have a3 := HA6.out.cell (j := 3) rfl); (have a4 := HA6.out.cell (j := 4) rfl); (have a5 := HA6.out.cell (j := 5) rfl); (have a6 := HA6.out.cell (j := 6) rfl); (have o0 := HO6.out.cell (j := 0) rfl); (have o1 := HO6.out.cell (j := 1) rfl); (have o2 := HO6.out.cell (j := 2) rfl); (have o3 := HO6.out.cell (j := 3) rfl); (have o4 := HO6.out.cell (j := 4) rfl); (have o5 := HO6.out.cell (j := 5) rfl); (have o6 := HO6.out.cell (j := 6) rfl); (have q0 := HO6.out.frozen 0); (have q1 := HO6.out.frozen 1); (have q2 := HO6.out.frozen 2); (have q3 := HO6.out.frozen 3); (have q4 := HO6.out.frozen 4); (have q5 := HO6.out.frozen 5); (have q6 := HO6.out.frozen 6); clear hm6')))
 have hO := HO6.out.sets (actC 1 M.pc 0 0 0 0 n) 0
 rw [qBa (actC 1 M.pc 0 0 0 0 n) (actC 0 0 0 0 0 0 0) rfl] at hO
 have hG := qAa w.heap.size (actC 1 M.pc 0 0 0 0 n) w6 0
 have hC3 : Chg w w3 (fun k => k = b ∨ k = sb) := (Chg.of_below hBV).trans (Chg.of_grown (S := fun k => k = b ∨ k = sb) hg3 (.inr rfl)) (fun _ _ e => e)
 have hC4 : Chg w w4 (fun k => k = b ∨ k = sb) := hC3.trans (Chg.of_below (S := fun _ => False) hb4) (fun _ _ e => e.elim)
 have hCY : Chg w Y (fun k => k = b ∨ k = sb) := hC4.trans (Chg.of_below (S := fun _ => False) hbY) (fun _ _ e => e.elim)
 have hC6 : Chg w w6 (fun k => k = b ∨ k = sb) := hCY.trans (Chg.of_grown (S := fun k => k = b) hg6 rfl) (fun _ _ e => .inl e)
 refine act_ret rfl rfl hO ⟨rfl, hC6.trans (Chg.of_grown hG (S := fun k => k = w.heap.size) rfl) (fun k hk e => by omega), HM6.out.grown hG (fun e => by injection e with e; omega), ?_⟩
 have hS4 := HS3.out.below hb4 HS3.out.lt
 have hS6 := (hS4.below hbY hS4.lt).grown hg6 (show some sb ≠ some b from fun e => hne (Option.some.inj e).symm)
 exact hS6.grown hG (show some sb ≠ some w.heap.size from fun e => by have := Option.some.inj e; omega)
end
section
variable {b sb : Nat} {vm vc : Value} {ev : Int × Int} {M : Mc}
set_option maxHeartbeats 800000 in
theorem mcall_map (hh : Int) (hi : 0 <= hh /\ hh <= 4) {mb mo mcap nm j : Nat} (w : World) (h : Ma w b sb (.slice (some ⟨mb, mo, none⟩) nm mcap) vc ev M) (hj : j < nm) (hmb : mb < w.heap.size) (hmc : nm <= mcap) {g : Int} (hcell : w.cell? ⟨mb, mo + j, none⟩ = some (.int .i64 g)) {y z q : Int} (H1 : Hid (regV M.regs 1 = (j : Int))) (H2 : Hid (regV M.regs 2 = y)) (H3 : Hid (regV M.regs 3 = z)) (HQ : Hid ((if hh = 2 ∨ hh = 4 then z else 0) = q)) :
  Calls Tryz.prog 42 #[.pointer (some ⟨b, 0, none⟩), .int .i64 hh] w fun e w' => e = .returned (actV 2 M.pc g hh y q 0) /\ Chg w w' (fun k => k = b) /\ Ma w' b sb (.slice (some ⟨mb, mo, none⟩) nm mcap) vc ev { M with mode := 1 } := by
 have hlt := h.hp.lt
 have c5 : (hh == 5) = false := by simp; omega
 have c6 : (hh == 6) = false := by simp; omega
 obtain ⟨V, HV, HmV, HoV, hBV, hzV⟩ := boxO h
 have hn0 : w.heap.size ≠ b := by omega
 go_enter Tryz.func42, Tryz.ntmps42
 go_wp2_with (first
  | (go_at_call 40; rw [HV.out]; go_must (refine (mtold_any 2 0 V HmV.out).mono ?_); rintro e w4 ⟨rfl, hb4⟩; go_must (obtain ⟨Y, HY, HmY, HaY, HoY, hbY, hzY⟩ := boxA (HmV.out.below hb4 HmV.out.hp.lt) (HoV.out.below hb4 HoV.out.lt) 2 M.pc 0 0 0 0 0; have hz4 := hb4.size; have hB4 : Below w.heap.size w w4 := hBV.trans (hb4.mono (by omega)); have hBY : Below w.heap.size w Y := hB4.trans (hbY.mono (by omega))))
  | (go_at_call 68; rw [HY.out]; go_must (refine (masks_any hh hi Y HmY.out hj (by omega) hmc ((hBY.cell (p := ⟨mb, mo + j, none⟩) hmb).trans hcell) H1 H2 H3 HQ).mono ?_); rintro e w5 ⟨rfl, hb5⟩; go_must (have HM5 := keepJ (HmY.out.below hb5 (by omega)); have HA5 := keepJ (HaY.out.below hb5 (by omega)); have HO5 := keepJ (HoY.out.below hb5 (by omega)); have hz5 := hb5.size; have d2 := HA5.out.cell (j := 2) rfl; have d3 := HA5.out.cell (j := 3) rfl; have d4 := HA5.out.cell (j := 4) rfl; have d5 := HA5.out.cell (j := 5) rfl; have e2 := HA5.out.frozen 2; have e3 := HA5.out.frozen 3; have e4 := HA5.out.frozen 4; have e5 := HA5.out.frozen 5; obtain ⟨T, HT, HMT, HAT, HOT, hgT⟩ : ∃ T, Hid ((((w5.setCell ⟨w4.heap.size, 2, none⟩ (.int .i64 g)).setCell ⟨w4.heap.size, 3, none⟩ (.int .i64 hh)).setCell ⟨w4.heap.size, 4, none⟩ (.int .u64 y)).setCell ⟨w4.heap.size, 5, none⟩ (.int .u64 q) = T) /\ Hid (Ma T b sb (.slice (some ⟨mb, mo, none⟩) nm mcap) vc ev M) /\ Hid (Hp T w4.heap.size 80 (actC 2 M.pc g hh y q 0)) /\ Hid (Hp T w.heap.size 80 (actC 0 0 0 0 0 0 0)) /\ w5.grownBy T (some w4.heap.size) := ⟨_, rfl, HM5.out.grown (qAa w4.heap.size (itemC g hh y q) w5 2) (fun e => by injection e with e; omega), by have := HA5.out.sets (itemC g hh y q) 2; exact this, HO5.out.grown (qAa w4.heap.size (itemC g hh y q) w5 2) (fun e => by injection e with e; omega), qAa w4.heap.size (itemC g hh y q) w5 2⟩; have t9 := HMT.out.last.2.2; have u9 := HMT.out.hp.frozen 79; obtain ⟨U, HU, HMU, HA6, HO6, hgU⟩ : ∃ U, Hid (T.setCell ⟨b, 79, none⟩ (.int .i64 1) = U) /\ Hid (Ma U b sb (.slice (some ⟨mb, mo, none⟩) nm mcap) vc ev { M with mode := 1 }) /\ Hid (Hp U w4.heap.size 80 (actC 2 M.pc g hh y q 0)) /\ Hid (Hp U w.heap.size 80 (actC 0 0 0 0 0 0 0)) /\ T.grownBy U (some b) := ⟨_, rfl, HMT.out.setM 1, HAT.out.far (by omega), HOT.out.far hn0, qAj T b 79 _⟩; (have a0 := HA6.out.cell (j := 0) rfl); (have a1 := HA6.out.cell (j := 1) rfl); (have a2 := HA6.out.cell (j := 2) rfl); (have a3 := HA6.out.cell (j := 3) rfl); (have a4 := HA6.out.cell (j := 4) rfl); (have a5 := HA6.out.cell (j := 5) rfl); (have a6 := HA6.out.cell (j := 6) rfl); (have o0 := HO6.out.cell (j := 0) rfl); (have o1 := HO6.out.cell (j := 1) rfl); (have o2 := HO6.out.cell (j := 2) rfl); (have o3 := HO6.out.cell (j := 3) rfl); (have o4 := HO6.out.cell (j := 4) rfl); (have o5 := HO6.out.cell (j := 5) rfl); (have o6 := HO6.out.cell (j := 6) rfl); (have q0 := HO6.out.frozen 0); (have q1 := HO6.out.frozen 1); (have q2 := HO6.out.frozen 2); (have q3 := HO6.out.frozen 3); (have q4 := HO6.out.frozen 4); (have q5 := HO6.out.frozen 5); (have q6 := HO6.out.frozen 6); skip))
  | rw [HT.out]
  | rw [HU.out])
 have hO := HO6.out.sets (actC 2 M.pc g hh y q 0) 0
 rw [qBa (actC 2 M.pc g hh y q 0) (actC 0 0 0 0 0 0 0) rfl] at hO
 have hG := qAa w.heap.size (actC 2 M.pc g hh y q 0) U 0
 have hC5 : Chg w w5 (fun k => k = b) := (Chg.of_below (S := fun k => k = b) hBY).trans (Chg.of_below (S := fun _ => False) hb5) (fun _ _ e => e.elim)
 have hCT : Chg w T (fun k => k = b) := hC5.trans (Chg.of_grown (S := fun k => k = w4.heap.size) hgT rfl) (fun k hk e => by have := hB4.size; omega)
 have hCU : Chg w U (fun k => k = b) := hCT.trans (Chg.of_grown (S := fun k => k = b) hgU rfl) (fun _ _ e => e)
 refine act_ret rfl rfl hO ⟨rfl, hCU.trans (Chg.of_grown hG (S := fun k => k = w.heap.size) rfl) (fun k hk e => by omega), HMU.out.grown hG (fun e => by injection e with e; omega)⟩
end
end Go.Proofs.YtbmjanejecfjmaaGreat
