/-
  E11LAns
  E11LAll
  E11LStep
-/
import Derived.Test.YtbmjanejecfjmaaGreatMP35
import Derived.Test.YtbmjanejecfjmaaGreatMP11
import Derived.Test.YtbmjanejecfjmaaGreatMP24
import Derived.Test.YtbmjanejecfjmaaGreatMP8
namespace Go.Proofs.YtbmjanejecfjmaaGreat
open Go.RowKit
set_option linter.unusedVariables false
set_option linter.unusedSimpArgs false
set_option maxRecDepth 100000
theorem mvalue_as {h E : Int} {f : Bool} {v : Int} {o : Bool} {k u r : Int} (hr : Hid (valL h E f v = r)) (w : World) : Calls Tryz.prog 39 #[.int .i64 h, resV E f v o k u] w fun e w' => e = .returned (.int .u64 r) /\ Below w.heap.size w w' := by
 rw [<- hr.out]; exact value_any h E f v o k u w
theorem valL_in {h E : Int} {f : Bool} {v : Int} (hv : 0 <= v /\ v <= 18446744073709551615) : 0 <= valL h E f v /\ valL h E f v <= 18446744073709551615 := by
 unfold valL
 repeat' split
 all_goals omega
section
variable {b sb : Nat} {vm vc : Value} {ev : Int × Int} {M : Mc}
set_option maxHeartbeats 1600000 in
theorem manswer_yes {cb co ccap : Nat} {xs : List In} (E : Int) (f : Bool) (v : Int) (o : Bool) (k u : Int) (w : World) (h : Ma w b sb vm (.slice (some ⟨cb, co, none⟩) xs.length ccap) ev M) (hm : M.mode = 1) (hx : SeesI w (.slice (some ⟨cb, co, none⟩) xs.length ccap) xs) (hp : M.pc < xs.length) (hp1 : M.pc + 1 < 64) (hcb' : cb ≠ b) (hv : 0 <= v /\ v <= 18446744073709551615) {n : Int} (hn : Hid (valL (nth xs M.pc).imm E f v = n)) :
  Calls Tryz.prog 20 #[.pointer (some ⟨b, 0, none⟩), resV E f v o k u] w fun e w' => e = .returned (.int .i64 0) /\ w.grownBy w' (some b) /\ Ma w' b sb vm (.slice (some ⟨cb, co, none⟩) xs.length ccap) ev { M with regs := M.regs.set 0 n, mode := 0, pc := M.pc + 1 } := by
 have hlt := h.hp.lt
 have hpI : (M.pc : Int) < xs.length := by omega
 have hp64 : (M.pc : Int) <= 100 := by omega
 obtain ⟨hat, hcb, hcc, hcm⟩ := codeL hx hp
 obtain ⟨⟨op, d, a, bb, imm⟩, HI⟩ : ∃ i, Hid (nth xs M.pc = i) := ⟨_, rfl⟩
 rw [HI.out] at hat hn
 have hn2 : Hid (valL imm E f v = n) := hn
 have hnr : 0 <= n /\ n <= 18446744073709551615 := by rw [<- hn2.out]; exact valL_in hv
 obtain ⟨_, _, _, _, k4⟩ := hat
 simp only at k4
 have c9 := h.last.2.2
 rw [hm] at c9
 have hwb : w.heap.size ≠ b := by omega
 obtain ⟨Z, HZ, HmZ, HrZ, hBZ, hzZ⟩ : ∃ Z, Hid ((w.setCell ⟨b, 79, none⟩ (.int .i64 0)).alloc (.cells #[.int .i64 E, .bool f, .int .u64 v, .bool o, .int .u64 k, .int .u64 u] 45) = Z) /\ Hid (Ma Z b sb vm (.slice (some ⟨cb, co, none⟩) xs.length ccap) ev { M with mode := 0 }) /\ Hid (Hp Z w.heap.size 45 [.int .i64 E, .bool f, .int .u64 v, .bool o, .int .u64 k, .int .u64 u]) /\ w.grownBy Z (some b) /\ w.heap.size < Z.heap.size := by
  have hsz : (w.setCell ⟨b, 79, none⟩ (.int .i64 0)).heap.size = w.heap.size := by simp [World.setCell]
  have hB := (Below.refl (w.setCell ⟨b, 79, none⟩ (.int .i64 0)).heap.size (w.setCell ⟨b, 79, none⟩ (.int .i64 0))).alloc (Nat.le_refl _) (.cells #[.int .i64 E, .bool f, .int .u64 v, .bool o, .int .u64 k, .int .u64 u] 45)
  have hN := Hp.new (w.setCell ⟨b, 79, none⟩ (.int .i64 0)) [.int .i64 E, .bool f, .int .u64 v, .bool o, .int .u64 k, .int .u64 u] 45
  rw [hsz] at hN
  exact ⟨_, rfl, (h.setM 0).below hB (by rw [hsz]; exact hlt), hN, qAv (qAj w b 79 _) (qAu hB _), by simp [hsz]⟩
 have f9 := h.hp.frozen 79
 have hcbZ : cb < Z.heap.size := by omega
 have k4Z : Z.cell? ⟨cb, co + M.pc * 5 + 4, none⟩ = some (.int .i64 imm) := (qAf hBZ hcb hcb').trans k4
 have HKP : Hid (∀ wx : World, Below Z.heap.size Z wx -> wx.cell? ⟨b, 3, none⟩ = some (.slice (some ⟨cb, co, none⟩) xs.length ccap) /\ wx.cell? ⟨cb, co + M.pc * 5 + 4, none⟩ = some (.int .i64 imm) /\ wx.cell? ⟨w.heap.size, 0, none⟩ = some (.int .i64 E) /\ wx.cell? ⟨w.heap.size, 1, none⟩ = some (.bool f) /\ wx.cell? ⟨w.heap.size, 2, none⟩ = some (.int .u64 v) /\ wx.cell? ⟨w.heap.size, 3, none⟩ = some (.bool o) /\ wx.cell? ⟨w.heap.size, 4, none⟩ = some (.int .u64 k) /\ wx.cell? ⟨w.heap.size, 5, none⟩ = some (.int .u64 u)) := fun wx hb => ⟨(HmZ.out.below hb HmZ.out.hp.lt).low.2.2.2.1, (hb.cell (p := ⟨cb, co + M.pc * 5 + 4, none⟩) hcbZ).trans k4Z, (HrZ.out.below hb hzZ).cell rfl, (HrZ.out.below hb hzZ).cell rfl, (HrZ.out.below hb hzZ).cell rfl, (HrZ.out.below hb hzZ).cell rfl, (HrZ.out.below hb hzZ).cell rfl, (HrZ.out.below hb hzZ).cell rfl⟩
 have z7 := HmZ.out.last.1
 clear k4 k4Z hx
 go_enter Tryz.func20, Tryz.ntmps20
 go_wp2
 rw [HZ.out]
 refine wp_region_held_drew (S := fun w' => w'.cell? ⟨b, 3, none⟩ = some (.slice (some ⟨cb, co, none⟩) xs.length ccap) /\ w'.cell? ⟨cb, co + M.pc * 5 + 4, none⟩ = some (.int .i64 imm) /\ w'.cell? ⟨w.heap.size, 0, none⟩ = some (.int .i64 E) /\ w'.cell? ⟨w.heap.size, 1, none⟩ = some (.bool f) /\ w'.cell? ⟨w.heap.size, 2, none⟩ = some (.int .u64 v) /\ w'.cell? ⟨w.heap.size, 3, none⟩ = some (.bool o) /\ w'.cell? ⟨w.heap.size, 4, none⟩ = some (.int .u64 k) /\ w'.cell? ⟨w.heap.size, 5, none⟩ = some (.int .u64 u)) (by kernel_rfl) (HKP.out _ (qAr (Below.refl _ _))) (fun hHeld => ?_)
 refine wpAnyH_take (i := 0) (v := ?v1) rfl (by kernel_rfl) (by kernel_rfl) (by kernel_rfl) (fun _ _ _ h => h) (Or.inl ⟨by rfl, ?hy1⟩) (by assumption) ?rest1
 case hy1 => (intro wy hSw; (try dsimp only at hSw); go_simp; (first | done | with_reducible rfl))
 try simp only [Act.put, p1q, p2q, p3q, p4q, p5q, p6q]
 refine wpAnyH_take (i := 1) (v := ?v2) rfl (by kernel_rfl) (by kernel_rfl) (by kernel_rfl) (fun _ _ _ h => h) (Or.inl ⟨by rfl, ?hy2⟩) (by assumption) ?rest2
 case hy2 => (intro wy hSw; (try dsimp only at hSw); go_simp; (first | done | with_reducible rfl))
 try simp only [Act.put, p1q, p2q, p3q, p4q, p5q, p6q]
 refine wpAnyH_take (i := 2) (v := ?v3) rfl (by kernel_rfl) (by kernel_rfl) (by kernel_rfl) (fun _ _ _ h => h) (Or.inl ⟨by rfl, ?hy3⟩) (by assumption) ?rest3
 case hy3 => (intro wy hSw; (try dsimp only at hSw); go_simp; (first | done | with_reducible rfl))
 try simp only [Act.put, p1q, p2q, p3q, p4q, p5q, p6q]
 refine wpAnyH_take (i := 3) (v := ?v4) rfl (by kernel_rfl) (by kernel_rfl) (by kernel_rfl) (fun _ _ _ h => h) (Or.inl ⟨by rfl, ?hy4⟩) (by assumption) ?rest4
 case hy4 => (intro wy hSw; (try dsimp only at hSw); go_simp; (first | done | with_reducible rfl))
 try simp only [Act.put, p1q, p2q, p3q, p4q, p5q, p6q]
 refine wpAnyH_take (i := 4) (v := ?v5) rfl (by kernel_rfl) (by kernel_rfl) (by kernel_rfl) (fun _ _ _ h => h) (Or.inl ⟨by rfl, ?hy5⟩) (by assumption) ?rest5
 case hy5 => (intro wy hSw; (try dsimp only at hSw); go_simp; (first | done | with_reducible rfl))
 try simp only [Act.put, p1q, p2q, p3q, p4q, p5q, p6q]
 refine wpAnyH_take (i := 5) (v := ?v6) rfl (by kernel_rfl) (by kernel_rfl) (by kernel_rfl) (fun _ _ _ h => h) (Or.inl ⟨by rfl, ?hy6⟩) (by assumption) ?rest6
 case hy6 => (intro wy hSw; (try dsimp only at hSw); go_simp; (first | done | with_reducible rfl))
 try simp only [Act.put, p1q, p2q, p3q, p4q, p5q, p6q]
 refine wpAnyH_take (i := 6) (v := ?v7) rfl (by kernel_rfl) (by kernel_rfl) (by kernel_rfl) (fun _ _ _ h => h) (Or.inl ⟨by rfl, ?hy7⟩) (by assumption) ?rest7
 case hy7 => (intro wy hSw; (try dsimp only at hSw); go_simp; (first | done | with_reducible rfl))
 try simp only [Act.put, p1q, p2q, p3q, p4q, p5q, p6q]
 refine wpAnyH_take (i := 7) (v := ?v8) rfl (by kernel_rfl) (by kernel_rfl) (by kernel_rfl) (fun _ _ _ h => h) (Or.inl ⟨by rfl, ?hy8⟩) (by assumption) ?rest8
 case hy8 => (intro wy hSw; (try dsimp only at hSw); go_simp; (first | done | with_reducible rfl))
 try simp only [Act.put, p1q, p2q, p3q, p4q, p5q, p6q]
 refine wpAnyH_take (i := 12) (v := ?v9) rfl (by kernel_rfl) (by kernel_rfl) (by kernel_rfl) (fun _ _ _ h => h) (Or.inl ⟨by rfl, ?hy9⟩) (by assumption) ?rest9
 case hy9 => (intro wy hSw; (try dsimp only at hSw); go_simp; (first | done | with_reducible rfl))
 try simp only [Act.put, p1q, p2q, p3q, p4q, p5q, p6q]
 refine wpAnyH_ready (rs := [8]) (by kernel_rfl) (by simp) ?_
 refine AllReadyH.cons rfl (fun KK hK => ?_) AllReadyH.nil
 rw [if_pos (by rfl)]
 go_simp
 refine hK.out _ _ (HKP.out _ (qAr (Below.refl _ _))) (fun hHeld => ?_)
 clear hK KK
 try simp only [Act.put, p1q, p2q, p3q, p4q, p5q, p6q]
 refine wpAnyH_take (i := 9) (v := ?v10) rfl (by kernel_rfl) (by kernel_rfl) (by kernel_rfl) (fun _ _ _ h => h) (Or.inl ⟨by rfl, ?hy10⟩) (by assumption) ?rest10
 case hy10 => (intro wy hSw; (try dsimp only at hSw); go_simp; (first | done | with_reducible rfl))
 try simp only [Act.put, p1q, p2q, p3q, p4q, p5q, p6q]
 refine wpAnyH_take (i := 10) (v := ?v11) rfl (by kernel_rfl) (by kernel_rfl) (by kernel_rfl) (fun _ _ _ h => h) (Or.inl ⟨by rfl, ?hy11⟩) (by assumption) ?rest11
 case hy11 => (intro wy hSw; (try dsimp only at hSw); go_simp; (first | done | with_reducible rfl))
 try simp only [Act.put, p1q, p2q, p3q, p4q, p5q, p6q]
 refine wpAnyH_take (i := 11) (v := ?v12) rfl (by kernel_rfl) (by kernel_rfl) (by kernel_rfl) (fun _ _ _ h => h) (Or.inl ⟨by rfl, ?hy12⟩) (by assumption) ?rest12
 case hy12 => (intro wy hSw; (try dsimp only at hSw); go_simp; (first | done | with_reducible rfl))
 try simp only [Act.put, p1q, p2q, p3q, p4q, p5q, p6q]
 refine wpAnyH_ready (rs := [13]) (by kernel_rfl) (by simp) ?_
 refine AllReadyH.cons rfl (fun KK hK => ?_) AllReadyH.nil
 rw [if_pos (by rfl)]
 go_simp
 go_at_call 39
 refine (mvalue_as hn2 _).mono ?_
 rintro e w4 ⟨rfl, hb4'⟩
 have hb4 : Below Z.heap.size Z w4 := qAk hb4'
 go_simp
 refine hK.out _ _ (HKP.out w4 hb4) (fun hHeld => ?_)
 clear hK KK
 try simp only [Act.put, p1q, p2q, p3q, p4q, p5q, p6q]
 have HM4 := keepJ (HmZ.out.below hb4 HmZ.out.hp.lt)
 have hz4 := hb4.size
 refine wpAnyH_ready (rs := [14]) (by kernel_rfl) (by simp) ?_
 refine AllReadyH.cons rfl (fun KK hK => ?_) AllReadyH.nil
 rw [if_pos (by rfl)]
 go_simp
 go_at_call 38
 refine (mtakes_any n _ HM4.out hnr hp1).mono ?_
 rintro e w5 ⟨rfl, hg5, hm5⟩
 go_simp
 have hS4 := HKP.out w4 hb4
 have hS5 : w5.cell? ⟨b, 3, none⟩ = some (.slice (some ⟨cb, co, none⟩) xs.length ccap) /\ w5.cell? ⟨cb, co + M.pc * 5 + 4, none⟩ = some (.int .i64 imm) /\ w5.cell? ⟨w.heap.size, 0, none⟩ = some (.int .i64 E) /\ w5.cell? ⟨w.heap.size, 1, none⟩ = some (.bool f) /\ w5.cell? ⟨w.heap.size, 2, none⟩ = some (.int .u64 v) /\ w5.cell? ⟨w.heap.size, 3, none⟩ = some (.bool o) /\ w5.cell? ⟨w.heap.size, 4, none⟩ = some (.int .u64 k) /\ w5.cell? ⟨w.heap.size, 5, none⟩ = some (.int .u64 u) := ⟨hm5.low.2.2.2.1, (qAf hg5 (by omega) hcb').trans hS4.2.1, (qAf hg5 (by omega) hwb).trans hS4.2.2.1, (qAf hg5 (by omega) hwb).trans hS4.2.2.2.1, (qAf hg5 (by omega) hwb).trans hS4.2.2.2.2.1, (qAf hg5 (by omega) hwb).trans hS4.2.2.2.2.2.1, (qAf hg5 (by omega) hwb).trans hS4.2.2.2.2.2.2.1, (qAf hg5 (by omega) hwb).trans hS4.2.2.2.2.2.2.2⟩
 refine hK.out _ _ hS5 (fun hHeld => ?_)
 clear hK KK
 try simp only [Act.put, p1q, p2q, p3q, p4q, p5q, p6q]
 refine wpAnyH_done (by kernel_rfl) ?_ _
 go_wp2
 go_ret
 exact ⟨rfl, qAv (qAv hBZ (qAu hb4 _)) hg5, hm5⟩
end
theorem right_ab {i : In} (hr : i.right = true) (ho : i.op <= 20) : (0 <= i.a /\ i.a <= 7) /\ (i.b = 8 ∨ (0 <= i.b /\ i.b <= 7)) := by
 obtain ⟨op, d, a, b, imm⟩ := i
 have h0 := qBj hr
 unfold In.right at hr
 simp only at hr ho h0 ⊢
 by_cases c1 : op = 0 ∨ op = 11
 ·unfold rightB at hr; rw [if_pos c1] at hr; simp [sourcedB, regB] at hr; omega
 by_cases c2 : 1 <= op /\ op <= 10
 ·rw [qBp c2] at hr; simp [sourcedB, regB] at hr; omega
 by_cases c3 : op = 12
 ·subst c3; rw [rightB_12] at hr; simp [sourcedB, regB] at hr; omega
 by_cases c4 : op = 13
 ·subst c4; rw [rightB_13] at hr; simp at hr; omega
 by_cases c5 : op = 14
 ·subst c5; rw [qBo] at hr; simp at hr; omega
 by_cases c6 : op = 15
 ·subst c6; rw [rightB_15] at hr; simp at hr; omega
 by_cases c7 : 16 <= op /\ op <= 19
 ·rw [qBl c7] at hr; simp [sourcedB, regB] at hr; omega
 ·obtain rfl : op = 20 := by omega
  rw [qBn] at hr; simp [regB] at hr; omega
theorem right_14E {i : In} (hr : i.right = true) (ho : i.op = 14) : 0 <= i.imm /\ i.imm <= 3 := by
 obtain ⟨op, d, a, b, imm⟩ := i
 unfold In.right at hr
 simp only at hr ho ⊢
 subst ho
 rw [qBo] at hr; simp at hr; omega
theorem hold_none {op a b : Int} (h : op < 16 ∨ 19 < op) : holdL op a b = false := by
 unfold holdL
 rw [if_neg (by omega), if_neg (by omega), if_neg (by omega), if_neg (by omega)]
section
variable {b sb : Nat} {vm vc : Value} {ev : Int × Int} {M : Mc}
theorem Sc.chg {w w' : World} {ws cs : List Int} {S : Nat -> Prop} (h : Sc w sb ws cs) (hc : Chg w w' S) (hS : ¬ S sb) : Sc w' sb ws cs := ⟨h.hp.chg hc hS, h.lw, h.lc⟩
theorem Ma.chg {w w' : World} {S : Nat -> Prop} (h : Ma w b sb vm vc ev M) (hc : Chg w w' S) (hS : ¬ S b) : Ma w' b sb vm vc ev M := ⟨h.hp.chg hc hS, h.wr, h.pc⟩
theorem Ma.same {w : World} {M' : Mc} (h : Ma w b sb vm vc ev M) (h1 : M'.regs = M.regs) (h2 : M'.turn = M.turn) (h3 : M'.pc = M.pc) (h4 : M'.steps = M.steps) (h5 : M'.mode = M.mode) : Ma w b sb vm vc ev M' := by
 obtain ⟨r, t, p, s, m, x, y⟩ := M'
 simp only at h1 h2 h3 h4 h5
 subst h1; subst h2; subst h3; subst h4; subst h5
 exact ⟨h.hp, h.wr, h.pc⟩
theorem mdo_all (i : In) (hr : i.right = true) (ho : i.op <= 20) (w : World) (h : Ma w b sb vm vc ev M) (hs : Sc w sb M.ws M.cs) (hne : b ≠ sb) (hws : W16 M.ws) (hev : (0 <= ev.1 /\ ev.1 <= 18446744073709551615) /\ 0 <= ev.2 /\ ev.2 <= 18446744073709551615) (hw : i.op = 11 ∨ i.op = 12 -> 0 <= srcV i M.regs /\ srcV i M.regs <= 15) :
  Calls Tryz.prog 43 #[.pointer (some ⟨b, 0, none⟩), instV i.op i.d i.a i.b i.imm] w fun e w' => e = .returned (.tuple #[]) /\ Chg w w' (fun k => k = b ∨ k = sb) /\ Ma w' b sb vm vc ev { M with regs := (laysE ev i M).1, ws := (laysE ev i M).2 } /\ Sc w' sb (laysE ev i M).2 M.cs := by
 have h0 := qBj hr
 obtain ⟨ha, hb⟩ := right_ab hr ho
 have fin : ∀ {w' : World} {R : List Int}, w.grownBy w' (some b) -> Ma w' b sb vm vc ev { M with regs := R } -> laysE ev i M = (R, M.ws) -> Chg w w' (fun k => k = b ∨ k = sb) /\ Ma w' b sb vm vc ev { M with regs := (laysE ev i M).1, ws := (laysE ev i M).2 } /\ Sc w' sb (laysE ev i M).2 M.cs := fun {w' R} hg hm e => by
  rw [e]
  exact ⟨Chg.of_grown hg (.inl rfl), hm.same rfl rfl rfl rfl rfl, hs.grown hg (fun e => hne (Option.some.inj e).symm)⟩
 by_cases c0 : i.op = 0
 ·have hd := right_dest hr (.inl (by omega))
  obtain ⟨op, d, a, bb, imm⟩ := i
  simp only at c0 ha hb hd
  subst c0
  refine (mdo_set d a bb imm w h hd hb rfl).mono ?_
  rintro e w' ⟨rfl, hg, hm⟩
  exact ⟨rfl, fin hg hm rfl⟩
 by_cases c1 : 1 <= i.op /\ i.op <= 10
 ·have hd := right_dest hr (.inl (by omega))
  obtain ⟨op, d, a, bb, imm⟩ := i
  simp only at c0 c1 ha hb hd
  refine (mdo_three op d a bb imm w h c1 hd ha hb rfl rfl rfl (doL_in op (h.wr.2 _ (by omega)) (srcV_in h.wr hb))).mono ?_
  rintro e w' ⟨rfl, hg, hm⟩
  exact ⟨rfl, fin hg hm (by unfold laysE; rw [if_neg c0, if_pos c1]; rfl)⟩
 by_cases c2 : i.op = 11
 ·have hd := right_dest hr (.inl (by omega))
  have hw1 := hw (.inl c2)
  obtain ⟨op, d, a, bb, imm⟩ := i
  simp only at c0 c1 c2 ha hb hd
  subst c2
  refine (mdo_load d a bb imm w h hd hb rfl hw1 hs rfl (hws.2 _ (by omega))).mono ?_
  rintro e w' ⟨rfl, hg, hm⟩
  exact ⟨rfl, fin hg hm rfl⟩
 by_cases c3 : i.op = 12
 ·have hw1 := hw (.inr c3)
  obtain ⟨op, d, a, bb, imm⟩ := i
  simp only at c3 ha hb
  subst c3
  refine (mdo_store d a bb imm w h ha hb rfl rfl hw1 hs hne rfl).mono ?_
  rintro e w' ⟨rfl, hg, hs'⟩
  exact ⟨rfl, Chg.of_grown hg (.inr rfl), (h.grown hg (fun e => hne (Option.some.inj e))).same rfl rfl rfl rfl rfl, hs'⟩
 by_cases c4 : i.op = 13
 ·have hd := right_dest hr (.inr (.inl c4))
  obtain ⟨op, d, a, bb, imm⟩ := i
  simp only at c4 ha hb hd
  subst c4
  refine (mdo_field d a bb imm w h hd rfl (by split <;> omega)).mono ?_
  rintro e w' ⟨rfl, hg, hm⟩
  exact ⟨rfl, fin hg hm rfl⟩
 by_cases c5 : i.op = 14
 ·have hd := right_dest hr (.inr (.inr c5))
  have hi := right_14E hr c5
  obtain ⟨op, d, a, bb, imm⟩ := i
  simp only at c5 ha hb hd hi
  subst c5
  refine (mdo_map d a bb imm w h hd hi).mono ?_
  rintro e w' ⟨rfl, hg, hm⟩
  exact ⟨rfl, fin hg hm rfl⟩
 ·have hl : laysE ev i M = (M.regs, M.ws) := by
   unfold laysE
   rw [if_neg c0, if_neg c1, if_neg c2, if_neg c3, if_neg c4, if_neg c5]
  rw [hl]
  have h15 : 15 <= i.op /\ i.op <= 20 := by omega
  obtain ⟨op, d, a, bb, imm⟩ := i
  simp only at h15 ha hb
  refine (mdo_none op d a bb imm w h h15 ha hb).mono ?_
  rintro e w' ⟨rfl, hbw⟩
  exact ⟨rfl, Chg.of_below hbw, h.below hbw h.hp.lt, hs.below hbw hs.lt⟩
def nextE (i : In) (M : Mc) : Int := if (i.leads && goesE i M) = true then (M.pc : Int) + i.far else (M.pc : Int) + 1
theorem mnext_all (i : In) (hr : i.right = true) (ho : i.op <= 20) (w : World) (h : Ma w b sb vm vc ev M) (ht : i.op = 20 -> 0 <= M.turn M.pc /\ M.turn M.pc <= 255) {p : Int} (HP : Hid (nextE i M = p)) :
  Calls Tryz.prog 44 #[.pointer (some ⟨b, 0, none⟩), instV i.op i.d i.a i.b i.imm] w fun e w' => e = .returned (.int .i64 p) /\ w.grownBy w' (some b) /\ Ma w' b sb vm vc ev { M with turn := turnE i M } := by
 obtain ⟨ha, hb⟩ := right_ab hr ho
 have h0 := qBj hr
 have HP2 : Hid ((if (i.leads && goesE i M) = true then (M.pc : Int) + i.far else (M.pc : Int) + 1) = p) := HP
 clear HP
 rcases qAx i with g | g | g | g
 ·rw [hr] at g; cases g.1
 ·obtain ⟨_, g1, g2, g3, g4, g5, g6, g7⟩ := g
  rw [g3, g4, Bool.true_and] at HP2
  have hu : turnE i M = M.turn := by unfold turnE; rw [if_neg (by omega)]
  rw [hu]
  by_cases c15 : i.op = 15
  ·have hg : goesE i M = true := by unfold goesE; rw [if_pos c15]
   rw [hg, if_pos rfl] at HP2
   obtain ⟨op, d, a, bb, imm⟩ := i
   simp only at c15 ha hb g6 g7 HP2
   subst c15
   refine (mnext_jump d a bb imm w h ⟨g6, g7⟩).mono ?_
   rintro e w' ⟨rfl, hbw⟩
   exact ⟨by rw [<- HP2.out]; congr 2; omega, qAu hbw _, h.below hbw h.hp.lt⟩
  ·have hg : goesE i M = holdL i.op (regV M.regs i.a) (srcV i M.regs) := by unfold goesE; rw [if_neg c15, if_neg (by omega)]
   rw [hg] at HP2
   obtain ⟨op, d, a, bb, imm⟩ := i
   simp only at c15 g1 g2 ha hb g6 g7 HP2
   refine (mnext_cond op d a bb imm w h (by simp; omega) (by simp; omega) ha hb (r := holdL op (regV M.regs a) (srcV ⟨op, d, a, bb, imm⟩ M.regs)) rfl (fun _ => ⟨g6, g7⟩) (p := p) (by show _ = _; rw [<- HP2.out]; split <;> omega)).mono ?_
   rintro e w' ⟨rfl, hbw⟩
   exact ⟨rfl, qAu hbw _, h.below hbw h.hp.lt⟩
 ·obtain ⟨_, g1, g2, g3, g4, g5, g6, g7, g8⟩ := g
  rw [g2, g3, Bool.true_and] at HP2
  have ht1 := ht g1
  obtain ⟨op, d, a, bb, imm⟩ := i
  simp only at g1 ha hb g5 g6 g7 g8 HP2
  subst g1
  refine (mnext_loop d a bb imm w h ⟨by omega, g6⟩ ha ⟨g7, g8⟩ ht1 (p := p) (by show _ = _; rw [<- HP2.out]; split <;> omega)).mono ?_
  rintro e w' ⟨rfl, hg, hm⟩
  exact ⟨rfl, hg, hm⟩
 ·obtain ⟨_, g1, g2, g3, g4⟩ := g
  rw [g3, Bool.false_and, if_neg (by simp)] at HP2
  have hu : turnE i M = M.turn := by unfold turnE; rw [if_neg (by omega)]
  rw [hu]
  obtain ⟨op, d, a, bb, imm⟩ := i
  simp only at g1 ha hb ho h0
  have hf : holdL op (regV M.regs a) (srcV ⟨op, d, a, bb, imm⟩ M.regs) = false := hold_none (by omega)
  refine (mnext_cond op d a bb imm w h (by simp; omega) (by simp; omega) ha hb (r := false) hf (fun h => by cases h) (p := p) (by show _ = _; rw [<- HP2.out]; rfl)).mono ?_
  rintro e w' ⟨rfl, hbw⟩
  exact ⟨rfl, qAu hbw _, h.below hbw h.hp.lt⟩
end
section
variable {b sb : Nat} {vm : Value} {ev : Int × Int} {M : Mc}
theorem Chg.drewE {w w' : World} {S : Nat -> Prop} (h : Chg w w' S) : Chg w w'.drew S := ⟨h.os, h.tape, h.output, h.size, h.block⟩
set_option maxHeartbeats 800000 in
theorem mstep_wait {vc : Value} (w : World) (h : Ma w b sb vm vc ev M) (hm : M.mode = 1) :
  Calls Tryz.prog 21 #[.pointer (some ⟨b, 0, none⟩)] w fun e w' => e = .returned (actV 5 M.pc 0 0 0 0 0) /\ Below w.heap.size w w' := by
 have hlt := h.hp.lt
 have c9 := h.last.2.2
 rw [hm] at c9
 obtain ⟨V, HV, HmV, HoV, hBV, hzV⟩ := boxO h
 go_enter Tryz.func21, Tryz.ntmps21
 go_wp2_with (go_at_call 40; rw [HV.out]; go_must (refine (mtold_any 5 0 V HmV.out).mono ?_); rintro e w6 ⟨rfl, hb6⟩; go_must (have HO6 := keepJ (HoV.out.below hb6 HoV.out.lt); (have o0 := HO6.out.cell (j := 0) rfl); (have o1 := HO6.out.cell (j := 1) rfl); (have o2 := HO6.out.cell (j := 2) rfl); (have o3 := HO6.out.cell (j := 3) rfl); (have o4 := HO6.out.cell (j := 4) rfl); (have o5 := HO6.out.cell (j := 5) rfl); (have o6 := HO6.out.cell (j := 6) rfl); (have q0 := HO6.out.frozen 0); (have q1 := HO6.out.frozen 1); (have q2 := HO6.out.frozen 2); (have q3 := HO6.out.frozen 3); (have q4 := HO6.out.frozen 4); (have q5 := HO6.out.frozen 5); (have q6 := HO6.out.frozen 6);  skip))
 have hO := HO6.out.sets (actC 5 M.pc 0 0 0 0 0) 0
 rw [qBa (actC 5 M.pc 0 0 0 0 0) (actC 0 0 0 0 0 0 0) rfl] at hO
 have hG := qAa w.heap.size (actC 5 M.pc 0 0 0 0 0) w6 0
 exact act_ret rfl rfl hO ⟨rfl, (hBV.trans (hb6.mono (by omega))).trans (qAc hG (Nat.le_refl _) (hBV.trans (hb6.mono (by omega))).size)⟩
set_option maxHeartbeats 800000 in
theorem mstep_over {cb co ccap : Nat} {xs : List In} (w : World) (h : Ma w b sb vm (.slice (some ⟨cb, co, none⟩) xs.length ccap) ev M) (hx : SeesI w (.slice (some ⟨cb, co, none⟩) xs.length ccap) xs) (hp : M.pc < xs.length) (hm : M.mode = 2) (ha : 0 <= (nth xs M.pc).a /\ (nth xs M.pc).a <= 7) {n : Int} (hn : Hid (regV M.regs (nth xs M.pc).a = n)) :
  Calls Tryz.prog 21 #[.pointer (some ⟨b, 0, none⟩)] w fun e w' => e = .returned (actV 6 M.pc 0 0 0 0 n) /\ Below w.heap.size w w' := by
 have hlt := h.hp.lt
 have c9 := h.last.2.2
 rw [hm] at c9
 obtain ⟨V, HV, HmV, HoV, hBV, hzV⟩ := boxO h
 have HXV := keepJ (hx.below hBV)
 clear hx
 go_enter Tryz.func21, Tryz.ntmps21
 go_wp2_with (first
  | (go_at_call 41; rw [HV.out]; go_must (refine (mresult_any V HmV.out HXV.out hp ha hn).mono ?_); rintro e w5 ⟨rfl, hb5⟩; go_must (have HM5 := keepJ (HmV.out.below hb5 HmV.out.hp.lt); have hz5 := hb5.size))
  | (go_at_call 40; go_must (refine (mtold_any 6 n w5 HM5.out).mono ?_); rintro e w6 ⟨rfl, hb6⟩; go_must (have HO6 := keepJ ((HoV.out.below hb5 HoV.out.lt).below hb6 (by omega)); (have o0 := HO6.out.cell (j := 0) rfl); (have o1 := HO6.out.cell (j := 1) rfl); (have o2 := HO6.out.cell (j := 2) rfl); (have o3 := HO6.out.cell (j := 3) rfl); (have o4 := HO6.out.cell (j := 4) rfl); (have o5 := HO6.out.cell (j := 5) rfl); (have o6 := HO6.out.cell (j := 6) rfl); (have q0 := HO6.out.frozen 0); (have q1 := HO6.out.frozen 1); (have q2 := HO6.out.frozen 2); (have q3 := HO6.out.frozen 3); (have q4 := HO6.out.frozen 4); (have q5 := HO6.out.frozen 5); (have q6 := HO6.out.frozen 6);  skip)))
 have hO := HO6.out.sets (actC 6 M.pc 0 0 0 0 n) 0
 rw [qBa (actC 6 M.pc 0 0 0 0 n) (actC 0 0 0 0 0 0 0) rfl] at hO
 have hG := qAa w.heap.size (actC 6 M.pc 0 0 0 0 n) w6 0
 have hB6 := (hBV.trans (hb5.mono (by omega))).trans (hb6.mono (show w.heap.size <= w5.heap.size by omega))
 exact act_ret rfl rfl hO ⟨rfl, hB6.trans (qAc hG (Nat.le_refl _) hB6.size)⟩
end
end Go.Proofs.YtbmjanejecfjmaaGreat
