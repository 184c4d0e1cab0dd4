/-
  Y23LC
  Y23LE
  W23Aw
-/
import Derived.Test.YtkcppeahdfboeaaGreatMF0
import Derived.Test.YtkcppeahdfboeaaGreatMF48
import Derived.Test.YtkcppeahdfboeaaGreatMF47
namespace Go.Proofs.YtkcppeahdfboeaaGreat
open Go.RowKit
set_option linter.unusedVariables false
set_option linter.unusedSimpArgs false
set_option maxRecDepth 100000
section
variable {w w' : World} {b sb tb : Nat} {mp mp' : Option Addr} {F FM FM' G : Ft} {k k' : Wk}
set_option maxHeartbeats 6400000 in
theorem Lw.enter (h : Lw w b sb tb mp FM k) (hk : k.Ok) (v p : Int) {vm vc : Value} {ms : List Int} {xs : List In} (hm : SeesM w vm vc ms xs) (ha1 : ms ≠ [] -> Apt (ftW b sb tb FM) (ftV vm)) (ha2 : xs ≠ [] -> Apt (ftW b sb tb FM) (ftV vc)) {E : Int} (HQ : Hid (k.enter v p ms xs = (E, k'))) : Calls Tryz.prog 11 #[.pointer (some ⟨b, 0, none⟩), .int .i64 v, .int .i64 p, modV vm vc] w fun e w' => e = .returned (.int .i64 E) /\ Dw w w' b sb tb FM k' := by
 obtain ⟨W, HW, HP, hB⟩ : ∃ W, Hid (w.alloc (.cells #[vm, vc] 32) = W) /\ Hid (Hp W w.heap.size 32 [vm, vc]) /\ Below w.heap.size w W := ⟨_, rfl, Hp.new w _ _, below_allocG _ _⟩
 have HL := keepG (h.below hB)
 have HH := keepG h
 have HKO := keepG hk
 have HSM := keepG hm
 obtain ⟨ma, mc, e1⟩ : ∃ a c, vm = .slice a ms.length c := by obtain ⟨a, c, e, _⟩ := hm.maps; exact ⟨a, c, e⟩
 obtain ⟨ca, cc, e2⟩ : ∃ a c, vc = .slice a xs.length c := by obtain ⟨a, c, e, _⟩ := hm.code; exact ⟨a, c, e⟩
 subst e1 e2
 have q0 := HP.out.cell (j := 0) rfl
 have q1 := HP.out.cell (j := 1) rfl
 obtain ⟨⟨c0, -, c2, -, -, c5, c6, -⟩, -⟩ := wk_cells HL.out.hp
 have hq := HQ.out
 unfold Wk.enter at hq
 clear h hk hm HQ
 by_cases h1 : k.md = 1
 ·rw [if_neg (by omega)] at hq
  rw [h1] at c2
  have H1 := keepG h1
  obtain ⟨P, E', HJ⟩ : ∃ P E', Hid (judgeR ms xs = (P, E')) := ⟨_, _, rfl⟩
  rw [HJ.out] at hq
  simp only at hq
  have HSMD := keepG ((HSM.out.below hB).below (below_drG (Below.refl _ _)))
  have HLD := keepG (HL.out.below (below_drG (Below.refl _ _)))
  clear h1
  go_enter Tryz.func11, Tryz.ntmps11
  go_wp2_with (rw [HW.out])
  refine wp_region_held_drew (S := fun w' => w'.cell? ⟨w.heap.size, 0, none⟩ = some (.slice ma ms.length mc) /\ w'.cell? ⟨w.heap.size, 1, none⟩ = some (.slice ca xs.length cc) /\ w'.cell? ⟨b, 5, none⟩ = some (.int .u64 k.ev.1) /\ w'.cell? ⟨b, 6, none⟩ = some (.int .u64 k.ev.2) /\ w'.cell? ⟨b, 0, none⟩ = some (.pointer (some ⟨sb, 0, none⟩))) (by kernel_rfl) ⟨q0, q1, c5, c6, c0⟩ (fun hHeld => ?_)
  refine tkGo [0, 1, 2, 3, 4, 5, 6, 7, 8, 9, 10] ?_
  repeat (refine tkO (v := ?_) rfl ?_ ?_; rotate_left; (intro wy hSw; (try dsimp only at hSw); go_simp; (first | done | with_reducible rfl)); try simp only [Act.put, p1q, p2q, p3q, p4q, p5q, p6q])
  refine tkEnd ?_
  refine runO 11 (by kernel_rfl) rfl (by rfl) (fun KK hK => ?_)
  go_simp
  go_at_call 23
  by_cases hE : E' = 0
  ·subst hE
   rw [if_neg (by omega)] at hq
   obtain ⟨rfl, rfl⟩ := Prod.mk.inj hq
   obtain ⟨K, hi⟩ : ∃ K, inqR ms xs = .ok K := by
    cases hi : inqR ms xs with
    | ok K => exact ⟨K, rfl⟩
    | error e =>
     obtain ⟨P, E⟩ := e
     have hE : E ≠ 0 := inq_errorE hi (fun e h => (run_errorE (p := e.1) (E := e.2) h).2)
     have hj := HJ.out
     unfold judgeR at hj
     rw [hi] at hj
     exact absurd (Prod.mk.inj hj).2 hE
   obtain ⟨hmj, ⟨known, hK, -⟩, hj0⟩ := judge_known hi
   have hml := maps_len hmj
   have hx0 := hK.T.pos
   have hx64 := hK.T.top
   obtain ⟨cb, co, ccap, ev, hcl⟩ := code_shape HSM.out.code hx0
   injection ev with ev1 ev2 ev3
   subst ev1 ev3
   refine (mnew_ok k.ev sb W.drew HSMD.out.maps HSMD.out.code HLD.out.sc hj0 (by omega) ?_ ?_ ⟨hx0, hx64⟩).mono ?_
   ·by_cases hms : ms = []
    ·exact .inl hms
    ·exact .inr fun e => ha1 hms sb (.inr (.inl rfl)) e
   ·exact fun e => ha2 (fun e => by rw [e] at hx0; exact absurd hx0 (by simp)) sb (.inr (.inl rfl)) (by rw [<- e]; rfl)
   rintro e w3 ⟨b', cb', ccap', um, rfl, hb', hmh, hc3, hcb', hum⟩
   have hb3 : Chg W w3 (fun j => j = sb) := ⟨hc3.os, hc3.tape, hc3.output, hc3.size, hc3.block⟩
   have hb' : W.heap.size <= b' := hb'
   have hcb' : W.heap.size <= cb' := hcb'
   have hum : ms = [] ∨ ∀ j, um.ownBlock = some j -> W.heap.size <= j := hum
   have hap := HL.out.ap
   have hne := HL.out.ne
   have hltb := HL.out.hp.lt
   have hlts := HL.out.sc.lt
   have hltt := Hp.lt HL.out.st
   have HPW := keepG (HL.out.hp.chg hb3 hne.1)
   have HTW := keepG (Hp.chg HL.out.st hb3 (fun e => hne.2.2 e.symm))
   have HP3 := keepG (HP.out.chg hb3 (fun e => by have := HP.out.lt; have := HH.out.sc.lt; omega))
   have HMH := keepG hmh
   have HC3 := keepG hb3
   clear hc3 hmh hb3
   go_simp
   refine hK.out _ _ (let g := (wk_cells HPW.out).1; ⟨HP3.out.cell rfl, HP3.out.cell rfl, g.2.2.2.2.2.1, g.2.2.2.2.2.2.1, g.1⟩) (fun hHeld => ?_)
   clear hK KK
   try simp only [Act.put, p1q, p2q, p3q, p4q, p5q, p6q]
   refine tkGo [12, 13, 14, 15, 16] ?_
   repeat (refine tkO (v := ?_) rfl ?_ ?_; rotate_left; (intro wy hSw; (try dsimp only at hSw); go_simp; (first | done | with_reducible rfl)); try simp only [Act.put, p1q, p2q, p3q, p4q, p5q, p6q])
   refine tkEnd ?_
   refine wpAnyH_done (by kernel_rfl) ?_ _
   obtain ⟨⟨-, -, c2, c3, c4, c5, c6, c7, c8, c9, c10⟩, f2, f3, f4, f5, f6, f7, f8, f9, f10⟩ := wk_cells HPW.out
   go_wp2
   go_ret
   obtain ⟨X, HX, HCX, HPX⟩ : ∃ X, Hid ((((w3.setCell ⟨b, 2, none⟩ (.int .i64 2)).setCell ⟨b, 9, none⟩ (.pointer (some ⟨b', 0, none⟩))).setCell ⟨b, 7, none⟩ (.int .i64 v)).setCell ⟨b, 8, none⟩ (.int .i64 p) = X) /\ Hid (Chg w3 X (fun j => j = b)) /\ Hid (Hp X b 50 (wkC sb tb 2 k.hk k.qn k.ev.1 k.ev.2 v p (some ⟨b', 0, none⟩) k.cl)) := ⟨_, rfl, (((Chg.set _ _ _ _).trans (Chg.set _ _ _ _) (fun _ _ e => e)).trans (Chg.set _ _ _ _) (fun _ _ e => e)).trans (Chg.set _ _ _ _) (fun _ _ e => e), (((HPW.out.set 2 (.int .i64 2)).set 9 (.pointer (some ⟨b', 0, none⟩))).set 7 (.int .i64 v)).set 8 (.int .i64 p)⟩
   rw [HX.out]
   refine ⟨rfl, Dw.pre hB ⟨some ⟨b', 0, none⟩, fun j => j = b' ∨ j = cb' ∨ (ms ≠ [] /\ um.ownBlock = some j), ⟨?_, ?_, ?_, hne, ?_, ?_, ?_⟩, ?_, ?_⟩⟩
   ·have hcl : k.cl = 0 := by
     obtain ⟨-, g, -⟩ | ⟨g, -⟩ := HH.out.ma
     ·exact g
     ·have := H1.out; omega
    have := HPX.out
    rw [hcl] at this
    exact this
   ·exact HMH.out.sc.chg HCX.out (fun e => hne.1 e.symm)
   ·exact Hp.chg HTW.out HCX.out (fun e => hne.2.1 e.symm)
   ·have key : ∀ j, j < W.heap.size -> ¬ (j = b' ∨ j = cb' ∨ (ms ≠ [] /\ um.ownBlock = some j)) := fun j hj e => by
     rcases e with e | e | ⟨e1, e2⟩
     ·omega
     ·omega
     ·have := hum.resolve_left e1 j e2
      omega
    exact ⟨key b hltb, key sb hlts, key tb hltt⟩
   ·intro j e
    have hz := HCX.out.size
    rcases e with e | e | ⟨e1, e2⟩
    ·have := HMH.out.ma.hp.lt; omega
    ·have := (codeL HMH.out.code hx0).2.1; omega
    ·have := (sees_ltE HMH.out.maps e2).resolve_left e1; omega
   ·exact .inr ⟨Nat.le_refl 2, b', um, cb', 0, ccap', rfl, HMH.out.apart HCX.out (fun e => by omega) (fun e => hne.1 e.symm) (fun e => by omega) (hum.imp id fun g j hj e => by have := g j hj; omega), rfl⟩
   ·exact (HC3.out.mono (fun j e => .inr (.inl e))).trans HCX.out (fun j _ e => .inl e)
   ·intro j e
    refine .inr ?_
    rcases e with e | e | ⟨e1, e2⟩
    ·omega
    ·omega
    ·exact hum.resolve_left e1 j e2
  ·rw [if_pos hE] at hq
   obtain ⟨rfl, rfl⟩ := Prod.mk.inj hq
   have hEb : (E' == 0) = false := by simpa using hE
   refine (mnew_bad k.ev sb W.drew HSMD.out.maps HSMD.out.code HJ hE).mono ?_
   rintro e w3 ⟨rfl, hb3⟩
   have hb3 : Below W.heap.size W w3 := below_undrew hb3
   have HL3 := keepG (HL.out.below hb3)
   have HP3 := keepG (HP.out.below hb3 HP.out.lt)
   have HB3 := keepG hb3
   go_simp
   refine hK.out _ _ (let g := (wk_cells HL3.out.hp).1; ⟨HP3.out.cell rfl, HP3.out.cell rfl, g.2.2.2.2.2.1, g.2.2.2.2.2.2.1, g.1⟩) (fun hHeld => ?_)
   clear hK KK
   try simp only [Act.put, p1q, p2q, p3q, p4q, p5q, p6q]
   refine tkGo [12, 13, 14, 15, 16] ?_
   repeat (refine tkO (v := ?_) rfl ?_ ?_; rotate_left; (intro wy hSw; (try dsimp only at hSw); go_simp; (first | done | with_reducible rfl)); try simp only [Act.put, p1q, p2q, p3q, p4q, p5q, p6q])
   refine tkEnd ?_
   refine wpAnyH_done (by kernel_rfl) ?_ _
   go_wp2
   go_ret
   exact ⟨rfl, Dw.pre hB (Dw.same HL.out HB3.out)⟩
 ·rw [if_pos h1] at hq
  obtain ⟨rfl, rfl⟩ := Prod.mk.inj hq
  have h1I : ¬ (k.md : Int) = 1 := by omega
  have h1b : ((k.md : Int) == 1) = false := by simpa using h1I
  clear hq
  go_enter Tryz.func11, Tryz.ntmps11
  go_wp2_with (rw [HW.out])
  go_ret
  exact ⟨rfl, Dw.same HH.out hB⟩
end
def Lk (w : World) (B b : Nat) (F : Ft) (k : Wk) : Prop := ∃ sb tb mp FM, Lw w b sb tb mp FM k /\ F = ftW b sb tb FM
section
variable {w w' : World} {B b : Nat} {F F' G : Ft} {k k' : Wk}
theorem Lk.lies (h : Lk w B b F k) : Lies w F := by
 obtain ⟨sb, tb, mp, FM, h, rfl⟩ := h
 exact h.lies
theorem Lk.keeps (h : Lk w B b F k) (hc : Chg w w' G) (ha : Apt G F) : Lk w' B b F k := by
 obtain ⟨sb, tb, mp, FM, h, rfl⟩ := h
 exact ⟨sb, tb, mp, FM, h.keep hc ha, rfl⟩
theorem lknew (w : World) : Calls Tryz.prog 6 #[] w fun e w' => ∃ b F, e = .returned (.pointer (some ⟨b, 0, none⟩)) /\ Lk w' w.heap.size b F Wk.new /\ Since w F /\ Below w.heap.size w w' := by
 refine (lwnew w).mono ?_
 rintro e w' ⟨b, sb, tb, rfl, h, ⟨g1, g2, g3⟩, hb⟩
 refine ⟨b, _, rfl, ⟨sb, tb, _, _, h, rfl⟩, fun j hj => ?_, hb⟩
 rcases hj with rfl | rfl | rfl | hj
 ·exact g1
 ·exact g2
 ·exact g3
 ·exact hj.elim
theorem Dw.obj {sb tb : Nat} {FM : Ft} (h : Dw w w' b sb tb FM k') : ∃ F', Lk w' B b F' k' /\ Nx w w' (ftW b sb tb FM) F' := by
 obtain ⟨mp', FM', h1, h2, h3⟩ := h
 refine ⟨_, ⟨sb, tb, mp', FM', h1, rfl⟩, h2, fun j hj => ?_⟩
 rcases hj with hj | hj | hj | hj
 ·exact .inl (.inl hj)
 ·exact .inl (.inr (.inl hj))
 ·exact .inl (.inr (.inr (.inl hj)))
 ·exact (h3 j hj).imp (fun e => .inr (.inr (.inr e))) id
theorem Lk.take (h : Lk w B b F k) (hk : k.Ok) (hB : B <= w.heap.size) (x n : Int) (ev : Int × Int) {E : Int} (HQ : Hid (k.take x n ev = (E, k'))) : Calls Tryz.prog 8 #[.pointer (some ⟨b, 0, none⟩), .int .i64 x, qdV n ev] w fun e w' => e = .returned (.int .i64 E) /\ ∃ F', Lk w' B b F' k' /\ Nx w w' F F' := by
 obtain ⟨sb, tb, mp, FM, h, rfl⟩ := h
 exact (h.take x n ev HQ).mono fun e w' g => ⟨g.1, g.2.obj⟩
theorem Lk.enter (h : Lk w B b F k) (hk : k.Ok) (hB : B <= w.heap.size) (v p : Int) {vm vc : Value} {ms : List Int} {xs : List In} (hm : SeesM w vm vc ms xs) (ha1 : ms ≠ [] -> Apt F (ftV vm)) (ha2 : xs ≠ [] -> Apt F (ftV vc)) {E : Int} (HQ : Hid (k.enter v p ms xs = (E, k'))) : Calls Tryz.prog 11 #[.pointer (some ⟨b, 0, none⟩), .int .i64 v, .int .i64 p, modV vm vc] w fun e w' => e = .returned (.int .i64 E) /\ ∃ F', Lk w' B b F' k' /\ Nx w w' F F' := by
 obtain ⟨sb, tb, mp, FM, h, rfl⟩ := h
 exact (h.enter hk v p hm ha1 ha2 HQ).mono fun e w' g => ⟨g.1, g.2.obj⟩
theorem Lk.skip (h : Lk w B b F k) (hk : k.Ok) (hB : B <= w.heap.size) {E : Int} (HQ : Hid (k.skip = (E, k'))) : Calls Tryz.prog 13 #[.pointer (some ⟨b, 0, none⟩)] w fun e w' => e = .returned (.int .i64 E) /\ ∃ F', Lk w' B b F' k' /\ Nx w w' F F' := by
 obtain ⟨sb, tb, mp, FM, h, rfl⟩ := h
 exact (h.skip hk HQ).mono fun e w' g => ⟨g.1, g.2.obj⟩
theorem Lk.step (h : Lk w B b F k) (hk : k.Ok) (hB : B <= w.heap.size) {a : Ac} {r : Bool} (HQ : Hid (k.step = (a, r, k'))) : Calls Tryz.prog 16 #[.pointer (some ⟨b, 0, none⟩)] w fun e w' => e = .returned (.tuple #[acV a, .bool r]) /\ ∃ F', Lk w' B b F' k' /\ Nx w w' F F' := by
 obtain ⟨sb, tb, mp, FM, h, rfl⟩ := h
 exact (h.step hk HQ).mono fun e w' g => ⟨g.1, g.2.obj⟩
theorem Lk.answer (h : Lk w B b F k) (hk : k.Ok) (hB : B <= w.heap.size) (r : Rs) (hr : r.wf) {E : Int} (HQ : Hid (k.answer r.E r.f r.v = (E, k'))) : Calls Tryz.prog 17 #[.pointer (some ⟨b, 0, none⟩), resV r.E r.f r.v r.o r.k r.u] w fun e w' => e = .returned (.int .i64 E) /\ ∃ F', Lk w' B b F' k' /\ Nx w w' F F' := by
 obtain ⟨sb, tb, mp, FM, h, rfl⟩ := h
 exact (h.answer hk r hr HQ).mono fun e w' g => ⟨g.1, g.2.obj⟩
theorem Lk.mode (h : Lk w B b F k) : Calls Tryz.prog 12 #[.pointer (some ⟨b, 0, none⟩)] w fun e w' => e = .returned (.int .i64 k.md) /\ Below w.heap.size w w' := by
 obtain ⟨sb, tb, mp, FM, h, rfl⟩ := h
 exact h.mode
theorem Lk.has (h : Lk w B b F k) : Calls Tryz.prog 18 #[.pointer (some ⟨b, 0, none⟩)] w fun e w' => e = .returned (.tuple #[.int .i64 k.hk, qdV k.qn k.ev]) /\ Below w.heap.size w w' := by
 obtain ⟨sb, tb, mp, FM, h, rfl⟩ := h
 exact h.has
theorem Lk.runs (h : Lk w B b F k) : Calls Tryz.prog 15 #[.pointer (some ⟨b, 0, none⟩)] w fun e w' => e = .returned (.tuple #[.int .i64 k.ve, .int .i64 k.pg]) /\ Below w.heap.size w w' := by
 obtain ⟨sb, tb, mp, FM, h, rfl⟩ := h
 exact h.runs
theorem Lk.stat (h : Lk w B b F k) : ∃ tb, w.cell? ⟨b, 1, none⟩ = some (.pointer (some ⟨tb, 0, none⟩)) /\ ∀ (x : Int) (E : Int) (T : Ta), Hid ((if isH x = true then (ofL x k.td, (0 : Int)) else (Ta.nil, 2)) = (T, E)) -> Calls Tryz.prog 7 #[.pointer (some ⟨tb, 0, none⟩), .int .i64 x] w fun e w' => e = .returned (.tuple #[taV T, .int .i64 E]) /\ Below w.heap.size w w' := by
 obtain ⟨sb, tb, mp, FM, h, rfl⟩ := h
 exact ⟨tb, h.hp.cell rfl, fun x E T HQ => h.st.of x HQ⟩
end
structure Lz (w0 w : World) (b : Nat) (F : Ft) (k : Wk) : Prop where
 ex : ∃ B, B <= w.heap.size /\ Lk w B b F k
 since : Since w0 F
 ok : k.Ok
 be : Below w0.heap.size w0 w
section
variable {w0 w w' : World} {b : Nat} {F F' G : Ft} {k k' : Wk}
theorem Lz.lies (h : Lz w0 w b F k) : Lies w F := by
 obtain ⟨B, _, h1⟩ := h.ex
 exact h1.lies
theorem Lz.keeps (h : Lz w0 w b F k) (hc : Chg w w' G) (ha : Apt G F) (hs : Since w0 G) : Lz w0 w' b F k := by
 obtain ⟨B, h0, h1⟩ := h.ex
 exact ⟨⟨B, Nat.le_trans h0 hc.size, h1.keeps hc ha⟩, h.since, h.ok, h.be.trans (hc.below (fun k e => hs k e) h.be.size)⟩
theorem Lz.below (h : Lz w0 w b F k) (hb : Below w.heap.size w w') : Lz w0 w' b F k := h.keeps (Chg.of_below (S := fun _ => False) hb) (fun _ e => e.elim) (fun _ e => e.elim)
theorem Lz.go (h : Lz w0 w b F k) (hx : ∃ B, B <= w.heap.size /\ Lk w' B b F' k') (hk : k'.Ok) (hn : Nx w w' F F') : Lz w0 w' b F' k' := by
 obtain ⟨B, h0, h1⟩ := hx
 exact ⟨⟨B, Nat.le_trans h0 hn.chg.size, h1⟩, h.since.next h.be.size hn, hk, h.since.be h.be hn⟩
theorem lznew (w : World) : Calls Tryz.prog 6 #[] w fun e w' => ∃ b F, e = .returned (.pointer (some ⟨b, 0, none⟩)) /\ Lz w w' b F Wk.new /\ Since w F := by
 refine (lknew w).mono ?_
 rintro e w' ⟨b, F, rfl, h, hs, hb⟩
 exact ⟨b, F, rfl, ⟨⟨_, hb.size, h⟩, hs, Wk.Ok.new, hb⟩, hs⟩
theorem Lz.take (h : Lz w0 w b F k) (x n : Int) (ev : Int × Int) (he : evIn ev) {E : Int} (HQ : Hid (k.take x n ev = (E, k'))) : Calls Tryz.prog 8 #[.pointer (some ⟨b, 0, none⟩), .int .i64 x, qdV n ev] w fun e w' => e = .returned (.int .i64 E) /\ ∃ F', Lz w0 w' b F' k' /\ Nx w w' F F' := by
 obtain ⟨B, h0, h1⟩ := h.ex
 refine (h1.take h.ok h0 x n ev HQ).mono ?_
 rintro e w' ⟨rfl, F', h2, hn⟩
 exact ⟨rfl, F', h.go ⟨B, h0, h2⟩ (h.ok.take he HQ.out) hn, hn⟩
theorem Lz.enter (h : Lz w0 w b F k) (v p : Int) {vm vc : Value} {ms : List Int} {xs : List In} (hm : SeesM w vm vc ms xs) (ha1 : ms ≠ [] -> Apt F (ftV vm)) (ha2 : xs ≠ [] -> Apt F (ftV vc)) {E : Int} (HQ : Hid (k.enter v p ms xs = (E, k'))) : Calls Tryz.prog 11 #[.pointer (some ⟨b, 0, none⟩), .int .i64 v, .int .i64 p, modV vm vc] w fun e w' => e = .returned (.int .i64 E) /\ ∃ F', Lz w0 w' b F' k' /\ Nx w w' F F' := by
 obtain ⟨B, h0, h1⟩ := h.ex
 refine (h1.enter h.ok h0 v p hm ha1 ha2 HQ).mono ?_
 rintro e w' ⟨rfl, F', h2, hn⟩
 refine ⟨rfl, F', h.go ⟨B, h0, h2⟩ (h.ok.enter (fun hj => ?_) HQ.out) hn, hn⟩
 cases hi : inqR ms xs with
 | ok K => obtain ⟨_, ⟨known, hK, _⟩, _⟩ := judge_known hi; exact ⟨known, hK⟩
 | error e =>
  obtain ⟨P, E⟩ := e
  have hE : E ≠ 0 := inq_errorE hi (fun e h => (run_errorE (p := e.1) (E := e.2) h).2)
  unfold judgeR at hj
  rw [hi] at hj
  exact absurd hj hE
theorem Lz.skip (h : Lz w0 w b F k) {E : Int} (HQ : Hid (k.skip = (E, k'))) : Calls Tryz.prog 13 #[.pointer (some ⟨b, 0, none⟩)] w fun e w' => e = .returned (.int .i64 E) /\ ∃ F', Lz w0 w' b F' k' /\ Nx w w' F F' := by
 obtain ⟨B, h0, h1⟩ := h.ex
 refine (h1.skip h.ok h0 HQ).mono ?_
 rintro e w' ⟨rfl, F', h2, hn⟩
 exact ⟨rfl, F', h.go ⟨B, h0, h2⟩ (h.ok.skip HQ.out) hn, hn⟩
theorem Lz.step (h : Lz w0 w b F k) {a : Ac} {r : Bool} (HQ : Hid (k.step = (a, r, k'))) : Calls Tryz.prog 16 #[.pointer (some ⟨b, 0, none⟩)] w fun e w' => e = .returned (.tuple #[acV a, .bool r]) /\ ∃ F', Lz w0 w' b F' k' /\ Nx w w' F F' := by
 obtain ⟨B, h0, h1⟩ := h.ex
 refine (h1.step h.ok h0 HQ).mono ?_
 rintro e w' ⟨rfl, F', h2, hn⟩
 exact ⟨rfl, F', h.go ⟨B, h0, h2⟩ (h.ok.step HQ.out) hn, hn⟩
theorem Lz.answer (h : Lz w0 w b F k) (r : Rs) (hr : r.wf) (hv : 0 <= r.v /\ r.v <= 18446744073709551615) {E : Int} (HQ : Hid (k.answer r.E r.f r.v = (E, k'))) : Calls Tryz.prog 17 #[.pointer (some ⟨b, 0, none⟩), resV r.E r.f r.v r.o r.k r.u] w fun e w' => e = .returned (.int .i64 E) /\ ∃ F', Lz w0 w' b F' k' /\ Nx w w' F F' := by
 obtain ⟨B, h0, h1⟩ := h.ex
 refine (h1.answer h.ok h0 r hr HQ).mono ?_
 rintro e w' ⟨rfl, F', h2, hn⟩
 exact ⟨rfl, F', h.go ⟨B, h0, h2⟩ (h.ok.answer hv HQ.out) hn, hn⟩
theorem Lz.mode (h : Lz w0 w b F k) : Calls Tryz.prog 12 #[.pointer (some ⟨b, 0, none⟩)] w fun e w' => e = .returned (.int .i64 k.md) /\ Below w.heap.size w w' := by
 obtain ⟨B, h0, h1⟩ := h.ex
 exact h1.mode
theorem Lz.has (h : Lz w0 w b F k) : Calls Tryz.prog 18 #[.pointer (some ⟨b, 0, none⟩)] w fun e w' => e = .returned (.tuple #[.int .i64 k.hk, qdV k.qn k.ev]) /\ Below w.heap.size w w' := by
 obtain ⟨B, h0, h1⟩ := h.ex
 exact h1.has
theorem Lz.runs (h : Lz w0 w b F k) : Calls Tryz.prog 15 #[.pointer (some ⟨b, 0, none⟩)] w fun e w' => e = .returned (.tuple #[.int .i64 k.ve, .int .i64 k.pg]) /\ Below w.heap.size w w' := by
 obtain ⟨B, h0, h1⟩ := h.ex
 exact h1.runs
end
def awX : List In := [⟨13, 0, 0, 0, 0⟩, ⟨22, 0, 0, 0, 0⟩]
def awK1 : Wk := ⟨1, 1, 4, (5, 0), 0, 0, 0, [], [], startE, []⟩
def awK2 : Wk := ⟨2, 1, 4, (5, 0), 3, 7, 0, [], awX, { startE with cs := startE.cs }, []⟩
theorem aw_take : Wk.new.take 1 4 (5, 0) = (0, awK1) := rfl
theorem aw_judge : (judgeR [] awX).2 = 0 := by decide +kernel
theorem aw_enter : awK1.enter 3 7 [] awX = (0, awK2) := by
 unfold Wk.enter
 rw [if_neg (by decide), if_neg (by rw [aw_judge]; decide)]
 rfl
theorem aw_step : ∃ k3 a, awK2.step = (a, true, k3) /\ ∃ k4, k3.step = (⟨4, 1, 0, 0, 0, 0, 5⟩, true, k4) /\ k4.md = 0 /\ k4.td = [⟨1, false, 2, 0, 5⟩] := ⟨_, _, rfl, _, rfl, rfl, rfl⟩
theorem aw_of : (if isH 1 = true then (ofL 1 [⟨1, false, 2, 0, 5⟩], (0 : Int)) else (Ta.nil, 2)) = (⟨1, 0, 2, 0, 5⟩, 0) := by kernel_rfl
theorem sees_none23 (w : World) : Sees .i64 w (.slice none 0 0) [] := ⟨none, 0, rfl, Nat.le_refl _, by unfold maxLen; omega, fun _ => rfl, fun x hx => (by cases hx), fun h => absurd rfl h⟩
theorem aw_wf : ∀ i ∈ awX, i.wf := by
 intro i hi
 simp only [awX, List.mem_cons, List.not_mem_nil, or_false] at hi
 rcases hi with rfl | rfl <;> exact ⟨rfl, rfl, rfl, rfl, rfl⟩
set_option maxHeartbeats 6400000 in
theorem awake23_any (w : World) : Calls Tryz.prog 5 #[] w fun e w' => e = .returned (.bool true) /\ Below w.heap.size w w' := by
 obtain ⟨k3, a3, h3, k4, h4, hm4, ht4⟩ := aw_step
 have HK1 : Hid (Wk.new.take 1 4 (5, 0) = (0, awK1)) := aw_take
 have HK2 : Hid (awK1.enter 3 7 [] awX = (0, awK2)) := aw_enter
 have HK3 : Hid (awK2.step = (a3, true, k3)) := h3
 have HK4 : Hid (k3.step = (⟨4, 1, 0, 0, 0, 0, 5⟩, true, k4)) := h4
 have HM1 : Hid (((awK1.md : Nat) : Int) = 1) := rfl
 have HM4 : Hid (((k4.md : Nat) : Int) = 0) := by show _ = _; rw [hm4]; rfl
 have HOF : Hid ((if isH 1 = true then (ofL 1 k4.td, (0 : Int)) else (Ta.nil, 2)) = (⟨1, 0, 2, 0, 5⟩, 0)) := by show _ = _; rw [ht4]; exact aw_of
 have K1 : Hid True := trivial
 have K2 : Hid True := trivial
 clear h3 h4 hm4 ht4
 go_enter Tryz.func5, Tryz.ntmps5
 go_wp2_with (first
  | (go_at_call 6; go_must (refine (lznew w).mono ?_); rintro e w1 ⟨b, F1, rfl, hL1, -⟩; go_must (have HL1 := keepG hL1; clear hL1))
  | (go_at_call 8; go_must (refine (HL1.out.take 1 4 (5, 0) (by unfold evIn; decide) HK1).mono ?_); rintro e w2 ⟨rfl, F2, hL2, -⟩; go_must (have HL2 := keepG hL2; clear hL2 HL1))
  | (go_at_call 12; (have hq := K1; clear hq); go_must (refine HL2.out.mode.mono ?_); rintro e w3 ⟨rfl, hb3⟩; go_must (have HL3 := keepG (HL2.out.below hb3); clear hb3 K1; rw [HM1.out]; obtain ⟨W4, HW4, HS4, hb4⟩ : ∃ W4, Hid (w3.alloc (.cells #[.int .i64 13, .int .i64 0, .int .i64 0, .int .i64 0, .int .i64 0, .int .i64 22, .int .i64 0, .int .i64 0, .int .i64 0, .int .i64 0] 60) = W4) /\ Hid (SeesM W4 (.slice none 0 0) (.slice (some ⟨w3.heap.size, 0, none⟩) 2 2) [] awX) /\ Below w3.heap.size w3 W4 := ⟨_, rfl, ⟨sees_none23 _, seesI_lit w3 _ awX _ 2 _ rfl rfl rfl (by decide), aw_wf⟩, below_allocG _ _⟩; have HL4 := keepG (HL3.out.below hb4); have HAP : Hid (Apt F2 (ftV (.slice (some ⟨w3.heap.size, 0, none⟩) 2 2))) := (fun j e1 e2 => by (have h1 := HL3.out.lies j e1; have h2 : w3.heap.size = j := Option.some.inj e2; omega)); clear hb4))
  | (go_at_call 11; rw [HW4.out]; go_must (refine (HL4.out.enter 3 7 HS4.out (fun h => absurd rfl h) (fun _ => HAP.out) HK2).mono ?_); rintro e w5 ⟨rfl, F5, hL5, -⟩; go_must (have HL5 := keepG hL5; clear hL5))
  | (go_at_call 16; (have hq := K2; clear hq); go_must (refine (HL5.out.step HK3).mono ?_); rintro e w6 ⟨rfl, F6, hL6, -⟩; go_must (have HL6 := keepG hL6; clear hL6 K2))
  | (go_at_call 16; go_must (refine (HL6.out.step HK4).mono ?_); rintro e w7 ⟨rfl, F7, hL7, -⟩; go_must (have HL7 := keepG hL7; clear hL7; dsimp only [acV, actV]; obtain ⟨W8, HW8, HA8, hb8⟩ : ∃ W8, Hid (w7.alloc (.cells #[.int .i64 4, .int .i64 1, .int .i64 0, .int .i64 0, .int .u64 0, .int .u64 0, .int .u64 5] 71) = W8) /\ Hid (Hp W8 w7.heap.size 71 [.int .i64 4, .int .i64 1, .int .i64 0, .int .i64 0, .int .u64 0, .int .u64 0, .int .u64 5]) /\ Below w7.heap.size w7 W8 := ⟨_, rfl, Hp.new w7 _ _, below_allocG _ _⟩; have HL8 := keepG (HL7.out.below hb8); clear hb8; obtain ⟨B8, -, h8⟩ := HL8.out.ex; obtain ⟨tb, c1, hof⟩ := h8.stat; have HC8 := keepG (hof 1 _ _ HOF); clear h8 hof))
  | (rw [HW8.out])
  | (go_at_call 7; go_must (refine HC8.out.mono ?_); rintro e w9 ⟨rfl, hb9⟩; go_must (have HL9 := keepG (HL8.out.below hb9); have HA9 := keepG (HA8.out.below hb9 HA8.out.lt); clear hb9 c1; dsimp only [taV]; obtain ⟨W10, HW10, HT10, hb10⟩ : ∃ W10, Hid (w9.alloc (.cells #[.int .u64 1, .int .u64 0, .int .u64 2, .int .u64 0, .int .u64 5] 37) = W10) /\ Hid (Hp W10 w9.heap.size 37 [.int .u64 1, .int .u64 0, .int .u64 2, .int .u64 0, .int .u64 5]) /\ Below w9.heap.size w9 W10 := ⟨_, rfl, Hp.new w9 _ _, below_allocG _ _⟩; have HL10 := keepG (HL9.out.below hb10); have HA10 := keepG (HA9.out.below hb10 HA9.out.lt); have a6 := HA10.out.cell (j := 6) rfl; clear hb10))
  | (rw [HW10.out])
  | (go_at_call 12; go_must (refine HL10.out.mode.mono ?_); rintro e w11 ⟨rfl, hb11⟩; go_must (have HL11 := keepG (HL10.out.below hb11); have t0 := (HT10.out.below hb11 HT10.out.lt).cell (j := 0) rfl; have t4 := (HT10.out.below hb11 HT10.out.lt).cell (j := 4) rfl; clear hb11; rw [HM4.out])))
 go_ret
 exact ⟨rfl, HL11.out.be⟩
end Go.Proofs.YtkcppeahdfboeaaGreat
