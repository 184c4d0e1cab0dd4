
/-
 The machine of the theorems of the whole: its step is the plain machine's. Condition: its code is judged good.
-/
import Derived.Test.YtbaeakbnoijkcaaGreatMT29
import Derived.Test.YtbaeakbnoijkcaaGreatMT39
import Derived.Test.YtbaeakbnoijkcaaGreatMT42
namespace Go.Proofs.YtbaeakbnoijkcaaGreat
open Go.RowKit
set_option linter.unusedVariables false
set_option linter.unusedSimpArgs false
set_option maxRecDepth 100000

theorem Xa.same {w : World} {b : Nat} {vm vc : Value} {ev : Int × Int} {M N : Mc} (h : Xa w b vm vc ev M) (h1 : N.regs = M.regs) (h2 : N.ws = M.ws) (h3 : N.turn = M.turn) (h4 : N.pc = M.pc) : Xa w b vm vc ev N := by
 obtain ⟨hp, wr, ww, pc⟩ := h
 refine ⟨?_, by rw [h1]; exact wr, by rw [h2]; exact ww, by rw [h4]; exact pc⟩
 unfold xcC at hp ⊢
 rw [h1, h2, h3, h4]
 exact hp
theorem right_all {i : In} (hr : i.right = true) : (0 <= i.d /\ i.d <= 63) /\ (0 <= i.a /\ i.a <= 7) /\ (i.b = 8 ∨ (0 <= i.b /\ i.b <= 7)) := by
 obtain ⟨op, d, a, b, imm⟩ := i
 have h0 := qAt hr
 unfold In.right at hr
 simp only at hr h0 ⊢
 by_cases c1 : op = 0 ∨ op = 11
 ·unfold rightB at hr; rw [if_pos c1] at hr; simp [sourcedB, regB] at hr; omega
 by_cases c2 : 1 <= op /\ op <= 10
 ·rw [qBx c2] at hr; simp [sourcedB, regB] at hr; omega
 by_cases c3 : op = 12
 ·subst c3; rw [rightB_12] at hr; simp [sourcedB, regB] at hr; omega
 by_cases c4 : op = 13
 ·subst c4; rw [rightB_13] at hr; simp [regB] at hr; omega
 by_cases c5 : op = 14
 ·subst c5; rw [rightB_14] at hr; simp [regB] at hr; omega
 by_cases c6 : op = 15
 ·subst c6; rw [rightB_15] at hr; simp at hr; omega
 by_cases c7 : 16 <= op /\ op <= 19
 ·rw [rightB_jump c7] at hr; simp [sourcedB, regB] at hr; omega
 by_cases c8 : op = 20
 ·subst c8; rw [rightB_20] at hr; simp [regB] at hr; omega
 by_cases c9 : op = 21
 ·subst c9; simp [rightB] at hr; omega
 ·obtain rfl : op = 22 := by omega
  simp [rightB, regB] at hr; omega
theorem step_lay {ms : List Int} {xs : List In} {ev : Int × Int} {M : Mc} {i : In} (h0 : M.mode = 0) (HI : Hid (nth xs M.pc = i)) (ho : i.op <= 14) : stepE ms xs ev M = (plainA 1 M.pc 0, { M with regs := (laysE ev i M).1, ws := (laysE ev i M).2, steps := M.steps + 1, pc := M.pc + 1 }) := by
 unfold stepE
 rw [HI.out, if_neg (by omega), if_neg (by omega), if_neg (by omega), if_neg (by omega)]
 have hl : (i.leads && goesE i M) = false := by
  rcases qAo i with g | g | g | g
  ·rw [g.2.2.1]; rfl
  ·omega
  ·omega
  ·rw [g.2.2.2.1]; rfl
 rw [if_neg (by rw [hl]; decide)]
 unfold turnE
 rw [if_neg (by omega)]
theorem step_lay2 {ms : List Int} {xs : List In} {ev : Int × Int} {M : Mc} {i : In} {R W : List Int} (h0 : M.mode = 0) (HI : Hid (nth xs M.pc = i)) (ho : i.op <= 14) (hl : laysE ev i M = (R, W)) : stepE ms xs ev M = (plainA 1 M.pc 0, { M with regs := R, ws := W, steps := M.steps + 1, pc := M.pc + 1 }) := by rw [step_lay h0 HI ho, hl]
theorem step_pc {ms : List Int} {xs : List In} {ev : Int × Int} {M : Mc} {i : In} (h0 : M.mode = 0) (HI : Hid (nth xs M.pc = i)) (hr : i.right = true) (ho : i.op <= 14 ∨ i.op = 21 /\ 5 <= i.imm) : (stepE ms xs ev M).2.pc = M.pc + 1 := by
 rcases ho with ho | ⟨ho, hi⟩
 ·rw [step_lay h0 HI ho]
 ·unfold stepE
  rw [HI.out, if_neg (by omega), if_neg (by omega), if_pos ho]
  unfold callE
  rw [if_neg (by omega)]
  split <;> rfl
theorem act7 {w : World} {n : Nat} {k pc im io ik iv v : Int} (h : Hp w n 57 (actC k pc im io ik iv v)) : w.cell? ⟨n, 0, none⟩ = some (.int .i64 k) /\ w.cell? ⟨n, 1, none⟩ = some (.int .i64 pc) /\ w.cell? ⟨n, 2, none⟩ = some (.int .i64 im) /\ w.cell? ⟨n, 3, none⟩ = some (.int .i64 io) /\ w.cell? ⟨n, 4, none⟩ = some (.int .u64 ik) /\ w.cell? ⟨n, 5, none⟩ = some (.int .u64 iv) /\ w.cell? ⟨n, 6, none⟩ = some (.int .u64 v) /\ w.frozen? ⟨n, 0, none⟩ = false /\ w.frozen? ⟨n, 1, none⟩ = false /\ w.frozen? ⟨n, 2, none⟩ = false /\ w.frozen? ⟨n, 3, none⟩ = false /\ w.frozen? ⟨n, 4, none⟩ = false /\ w.frozen? ⟨n, 5, none⟩ = false /\ w.frozen? ⟨n, 6, none⟩ = false :=
 ⟨h.cell rfl, h.cell rfl, h.cell rfl, h.cell rfl, h.cell rfl, h.cell rfl, h.cell rfl, h.frozen 0, h.frozen 1, h.frozen 2, h.frozen 3, h.frozen 4, h.frozen 5, h.frozen 6⟩
def drews : Nat -> World -> World
 | 0, w => w
 | n + 1, w => (drews n w).drew
theorem drews_hp (n : Nat) {w : World} {b : Nat} {t : TypeId} {cs : List Value} (h : Hp w b t cs) : Hp (drews n w) b t cs := by
 induction n with
 | zero => exact h
 | succ n ih => exact ih.drew
theorem drews_chg (n : Nat) {w w' : World} {S : Nat -> Prop} (h : Chg w w' S) : Chg w (drews n w') S := by
 induction n with
 | zero => exact h
 | succ n ih => exact ⟨ih.os, ih.tape, ih.output, ih.size, ih.block⟩
def Stored (w4 w6 : World) (b : Nat) (vm vc : Value) (ev : Int × Int) (N : Mc) : Prop := Xa w6 b vm vc ev N /\ w4.grownBy w6 (some b)
section
variable {fn : Func} {tmps : Array Value} {w w4 w6 : World} {b : Nat} {vm vc : Value} {ms : List Int} {xs : List In} {ev : Int × Int} {M N0 N : Mc} {A : Ac} {cs : List Value}
theorem xfin (ho : Hp w4 w.heap.size 57 cs) (hl : cs.length = 7) (hB : Below w.heap.size w w4) (hlt : b < w.heap.size) (hX : Stored w4 w6 b vm vc ev N0) :
  Hp (w6.setCells w.heap.size 0 (acC A)) w.heap.size 57 (acC A) /\ Chg w (w6.setCells w.heap.size 0 (acC A)) (fun k => k = b) /\ Xa (w6.setCells w.heap.size 0 (acC A)) b vm vc ev N0 := by
 obtain ⟨hx, hg⟩ := hX
 have h6 := ho.grown hg (fun e => by have := Option.some.inj e; omega)
 have hs := h6.sets (acC A) 0
 rw [qAy _ _ (by rw [hl]; rfl)] at hs
 have hgs := qAa w.heap.size (acC A) w6 0
 refine ⟨hs, ((Chg.of_below (S := fun k => k = b) hB).trans (Chg.of_grown (S := fun k => k = b) hg rfl) (fun _ _ e => e)).trans (Chg.of_grown (S := fun k => k = w.heap.size) hgs rfl) (fun k hk e => by omega), ?_⟩
 exact ⟨hx.hp.grown hgs (fun e => by have := Option.some.inj e; omega), hx.wr, hx.ww, hx.pc⟩
theorem xend {W7 : World} {n : Nat} (hst : stepE ms xs ev M = (A, N)) (hr : fn.results = #[.cell 4 57]) (hp : tmps.getD 4 undef = .pointer (some ⟨w.heap.size, 0, none⟩)) (ho : Hp w4 w.heap.size 57 cs) (hl : cs.length = 7) (hB : Below w.heap.size w w4) (hlt : b < w.heap.size) (hX : Stored w4 w6 b vm vc ev N0) (h1 : N.regs = N0.regs) (h2 : N.ws = N0.ws) (h3 : N.turn = N0.turn) (h4 : N.pc = N0.pc) (hW : W7 = drews n (w6.setCells w.heap.size 0 (acC A))) :
  bodyPost Tryz.prog fn (fun e w' => e = .returned (acV (stepE ms xs ev M).1) /\ Chg w w' (fun k => k = b) /\ Xa w' b vm vc ev (stepE ms xs ev M).2) .ret ⟨tmps, []⟩ W7 := by
 have hf := xfin (A := A) ho hl hB hlt hX
 generalize w6.setCells w.heap.size 0 (acC A) = Q at hf hW
 obtain ⟨x1, x2, x3⟩ := hf
 subst hW
 refine act_ret hr hp (drews_hp n x1) ?_
 rw [hst]
 exact ⟨rfl, drews_chg n x2, Xa.same ⟨drews_hp n x3.hp, x3.wr, x3.ww, x3.pc⟩ h1 h2 h3 h4⟩
theorem xendA {W7 Q : World} {g n : Nat} (hst : stepE ms xs ev M = (A, N)) (hr : fn.results = #[.cell 4 57]) (hp : tmps.getD 4 undef = .pointer (some ⟨w.heap.size, 0, none⟩)) (ho : Hp w4 w.heap.size 57 cs) (hl : cs.length = 7) (hB : Below w.heap.size w w4) (hlt : b < w.heap.size) (hA : w4.grownBy Q (some g)) (g1 : g ≠ b) (g2 : g ≠ w.heap.size) (g3 : w.heap.size <= g) (h4' : Xa w4 b vm vc ev M) (hX : Xa Q b vm vc ev M -> Stored Q w6 b vm vc ev N0) (h1 : N.regs = N0.regs) (h2 : N.ws = N0.ws) (h3 : N.turn = N0.turn) (h4 : N.pc = N0.pc) (hW : W7 = drews n (w6.setCells w.heap.size 0 (acC A))) :
  bodyPost Tryz.prog fn (fun e w' => e = .returned (acV (stepE ms xs ev M).1) /\ Chg w w' (fun k => k = b) /\ Xa w' b vm vc ev (stepE ms xs ev M).2) .ret ⟨tmps, []⟩ W7 :=
 xend (n := n) hst hr hp (ho.grown hA (fun e => g2 (Option.some.inj e).symm)) hl (hB.trans (qAc hA g3 hB.size)) hlt (hX ⟨h4'.hp.grown hA (fun e => g1 (Option.some.inj e).symm), h4'.wr, h4'.ww, h4'.pc⟩) h1 h2 h3 h4 hW
theorem stR (off : Nat) {v : Value} (h4 : Xa w4 b vm vc ev M) (h : Xa (w4.setCell ⟨b, off, none⟩ v) b vm vc ev N0) (hp : M.pc + 1 < 64) (hN : N0.pc = M.pc := by rfl) : Stored w4 ((w4.setCell ⟨b, off, none⟩ v).setCell ⟨b, 92, none⟩ (.int .i64 ((M.pc : Int) + 1))) b vm vc ev { N0 with pc := M.pc + 1 } := by
 have := h.setP (p := M.pc + 1) hp
 rw [show ((M.pc + 1 : Nat) : Int) = (M.pc : Int) + 1 by omega] at this
 exact ⟨this, qAl (qAd w4 b off v) (qAd _ b 92 _)⟩
theorem stN (Q : World) (h : Xa Q b vm vc ev M) : Stored Q Q b vm vc ev M := ⟨h, grown_refl _ _⟩
theorem stP {v : Int} {p : Nat} (h4 : Xa w4 b vm vc ev M) (hv : v = p) (hp : p < 64) : Stored w4 (w4.setCell ⟨b, 92, none⟩ (.int .i64 v)) b vm vc ev { M with pc := p } := by
 subst hv
 exact ⟨h4.setP hp, qAd w4 b 92 _⟩
theorem stT {v : Int} {p : Nat} (h4 : Xa w4 b vm vc ev M) (t : Int) (hv : v = p) (hp : p < 64) : Stored w4 ((w4.setCell ⟨b, 28 + M.pc, none⟩ (.int .i64 t)).setCell ⟨b, 92, none⟩ (.int .i64 v)) b vm vc ev { M with turn := fun u => if u = M.pc then t else M.turn u, pc := p } := by
 subst hv
 exact ⟨(h4.setT t).setP hp, qAl (qAd w4 b _ _) (qAd _ b 92 _)⟩
theorem qBn (w : World) (g o : Nat) (l : List Value) {x j : Nat} (h : x ≠ g) : (w.setCells g o l).cell? ⟨x, j, none⟩ = w.cell? ⟨x, j, none⟩ := by
 induction l generalizing w o with
 | nil => rfl
 | cons v l ih => exact (ih _ _).trans (World.cell?_setCell_other _ _ _ _ (fun e => h (by injection e with e1; exact e1.symm)))
end
theorem step_goes {ms : List Int} {xs : List In} {ev : Int × Int} {M : Mc} {i : In} {p : Nat} {T : Int -> Int} {g : Bool} (h0 : M.mode = 0) (HI : Hid (nth xs M.pc = i)) (hr : i.right = true) (ho : 15 <= i.op /\ i.op <= 20) (hg : goesE i M = g) (hT : turnE i M = T) (hp : (if g = true then (M.pc : Int) + i.far else M.pc + 1) = (p : Int)) : stepE ms xs ev M = (plainA 1 M.pc 0, { M with turn := T, steps := M.steps + 1, pc := p }) := by
 unfold stepE
 rw [HI.out, if_neg (by omega), if_neg (by omega), if_neg (by omega), if_neg (by omega)]
 have hl : i.leads = true := by
  rcases qAo i with e | e | e | e
  ·rw [hr] at e; cases e.1
  ·exact e.2.2.2.2.1
  ·exact e.2.2.2.1
  ·have := e.2.1; omega
 rw [hl, hg, hT, lays_id ho.1, Bool.true_and]
 cases g
 ·rw [if_neg (by decide)] at hp ⊢
  rw [show M.pc + 1 = p by omega]
 ·rw [if_pos rfl] at hp ⊢
  rw [show ((M.pc : Int) + i.far).toNat = p by omega]
theorem step_map {ms : List Int} {xs : List In} {ev : Int × Int} {M : Mc} {i : In} {m g2 g3 : Int} (h0 : M.mode = 0) (HI : Hid (nth xs M.pc = i)) (ho : i.op = 21) (hi : i.imm <= 4) (hm : ms.getD (regV M.regs 1).toNat 0 = m) (h2 : regV M.regs 2 = g2) (h3 : (if i.imm = 2 ∨ i.imm = 4 then regV M.regs 3 else 0) = g3) : stepE ms xs ev M = (⟨2, M.pc, m, i.imm, g2, g3, 0⟩, { M with steps := M.steps + 1, mode := 1 }) := by
 unfold stepE
 rw [HI.out, if_neg (by omega), if_neg (by omega), if_pos ho]
 unfold callE
 rw [if_pos hi, hm, h2, h3]
theorem step_mark {ms : List Int} {xs : List In} {ev : Int × Int} {M : Mc} {i : In} {c : Int} (h0 : M.mode = 0) (HI : Hid (nth xs M.pc = i)) (ho : i.op = 21) (hi : i.imm = 5) (hc : c = upW (M.cs.getD (regV M.regs 1).toNat 0) 1) : stepE ms xs ev M = (plainA 1 M.pc c, { M with regs := M.regs.set 0 c, cs := M.cs.set (regV M.regs 1).toNat c, steps := M.steps + 1, pc := M.pc + 1 }) := by
 unfold stepE
 rw [HI.out, if_neg (by omega), if_neg (by omega), if_pos ho]
 unfold callE
 rw [if_neg (by omega), if_pos hi, <- hc]
theorem step_note {ms : List Int} {xs : List In} {ev : Int × Int} {M : Mc} {i : In} {g : Int} (h0 : M.mode = 0) (HI : Hid (nth xs M.pc = i)) (ho : i.op = 21) (hi : ¬ i.imm <= 5) (hg : regV M.regs 1 = g) : stepE ms xs ev M = (plainA 3 M.pc g, { M with regs := M.regs.set 0 0, steps := M.steps + 1, pc := M.pc + 1 }) := by
 unfold stepE
 rw [HI.out, if_neg (by omega), if_neg (by omega), if_pos ho]
 unfold callE
 rw [if_neg (by omega), if_neg (by omega), hg]
theorem step_exit {ms : List Int} {xs : List In} {ev : Int × Int} {M : Mc} {i : In} {g : Int} (h0 : M.mode = 0) (HI : Hid (nth xs M.pc = i)) (ho : i.op = 22) (hg : regV M.regs i.a = g) : stepE ms xs ev M = (plainA 4 M.pc g, { M with steps := M.steps + 1, mode := 2 }) := by
 unfold stepE
 rw [HI.out, if_neg (by omega), if_neg (by omega), if_neg (by omega), if_pos ho, hg]
theorem op_cases {op : Int} (h : 0 <= op /\ op <= 22) : op = 0 ∨ (1 <= op /\ op <= 10) ∨ op = 11 ∨ op = 12 ∨ op = 13 ∨ op = 14 ∨ op = 15 ∨ (16 <= op /\ op <= 19) ∨ op = 20 ∨ op = 21 ∨ op = 22 := by omega
theorem turn_in {xs : List In} {nm : Nat} {known : List St} {M : Mc} (hK : Known xs nm known) (hS : Safe xs nm known M) (h20 : (nth xs M.pc).op = 20) : 0 <= M.turn M.pc /\ M.turn M.pc <= 255 := by
 have hmem : lpAt xs M.pc ∈ loopsL xs := loopsU_mem.2 ⟨M.pc, hS.pc, h20, rfl⟩
 have h1 := hS.cnt _ hmem
 have h2 := bnd_ok hK.T.place _ hmem
 have e : (lpAt xs M.pc).t = (M.pc : Int) := rfl
 rw [e] at h1
 omega
end Go.Proofs.YtbaeakbnoijkcaaGreat
