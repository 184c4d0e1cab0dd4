/-
  E11Step
  E11Run
  JJudge
  JTypes
  E11Tr
-/
import Derived.Test.YtkondcjmhlppiaaGreatMW43
import Derived.Test.YtkondcjmhlppiaaGreatMW22
namespace Go.Proofs.YtkondcjmhlppiaaGreat
set_option linter.unusedVariables false
set_option linter.unusedSimpArgs false
open Go.RowKit
set_option maxRecDepth 100000
structure Safe (xs : List In) (nm : Nat) (known : List St) (M : Mc) : Prop where
 pc : M.pc < xs.length
 kn : known.getD M.pc [] ≠ []
 wr : WR M.regs
 hold : HoldS (known.getD M.pc []) M.regs
 cnt : Cnt (loopsL xs) M.turn
 ws : W16 M.ws
 cs : W16 M.cs
 mode : M.mode = 0 ∨ (M.mode = 1 /\ (nth xs M.pc).op = 21 /\ (nth xs M.pc).imm <= 4) ∨ (M.mode = 2 /\ (nth xs M.pc).op = 22)
theorem safe_start {xs : List In} {nm : Nat} {known : List St} (h : Known xs nm known) : Safe xs nm known startE := by
 have hz : WR (List.replicate 8 0) := ⟨rfl, fun r hr => by rw [show (List.replicate 8 (0 : Int)).getD r 0 = 0 by rw [List.getD_eq_getElem?_getD, List.getElem?_replicate, if_pos hr]; rfl]; decide⟩
 have hw : W16 (List.replicate 16 0) := ⟨rfl, fun r hr => by rw [show (List.replicate 16 (0 : Int)).getD r 0 = 0 by rw [List.getD_eq_getElem?_getD, List.getElem?_replicate, if_pos hr]; rfl]; decide⟩
 exact ⟨h.T.pos, h.first.1, hz, h.first.2 _ hz, fun l hl => ⟨Int.le_refl _, by have := bnd_ok h.T.place l hl; show (0 : Int) <= l.b; omega⟩, hw, hw, .inl rfl⟩
theorem asks_word {nm : Nat} {i : In} {s head : St} {R : List Int} (hr : i.right = true) (hR : WR R) (hs : HoldS s R) (ha : asksJ nm i s head = 0) (ho : i.op = 11 ∨ i.op = 12) : 0 <= srcV i R /\ srcV i R <= 15 := by
 have hsr := right_src hr (.inl (show i.op <= 12 by omega))
 have hh := src_hold hs hsr.2
 have hin := srcV_in hR hsr.2
 have hA : srcA i s = srcT i s := by unfold srcA; rw [if_pos hsr.1]
 unfold asksJ at ha
 rw [if_neg (by omega), if_neg (by omega), if_neg (by omega), if_neg (by omega), hA] at ha
 rcases ho with h | h
 ·rw [if_pos h] at ha
  split at ha
  ·cases ha
  rename_i k1
  split at ha
  ·cases ha
  rename_i k2
  have := hh.1 (by omega)
  omega
 ·rw [if_neg (by omega), if_neg (by omega), if_neg (by omega)] at ha
  split at ha
  ·cases ha
  rename_i k1
  split at ha
  ·cases ha
  rename_i k2
  have := hh.1 (by omega)
  omega
theorem asks_two {nm : Nat} {i : In} {s head : St} (hr : i.right = true) (ha : asksJ nm i s head = 0) (ho : (1 <= i.op /\ i.op <= 10) ∨ (16 <= i.op /\ i.op <= 19)) : (regT s i.a).k = 1 /\ (srcT i s).k = 1 := by
 have hsr := right_src hr (show i.op <= 12 ∨ (16 <= i.op /\ i.op <= 19) by omega)
 have hA : srcA i s = srcT i s := by unfold srcA; rw [if_pos hsr.1]
 unfold asksJ at ha
 rw [if_neg (by omega), if_neg (by omega), if_neg (by omega), if_neg (by omega), if_neg (by omega), if_neg (by omega), if_neg (by omega), hA] at ha
 split at ha
 ·cases ha
 ·rename_i k1; omega
theorem fit_head {a t : Ty} {l ts : List Ty} (h : fitL (a :: l) (t :: ts) = 0) : a.k = t.k /\ (t.k = 1 -> withinB a.lo a.hi t.lo t.hi = true) := by
 have h1 : fitsL a t = 0 := by
  rw [fitL] at h
  split at h
  ·exact h
  ·rename_i h1; exact Decidable.not_not.1 h1
 unfold fitsL at h1
 split at h1
 ·cases h1
 rename_i hk
 split at h1
 ·cases h1
 rename_i hw
 refine ⟨by omega, fun h2 => ?_⟩
 cases hb : withinB a.lo a.hi t.lo t.hi with
 | true => rfl
 | false => exact absurd ⟨h2, hb⟩ hw
theorem asks_callE {nm : Nat} {i : In} {s head : St} {R : List Int} (hr : i.right = true) (h8 : Made8 nm s) (hR : WR R) (hs : HoldS s R) (ha : asksJ nm i s head = 0) (ho : i.op = 21) : (i.imm <= 4 -> 0 <= regV R 1 /\ regV R 1 < nm) /\ (i.imm = 5 -> 0 <= regV R 1 /\ regV R 1 <= 15) := by
 have hc := right_call hr ho
 unfold asksJ at ha
 rw [if_neg (by omega), if_neg (by omega), if_neg (by omega), if_pos ho] at ha
 have h1 := hs 1 (by omega)
 have m1 := h8.get (r := 1) (by omega)
 have w1 := hR.2 1 (by omega)
 have e1 : regV R 1 = R.getD 1 0 := rfl
 obtain ⟨s0, s1, s2, s3, s4, s5, s6, s7, rfl⟩ : ∃ a b c d e f g h, s = [a, b, c, d, e, f, g, h] := by
  have hl := h8.1
  match s, hl with
  | [a, b, c, d, e, f, g, h], _ => exact ⟨a, b, c, d, e, f, g, h, rfl⟩
 have g1 : [s0, s1, s2, s3, s4, s5, s6, s7].getD 1 Ty.nil = s1 := rfl
 rw [g1] at h1 m1
 unfold hcheckL at ha
 rw [if_neg (by omega)] at ha
 split at ha
 ·cases ha
 refine ⟨fun h4 => ?_, fun h5 => ?_⟩
 ·have hk : s1.k = 2 := by
   have hcase : i.imm = 0 ∨ i.imm = 1 ∨ i.imm = 2 ∨ i.imm = 3 ∨ i.imm = 4 := by omega
   rcases hcase with h | h | h | h | h
   ·rw [h] at ha; exact (fit_head (a := s1) (t := handleT) ha).1
   ·rw [h] at ha; exact (fit_head (a := s1) (t := handleT) ha).1
   ·rw [h] at ha; exact (fit_head (a := s1) (t := handleT) ha).1
   ·rw [h] at ha; exact (fit_head (a := s1) (t := handleT) ha).1
   ·rw [h] at ha; exact (fit_head (a := s1) (t := handleT) ha).1
  have h2 := h1.2 hk
  rcases m1 with h | h | h <;> omega
 ·rw [h5] at ha
  have hf := fit_head (a := s1) (t := numT 15) ha
  have hw := within_ends (hf.2 rfl)
  have h2 := h1.1 hf.1
  have h3 : (numT 15).hi = 15 := rfl
  omega
theorem res_hold {h E v : Int} {f : Bool} (hh : 0 <= h /\ h <= 4) (hv : 0 <= v /\ v <= 18446744073709551615) : HoldT (resL h).1 (valE h E f v) /\ (0 <= valE h E f v /\ valE h E f v <= 18446744073709551615) := by
 have hcase : h = 0 ∨ h = 1 ∨ h = 2 ∨ h = 3 ∨ h = 4 := by omega
 unfold valE
 rcases hcase with rfl | rfl | rfl | rfl | rfl
 ·exact ⟨⟨fun _ => hv, fun h => (by cases h)⟩, hv⟩
 ·rw [if_neg (by omega)]
  split
  ·exact ⟨⟨fun _ => ⟨by decide, by decide⟩, fun h => (by cases h)⟩, by decide, by decide⟩
  ·exact ⟨⟨fun _ => ⟨by decide, by decide⟩, fun h => (by cases h)⟩, by decide, by decide⟩
 ·rw [if_neg (by omega)]
  split
  ·exact ⟨⟨fun _ => ⟨by decide, by decide⟩, fun h => (by cases h)⟩, by decide, by decide⟩
  ·exact ⟨⟨fun _ => ⟨by decide, by decide⟩, fun h => (by cases h)⟩, by decide, by decide⟩
 ·rw [if_neg (by omega)]
  split
  ·exact ⟨⟨fun _ => ⟨by decide, by decide⟩, fun h => (by cases h)⟩, by decide, by decide⟩
  ·exact ⟨⟨fun _ => ⟨by decide, by decide⟩, fun h => (by cases h)⟩, by decide, by decide⟩
 ·exact ⟨⟨fun _ => hv, fun h => (by cases h)⟩, hv⟩
theorem lays_hold {nm : Nat} {ev : Int × Int} {i : In} {s head : St} {M : Mc} (hr : i.right = true) (h8 : Made8 nm s) (hR : WR M.regs) (hws : W16 M.ws) (hev : (0 <= ev.1 /\ ev.1 <= 18446744073709551615) /\ 0 <= ev.2 /\ ev.2 <= 18446744073709551615) (hs : HoldS s M.regs) (ha : asksJ nm i s head = 0) (ho : i.op <= 14 ∨ i.op = 20) :
  ∃ s', leavesJ i s false = some s' /\ HoldS s' (laysE ev i M).1 /\ WR (laysE ev i M).1 /\ W16 (laysE ev i M).2 := by
 have h0 := right_op hr
 unfold leavesJ laysE
 by_cases c0 : i.op = 0
 ·have hsr := right_src hr (.inl (show i.op <= 12 by omega))
  rw [if_pos c0, if_pos c0]
  exact ⟨_, rfl, hs.set h8.1 hR.1 (src_hold hs hsr.2), hR.set _ (srcV_in hR hsr.2), hws⟩
 rw [if_neg c0, if_neg c0]
 by_cases c1 : 1 <= i.op /\ i.op <= 10
 ·have hsr := right_src hr (.inl (show i.op <= 12 by omega))
  have hra := right_reads hr (.inl c1)
  obtain ⟨k1, k2⟩ := asks_two hr ha (.inl c1)
  rw [if_pos (show threeB i.op = true by unfold threeB; simp; omega), if_pos c1]
  have hd := do_hold (x := regV M.regs i.a) c1 (h8.reg hra) (made_src h8 hsr.2) k1 k2 (hs _ (by omega)) (src_hold hs hsr.2)
  exact ⟨_, rfl, hs.set h8.1 hR.1 hd, hR.set _ (doL_in i.op (hR.2 _ (by omega)) (srcV_in hR hsr.2)), hws⟩
 rw [if_neg (show ¬ threeB i.op = true by unfold threeB; simp; omega), if_neg c1]
 by_cases c2 : i.op = 11
 ·have hw := asks_word hr hR hs ha (.inl c2)
  have hv := hws.2 (srcV i M.regs).toNat (by omega)
  rw [if_pos (.inl c2), if_pos c2]
  exact ⟨_, rfl, hs.set h8.1 hR.1 (hold_full hv), hR.set _ hv, hws⟩
 rw [if_neg c2]
 by_cases c3 : i.op = 12
 ·have hra := right_reads hr (.inr (.inl c3))
  rw [if_neg (by omega), if_neg (by omega), if_neg (by omega), if_neg (show ¬ jumpB i.op = true by unfold jumpB; simp; omega), if_pos c3]
  exact ⟨_, rfl, hs, hR, hws.set _ (hR.2 _ (by omega))⟩
 rw [if_neg c3]
 by_cases c4 : i.op = 13
 ·rw [if_pos (.inr c4), if_pos c4]
  have hv : 0 <= (if i.imm = 0 then ev.1 else ev.2) /\ (if i.imm = 0 then ev.1 else ev.2) <= 18446744073709551615 := by split <;> omega
  exact ⟨_, rfl, hs.set h8.1 hR.1 (hold_full hv), hR.set _ hv, hws⟩
 rw [if_neg c4, if_neg (by omega)]
 by_cases c5 : i.op = 14
 ·rw [if_pos c5, if_pos c5]
  have hm : 0 <= i.imm /\ i.imm <= 18446744073709551615 := by
   obtain ⟨op, d, a, b, imm⟩ := i
   simp only at c5
   subst c5
   have h := hr
   unfold In.right at h
   rw [rightB_14] at h
   simp at h
   simp only
   omega
  exact ⟨_, rfl, hs.set h8.1 hR.1 ⟨fun h => (by cases h), fun _ => rfl⟩, hR.set _ hm, hws⟩
 rw [if_neg c5, if_neg c5, if_neg (by omega), if_neg (show ¬ jumpB i.op = true by unfold jumpB; simp; omega)]
 exact ⟨_, rfl, hs, hR, hws⟩
theorem three_no {op : Int} (h : ¬ (1 <= op /\ op <= 10)) : ¬ threeB op = true := by unfold threeB; simp; omega
theorem jump_no {op : Int} (h : ¬ (16 <= op /\ op <= 19)) : ¬ jumpB op = true := by unfold jumpB; simp; omega
theorem jump_yes {op : Int} (h : 16 <= op /\ op <= 19) : jumpB op = true := by unfold jumpB; simp; omega
theorem ref_hold {nm : Nat} {i : In} {s head : St} {R : List Int} (hr : i.right = true) (h8 : Made8 nm s) (hR : WR R) (hs : HoldS s R) (ha : asksJ nm i s head = 0) (ho : 16 <= i.op /\ i.op <= 19) :
  ∃ s', leavesJ i s (holdL i.op (regV R i.a) (srcV i R)) = some s' /\ HoldS s' R := by
 have hsr := right_src hr (.inr ho)
 have hra := right_reads hr (.inr (.inr (.inl (show 16 <= i.op /\ i.op <= 20 by omega))))
 obtain ⟨k1, k2⟩ := asks_two hr ha (.inr ho)
 have m1 := h8.reg hra
 have m2 := made_src h8 hsr.2
 have h1 : (regT s i.a).lo <= (regT s i.a).hi := by rcases m1 with h | h | h <;> omega
 have h2 : (srcT i s).lo <= (srcT i s).hi := by rcases m2 with h | h | h <;> omega
 have hx : HoldT (regT s i.a) (regV R i.a) := hs _ (by omega)
 have hy := src_hold hs hsr.2
 obtain ⟨l, u, e, h3, h4, _⟩ := refine_sound (h := holdL i.op (regV R i.a) (srcV i R)) ho (hx.1 k1) (hy.1 k2) rfl
 have er : refineR i.op (regT s i.a).lo (regT s i.a).hi (srcT i s).lo (srcT i s).hi (holdL i.op (regV R i.a) (srcV i R)) = some (l, u) := by
  unfold refineR
  rw [if_pos ⟨ho, h1, h2⟩]
  exact e
 refine ⟨s.set i.a.toNat (num2 l u), ?_, hs.setT h8.1 (hold_num ⟨h3, h4⟩)⟩
 unfold leavesJ
 rw [if_neg (by omega), if_neg (three_no (by omega)), if_neg (by omega), if_neg (by omega), if_neg (by omega), if_pos (jump_yes ho), er]
def pot (xs : List In) (M : Mc) : Int := M.steps + left (loopsL xs) M.pc M.turn xs.length - (if M.mode = 0 then 0 else 1)
theorem Safe.pot_le {xs : List In} {nm : Nat} {known : List St} {M : Mc} (hT : Taken xs) (h : Safe xs nm known M) : (M.steps : Int) + (if M.mode = 0 then 1 else 0) <= pot xs M := by
 have := left_pos h.cnt (bnd_ok hT.place) M.pc xs.length h.pc
 unfold pot
 split <;> omega
theorem pot_start {xs : List In} (hT : Taken xs) : pot xs startE <= costT (loopsL xs) xs.length := by
 have hb := bnd_ok hT.place
 have := left_cost (ls := loopsL xs) (p := 0) (c := fun _ => 0) (fun l hl => ⟨Int.le_refl _, by have := hb l hl; show (0 : Int) <= l.b; omega⟩) hb xs.length
 have e : pot xs startE = ((0 : Nat) : Int) + left (loopsL xs) 0 (fun _ => 0) xs.length - 0 := rfl
 rw [e]
 omega
theorem cost_256 {xs : List In} (hT : Taken xs) : costT (loopsL xs) xs.length <= 256 := by
 have h := costC_le (bnd_ok hT.place) xs.length
 have h2 := hT.cost
 have := h.2.2 h2
 omega
theorem safe_run {xs : List In} {ms : List Int} {known : List St} {ev : Int × Int} {M : Mc} (hK : Known xs ms.length known) (h : Safe xs ms.length known M) (h0 : M.mode = 0) (hev : (0 <= ev.1 /\ ev.1 <= 18446744073709551615) /\ 0 <= ev.2 /\ ev.2 <= 18446744073709551615) :
  Safe xs ms.length known (stepE ms xs ev M).2 /\ pot xs (stepE ms xs ev M).2 <= pot xs M /\ (stepE ms xs ev M).2.steps = M.steps + 1 := by
 have hT := hK.T
 have hr := hT.right h.pc
 have hpl := place_ok h.pc (hT.place M.pc h.pc)
 have hgp := goes_parts (nth xs M.pc)
 have hm := hK.made h.pc h.kn
 have ha := hK.asks h.pc h.kn
 have hop := right_op hr
 unfold stepE
 rw [if_neg (by omega), if_neg (by omega)]
 have hon : (nth xs M.pc).op ≠ 15 -> (nth xs M.pc).op ≠ 22 -> (nth xs M.pc).on = true := fun h15 h22 => by
  rcases hgp with h | h | h | h
  ·rw [hr] at h; cases h.1
  ·rw [h.2.2.2.2.2.1]; exact decide_eq_true h15
  ·exact h.2.2.2.2.1
  ·rw [h.2.2.2.2]; exact decide_eq_true h22
 /- on to the next place -/
 have next : ∀ (M' : Mc) (s' : St), leavesJ (nth xs M.pc) (known.getD M.pc []) false = some s' -> HoldS s' M'.regs -> WR M'.regs -> W16 M'.ws -> W16 M'.cs -> M'.mode = 0 -> M'.pc = M.pc + 1 -> M'.steps = M.steps + 1 -> (∀ t : Int, t ≠ M.pc -> M'.turn t = M.turn t) -> ((nth xs M.pc).op = 20 -> M'.turn M.pc = 0) -> (nth xs M.pc).op ≠ 15 -> (nth xs M.pc).op ≠ 22 ->
   Safe xs ms.length known M' /\ pot xs M' <= pot xs M /\ M'.steps = M.steps + 1 := by
  intro M' s' hl hs hw hws hcs hmode hpc hst ht h20 h15 h22
  have ho := hon h15 h22
  have hlt := hpl.2.2.2 ho
  obtain ⟨w1, w2⟩ := hK.way (x := M.pc + 1) hlt (by omega) h.kn (.inr ⟨rfl, ho, rfl⟩) hl
  obtain ⟨c1, _, _, c4⟩ := way_step hT (k' := (M.pc : Int) + 1) h.pc h.cnt ht (.inl ⟨rfl, h20, ho⟩)
  refine ⟨⟨by rw [hpc]; exact hlt, by rw [hpc]; exact w1, hw, by rw [hpc]; exact w2 _ hw hs, c1, hws, hcs, .inl hmode⟩, ?_, hst⟩
  unfold pot
  rw [hmode, h0, hpc, hst, show ((M.pc + 1 : Nat) : Int) = (M.pc : Int) + 1 by omega]
  simp only [if_true]
  omega
 by_cases c21 : (nth xs M.pc).op = 21
 ·rw [if_pos c21]
  have hc := right_call hr c21
  obtain ⟨a1, a2⟩ := asks_callE hr hm h.wr h.hold ha c21
  have hl : leavesJ (nth xs M.pc) (known.getD M.pc []) false = some ((known.getD M.pc []).set 0 (resL (nth xs M.pc).imm).1) := by
   unfold leavesJ
   rw [if_neg (by omega), if_neg (three_no (by omega)), if_neg (by omega), if_neg (by omega), if_pos c21]
  unfold callE
  by_cases c4 : (nth xs M.pc).imm <= 4
  ·rw [if_pos c4]
   refine ⟨⟨h.pc, h.kn, h.wr, h.hold, h.cnt, h.ws, h.cs, .inr (.inl ⟨rfl, c21, c4⟩)⟩, ?_, rfl⟩
   unfold pot
   simp only [h0, if_true]
   rw [if_neg (by omega)]
   omega
  rw [if_neg c4]
  by_cases c5 : (nth xs M.pc).imm = 5
  ·rw [if_pos c5]
   have hv := upW_in (M.cs.getD (regV M.regs 1).toNat 0) 1
   refine next _ _ hl (h.hold.set hm.1 h.wr.1 ?_) (h.wr.set _ hv) h.ws (h.cs.set _ hv) h0 rfl rfl (fun _ _ => rfl) (fun h20 => by omega) (by omega) (by omega)
   rw [c5]
   exact ⟨fun _ => hv, fun h => (by cases h)⟩
  ·rw [if_neg c5]
   have c6 : (nth xs M.pc).imm = 6 := by omega
   refine next _ _ hl (h.hold.set hm.1 h.wr.1 ?_) (h.wr.set _ (by decide)) h.ws h.cs h0 rfl rfl (fun _ _ => rfl) (fun h20 => by omega) (by omega) (by omega)
   rw [c6]
   exact ⟨fun _ => ⟨by decide, by decide⟩, fun h => (by cases h)⟩
 rw [if_neg c21]
 by_cases c22 : (nth xs M.pc).op = 22
 ·rw [if_pos c22]
  refine ⟨⟨h.pc, h.kn, h.wr, h.hold, h.cnt, h.ws, h.cs, .inr (.inr ⟨rfl, c22⟩)⟩, ?_, rfl⟩
  unfold pot
  simp only [h0, if_true]
  rw [if_neg (by omega)]
  omega
 rw [if_neg c22]
 cases hgo : ((nth xs M.pc).leads && goesE (nth xs M.pc) M) with
 | true =>
  rw [if_pos rfl]
  obtain ⟨hld, hge⟩ := Bool.and_eq_true_iff.1 hgo
  by_cases c20 : (nth xs M.pc).op = 20
  ·obtain ⟨q, hq, hqp, hqk, hqh⟩ := hK.back h.pc h.kn c20
   have hge2 : 0 < regV M.regs (nth xs M.pc).a /\ M.turn M.pc < (nth xs M.pc).imm := by
    unfold goesE at hge
    rw [if_neg (by omega), if_pos c20] at hge
    exact of_decide_eq_true hge
   have ht1 : ∀ t : Int, t ≠ M.pc -> turnE (nth xs M.pc) M t = M.turn t := fun t ht => by
    unfold turnE
    rw [if_pos c20]
    exact if_neg ht
   have ht2 : turnE (nth xs M.pc) M M.pc = M.turn M.pc + 1 := by
    unfold turnE
    rw [if_pos c20]
    exact (if_pos rfl).trans (if_pos hge)
   obtain ⟨c1, _, _, c4⟩ := way_step hT (k' := (M.pc : Int) + (nth xs M.pc).far) h.pc h.cnt ht1 (.inr (.inr ⟨rfl, c20, hge2.2, ht2⟩))
   have e : ((M.pc : Int) + (nth xs M.pc).far).toNat = q := by omega
   refine ⟨⟨by simp only [e]; omega, by simp only [e]; exact hqk, h.wr, by simp only [e]; exact hqh _ h.hold, c1, h.ws, h.cs, .inl h0⟩, ?_, rfl⟩
   unfold pot
   simp only [e, h0, if_true]
   rw [<- hq] at c4
   omega
  ·have h1519 : 15 <= (nth xs M.pc).op /\ (nth xs M.pc).op <= 19 := by
    rcases hgp with h | h | h | h
    ·rw [hr] at h; cases h.1
    ·omega
    ·exact absurd h.2.1 c20
    ·rw [h.2.2.2.1] at hld; cases hld
   have hj := goes_jump hr h1519
   obtain ⟨s', hl, hs'⟩ : ∃ s', leavesJ (nth xs M.pc) (known.getD M.pc []) true = some s' /\ HoldS s' M.regs := by
    by_cases c15 : (nth xs M.pc).op = 15
    ·refine ⟨known.getD M.pc [], ?_, h.hold⟩
     unfold leavesJ
     rw [if_neg (by omega), if_neg (three_no (by omega)), if_neg (by omega), if_neg (by omega), if_neg (by omega), if_neg (jump_no (by omega))]
    ·have := ref_hold hr hm h.wr h.hold ha (by omega)
     unfold goesE at hge
     rw [if_neg c15, if_neg c20] at hge
     rw [hge] at this
     exact this
   have ht : turnE (nth xs M.pc) M = M.turn := by unfold turnE; rw [if_neg c20]
   have hx : ((M.pc : Int) + (nth xs M.pc).far).toNat < xs.length := by omega
   obtain ⟨w1, w2⟩ := hK.way hx (show M.pc < ((M.pc : Int) + (nth xs M.pc).far).toNat by omega) h.kn (.inl ⟨rfl, hld, by omega⟩) hl
   obtain ⟨c1, _, _, c4⟩ := way_step hT (k' := (M.pc : Int) + (nth xs M.pc).far) h.pc h.cnt (c' := M.turn) (fun _ _ => rfl) (.inr (.inl ⟨rfl, hld, c20⟩))
   refine ⟨⟨hx, w1, h.wr, w2 _ h.wr hs', by simp only [ht]; exact c1, h.ws, h.cs, .inl h0⟩, ?_, rfl⟩
   unfold pot
   simp only [h0, if_true, ht]
   rw [show ((((M.pc : Int) + (nth xs M.pc).far).toNat : Nat) : Int) = (M.pc : Int) + (nth xs M.pc).far by omega]
   omega
 | false =>
  rw [if_neg (by simp)]
  have c15 : (nth xs M.pc).op ≠ 15 := fun c15 => by
   have hj := goes_jump hr (by omega)
   rw [hj.2, Bool.true_and] at hgo
   unfold goesE at hgo
   rw [if_pos c15] at hgo
   cases hgo
  have ht1 : ∀ t : Int, t ≠ M.pc -> turnE (nth xs M.pc) M t = M.turn t := fun t ht => by
   unfold turnE
   split
   ·exact if_neg ht
   ·rfl
  have ht2 : (nth xs M.pc).op = 20 -> turnE (nth xs M.pc) M M.pc = 0 := fun c20 => by
   have hld : (nth xs M.pc).leads = true := by
    rcases hgp with h | h | h | h
    ·rw [hr] at h; cases h.1
    ·omega
    ·exact h.2.2.2.1
    ·omega
   rw [hld, Bool.true_and] at hgo
   unfold turnE
   rw [if_pos c20]
   exact (if_pos rfl).trans (if_neg (by rw [hgo]; simp))
  by_cases c16 : 16 <= (nth xs M.pc).op /\ (nth xs M.pc).op <= 19
  ·have hj := goes_jump hr (by omega)
   rw [hj.2, Bool.true_and] at hgo
   unfold goesE at hgo
   rw [if_neg c15, if_neg (by omega)] at hgo
   obtain ⟨s', hl, hs'⟩ := ref_hold hr hm h.wr h.hold ha c16
   rw [hgo] at hl
   have hly : laysE ev (nth xs M.pc) M = (M.regs, M.ws) := by
    unfold laysE
    rw [if_neg (by omega), if_neg (by omega), if_neg (by omega), if_neg (by omega), if_neg (by omega), if_neg (by omega)]
   rw [hly]
   exact next { M with turn := turnE (nth xs M.pc) M, steps := M.steps + 1, pc := M.pc + 1 } s' hl hs' h.wr h.ws h.cs h0 rfl rfl ht1 ht2 c15 c22
  ·obtain ⟨s', hl, hs', hw', hws'⟩ := lays_hold hr hm h.wr h.ws hev h.hold ha (by omega)
   exact next _ s' hl hs' hw' hws' h.cs h0 rfl rfl ht1 ht2 c15 c22
theorem safe_answer {xs : List In} {nm : Nat} {known : List St} {M : Mc} (hK : Known xs nm known) (h : Safe xs nm known M) (h1 : M.mode = 1) {E v : Int} {f : Bool} (hv : 0 <= v /\ v <= 18446744073709551615) :
  Safe xs nm known (answerE xs M E f v) /\ pot xs (answerE xs M E f v) <= pot xs M /\ (answerE xs M E f v).steps = M.steps := by
 have hT := hK.T
 have hr := hT.right h.pc
 have hpl := place_ok h.pc (hT.place M.pc h.pc)
 have hm := hK.made h.pc h.kn
 obtain ⟨_, c21, c4⟩ : M.mode = 1 /\ (nth xs M.pc).op = 21 /\ (nth xs M.pc).imm <= 4 := by
  rcases h.mode with h2 | h2 | h2
  ·omega
  ·exact h2
  ·omega
 have hc := right_call hr c21
 have ho : (nth xs M.pc).on = true := by
  rcases goes_parts (nth xs M.pc) with h | h | h | h
  ·rw [hr] at h; cases h.1
  ·omega
  ·omega
  ·rw [h.2.2.2.2]; exact decide_eq_true (by omega)
 have hlt := hpl.2.2.2 ho
 have hl : leavesJ (nth xs M.pc) (known.getD M.pc []) false = some ((known.getD M.pc []).set 0 (resL (nth xs M.pc).imm).1) := by
  unfold leavesJ
  rw [if_neg (by omega), if_neg (three_no (by omega)), if_neg (by omega), if_neg (by omega), if_pos c21]
 obtain ⟨r1, r2⟩ := res_hold (E := E) (f := f) ⟨hc.1, c4⟩ hv
 have hw := h.wr.set 0 r2
 obtain ⟨w1, w2⟩ := hK.way (x := M.pc + 1) hlt (by omega) h.kn (.inr ⟨rfl, ho, rfl⟩) hl
 obtain ⟨c1, _, _, c5⟩ := way_step hT (k' := (M.pc : Int) + 1) h.pc h.cnt (c' := M.turn) (fun _ _ => rfl) (.inl ⟨rfl, fun h20 => by omega, ho⟩)
 refine ⟨⟨hlt, w1, hw, w2 _ hw (h.hold.set hm.1 h.wr.1 r1), c1, h.ws, h.cs, .inl rfl⟩, ?_, rfl⟩
 unfold pot answerE
 simp only [if_true, h1]
 rw [if_neg (by omega), show ((M.pc + 1 : Nat) : Int) = (M.pc : Int) + 1 by omega]
 omega
def inqR (ms : List Int) (xs : List In) : Except (Int × Int) Kn :=
 if mapsJ ms = false then .error (0, 2) else if errL xs ≠ 0 then .error ((checkL xs).1, errL xs)
 else match runK xs ms.length xs.length with
  | .error e => .error (e.1, e.2)
  | .ok K => .ok K
def judgeR (ms : List Int) (xs : List In) : Int × Int := match inqR ms xs with | .error e => e | .ok _ => (0, 0)
theorem first_lt {p : Nat -> Bool} {n k : Nat} (h : first p n = some k) : k < n := by
 unfold first at h
 exact List.mem_range.1 (List.mem_of_find?_eq_some h)
theorem crossF_mem : ∀ (r prev : List Lp) (t : Int), crossF prev r = some t -> ∃ l ∈ r, l.t = t
 | [], prev, t, h => by simp [crossF] at h
 | x :: r, prev, t, h => by
  rw [crossF] at h
  split at h
  ·injection h with h; exact ⟨x, by simp, h⟩
  ·obtain ⟨l, hl, e⟩ := crossF_mem r _ t h; exact ⟨l, by simp [hl], e⟩
theorem check_place (xs : List In) : 0 <= (checkL xs).1 /\ ((checkL xs).1 = 0 ∨ (checkL xs).1 < xs.length) := by
 unfold checkL
 split
 ·exact ⟨by decide, .inl rfl⟩
 split
 ·exact ⟨by decide, .inl rfl⟩
 split
 ·rename_i k hk
  have := first_lt hk
  exact ⟨by simp, .inr (by simp; omega)⟩
 split
 ·rename_i t ht
  obtain ⟨l, hl, rfl⟩ := crossF_mem _ _ _ ht
  obtain ⟨k, hk, _, rfl⟩ := loopsU_mem.1 hl
  exact ⟨by simp [lpAt], .inr (by simp [lpAt]; omega)⟩
 split
 ·rename_i k hk
  have := first_lt hk
  exact ⟨by simp, .inr (by simp; omega)⟩
 split
 ·exact ⟨by decide, .inl rfl⟩
 ·exact ⟨by decide, .inl rfl⟩
set_option maxHeartbeats 800000 in
theorem linq_maps (vm vc : Value) (ms : List Int) (w : World) (hm : Sees .i64 w vm ms) (hmf : Hid (mapsJ ms = false)) :
  Calls Tryz.prog 20 #[.agg #[vm, vc]] w fun e w' => e = .returned (.tuple #[.slice none 0 0, .int .i64 0, .int .i64 2]) /\ Below w.heap.size w w' := by
 have HM := keepJ hm
 obtain ⟨ma, mcap, rfl⟩ : ∃ a c, vm = .slice a ms.length c := by obtain ⟨a, c, h, _⟩ := hm; exact ⟨a, c, h⟩
 go_enter Tryz.func20, Tryz.ntmps20
 go_wp2_with (go_at_call 27; go_must (refine (lmapsFit_any _ ms _ (HM.out.below ((Below.refl _ _).alloc (Nat.le_refl _) _) (Nat.le_refl _)) hmf).mono ?_); rintro e w' ⟨rfl, rfl⟩)
 go_ret3
 exact ⟨rfl, by go_grown⟩
set_option maxHeartbeats 800000 in
theorem linq_flow (vm : Value) (ms : List Int) (vc : Value) (xs : List In) (w : World) (hm : Sees .i64 w vm ms) (hx : SeesI w vc xs) (hmf : Hid (mapsJ ms = true)) {P E : Int} (hP : Hid (P = (checkL xs).1)) (hE : Hid (E = errL xs)) (hE0 : E ≠ 0) :
  Calls Tryz.prog 20 #[.agg #[vm, vc]] w fun e w' => e = .returned (.tuple #[.slice none 0 0, .int .i64 P, .int .i64 E]) /\ Below w.heap.size w w' := by
 have HM := keepJ hm
 have HX := keepJ hx
 obtain ⟨ma, mcap, rfl⟩ : ∃ a c, vm = .slice a ms.length c := by obtain ⟨a, c, h, _⟩ := hm; exact ⟨a, c, h⟩
 obtain ⟨ca, ccap, rfl⟩ : ∃ a c, vc = .slice a xs.length c := by obtain ⟨a, c, h, _⟩ := hx; exact ⟨a, c, h⟩
 have hE1 : ¬ E = 0 := hE0
 clear hm hx hE0
 go_enter Tryz.func20, Tryz.ntmps20
 go_wp2_with (first
  | (go_at_call 27; go_must (refine (lmapsFit_any _ ms _ (HM.out.below ((Below.refl _ _).alloc (Nat.le_refl _) _) (Nat.le_refl _)) hmf).mono ?_); rintro e w' ⟨rfl, rfl⟩)
  | (go_at_call 28; go_must (refine (check_as (HX.out.below ((Below.refl _ _).alloc (Nat.le_refl _) _)) hP hE).mono ?_); rintro e w2 ⟨rfl, hb2⟩; go_must (have hB2 := box_below hb2; clear hb2)))
 go_ret3
 exact ⟨rfl, hB2⟩
theorem linquire_any (vm : Value) (ms : List Int) (vc : Value) (xs : List In) (w : World) (hm : Sees .i64 w vm ms) (hx : SeesI w vc xs) :
  Calls Tryz.prog 20 #[.agg #[vm, vc]] w fun e w' =>
   (∃ P E : Int, inqR ms xs = .error (P, E) /\ E ≠ 0 /\ (0 <= P /\ (P = 0 ∨ P < xs.length)) /\ e = .returned (.tuple #[.slice none 0 0, .int .i64 P, .int .i64 E]) /\ Below w.heap.size w w') ∨
   (∃ (K : Kn) (kb : Nat), inqR ms xs = .ok K /\ Taken xs /\ mapsJ ms = true /\ runK xs ms.length xs.length = .ok K /\ e = .returned (.tuple #[.slice (some ⟨kb, 0, none⟩) xs.length xs.length, .int .i64 0, .int .i64 0]) /\ Hp w' kb 115 (flatK K) /\ w.heap.size <= kb /\ K.length = xs.length /\ MadeK ms.length K /\ Below w.heap.size w w') := by
 unfold inqR
 cases hmf : mapsJ ms with
 | false =>
  refine (linq_maps vm vc ms w hm hmf).mono ?_
  rintro e w' ⟨rfl, hb⟩
  exact .inl ⟨0, 2, by simp, by decide, ⟨by decide, .inl rfl⟩, rfl, hb⟩
 | true =>
  by_cases hE : errL xs = 0
  ·have hT : Taken xs := check_ok.1 hE
   obtain ⟨a, cap, hv, h1, h2, h3, h4⟩ := id hx
   obtain ⟨b, off, rfl, hlt, hat⟩ := h4 (fun e => by have := hT.pos; rw [e] at this; simp at this)
   subst hv
   refine (linq_run vm ms b off cap xs w hm hx hmf hE.symm).mono ?_
   rintro e w' (⟨p, E, hr, hE0, hp, rfl, hb⟩ | ⟨K, kb, hr, rfl, hk, hkb, hl, hM, hb⟩)
   ·refine .inl ⟨p, E, ?_, hE0, ⟨by omega, .inr (by omega)⟩, rfl, hb⟩
    rw [if_neg (by simp), if_neg (by simp [hE]), hr]
   ·refine .inr ⟨K, kb, ?_, hT, rfl, hr, rfl, hk, hkb, hl, hM, hb⟩
    rw [if_neg (by simp), if_neg (by simp [hE]), hr]
  ·refine (linq_flow vm ms vc xs w hm hx hmf rfl rfl hE).mono ?_
   rintro e w' ⟨rfl, hb⟩
   exact .inl ⟨(checkL xs).1, errL xs, by rw [if_neg (by simp), if_pos hE], hE, check_place xs, rfl, hb⟩
set_option maxHeartbeats 800000 in
theorem ljudge_any (vm : Value) (ms : List Int) (vc : Value) (xs : List In) (w : World) (hm : Sees .i64 w vm ms) (hx : SeesI w vc xs) :
  Calls Tryz.prog 8 #[.agg #[vm, vc]] w fun e w' => ∃ P E : Int, judgeR ms xs = (P, E) /\ (E = 0 ↔ ∃ K, inqR ms xs = .ok K) /\ (0 <= P /\ (P = 0 ∨ P < xs.length)) /\ e = .returned (.tuple #[.int .i64 P, .int .i64 E]) /\ Below w.heap.size w w' := by
 have HM := keepJ hm
 have HX := keepJ hx
 obtain ⟨ma, mcap, rfl⟩ : ∃ a c, vm = .slice a ms.length c := by obtain ⟨a, c, h, _⟩ := hm; exact ⟨a, c, h⟩
 obtain ⟨ca, ccap, rfl⟩ : ∃ a c, vc = .slice a xs.length c := by obtain ⟨a, c, h, _⟩ := hx; exact ⟨a, c, h⟩
 clear hm hx
 go_enter Tryz.func8, Tryz.ntmps8
 go_wp2_with (go_at_call 20; go_must (refine (linquire_any _ ms _ xs _ (HM.out.below ((Below.refl _ _).alloc (Nat.le_refl _) _) (Nat.le_refl _)) (HX.out.below ((Below.refl _ _).alloc (Nat.le_refl _) _))).mono ?_); rintro e w1 (⟨P, E, hi, hE0, hP, rfl, hb⟩ | ⟨K, kb, hi, hT, hmf, hr, rfl, hk, hkb, hl, hM, hb⟩) <;> (have HB := keepJ (box_below hb); have HI := keepJ hi; clear hb hi))
 ·go_ret2
  exact ⟨P, E, by unfold judgeR; rw [HI.out], ⟨fun h => absurd h hE0, fun ⟨K, h⟩ => by rw [HI.out] at h; cases h⟩, hP, rfl, HB.out⟩
 ·go_ret2
  exact ⟨0, 0, by unfold judgeR; rw [HI.out], ⟨fun _ => ⟨K, HI.out⟩, fun _ => rfl⟩, ⟨by decide, .inl rfl⟩, rfl, HB.out⟩
theorem own_block {w : World} {base : Nat} {e : TypeId} {z : Nat} {v : Value} {n : Nat} {xs : List Value} (h : w.ownsRow base e z v n xs) (hn : 0 < n) : ∃ g cap, v = .slice (some ⟨g, 0, none⟩) n cap /\ base <= g /\ g < w.heap.size /\ n <= cap := by
 rcases h with ⟨h1, ⟨rfl, rfl⟩ | ⟨g, cap, cur, rfl, hb, hh, h3, h4, _⟩⟩
 ·omega
 ·exact ⟨g, cap, rfl, hb, (Array.getElem?_eq_some_iff.1 hh).1, h3⟩
structure Rs where
 E : Int
 f : Bool
 v : Int
 o : Bool
 k : Int
 u : Int
def Rs.nil : Rs := ⟨0, false, 0, false, 0, 0⟩
def traceE (ms : List Int) (xs : List In) (ev : Int × Int) : Nat -> Mc -> List Rs -> List Ac
 | 0, _, _ => []
 | n + 1, M, rs => (stepE ms xs ev M).1 ::
  (if (stepE ms xs ev M).1.k = 4 then [] else if (stepE ms xs ev M).1.k = 2 then
   (match rs with | [] => [] | r :: rest => traceE ms xs ev n (answerE xs (stepE ms xs ev M).2 r.E r.f r.v) rest)
  else traceE ms xs ev n (stepE ms xs ev M).2 rs)
theorem step_kinds {ms : List Int} {xs : List In} {ev : Int × Int} {M : Mc} (h0 : M.mode = 0) :
  ((stepE ms xs ev M).1.k = 4 /\ (stepE ms xs ev M).2.mode = 2) ∨ ((stepE ms xs ev M).1.k = 2 /\ (stepE ms xs ev M).2.mode = 1) ∨ (((stepE ms xs ev M).1.k = 1 ∨ (stepE ms xs ev M).1.k = 3) /\ (stepE ms xs ev M).2.mode = 0) := by
 unfold stepE
 rw [if_neg (by omega), if_neg (by omega)]
 split
 ·unfold callE
  split
  ·exact .inr (.inl ⟨rfl, rfl⟩)
  ·split
   ·exact .inr (.inr ⟨.inl rfl, h0⟩)
   ·exact .inr (.inr ⟨.inr rfl, h0⟩)
 ·split
  ·exact .inl ⟨rfl, rfl⟩
  ·split
   ·exact .inr (.inr ⟨.inl rfl, h0⟩)
   ·exact .inr (.inr ⟨.inl rfl, h0⟩)
theorem trace_end {ms : List Int} {xs : List In} {ev : Int × Int} {M : Mc} {n : Nat} {rs : List Rs} (h : (stepE ms xs ev M).1.k = 4) : traceE ms xs ev (n + 1) M rs = [(stepE ms xs ev M).1] := by
 cases rs <;> (rw [traceE]; rw [if_pos h])
theorem trace_none {ms : List Int} {xs : List In} {ev : Int × Int} {M : Mc} {n : Nat} (h : (stepE ms xs ev M).1.k = 2) : traceE ms xs ev (n + 1) M [] = [(stepE ms xs ev M).1] := by
 rw [traceE, if_neg (by omega), if_pos h]
theorem trace_ask {ms : List Int} {xs : List In} {ev : Int × Int} {M : Mc} {n : Nat} {r : Rs} {rs : List Rs} (h : (stepE ms xs ev M).1.k = 2) : traceE ms xs ev (n + 1) M (r :: rs) = (stepE ms xs ev M).1 :: traceE ms xs ev n (answerE xs (stepE ms xs ev M).2 r.E r.f r.v) rs := by
 rw [traceE, if_neg (by omega), if_pos h]
theorem trace_on {ms : List Int} {xs : List In} {ev : Int × Int} {M : Mc} {n : Nat} {rs : List Rs} (h : (stepE ms xs ev M).1.k ≠ 4 /\ (stepE ms xs ev M).1.k ≠ 2) : traceE ms xs ev (n + 1) M rs = (stepE ms xs ev M).1 :: traceE ms xs ev n (stepE ms xs ev M).2 rs := by
 cases rs <;> (rw [traceE]; rw [if_neg h.1, if_neg h.2])
end Go.Proofs.YtkondcjmhlppiaaGreat
