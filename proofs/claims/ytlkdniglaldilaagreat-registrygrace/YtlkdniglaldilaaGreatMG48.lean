/-
  X24Ref
  X24Gr
-/
import Derived.Test.YtlkdniglaldilaaGreatMG38
import Derived.Test.YtlkdniglaldilaaGreatMG47
namespace Go.Proofs.YtlkdniglaldilaaGreat
set_option linter.unusedVariables false
set_option linter.unusedSimpArgs false
theorem goes_st {r : Rg} (hk : r.Ok) {x n : Int} (h : n ∈ r.goes x) : r.st n = 1 := (hk.ln n).1 ((r.goes_sub x).subset h)
theorem goes_in {r : Rg} (hk : r.Ok) {x n : Int} (h : n ∈ r.goes x) : 1 <= n /\ n <= r.ps.length := Rg.st_in (r := r) (by rw [goes_st hk h]; decide)
theorem settle_st {r : Rg} (hk : r.Ok) (x n : Int) : (r.settle x).2.st n = if n ∈ r.goes x then 2 else r.st n := by
 have hin : ∀ n ∈ r.goes x, r.st n = 1 := fun n hn => goes_st hk hn
 obtain ⟨i1, i2, i3, i4, i5⟩ := goneP_all (r.goes x) r.ps (fun n hn => Rg.st_in (r := r) (by rw [hin n hn]; decide)) hk.sb (hk.nd.sublist (r.goes_sub x)) (fun n hn => by rw [<- Rg.st_eq, hin n hn]; decide)
 exact i2 n
structure Wb where
 k : Nat
 x : Bool
 y : Bool
def wtC : Option Wb -> Value
 | none => .slice none 0 0
 | some t => .slice (some ⟨t.k, 0, none⟩) 2 2
def Wb.at (t : Wb) (i : Nat) : Bool := if i = 0 then t.x else t.y
def Wb.off (t : Wb) (i : Nat) : Wb := if i = 0 then ⟨t.k, false, t.y⟩ else ⟨t.k, t.x, false⟩
theorem Wb.off_k (t : Wb) (i : Nat) : (t.off i).k = t.k := by unfold Wb.off; split <;> rfl
def offW (W : List (Option Wb)) (i j : Nat) : List (Option Wb) := (W.take j).map (Option.map (·.off i)) ++ W.drop j
theorem offW_len (W : List (Option Wb)) (i j : Nat) : (offW W i j).length = W.length := by
 unfold offW; rw [List.length_append, List.length_map, List.length_take, List.length_drop]; omega
theorem offW_at (W : List (Option Wb)) (i j n : Nat) : (offW W i j).getD n none = if n < j then (W.getD n none).map (·.off i) else W.getD n none := by
 unfold offW
 rw [List.getD_eq_getElem?_getD, List.getElem?_append, List.length_map, List.length_take, List.getD_eq_getElem?_getD]
 by_cases h : n < j
 ·rw [if_pos h]
  by_cases h2 : n < W.length
  ·rw [if_pos (by omega), List.getElem?_map, List.getElem?_take, if_pos h, List.getElem?_eq_getElem h2]; rfl
  ·rw [if_neg (by omega), List.getElem?_drop, List.getElem?_eq_none (by omega), List.getElem?_eq_none (show W.length <= n by omega)]; rfl
 ·rw [if_neg h]
  by_cases h2 : n < W.length
  ·rw [if_neg (by omega), List.getElem?_drop]
   congr 2
   omega
  ·rw [if_neg (by omega), List.getElem?_drop, List.getElem?_eq_none (by omega), List.getElem?_eq_none (show W.length <= n by omega)]
theorem offW_zero (W : List (Option Wb)) (i : Nat) : offW W i 0 = W := by simp [offW]
theorem offW_more (W : List (Option Wb)) (i : Nat) {j : Nat} (h : j < W.length) : offW W i (j + 1) = (offW W i j).set j ((W.getD j none).map (·.off i)) := by
 refine List.ext_getElem (by simp [offW_len]) (fun n h1 h2 => ?_)
 have e1 := offW_at W i (j + 1) n
 have e2 := offW_at W i j n
 rw [List.getD_eq_getElem?_getD, List.getElem?_eq_getElem h1] at e1
 rw [List.getD_eq_getElem?_getD, List.getElem?_eq_getElem (by rw [offW_len] at h1 ⊢; exact h1)] at e2
 have e1 : (offW W i (j + 1))[n] = _ := e1
 have e2 : (offW W i j)[n]'(by rw [offW_len] at h1 ⊢; exact h1) = _ := e2
 rw [e1, List.getElem_set]
 by_cases e : j = n
 ·subst e
  rw [if_pos rfl, if_pos (by omega)]
 ·rw [if_neg e, e2]
  by_cases g : n < j
  ·rw [if_pos g, if_pos (by omega)]
  ·rw [if_neg g, if_neg (by omega)]
theorem getD_set_W (W : List (Option Wb)) (p n : Nat) (t : Option Wb) (hp : p < W.length) : (W.set p t).getD n none = if n = p then t else W.getD n none := by
 rw [List.getD_eq_getElem?_getD, List.getElem?_set]
 by_cases e : p = n
 ·subst e; rw [if_pos rfl, if_pos hp, if_pos rfl]; rfl
 ·rw [if_neg e, if_neg (fun g => e g.symm), <- List.getD_eq_getElem?_getD]
structure Gq (r : Rg) (W : List (Option Wb)) : Prop where
 len : W.length = 130
 dom : ∀ n : Nat, n < 130 -> (W.getD n none).isSome = rtd r n
 low : ∀ (n : Nat) t, W.getD n none = some t -> r.st n = 1 -> ∀ i : Nat, i < 2 -> t.at i = true -> r.ck.at i ≠ 0 /\ r.ck.at i < (r.pg n).ep
 two : r.ck.ins.length = 2
theorem Gq.new (hh m : Nat) : Gq (Rg.new hh m 2) (List.replicate 130 none) := by
 have e0 : ∀ n, (List.replicate 130 (none : Option Wb)).getD n none = none := fun n => by
  rw [List.getD_eq_getElem?_getD, List.getElem?_replicate]; split <;> rfl
 refine ⟨by simp, fun n hn => ?_, fun n t h => ?_, rfl⟩
 ·rw [e0]
  have h0 : (Rg.new hh m 2).ps.length = 0 := rfl
  have : rtd (Rg.new hh m 2) n = false := decide_eq_false (fun g => by omega)
  rw [this]; rfl
 ·rw [e0] at h; cases h
theorem rtd_of {r r' : Rg} (h : rtB r' = rtB r) {n : Nat} (hn : n < 130) : rtd r' n = rtd r n := by
 rw [<- rtB_at r' hn, <- rtB_at r hn, h]
theorem play_rt {r : Rg} (hk : r.Ok) {k x p n E : Int} {ws : List Int} {r' : Rg} (h : r.play k x p ws = (n, E, r')) (k4 : ¬ k = 4) : rtB r' = rtB r := by
 by_cases hE : E = 0
 ·subst hE
  by_cases k0 : k = 0
  ·subst k0; exact (play_load h).2.2.2
  by_cases k1 : k = 1
  ·exact (play_put (.inl k1) h).2.2.2.1
  by_cases k2 : k = 2
  ·exact (play_put (.inr k2) h).2.2.2.1
  exact (play_rest hk h k0 k1 k2 k4).2.2
 ·rw [(play_err h hE).2]
structure Sm (r r' : Rg) : Prop where
 st : ∀ n : Int, r'.st n = 1 -> r.st n = 1 /\ (r'.pg n).ep = (r.pg n).ep
 at' : ∀ i : Nat, r.ck.at i ≠ 0 -> r'.ck.at i = r.ck.at i
 len : r'.ck.ins.length = r.ck.ins.length
theorem Sm.refl (r : Rg) : Sm r r := ⟨fun n h => ⟨h, rfl⟩, fun i h => rfl, rfl⟩
theorem Gq.sm {r r' : Rg} {W : List (Option Wb)} (h : Gq r W) (hs : Sm r r') (hr : rtB r' = rtB r) : Gq r' W := by
 refine ⟨h.len, fun n hn => (h.dom n hn).trans (rtd_of hr hn).symm, fun n t ht h1 i hi hx => ?_, hs.len.trans h.two⟩
 obtain ⟨e1, e2⟩ := hs.st n h1
 obtain ⟨g1, g2⟩ := h.low n t ht e1 i hi hx
 rw [hs.at' i g1, e2]
 exact ⟨g1, g2⟩
theorem Ck.at_set (l : List Int) (c : Int) (a : Int) (i : Nat) (k : Nat) (hk : k < l.length) : (⟨c, l.set k a⟩ : Ck).at i = if i = k then a else (⟨c, l⟩ : Ck).at i := by
 rw [Ck.at_nat, Ck.at_nat]
 show (l.set k a).getD i 0 = if i = k then a else l.getD i 0
 rw [List.getD_eq_getElem?_getD, List.getElem?_set]
 by_cases e : k = i
 ·subst e; rw [if_pos rfl, if_pos hk, if_pos rfl]; rfl
 ·rw [if_neg e, if_neg (fun g => e g.symm), <- List.getD_eq_getElem?_getD]
theorem play_sm {r : Rg} (hk : r.Ok) {k x p n E : Int} {ws : List Int} {r' : Rg} (h : r.play k x p ws = (n, E, r')) (k4 : ¬ k = 4) (k5 : ¬ k = 5) (k7 : ¬ k = 7) : Sm r r' := by
 unfold Rg.play at h
 rw [if_neg k4, if_neg k5, if_neg k7] at h
 have hput : ∀ sw, r.put sw x p = (n, E, r') -> Sm r r' := fun sw h => by
  obtain ⟨e1, e2, e3, e4, e5⟩ := r.put_same sw x p
  rw [h] at e1 e3
  have e1 : r'.ps = r.ps := e1
  have e3 : r'.ck = r.ck := e3
  refine ⟨fun n hn => ?_, fun i _ => by rw [e3], by rw [e3]⟩
  rw [Rg.st_eq, e1] at hn
  exact ⟨hn, by rw [Rg.pg_eq, Rg.pg_eq, e1]⟩
 split at h
 ·unfold Rg.loadB Rg.load at h
  split at h
  ·injection h with e1 h; injection h with e2 e3; subst e3; exact Sm.refl r
  split at h
  ·injection h with e1 h; injection h with e2 e3; subst e3; exact Sm.refl r
  split at h
  ·injection h with e1 h; injection h with e2 e3; subst e3; exact Sm.refl r
  ·injection h with e1 h
   injection h with e2 e3
   subst e3
   refine ⟨fun n hn => ?_, fun i _ => rfl, rfl⟩
   rw [Rg.st_eq] at hn
   have hn : stP (r.ps ++ [_]) n = 1 := hn
   rw [stP_app] at hn
   by_cases e : n = (r.ps.length : Int) + 1
   ·rw [if_pos e] at hn; cases hn
   ·rw [if_neg e] at hn
    refine ⟨hn, ?_⟩
    rw [Rg.pg_eq, Rg.pg_eq]
    show (pgP (r.ps ++ [_]) n).ep = _
    rw [pgP_app, if_neg e]
 split at h
 ·exact hput _ h
 split at h
 ·exact hput _ h
 split at h
 ·injection h with e1 h; injection h with e2 e3; subst e3
  exact ⟨fun n hn => ⟨hn, rfl⟩, fun i _ => rfl, rfl⟩
 split at h
 ·unfold Rg.enter at h
  injection h with e1 h
  injection h with e2 e3
  subst e3
  refine ⟨fun n hn => ⟨hn, rfl⟩, fun i hi => ?_, ?_⟩
  ·show (r.ck.enter x).2.2.at i = _
   unfold Ck.enter
   split
   ·rfl
   split
   ·rename_i g1 g2
    obtain ⟨q, hq, hq2⟩ := Ck.has_nat (c := r.ck) (x := x) (by simpa using g1)
    subst hq
    show (⟨r.ck.now, r.ck.ins.set q r.ck.now⟩ : Ck).at i = _
    rw [Ck.at_set _ _ _ _ _ hq2, if_neg (fun e => hi (by rw [e]; exact g2))]
   ·rfl
  ·show (r.ck.enter x).2.2.ins.length = _
   unfold Ck.enter
   split
   ·rfl
   split
   ·exact List.length_set ..
   ·rfl
 ·injection h with e1 h; injection h with e2 e3; subst e3
  exact ⟨fun n hn => ⟨hn, rfl⟩, fun i _ => rfl, rfl⟩
theorem Gq.play {r : Rg} {W : List (Option Wb)} (h : Gq r W) (hk : r.Ok) {k x p n E : Int} {ws : List Int} {r' : Rg} (hq : r.play k x p ws = (n, E, r')) (k4 : ¬ k = 4) (k5 : ¬ k = 5) (k7 : ¬ k = 7) : Gq r' W :=
 h.sm (play_sm hk hq k4 k5 k7) (play_rt hk hq k4)
theorem Gq.ret {r : Rg} {W : List (Option Wb)} (h : Gq r W) (hk : r.Ok) (hl : r.ps.length <= 120) {p n : Int} {r' : Rg} (hq : r.ret p = (n, 0, r')) : (1 <= p /\ p <= 120) /\ W.getD p.toNat none = none /\ ∀ (B : Nat), Gq r' (W.set p.toNat (some ⟨B, r'.ck.at 0 != 0, r'.ck.at 1 != 0⟩)) := by
 have hp : r.play 4 0 p [] = (n, 0, r') := hq
 obtain ⟨e1, e2, e3, g1, g2, g3⟩ := play_ret hk hp hl
 have hpl : p.toNat < W.length := by rw [h.len]; omega
 have hpn : ((p.toNat : Nat) : Int) = p := by omega
 have hW : W.getD p.toNat none = none := by
  have := h.dom p.toNat (by omega)
  have h0 : rtd r p.toNat = false := decide_eq_false (fun g => g.2.2 (by rw [hpn]; exact g3))
  rw [h0] at this
  exact Option.not_isSome_iff_eq_none.1 (by rw [this]; decide)
 have hck : r'.ck = r.ck.go /\ ∀ m : Int, pgP r'.ps m = if m = p then ⟨(pgP r.ps p).ms, (pgP r.ps p).xs, 1, r.ck.now + 1⟩ else pgP r.ps m := by
  unfold Rg.ret at hq
  split at hq
  ·injection hq with e1 hq; injection hq with e2 e3; cases e2
  split at hq
  ·injection hq with e1 hq; injection hq with e2 e3; cases e2
  split at hq
  ·injection hq with e1 hq; injection hq with e2 e3; cases e2
  ·injection hq with e1 hq
   injection hq with e2 e3
   subst e3
   exact ⟨rfl, fun m => pgP_set g1 g2 1 _ m⟩
 obtain ⟨hck, hpg⟩ := hck
 have hat : ∀ i : Nat, r'.ck.at i = r.ck.at i := fun i => by rw [hck]; rfl
 refine ⟨⟨g1, by omega⟩, hW, fun B => ⟨by rw [List.length_set]; exact h.len, fun m hm => ?_, fun m t ht hs i hi hx => ?_, by rw [hck]; exact h.two⟩⟩
 ·have e4 : ((rtB r).set p.toNat true).getD m false = if m = p.toNat then true else (rtB r).getD m false := by
   rw [List.getD_eq_getElem?_getD, List.getElem?_set]
   by_cases e : p.toNat = m
   ·rw [if_pos e, if_pos e.symm, if_pos (by rw [rtB_len]; omega)]; rfl
   ·rw [if_neg e, if_neg (fun g => e g.symm), <- List.getD_eq_getElem?_getD]
  rw [getD_set_W _ _ _ _ hpl, <- rtB_at r' hm, e3, e4]
  by_cases e : m = p.toNat
  ·rw [if_pos e, if_pos e]; rfl
  ·rw [if_neg e, if_neg e, rtB_at r hm]
   exact h.dom m hm
 ·rw [getD_set_W _ _ _ _ hpl] at ht
  rw [hat i, Rg.pg_eq, hpg]
  by_cases e : m = p.toNat
  ·rw [if_pos e] at ht
   injection ht with ht
   subst ht
   rw [if_pos (by omega)]
   have hle := hk.ck.at_le i
   have hne : r.ck.at i ≠ 0 := by
    rw [<- hat i]
    unfold Wb.at at hx
    rcases (show i = 0 ∨ i = 1 by omega) with rfl | rfl
    ·rw [if_pos rfl] at hx
     have hx : (r'.ck.at 0 != 0) = true := hx
     have : r'.ck.at 0 ≠ 0 := by simpa using hx
     exact this
    ·rw [if_neg (by omega)] at hx
     have hx : (r'.ck.at 1 != 0) = true := hx
     have : r'.ck.at 1 ≠ 0 := by simpa using hx
     exact this
   exact ⟨hne, by show _ < r.ck.now + 1; omega⟩
  ·rw [if_neg e] at ht
   have e2 : ¬ (m : Int) = p := by omega
   rw [if_neg e2]
   have hs2 : r.st m = 1 := by
    have h3 : (pgP r'.ps m).st = 1 := hs
    rw [hpg, if_neg e2] at h3
    exact h3
   exact h.low m t ht hs2 i hi hx
theorem safe_at {c : Ck} (hk : c.ins.length = 2) {e : Int} (h : c.safe e = true) {i : Nat} (hi : i < 2) : c.at i = 0 ∨ e <= c.at i := by
 rw [Ck.at_nat]
 have hm : c.ins.getD i 0 ∈ c.ins := by simp [List.getD, show i < c.ins.length by omega]
 have := List.all_eq_true.1 h _ hm
 unfold safeB at this
 simp only [Bool.not_eq_true', Bool.and_eq_false_iff, bne_eq_false_iff_eq, decide_eq_false_iff_not] at this
 omega
theorem Gq.settle {r : Rg} {W : List (Option Wb)} (h : Gq r W) (hk : r.Ok) (x : Int) : Gq (r.settle x).2 W := by
 have hp : r.play 5 x 0 [] = (((r.goes x).length : Int), 0, (r.settle x).2) := rfl
 refine ⟨h.len, fun n hn => (h.dom n hn).trans (rtd_of (play_rt hk hp (by decide)) hn).symm, fun n t ht hs i hi hx => ?_, h.two⟩
 have h2 := settle_st hk x n
 rw [hs] at h2
 by_cases e : (n : Int) ∈ r.goes x
 ·rw [if_pos e] at h2; cases h2
 ·rw [if_neg e] at h2
  have hpg : (r.settle x).2.pg n = r.pg n := by
   rw [Rg.pg_eq, Rg.pg_eq]
   exact goneP_pg (r.goes x) r.ps (fun m hm => goes_in hk hm) n e
  rw [hpg]
  exact h.low n t ht h2.symm i hi hx
theorem Gq.goes {r : Rg} {W : List (Option Wb)} (h : Gq r W) (hk : r.Ok) (hl : r.ps.length <= 120) {x n : Int} (hn : n ∈ r.goes x) : (1 <= n /\ n <= 120) /\ ∃ t, W.getD n.toNat none = some t /\ t.x = false /\ t.y = false := by
 obtain ⟨h1, h2⟩ := goes_in hk hn
 have hs := goes_st hk hn
 have hnn : ((n.toNat : Nat) : Int) = n := by omega
 have hd := h.dom n.toNat (by omega)
 have h0 : rtd r n.toNat = true := decide_eq_true ⟨by omega, by omega, by rw [hnn, hs]; decide⟩
 rw [h0] at hd
 obtain ⟨t, ht⟩ := Option.isSome_iff_exists.1 hd
 have hsafe : r.safeP n = true := (List.mem_filter.1 (List.mem_of_mem_take hn)).2
 have hlow := fun i hi hx => h.low n.toNat t ht (by rw [hnn]; exact hs) i hi hx
 rw [hnn] at hlow
 refine ⟨⟨h1, by omega⟩, t, ht, ?_, ?_⟩
 ·refine Bool.eq_false_iff.2 (fun e => ?_)
  obtain ⟨g1, g2⟩ := hlow 0 (by omega) e
  have := safe_at h.two hsafe (i := 0) (by omega)
  omega
 ·refine Bool.eq_false_iff.2 (fun e => ?_)
  obtain ⟨g1, g2⟩ := hlow 1 (by omega) e
  have := safe_at h.two hsafe (i := 1) (by omega)
  omega
theorem goes_most (r : Rg) (x : Int) : ((r.goes x).length : Int) <= max 0 x := by
 have : (r.goes x).length <= x.toNat := by unfold Rg.goes; rw [List.length_take]; omega
 omega
theorem leave_err {r : Rg} {x E : Int} {r' : Rg} (hq : r.leave [x] = (E, r')) (hE : E ≠ 0) : r' = r := by
 have hp : r.play 7 x 0 [] = (0, E, r') := by
  show ((0 : Int), (r.leave [x]).1, (r.leave [x]).2) = _
  rw [hq]
 exact (play_err hp hE).2
theorem leave_ok {r : Rg} (h2 : r.ck.ins.length = 2) {x : Int} {r' : Rg} (hq : r.leave [x] = (0, r')) : ∃ i : Nat, x = i /\ i < 2 /\ r' = ⟨r.mp, r.tb, ⟨r.ck.now, r.ck.ins.set i 0⟩, r.ps, r.ln⟩ := by
 unfold Rg.leave Ck.leave at hq
 split at hq
 ·injection hq with e1 e2; cases e1
 split at hq
 ·injection hq with e1 e2; cases e1
 ·rename_i g1 g2
  have ho : r.ck.once [x] = true := by simpa using g1
  obtain ⟨i, hi, hi2⟩ := Ck.has_nat ((Ck.once_parts ho).2 x (by simp))
  subst hi
  injection hq with e1 e2
  exact ⟨i, rfl, by omega, e2.symm⟩
theorem Wb.off_at (t : Wb) {i j : Nat} (hi : i < 2) (hj : j < 2) (h : (t.off i).at j = true) : j ≠ i /\ t.at j = true := by
 unfold Wb.off Wb.at at h
 unfold Wb.at
 rcases (show i = 0 ∨ i = 1 by omega) with rfl | rfl <;> rcases (show j = 0 ∨ j = 1 by omega) with rfl | rfl <;> simp at h ⊢ <;> assumption
theorem Gq.leave {r : Rg} {W : List (Option Wb)} (h : Gq r W) (i : Nat) (hi : i < 2) : Gq ⟨r.mp, r.tb, ⟨r.ck.now, r.ck.ins.set i 0⟩, r.ps, r.ln⟩ (offW W i 130) := by
 refine ⟨by rw [offW_len]; exact h.len, fun n hn => ?_, fun n t ht hs j hj hx => ?_, by show (r.ck.ins.set i 0).length = 2; rw [List.length_set]; exact h.two⟩
 ·rw [offW_at, if_pos hn, Option.isSome_map]
  exact h.dom n hn
 ·rw [offW_at] at ht
  by_cases hn : n < 130
  ·rw [if_pos hn] at ht
   obtain ⟨s, hs1, hs2⟩ := Option.map_eq_some_iff.1 ht
   subst hs2
   obtain ⟨g1, g2⟩ := Wb.off_at s hi hj hx
   have h3 := h.low n s hs1 hs j hj g2
   have e : (⟨r.ck.now, r.ck.ins.set i 0⟩ : Ck).at j = r.ck.at j := by rw [Ck.at_set _ _ _ _ _ (by rw [h.two]; exact hi), if_neg g1]
   show (⟨r.ck.now, r.ck.ins.set i 0⟩ : Ck).at j ≠ 0 /\ _
   rw [e]
   exact h3
  ·rw [if_neg hn, List.getD_eq_getElem?_getD, List.getElem?_eq_none (by rw [h.len]; omega)] at ht
   cases ht
theorem leave_out {r : Rg} (h2 : r.ck.ins.length = 2) {i : Nat} (hi : i < 2) {E : Int} {r' : Rg} (hq : r.leave [(i : Int)] = (E, r')) : r'.ck.ins = r.ck.ins.set i 0 /\ r'.ps = r.ps /\ r'.ln = r.ln := by
 unfold Rg.leave at hq
 injection hq with e1 e2
 subst e2
 refine ⟨?_, rfl, rfl⟩
 show (r.ck.leave [(i : Int)]).2.ins = _
 unfold Ck.leave
 have hh : r.ck.has i = true := Ck.has_of (by omega)
 rw [if_neg (by unfold Ck.once; simp [hh])]
 by_cases h0 : r.ck.at i = 0
 ·rw [if_pos (by simp [h0])]
  show r.ck.ins = _
  rw [Ck.at_nat] at h0
  refine (List.ext_getElem (by simp) (fun n g1 g2 => ?_)).symm
  rw [List.getElem_set]
  by_cases e : i = n
  ·subst e
   rw [if_pos rfl]
   rw [List.getD_eq_getElem?_getD, List.getElem?_eq_getElem g2] at h0
   exact h0.symm
  ·rw [if_neg e]
 ·rw [if_neg (by simp [h0])]
  rfl
theorem all_go {r : Rg} (h : r.ck.ins = [0, 0]) (hl : r.ln.length <= 1000) : r.goes 1000 = r.ln /\ (r.settle 1000).2.ln = [] := by
 have hs : ∀ n, r.safeP n = true := fun n => by
  unfold Rg.safeP Ck.safe
  rw [h]
  rfl
 have hg : r.goes 1000 = r.ln := by
  unfold Rg.goes
  rw [List.filter_eq_self.2 (fun n _ => hs n)]
  exact List.take_of_length_le hl
 refine ⟨hg, ?_⟩
 show r.ln.filter (fun n => !decide (n ∈ r.goes 1000)) = []
 rw [hg]
 exact List.filter_eq_nil_iff.2 (fun n hn => by simp [hn])
theorem two_out {l : List Int} (h : l.length = 2) : (l.set 0 0).set 1 0 = [0, 0] := by
 match l, h with
 | [a, b], _ => rfl
end Go.Proofs.YtlkdniglaldilaaGreat
