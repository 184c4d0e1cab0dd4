
/-
 Which numbers are gone, and how often a map is named, plain. No Go text in sight.
-/
import Derived.Test.YtlkdniglaldilaaGreatMS39
import Derived.Test.YtlkdniglaldilaaGreatMS46
namespace Go.Proofs.YtlkdniglaldilaaGreat
set_option linter.unusedVariables false
set_option linter.unusedSimpArgs false
def gnd (r : Rg) (n : Nat) : Bool := decide (1 <= n /\ n <= r.ps.length /\ r.st n = 2)
def gnB (r : Rg) : List Bool := (List.range 130).map (gnd r)
theorem gnB_len (r : Rg) : (gnB r).length = 130 := by simp [gnB]
theorem gnB_at (r : Rg) {n : Nat} (h : n < 130) : (gnB r).getD n false = gnd r n := by simp [gnB, List.getD, h]
theorem gnB_get (r : Rg) {m : Nat} (h : m < (gnB r).length) : (gnB r)[m]'h = gnd r m := by simp [gnB]
theorem gnB_ext {r r' : Rg} (h : ∀ n : Nat, gnd r' n = gnd r n) : gnB r' = gnB r := by
 unfold gnB
 exact List.map_congr_left (fun n _ => h n)
theorem gnB_new (hh m k : Nat) : gnB (Rg.new hh m k) = List.replicate 130 false := by
 refine List.ext_getElem (by simp [gnB_len]) (fun n h1 h2 => ?_)
 rw [gnB_get, List.getElem_replicate]
 unfold gnd
 refine decide_eq_false (fun g => ?_)
 have h0 : (Rg.new hh m k).ps.length = 0 := rfl
 omega
def gnJ (r : Rg) (l : List Int) : Nat -> List Bool
 | 0 => gnB r
 | j + 1 => (gnJ r l j).set (l.getD j 0).toNat true
theorem gnJ_len (r : Rg) (l : List Int) : ∀ j, (gnJ r l j).length = 130
 | 0 => gnB_len r
 | j + 1 => by show ((gnJ r l j).set _ true).length = 130; rw [List.length_set, gnJ_len r l j]
theorem gnJ_at (r : Rg) (l : List Int) {n : Nat} (hn : n < 130) : ∀ j, (gnJ r l j).getD n false = (gnd r n || decide (∃ i, i < j /\ (l.getD i 0).toNat = n))
 | 0 => by
  show (gnB r).getD n false = _
  rw [gnB_at r hn, decide_eq_false (by rintro ⟨i, h, _⟩; omega), Bool.or_false]
 | j + 1 => by
  show ((gnJ r l j).set _ true).getD n false = _
  rw [List.getD_eq_getElem?_getD, List.getElem?_set]
  by_cases e : (l.getD j 0).toNat = n
  ·rw [if_pos e, if_pos (by rw [gnJ_len]; omega)]
   rw [decide_eq_true ⟨j, by omega, e⟩, Bool.or_true]
   rfl
  ·rw [if_neg e, <- List.getD_eq_getElem?_getD, gnJ_at r l hn j]
   congr 1
   rw [Bool.eq_iff_iff, decide_eq_true_eq, decide_eq_true_eq]
   constructor
   ·rintro ⟨i, h1, h2⟩; exact ⟨i, by omega, h2⟩
   ·rintro ⟨i, h1, h2⟩
    by_cases h3 : i = j
    ·rw [h3] at h2; exact absurd h2 e
    ·exact ⟨i, by omega, h2⟩
theorem goes_st {r : Rg} (hk : r.Ok) {x n : Int} (h : n ∈ r.goes x) : r.st n = 1 := (hk.ln n).1 ((r.goes_sub x).subset h)
theorem goes_in {r : Rg} (hk : r.Ok) {x n : Int} (h : n ∈ r.goes x) : 1 <= n /\ n <= r.ps.length := Rg.st_in (r := r) (by rw [goes_st hk h]; decide)
theorem gnJ_new {r : Rg} (hk : r.Ok) (hl : r.ps.length <= 120) (x : Int) {j : Nat} (hj : j < (r.goes x).length) : (gnJ r (r.goes x) j).getD ((r.goes x).getD j 0).toNat false = false := by
 have hm : (r.goes x).getD j 0 ∈ r.goes x := by simp [List.getD, hj]
 obtain ⟨h1, h2⟩ := goes_in hk hm
 have hs := goes_st hk hm
 rw [gnJ_at r _ (by omega), Bool.or_eq_false_iff]
 refine ⟨decide_eq_false (fun g => ?_), decide_eq_false (fun g => ?_)⟩
 ·rw [show ((((r.goes x).getD j 0).toNat : Nat) : Int) = (r.goes x).getD j 0 by omega, hs] at g
  exact absurd g.2.2 (by decide)
 ·obtain ⟨i, hi, e⟩ := g
  have hn : (r.goes x).Nodup := hk.nd.sublist (r.goes_sub x)
  have hm2 : (r.goes x).getD i 0 ∈ r.goes x := by simp [List.getD, show i < (r.goes x).length by omega]
  obtain ⟨g1, g2⟩ := goes_in hk hm2
  have e2 : (r.goes x).getD i 0 = (r.goes x).getD j 0 := by omega
  rw [List.getD_eq_getElem?_getD, List.getD_eq_getElem?_getD, List.getElem?_eq_getElem (by omega), List.getElem?_eq_getElem hj] at e2
  have e3 : (r.goes x)[i]'(by omega) = (r.goes x)[j] := e2
  have hp := List.pairwise_iff_getElem.1 hn i j (by omega) hj hi
  exact hp e3
theorem settle_st {r : Rg} (hk : r.Ok) (x n : Int) : (r.settle x).2.st n = if n ∈ r.goes x then 2 else r.st n := by
 have hin : ∀ n ∈ r.goes x, r.st n = 1 := fun n hn => goes_st hk hn
 obtain ⟨i1, i2, i3, i4, i5⟩ := goneP_all (r.goes x) r.ps (fun n hn => Rg.st_in (r := r) (by rw [hin n hn]; decide)) hk.sb (hk.nd.sublist (r.goes_sub x)) (fun n hn => by rw [<- Rg.st_eq, hin n hn]; decide)
 exact i2 n
theorem gnJ_all {r : Rg} (hk : r.Ok) (hl : r.ps.length <= 120) (x : Int) : gnJ r (r.goes x) (r.goes x).length = gnB (r.settle x).2 := by
 refine List.ext_getElem (by rw [gnJ_len, gnB_len]) (fun n h1 h2 => ?_)
 have hn : n < 130 := by rw [gnB_len] at h2; exact h2
 have e1 := gnJ_at r (r.goes x) hn (r.goes x).length
 rw [List.getD_eq_getElem?_getD, List.getElem?_eq_getElem h1] at e1
 have e1 : (gnJ r (r.goes x) (r.goes x).length)[n] = _ := e1
 rw [e1, gnB_get]
 unfold gnd
 have hlen : (r.settle x).2.ps.length = r.ps.length := goneP_len _ _
 rw [settle_st hk, hlen, Bool.eq_iff_iff, Bool.or_eq_true, decide_eq_true_eq, decide_eq_true_eq, decide_eq_true_eq]
 constructor
 ·rintro (⟨g1, g2, g3⟩ | ⟨i, hi, e⟩)
  ·refine ⟨g1, g2, ?_⟩
   split
   ·rfl
   ·exact g3
  ·have hm : (r.goes x).getD i 0 ∈ r.goes x := by simp [List.getD, hi]
   obtain ⟨b1, b2⟩ := goes_in hk hm
   have en : (n : Int) = (r.goes x).getD i 0 := by omega
   refine ⟨by omega, by omega, ?_⟩
   rw [en]
   exact if_pos hm
 ·rintro ⟨g1, g2, g3⟩
  by_cases hm : (n : Int) ∈ r.goes x
  ·obtain ⟨i, hi, e⟩ := List.getElem_of_mem hm
   refine .inr ⟨i, hi, ?_⟩
   rw [List.getD_eq_getElem?_getD, List.getElem?_eq_getElem hi]
   show ((r.goes x)[i]).toNat = n
   omega
  ·rw [if_neg hm] at g3
   exact .inl ⟨g1, g2, g3⟩
theorem play_gn {r : Rg} (hk : r.Ok) {k x p n E : Int} {ws : List Int} {r' : Rg} (h : r.play k x p ws = (n, E, r')) (k5 : ¬ k = 5) : gnB r' = gnB r := by
 by_cases hE : E = 0
 ·subst hE
  by_cases k0 : k = 0
  ·subst k0
   have h : r.loadB ws = (n, 0, r') := h
   unfold Rg.loadB Rg.load at h
   split at h
   ·injection h with e1 h; injection h with e2 e3; rename_i g; exact absurd e2 g
   split at h
   ·injection h with e1 h; injection h with e2 e3; cases e2
   split at h
   ·injection h with e1 h; injection h with e2 e3; cases e2
   ·injection h with e1 h
    injection h with e2 e3
    subst e1 e3
    refine gnB_ext (fun m => ?_)
    unfold gnd
    rw [Bool.eq_iff_iff, decide_eq_true_eq, decide_eq_true_eq]
    have hst : ∀ m : Int, (⟨r.mp, r.tb, r.ck, r.ps ++ [⟨(decL ws).1.1, (decL ws).1.2, 0, 0⟩], r.ln⟩ : Rg).st m = if m = (r.ps.length : Int) + 1 then 0 else r.st m := fun m => stP_app r.ps _ m
    rw [hst]
    simp only [List.length_append, List.length_singleton]
    by_cases e : (m : Int) = (r.ps.length : Int) + 1
    ·rw [if_pos e]
     constructor
     ·rintro ⟨_, _, g⟩; cases g
     ·rintro ⟨_, g, _⟩; omega
    ·rw [if_neg e]
     constructor
     ·rintro ⟨g1, g2, g3⟩; exact ⟨g1, by omega, g3⟩
     ·rintro ⟨g1, g2, g3⟩; exact ⟨g1, by omega, g3⟩
  have hput : ∀ sw, r.put sw x p = (n, 0, r') -> gnB r' = gnB r := fun sw h => by
   obtain ⟨_, _, e3, _⟩ := put_ok2 h
   refine gnB_ext (fun m => ?_)
   unfold gnd
   rw [Rg.st_eq, Rg.st_eq, e3]
  by_cases k1 : k = 1
  ·subst k1; exact hput false h
  by_cases k2 : k = 2
  ·subst k2; exact hput true h
  by_cases k4 : k = 4
  ·subst k4
   have h : r.ret p = (n, 0, r') := h
   unfold Rg.ret at h
   split at h
   ·injection h with e1 h; injection h with e2 e3; cases e2
   split at h
   ·injection h with e1 h; injection h with e2 e3; cases e2
   split at h
   ·injection h with e1 h; injection h with e2 e3; cases e2
   ·rename_i g1 g2 g3
    have hs : r.st p = 0 := by have := stP_le hk.sb p; rw [<- Rg.st_eq] at this; omega
    obtain ⟨hi1, hi2⟩ := Rg.st_in (r := r) (n := p) (by rw [hs]; decide)
    injection h with e1 h
    injection h with e2 e3
    subst e1 e3
    refine gnB_ext (fun m => ?_)
    unfold gnd
    have hst : (⟨r.mp, r.tb, r.ck.go, setSt r.ps p 1 (r.ck.now + 1), r.ln ++ [p]⟩ : Rg).st m = if (m : Int) = p then 1 else r.st m := stP_set hi1 hi2 1 _ m
    rw [hst, setSt_len]
    by_cases e : (m : Int) = p
    ·rw [if_pos e, Bool.eq_iff_iff, decide_eq_true_eq, decide_eq_true_eq]
     constructor
     ·rintro ⟨_, _, g⟩; cases g
     ·rintro ⟨_, _, g⟩; rw [e, hs] at g; cases g
    ·rw [if_neg e]
  have hps : r'.ps = r.ps := by
   unfold Rg.play at h
   rw [if_neg k0, if_neg k1, if_neg k2, if_neg k4, if_neg k5] at h
   split at h
   ·injection h with e1 h
    injection h with e2 e3
    subst e3
    rfl
   split at h
   ·injection h with e1 h
    injection h with e2 e3
    subst e3
    rfl
   split at h
   ·injection h with e1 h
    injection h with e2 e3
    subst e3
    rfl
   ·injection h with e1 h
    injection h with e2 e3
    subst e3
    rfl
  refine gnB_ext (fun m => ?_)
  unfold gnd
  rw [Rg.st_eq, Rg.st_eq, hps]
 ·rw [(play_err h hE).2]
def Rg.all (r : Rg) : List Int := r.live ++ r.ln
theorem Rg.all_mem {r : Rg} (hk : r.Ok) {n : Int} : n ∈ r.all ↔ r.st n < 2 := by
 unfold Rg.all
 rw [List.mem_append, Rg.live_mem, hk.ln n]
 omega
theorem Rg.all_in {r : Rg} (hk : r.Ok) {n : Int} (h : n ∈ r.all) : 1 <= n /\ n <= r.ps.length := Rg.st_in (r := r) (by have := (Rg.all_mem hk).1 h; omega)
theorem Rg.pg_ms {r : Rg} (hk : r.Ok) {n : Int} (h : r.st n < 2) : (r.pg n).ms.Nodup := by
 obtain ⟨h1, h2⟩ := Rg.st_in (r := r) (n := n) (by omega)
 unfold Rg.pg
 rw [if_pos h1, List.getD_eq_getElem?_getD, List.getElem?_eq_getElem (show (n - 1).toNat < r.ps.length by omega)]
 exact (hk.ms _ (List.getElem_mem _)).1
def cntQ (m : Int) (ms : List Int) (q : Nat) : Nat := ((ms.take q).filter (fun a => decide (a = m))).length
theorem cntQ_more (m : Int) (ms : List Int) {q : Nat} (h : q < ms.length) : cntQ m ms (q + 1) = if ms.getD q 0 = m then cntQ m ms q + 1 else cntQ m ms q := by
 unfold cntQ
 have e : ms.take (q + 1) = ms.take q ++ [ms.getD q 0] := by
  rw [List.take_add_one, List.getElem?_eq_getElem h, List.getD_eq_getElem?_getD, List.getElem?_eq_getElem h]
  rfl
 rw [e, List.filter_append]
 by_cases g : ms.getD q 0 = m
 ·rw [if_pos g]; simp only [List.filter_cons, g, decide_true, if_true, List.filter_nil, List.length_append]; rfl
 ·rw [if_neg g]; simp only [List.filter_cons, g, decide_false, List.filter_nil, List.length_append]; simp
theorem cntQ_all (m : Int) : ∀ {ms : List Int}, ms.Nodup -> cntQ m ms ms.length = if m ∈ ms then 1 else 0
 | [], _ => rfl
 | a :: ms, h => by
  obtain ⟨h1, h2⟩ := List.nodup_cons.1 h
  have ih := cntQ_all m h2
  unfold cntQ at ih ⊢
  rw [List.take_length] at ih ⊢
  by_cases e : a = m
  ·subst e
   rw [if_neg h1] at ih
   rw [if_pos (by simp), List.filter_cons]
   simp [ih]
  ·rw [List.filter_cons]
   simp only [e, decide_false]
   rw [if_neg (by simp), ih]
   by_cases g : m ∈ ms
   ·rw [if_pos g, if_pos (List.mem_cons_of_mem _ g)]
   ·rw [if_neg g, if_neg (fun g2 => by rcases List.mem_cons.1 g2 with g2 | g2; exact e g2.symm; exact g g2)]
def cntK (r : Rg) (m : Int) (k : Nat) : Nat := ((r.all.take k).filter (fun n => decide (m ∈ (r.pg n).ms))).length
theorem cntK_more {r : Rg} (hk : r.Ok) (m : Int) {k : Nat} (h : k < r.all.length) : cntK r m (k + 1) = cntK r m k + cntQ m (r.pg (r.all.getD k 0)).ms (r.pg (r.all.getD k 0)).ms.length := by
 have hm : r.all.getD k 0 ∈ r.all := by simp [List.getD, h]
 rw [cntQ_all m (Rg.pg_ms hk ((Rg.all_mem hk).1 hm))]
 unfold cntK
 have e : r.all.take (k + 1) = r.all.take k ++ [r.all.getD k 0] := by
  rw [List.take_add_one, List.getElem?_eq_getElem h, List.getD_eq_getElem?_getD, List.getElem?_eq_getElem h]
  rfl
 rw [e, List.filter_append, List.length_append]
 by_cases g : m ∈ (r.pg (r.all.getD k 0)).ms
 ·rw [if_pos g, List.filter_cons, if_pos (decide_eq_true g)]; rfl
 ·rw [if_neg g, List.filter_cons, if_neg (by rw [decide_eq_true_eq]; exact g)]; rfl
theorem cntK_all (r : Rg) (m : Int) : ((cntK r m r.all.length : Nat) : Int) = r.names m := by
 unfold cntK Rg.names Rg.all
 rw [List.take_length]
end Go.Proofs.YtlkdniglaldilaaGreat
