/-
  X24Play
  X24Ld
-/
import Derived.Test.YtibolefffjkblaaGreatMQ31
import Derived.Test.YtibolefffjkblaaGreatMQ29
import Derived.Test.YtibolefffjkblaaGreatMQ46
namespace Go.Proofs.YtibolefffjkblaaGreat
set_option linter.unusedVariables false
set_option linter.unusedSimpArgs false
theorem numR_in {xs : List Int} (hb : ∀ x ∈ xs, 0 <= x /\ x <= 255) {most above : Int} {p p' : Nat} {n : Int} (h : numR xs most above p = .ok (n, p')) : 0 <= n /\ n <= most := by
 unfold numR at h
 split at h
 ·cases h
 ·split at h
  ·cases h
  ·rename_i g
   injection h with h
   injection h with h _
   have := (getL_bd (xs.drop p) (drop_byte hb p)).1
   rw [h] at this g
   omega
theorem mapsR_in {xs : List Int} (hb : ∀ x ∈ xs, 0 <= x /\ x <= 255) : ∀ (k : Nat) (acc : List Int) (p : Nat) {ms : List Int} {p' : Nat}, (∀ m ∈ acc, 0 <= m /\ m <= 3) -> mapsR xs k acc p = .ok (ms, p') -> ∀ m ∈ ms, 0 <= m /\ m <= 3
 | 0, acc, p, ms, p', ha, h => by
  injection h with h
  injection h with h _
  rw [<- h]
  exact ha
 | k + 1, acc, p, ms, p', ha, h => by
  unfold mapsR at h
  cases hn : numR xs 3 12 p with
  | error e => rw [hn] at h; cases h
  | ok q =>
   obtain ⟨n, q⟩ := q
   rw [hn] at h
   have hin := numR_in hb hn
   have h : (if n ∈ acc then (.error ((p : Int), 12) : Rd (List Int)) else mapsR xs k (acc ++ [n]) q) = .ok (ms, p') := h
   split at h
   ·cases h
   ·refine mapsR_in hb k (acc ++ [n]) q (fun m hm => ?_) h
    rcases List.mem_append.1 hm with g | g
    ·exact ha m g
    ·rw [List.mem_singleton.1 g]; exact hin
theorem then_ok {α β : Type} {x : Rd α} {f : α -> Nat -> Rd β} {b : β × Nat} (h : x.then' f = .ok b) : ∃ a p, x = .ok (a, p) /\ f a p = .ok b := by
 cases x with
 | error e => cases h
 | ok q => obtain ⟨a, p⟩ := q; exact ⟨a, p, rfl, h⟩
theorem dec_maps {xs : List Int} (hb : ∀ x ∈ xs, 0 <= x /\ x <= 255) : ∀ m ∈ (decL xs).1.1, 0 <= m /\ m <= 3 := by
 unfold decL
 cases hd : decR xs with
 | error e => intro m hm; cases hm
 | ok q =>
  obtain ⟨⟨ms, is⟩, p⟩ := q
  unfold decR at hd
  obtain ⟨_, p1, _, h1⟩ := then_ok hd
  obtain ⟨ms', p2, h2, h3⟩ := then_ok h1
  obtain ⟨is', p3, _, h4⟩ := then_ok h3
  obtain ⟨_, p4, _, h5⟩ := then_ok h4
  injection h5 with h5
  injection h5 with h5 _
  injection h5 with h5 h6
  subst h5
  unfold mapsA at h2
  obtain ⟨n, p5, _, h7⟩ := then_ok h2
  exact mapsR_in hb _ _ _ (fun m hm => by cases hm) h7
theorem codeR_len {xs : List Int} : ∀ (k : Nat) (acc : List In) (p : Nat) {is : List In} {p' : Nat}, codeR xs k acc p = .ok (is, p') -> is.length = acc.length + k
 | 0, acc, p, is, p', h => by
  injection h with h
  injection h with h _
  rw [<- h]; rfl
 | k + 1, acc, p, is, p', h => by
  unfold codeR at h
  obtain ⟨i, q, _, h2⟩ := then_ok h
  have := codeR_len k (acc ++ [i]) q h2
  rw [List.length_append] at this
  simp at this
  omega
theorem dec_code {xs : List Int} (hb : ∀ x ∈ xs, 0 <= x /\ x <= 255) : (decL xs).1.2.length <= 64 := by
 unfold decL
 cases hd : decR xs with
 | error e => exact Nat.zero_le _
 | ok q =>
  obtain ⟨⟨ms, is⟩, p⟩ := q
  unfold decR at hd
  obtain ⟨_, p1, _, h1⟩ := then_ok hd
  obtain ⟨ms', p2, h2, h3⟩ := then_ok h1
  obtain ⟨is', p3, h3', h4⟩ := then_ok h3
  obtain ⟨_, p4, _, h5⟩ := then_ok h4
  injection h5 with h5
  injection h5 with h5 _
  injection h5 with h5 h6
  subst h6
  unfold codeA at h3'
  obtain ⟨n, p5, h6, h7⟩ := then_ok h3'
  have hn := numR_in hb h6
  split at h7
  ·cases h7
  ·have := codeR_len _ _ _ h7
   show is'.length <= 64
   simp at this
   omega
def errB (bs : List Int) : Int := if (decL bs).2.2 ≠ 0 then (decL bs).2.2 else (judgeR (decL bs).1.1 (decL bs).1.2).2
def Rg.loadB (r : Rg) (bs : List Int) : Int × Int × Rg := r.load (errB bs) (decL bs).1.1 (decL bs).1.2
theorem judge_maps {ms : List Int} {xs : List In} (h : (judgeR ms xs).2 = 0) : ms.Nodup /\ ∀ m ∈ ms, 0 <= m /\ m <= 3 := by
 have hm : mapsJ ms = true := by
  cases e : mapsJ ms with
  | true => rfl
  | false =>
   unfold judgeR inqR at h
   rw [if_pos e] at h
   cases h
 unfold mapsJ at hm
 simp only [Bool.and_eq_true, List.all_eq_true, List.mem_range, decide_eq_true_eq] at hm
 obtain ⟨-, hm⟩ := hm
 refine ⟨List.pairwise_iff_getElem.2 (fun i j hi hj hij => ?_), fun m hm' => ?_⟩
 ·have := (hm j hj).2 i hij
  have e1 : ms.getD i 0 = ms[i] := by simp [List.getD, hi]
  have e2 : ms.getD j 0 = ms[j] := by simp [List.getD, hj]
  rw [e1, e2] at this
  simpa using this
 ·obtain ⟨i, hi, e⟩ := List.getElem_of_mem hm'
  have h1 := (hm i hi).1
  have e1 : ms.getD i 0 = ms[i] := by simp [List.getD, hi]
  rw [e1, e] at h1
  simpa using h1
theorem errB_zero {bs : List Int} (h : errB bs = 0) : (decL bs).2.2 = 0 /\ (judgeR (decL bs).1.1 (decL bs).1.2).2 = 0 := by
 unfold errB at h
 split at h
 ·rename_i g; exact absurd h g
 ·rename_i g
  exact ⟨Decidable.of_not_not g, h⟩
theorem Rg.Ok.loadB {r : Rg} (h : r.Ok) (bs : List Int) : (r.loadB bs).2.2.Ok := h.load (fun e => by
 have := judge_maps (errB_zero e).2
 exact ⟨this.1, fun m hm => (this.2 m hm).1⟩)
def rD (m : Nat) (ms : List Int) (xs : List In) (d : Nat) : Rg := ⟨m, Tb.new 1, Ck.new 1, List.replicate d ⟨ms, xs, 0, 0⟩, []⟩
theorem rD_zero (m : Nat) (ms : List Int) (xs : List In) : rD m ms xs 0 = Rg.new 1 m 1 := rfl
theorem rD_there (m : Nat) (ms : List Int) (xs : List In) (d : Nat) : (rD m ms xs d).there = d := by
 unfold Rg.there rD
 rw [List.filter_eq_self.2 (fun p hp => by rw [(List.mem_replicate.1 hp).2]; rfl)]
 simp
theorem rD_load {m d : Nat} {ms : List Int} {xs : List In} {bs : List Int} (he : errB bs = 0) (hm : (decL bs).1 = (ms, xs)) (ha : ms.all (fun x => decide (x < m)) = true) (hd : d < 16) : (rD m ms xs d).loadB bs = ((d : Int) + 1, 0, rD m ms xs (d + 1)) := by
 unfold Rg.loadB
 rw [he, hm]
 unfold Rg.load
 rw [if_neg (by simp), if_neg (by show ¬ ms.all (fun x => decide (x < m)) = false; rw [ha]; decide), if_neg (by rw [rD_there]; omega)]
 have e : List.replicate d (⟨ms, xs, 0, 0⟩ : Pg) ++ [⟨ms, xs, 0, 0⟩] = List.replicate (d + 1) ⟨ms, xs, 0, 0⟩ := by rw [List.replicate_succ']
 unfold rD
 simp only [List.length_replicate, e]
theorem rD_full {m : Nat} {ms : List Int} {xs : List In} {bs : List Int} (he : errB bs = 0) (hm : (decL bs).1 = (ms, xs)) (ha : ms.all (fun x => decide (x < m)) = true) : (rD m ms xs 16).loadB bs = (0, 40, rD m ms xs 16) := by
 unfold Rg.loadB
 rw [he, hm]
 unfold Rg.load
 rw [if_neg (by simp), if_neg (by show ¬ ms.all (fun x => decide (x < m)) = false; rw [ha]; decide), if_pos (by rw [rD_there]; omega)]
theorem rD_live (m : Nat) (ms : List Int) (xs : List In) (d : Nat) : (rD m ms xs d).live.length = d := by
 unfold Rg.live rD
 rw [numF_len, List.filter_eq_self.2 (fun p hp => by rw [(List.mem_replicate.1 hp).2]; rfl)]
 simp
theorem rD_pg (m : Nat) (ms : List Int) (xs : List In) {d : Nat} (hd : 3 <= d) : (rD m ms xs d).pg 3 = ⟨ms, xs, 0, 0⟩ := by
 unfold Rg.pg rD
 rw [if_pos (by omega)]
 show (List.replicate d _).getD 2 _ = _
 rw [List.getD_eq_getElem?_getD, List.getElem?_replicate]
 rw [if_pos (by omega)]
 rfl
theorem rD_st (m : Nat) (ms : List Int) (xs : List In) {d : Nat} (hd : 3 <= d) : (rD m ms xs d).st 3 <= 1 := by
 unfold Rg.st
 rw [rD_pg m ms xs hd]
 exact Nat.zero_le _
theorem rD_bad {m : Nat} {bs : List Int} {E : Int} (h1 : errB bs ≠ 0 -> E = errB bs) (h2 : errB bs = 0 -> (decL bs).1.1.all (fun x => decide (x < m)) = false /\ E = 41) (hE : E ≠ 0) (ms : List Int) (xs : List In) : (rD m ms xs 0).loadB bs = (0, E, rD m ms xs 0) := by
 unfold Rg.loadB Rg.load
 by_cases he : errB bs = 0
 ·obtain ⟨a, rfl⟩ := h2 he
  rw [if_neg (by simp [he]), if_pos (show (decL bs).1.1.all (fun x => decide (x < (rD m ms xs 0).mp)) = false from a)]
 ·rw [if_pos he, h1 he]
end Go.Proofs.YtibolefffjkblaaGreat
