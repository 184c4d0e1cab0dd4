/-
  X24Play
  X24Num
-/
import Derived.Test.YtlkdniglaldilaaGreatMG36
import Derived.Test.YtlkdniglaldilaaGreatMG22
import Derived.Test.YtlkdniglaldilaaGreatMG45
namespace Go.Proofs.YtlkdniglaldilaaGreat
set_option linter.unusedVariables false
set_option linter.unusedSimpArgs false
theorem numR_in {xs : List Int} (hb : ∀ x ∈ xs, 0 <= x /\ x <= 255) {most above : Int} {p p' : Nat} {n : Int} (h : numR xs most above p = .ok (n, p')) : 0 <= n /\ n <= most := by
 unfold numR at h
 split at h
 ·cases h
 ·split at h
  ·cases h
  ·rename_i g
   injection h with h
   injection h with h _
   have := (getL_bd (xs.drop p) (drop_byte hb p)).1
   rw [h] at this g
   omega
theorem mapsR_in {xs : List Int} (hb : ∀ x ∈ xs, 0 <= x /\ x <= 255) : ∀ (k : Nat) (acc : List Int) (p : Nat) {ms : List Int} {p' : Nat}, (∀ m ∈ acc, 0 <= m /\ m <= 3) -> mapsR xs k acc p = .ok (ms, p') -> ∀ m ∈ ms, 0 <= m /\ m <= 3
 | 0, acc, p, ms, p', ha, h => by
  injection h with h
  injection h with h _
  rw [<- h]
  exact ha
 | k + 1, acc, p, ms, p', ha, h => by
  unfold mapsR at h
  cases hn : numR xs 3 12 p with
  | error e => rw [hn] at h; cases h
  | ok q =>
   obtain ⟨n, q⟩ := q
   rw [hn] at h
   have hin := numR_in hb hn
   have h : (if n ∈ acc then (.error ((p : Int), 12) : Rd (List Int)) else mapsR xs k (acc ++ [n]) q) = .ok (ms, p') := h
   split at h
   ·cases h
   ·refine mapsR_in hb k (acc ++ [n]) q (fun m hm => ?_) h
    rcases List.mem_append.1 hm with g | g
    ·exact ha m g
    ·rw [List.mem_singleton.1 g]; exact hin
theorem then_ok {α β : Type} {x : Rd α} {f : α -> Nat -> Rd β} {b : β × Nat} (h : x.then' f = .ok b) : ∃ a p, x = .ok (a, p) /\ f a p = .ok b := by
 cases x with
 | error e => cases h
 | ok q => obtain ⟨a, p⟩ := q; exact ⟨a, p, rfl, h⟩
theorem dec_maps {xs : List Int} (hb : ∀ x ∈ xs, 0 <= x /\ x <= 255) : ∀ m ∈ (decL xs).1.1, 0 <= m /\ m <= 3 := by
 unfold decL
 cases hd : decR xs with
 | error e => intro m hm; cases hm
 | ok q =>
  obtain ⟨⟨ms, is⟩, p⟩ := q
  unfold decR at hd
  obtain ⟨_, p1, _, h1⟩ := then_ok hd
  obtain ⟨ms', p2, h2, h3⟩ := then_ok h1
  obtain ⟨is', p3, _, h4⟩ := then_ok h3
  obtain ⟨_, p4, _, h5⟩ := then_ok h4
  injection h5 with h5
  injection h5 with h5 _
  injection h5 with h5 h6
  subst h5
  unfold mapsA at h2
  obtain ⟨n, p5, _, h7⟩ := then_ok h2
  exact mapsR_in hb _ _ _ (fun m hm => by cases hm) h7
theorem codeR_len {xs : List Int} : ∀ (k : Nat) (acc : List In) (p : Nat) {is : List In} {p' : Nat}, codeR xs k acc p = .ok (is, p') -> is.length = acc.length + k
 | 0, acc, p, is, p', h => by
  injection h with h
  injection h with h _
  rw [<- h]; rfl
 | k + 1, acc, p, is, p', h => by
  unfold codeR at h
  obtain ⟨i, q, _, h2⟩ := then_ok h
  have := codeR_len k (acc ++ [i]) q h2
  rw [List.length_append] at this
  simp at this
  omega
theorem dec_code {xs : List Int} (hb : ∀ x ∈ xs, 0 <= x /\ x <= 255) : (decL xs).1.2.length <= 64 := by
 unfold decL
 cases hd : decR xs with
 | error e => exact Nat.zero_le _
 | ok q =>
  obtain ⟨⟨ms, is⟩, p⟩ := q
  unfold decR at hd
  obtain ⟨_, p1, _, h1⟩ := then_ok hd
  obtain ⟨ms', p2, h2, h3⟩ := then_ok h1
  obtain ⟨is', p3, h3', h4⟩ := then_ok h3
  obtain ⟨_, p4, _, h5⟩ := then_ok h4
  injection h5 with h5
  injection h5 with h5 _
  injection h5 with h5 h6
  subst h6
  unfold codeA at h3'
  obtain ⟨n, p5, h6, h7⟩ := then_ok h3'
  have hn := numR_in hb h6
  split at h7
  ·cases h7
  ·have := codeR_len _ _ _ h7
   show is'.length <= 64
   simp at this
   omega
def errB (bs : List Int) : Int := if (decL bs).2.2 ≠ 0 then (decL bs).2.2 else (judgeR (decL bs).1.1 (decL bs).1.2).2
def Rg.loadB (r : Rg) (bs : List Int) : Int × Int × Rg := r.load (errB bs) (decL bs).1.1 (decL bs).1.2
theorem judge_maps {ms : List Int} {xs : List In} (h : (judgeR ms xs).2 = 0) : ms.Nodup /\ ∀ m ∈ ms, 0 <= m /\ m <= 3 := by
 have hm : mapsJ ms = true := by
  cases e : mapsJ ms with
  | true => rfl
  | false =>
   unfold judgeR inqR at h
   rw [if_pos e] at h
   cases h
 unfold mapsJ at hm
 simp only [Bool.and_eq_true, List.all_eq_true, List.mem_range, decide_eq_true_eq] at hm
 obtain ⟨-, hm⟩ := hm
 refine ⟨List.pairwise_iff_getElem.2 (fun i j hi hj hij => ?_), fun m hm' => ?_⟩
 ·have := (hm j hj).2 i hij
  have e1 : ms.getD i 0 = ms[i] := by simp [List.getD, hi]
  have e2 : ms.getD j 0 = ms[j] := by simp [List.getD, hj]
  rw [e1, e2] at this
  simpa using this
 ·obtain ⟨i, hi, e⟩ := List.getElem_of_mem hm'
  have h1 := (hm i hi).1
  have e1 : ms.getD i 0 = ms[i] := by simp [List.getD, hi]
  rw [e1, e] at h1
  simpa using h1
theorem errB_zero {bs : List Int} (h : errB bs = 0) : (decL bs).2.2 = 0 /\ (judgeR (decL bs).1.1 (decL bs).1.2).2 = 0 := by
 unfold errB at h
 split at h
 ·rename_i g; exact absurd h g
 ·rename_i g
  exact ⟨Decidable.of_not_not g, h⟩
theorem Rg.Ok.loadB {r : Rg} (h : r.Ok) (bs : List Int) : (r.loadB bs).2.2.Ok := h.load (fun e => by
 have := judge_maps (errB_zero e).2
 exact ⟨this.1, fun m hm => (this.2 m hm).1⟩)
def Rg.play (r : Rg) (k a b : Int) (bs : List Int) : Int × Int × Rg :=
 if k = 0 then r.loadB bs else if k = 1 then r.put false a b else if k = 2 then r.put true a b else if k = 3 then (0, (r.det [a]).1, (r.det [a]).2)
 else if k = 4 then r.ret b else if k = 5 then ((r.goes a).length, 0, (r.settle a).2) else if k = 6 then r.enter a else if k = 7 then (0, (r.leave [a]).1, (r.leave [a]).2) else (r.ck.now + 1, 0, r.go)
theorem Rg.Ok.play {r : Rg} (h : r.Ok) (k a b : Int) (bs : List Int) : (r.play k a b bs).2.2.Ok := by
 unfold Rg.play
 split; exact h.loadB bs
 split; exact h.put _ _ _
 split; exact h.put _ _ _
 split; exact h.det _
 split; exact h.ret _
 split; exact h.settle _
 split; exact h.enter _
 split; exact h.leave _
 exact h.go
structure Rg.Few (r : Rg) (n : Nat) : Prop where
 ps : r.ps.length <= n
 la : r.tb.last <= n
 nw : r.ck.now <= (n : Int) + 1
theorem Rg.Few.same {r r' : Rg} {n : Nat} (h : r.Few n) (h1 : r'.ps.length <= r.ps.length + 1) (h2 : r'.tb.last <= r.tb.last + 1) (h3 : r'.ck.now <= r.ck.now + 1) : r'.Few (n + 1) :=
 ⟨by have := h.ps; omega, by have := h.la; push_cast; omega, by have := h.nw; push_cast; omega⟩
theorem Rg.Few.up {r : Rg} {n : Nat} (h : r.Few n) : r.Few (n + 1) := h.same (by omega) (by omega) (by omega)
theorem goneP_len (l : List Int) : ∀ ps : List Pg, (goneP ps l).length = ps.length := by
 induction l with
 | nil => intro ps; rfl
 | cons m l ih => intro ps; show (goneP (setSt ps m 2 0) l).length = _; rw [ih, setSt_len]
theorem Ck.enter_now (c : Ck) (x : Int) : (c.enter x).2.2.now = c.now := by
 unfold Ck.enter
 split
 ·rfl
 ·split <;> rfl
theorem Ck.leave_now (c : Ck) (ws : List Int) : (c.leave ws).2.now = c.now := by
 unfold Ck.leave
 split
 ·rfl
 ·split <;> rfl
theorem Rg.put_same (r : Rg) (sw : Bool) (x p : Int) : (r.put sw x p).2.2.ps = r.ps /\ (r.put sw x p).2.2.ln = r.ln /\ (r.put sw x p).2.2.ck = r.ck /\ (r.put sw x p).2.2.mp = r.mp /\ (r.put sw x p).2.2.tb.last <= r.tb.last + 1 := by
 unfold Rg.put
 split
 ·exact ⟨rfl, rfl, rfl, rfl, (show r.tb.last <= r.tb.last + 1 by omega)⟩
 split
 ·exact ⟨rfl, rfl, rfl, rfl, (show r.tb.last <= r.tb.last + 1 by omega)⟩
 ·exact ⟨rfl, rfl, rfl, rfl, (Tb.put_last (v := (r.tb.put sw x p).1) (E := (r.tb.put sw x p).2.1) rfl).1⟩
theorem Rg.Few.play {r : Rg} {n : Nat} (h : r.Few n) (k a b : Int) (bs : List Int) : (r.play k a b bs).2.2.Few (n + 1) := by
 unfold Rg.play
 split
 ·unfold Rg.loadB Rg.load
  split; exact h.up
  split; exact h.up
  split; exact h.up
  exact h.same (by simp) (by show r.tb.last <= _; omega) (by show r.ck.now <= _; omega)
 split
 ·obtain ⟨e1, e2, e3, e4, e5⟩ := r.put_same false a b
  exact h.same (by rw [e1]; omega) e5 (by rw [e3]; omega)
 split
 ·obtain ⟨e1, e2, e3, e4, e5⟩ := r.put_same true a b
  exact h.same (by rw [e1]; omega) e5 (by rw [e3]; omega)
 split
 ·exact h.same (by show r.ps.length <= _; omega) (by show (r.tb.det [a]).2.last <= _; have := (Tb.det_last (t := r.tb) (xs := [a]) (E := (r.tb.det [a]).1) (t' := (r.tb.det [a]).2) rfl).1; omega) (by show r.ck.now <= _; omega)
 split
 ·unfold Rg.ret
  split; exact h.up
  split; exact h.up
  split; exact h.up
  exact h.same (by show (setSt _ _ _ _).length <= _; rw [setSt_len]; omega) (by show r.tb.last <= _; omega) (by show r.ck.now + 1 <= _; omega)
 split
 ·exact h.same (by show (goneP r.ps (r.goes a)).length <= _; rw [goneP_len]; omega) (by show r.tb.last <= _; omega) (by show r.ck.now <= _; omega)
 split
 ·exact h.same (by show r.ps.length <= _; omega) (by show r.tb.last <= _; omega) (by show (r.ck.enter a).2.2.now <= _; rw [Ck.enter_now]; omega)
 split
 ·exact h.same (by show r.ps.length <= _; omega) (by show r.tb.last <= _; omega) (by show (r.ck.leave [a]).2.now <= _; rw [Ck.leave_now]; omega)
 exact h.same (by show r.ps.length <= _; omega) (by show r.tb.last <= _; omega) (by show r.ck.now + 1 <= _; omega)
theorem Rg.Few.new (hh m k : Nat) : (Rg.new hh m k).Few 0 := ⟨Nat.le_refl _, Int.le_refl _, Int.le_refl _⟩
def rtd (r : Rg) (n : Nat) : Bool := decide (1 <= n /\ n <= r.ps.length /\ r.st n ≠ 0)
def rtB (r : Rg) : List Bool := (List.range 130).map (rtd r)
theorem rtB_len (r : Rg) : (rtB r).length = 130 := by simp [rtB]
theorem rtB_at (r : Rg) {n : Nat} (h : n < 130) : (rtB r).getD n false = rtd r n := by simp [rtB, List.getD, h]
theorem rtB_get (r : Rg) {m : Nat} (h : m < (rtB r).length) : (rtB r)[m]'h = rtd r m := by simp [rtB]
theorem put_err {r : Rg} {sw : Bool} {x p n E : Int} {r' : Rg} (h : r.put sw x p = (n, E, r')) (hE : E ≠ 0) : n = 0 /\ r' = r := by
 unfold Rg.put at h
 split at h
 ·injection h with e1 h; injection h with e2 e3; exact ⟨e1.symm, e3.symm⟩
 split at h
 ·injection h with e1 h; injection h with e2 e3; exact ⟨e1.symm, e3.symm⟩
 ·injection h with e1 h
  injection h with e2 e3
  subst e1 e2 e3
  unfold Tb.put at hE ⊢
  split at hE
  ·rename_i g; rw [if_pos g]; exact ⟨rfl, rfl⟩
  split at hE
  ·exact absurd rfl hE
  ·rename_i g g2; rw [if_neg g, if_neg g2]; exact ⟨rfl, rfl⟩
theorem play_err {r : Rg} {k x p n E : Int} {ws : List Int} {r' : Rg} (h : r.play k x p ws = (n, E, r')) (hE : E ≠ 0) : n = 0 /\ r' = r := by
 unfold Rg.play at h
 split at h
 ·unfold Rg.loadB Rg.load at h
  split at h
  ·injection h with e1 h; injection h with e2 e3; exact ⟨e1.symm, e3.symm⟩
  split at h
  ·injection h with e1 h; injection h with e2 e3; exact ⟨e1.symm, e3.symm⟩
  split at h
  ·injection h with e1 h; injection h with e2 e3; exact ⟨e1.symm, e3.symm⟩
  ·injection h with e1 h; injection h with e2 e3; exact absurd e2.symm hE
 split at h
 ·exact put_err h hE
 split at h
 ·exact put_err h hE
 split at h
 ·injection h with e1 h
  injection h with e2 e3
  subst e1 e2 e3
  refine ⟨rfl, ?_⟩
  unfold Rg.det Tb.det at hE ⊢
  simp only at hE
  split at hE
  ·rename_i g; rw [if_pos g]
  split at hE
  ·rename_i g g2; rw [if_neg g, if_pos g2]
  ·exact absurd rfl hE
 split at h
 ·unfold Rg.ret at h
  split at h
  ·injection h with e1 h; injection h with e2 e3; exact ⟨e1.symm, e3.symm⟩
  split at h
  ·injection h with e1 h; injection h with e2 e3; exact ⟨e1.symm, e3.symm⟩
  split at h
  ·injection h with e1 h; injection h with e2 e3; exact ⟨e1.symm, e3.symm⟩
  ·injection h with e1 h; injection h with e2 e3; exact absurd e2.symm hE
 split at h
 ·injection h with e1 h; injection h with e2 e3; exact absurd e2.symm hE
 split at h
 ·unfold Rg.enter Ck.enter at h
  split at h
  ·injection h with e1 h; injection h with e2 e3; exact ⟨e1.symm, e3.symm⟩
  split at h
  ·injection h with e1 h; injection h with e2 e3; exact absurd e2.symm hE
  ·injection h with e1 h; injection h with e2 e3; exact ⟨e1.symm, e3.symm⟩
 split at h
 ·injection h with e1 h
  injection h with e2 e3
  subst e1 e2 e3
  refine ⟨rfl, ?_⟩
  unfold Rg.leave Ck.leave at hE ⊢
  simp only at hE
  split at hE
  ·rename_i g; rw [if_pos g]
  split at hE
  ·rename_i g g2; rw [if_neg g, if_pos g2]
  ·exact absurd rfl hE
 ·injection h with e1 h; injection h with e2 e3; exact absurd e2.symm hE
theorem rtB_ext {r r' : Rg} (h : ∀ n : Nat, rtd r' n = rtd r n) : rtB r' = rtB r := by
 unfold rtB
 exact List.map_congr_left (fun n _ => h n)
theorem play_load {r : Rg} {x p n : Int} {ws : List Int} {r' : Rg} (h : r.play 0 x p ws = (n, 0, r')) : n = (r.ps.length : Int) + 1 /\ r'.ps.length = r.ps.length + 1 /\ r'.tb = r.tb /\ rtB r' = rtB r := by
 have h : r.loadB ws = (n, 0, r') := h
 unfold Rg.loadB Rg.load at h
 split at h
 ·injection h with e1 h; injection h with e2 e3; rename_i g; exact absurd e2 g
 split at h
 ·injection h with e1 h; injection h with e2 e3; cases e2
 split at h
 ·injection h with e1 h; injection h with e2 e3; cases e2
 ·injection h with e1 h
  injection h with e2 e3
  subst e1 e3
  refine ⟨rfl, by simp, rfl, rtB_ext (fun m => ?_)⟩
  unfold rtd
  rw [Bool.eq_iff_iff, decide_eq_true_eq, decide_eq_true_eq]
  have hst : ∀ m : Int, (⟨r.mp, r.tb, r.ck, r.ps ++ [⟨(decL ws).1.1, (decL ws).1.2, 0, 0⟩], r.ln⟩ : Rg).st m = if m = (r.ps.length : Int) + 1 then 0 else r.st m := fun m => stP_app r.ps _ m
  rw [hst]
  simp only [List.length_append, List.length_singleton]
  by_cases e : (m : Int) = (r.ps.length : Int) + 1
  ·rw [if_pos e]
   constructor
   ·rintro ⟨_, _, g⟩; exact absurd rfl g
   ·rintro ⟨_, g, _⟩; omega
  ·rw [if_neg e]
   constructor
   ·rintro ⟨g1, g2, g3⟩; exact ⟨g1, by omega, g3⟩
   ·rintro ⟨g1, g2, g3⟩; exact ⟨g1, by omega, g3⟩
theorem put_ok2 {r : Rg} {sw : Bool} {x p n : Int} {r' : Rg} (h : r.put sw x p = (n, 0, r')) : n = r.tb.last + 1 /\ r'.tb.last = r.tb.last + 1 /\ r'.ps = r.ps /\ (1 <= p /\ p <= r.ps.length /\ r.st p = 0) := by
 unfold Rg.put at h
 split at h
 ·injection h with e1 h; injection h with e2 e3; cases e2
 split at h
 ·injection h with e1 h; injection h with e2 e3; cases e2
 ·rename_i g1 g2
  have hs : r.st p = 0 := Decidable.of_not_not g2
  have hin := Rg.st_in (r := r) (n := p) (by rw [hs]; decide)
  injection h with e1 h
  injection h with e2 e3
  subst e1 e3
  unfold Tb.put at e2 ⊢
  split at e2
  ·cases e2
  split at e2
  ·rename_i g3 g4
   rw [if_neg g3, if_pos g4]
   exact ⟨rfl, rfl, rfl, hin.1, hin.2, hs⟩
  ·split at e2 <;> cases e2
theorem play_put {r : Rg} {k x p n : Int} {ws : List Int} {r' : Rg} (hk : k = 1 ∨ k = 2) (h : r.play k x p ws = (n, 0, r')) : n = r.tb.last + 1 /\ r'.tb.last = r.tb.last + 1 /\ r'.ps.length = r.ps.length /\ rtB r' = rtB r /\ (1 <= p /\ p <= r.ps.length /\ r.st p = 0) := by
 obtain ⟨sw, h⟩ : ∃ sw, r.put sw x p = (n, 0, r') := by
  rcases hk with rfl | rfl
  ·exact ⟨false, h⟩
  ·exact ⟨true, h⟩
 obtain ⟨e1, e2, e3, e4⟩ := put_ok2 h
 refine ⟨e1, e2, by rw [e3], rtB_ext (fun m => ?_), e4⟩
 unfold rtd
 rw [Rg.st_eq, Rg.st_eq, e3]
theorem play_ret {r : Rg} (hk : r.Ok) {x p n : Int} {ws : List Int} {r' : Rg} (h : r.play 4 x p ws = (n, 0, r')) (hl : r.ps.length <= 120) : r'.ps.length = r.ps.length /\ r'.tb = r.tb /\ rtB r' = (rtB r).set p.toNat true /\ (1 <= p /\ p <= r.ps.length /\ r.st p = 0) := by
 have h : r.ret p = (n, 0, r') := h
 unfold Rg.ret at h
 split at h
 ·injection h with e1 h; injection h with e2 e3; cases e2
 split at h
 ·injection h with e1 h; injection h with e2 e3; cases e2
 split at h
 ·injection h with e1 h; injection h with e2 e3; cases e2
 ·rename_i g1 g2 g3
  have hs : r.st p = 0 := by have := stP_le hk.sb p; rw [<- Rg.st_eq] at this; omega
  obtain ⟨hi1, hi2⟩ := Rg.st_in (r := r) (n := p) (by rw [hs]; decide)
  injection h with e1 h
  injection h with e2 e3
  subst e1 e3
  refine ⟨setSt_len _ _ _ _, rfl, ?_, hi1, hi2, hs⟩
  refine List.ext_getElem (by simp [rtB_len]) (fun m h1 h2 => ?_)
  have hm : m < 130 := by rw [rtB_len] at h1; exact h1
  rw [List.getElem_set]
  rw [rtB_get, rtB_get]
  unfold rtd
  have hst : (⟨r.mp, r.tb, r.ck.go, setSt r.ps p 1 (r.ck.now + 1), r.ln ++ [p]⟩ : Rg).st m = if (m : Int) = p then 1 else r.st m := stP_set hi1 hi2 1 _ m
  rw [hst, setSt_len]
  by_cases e : p.toNat = m
  ·have e2 : (m : Int) = p := by omega
   rw [if_pos e2, if_pos e]
   exact decide_eq_true ⟨by omega, by omega, by decide⟩
  ·have e2 : ¬ (m : Int) = p := by omega
   rw [if_neg e2, if_neg e]
theorem play_rest {r : Rg} (hk : r.Ok) {k x p n : Int} {ws : List Int} {r' : Rg} (h : r.play k x p ws = (n, 0, r')) (k0 : ¬ k = 0) (k1 : ¬ k = 1) (k2 : ¬ k = 2) (k4 : ¬ k = 4) : r'.ps.length = r.ps.length /\ r'.tb.last = r.tb.last /\ rtB r' = rtB r := by
 unfold Rg.play at h
 rw [if_neg k0, if_neg k1, if_neg k2, if_neg k4] at h
 split at h
 ·injection h with e1 h
  injection h with e2 e3
  subst e3
  exact ⟨rfl, (Tb.det_last (t := r.tb) (xs := [x]) (E := (r.tb.det [x]).1) (t' := (r.tb.det [x]).2) rfl).1, rtB_ext (fun m => rfl)⟩
 split at h
 ·injection h with e1 h
  injection h with e2 e3
  subst e3
  have hsub := r.goes_sub x
  have hin : ∀ n ∈ r.goes x, r.st n = 1 := fun n hn => (hk.ln n).1 (hsub.subset hn)
  obtain ⟨i1, i2, i3, i4, i5⟩ := goneP_all (r.goes x) r.ps (fun n hn => Rg.st_in (r := r) (by rw [hin n hn]; decide)) hk.sb (hk.nd.sublist hsub) (fun n hn => by rw [<- Rg.st_eq, hin n hn]; decide)
  refine ⟨goneP_len _ _, rfl, rtB_ext (fun m => ?_)⟩
  unfold rtd
  have hst : (r.settle x).2.st m = if (m : Int) ∈ r.goes x then 2 else r.st m := i2 m
  have hlen : (r.settle x).2.ps.length = r.ps.length := goneP_len _ _
  rw [hst, hlen]
  by_cases e : (m : Int) ∈ r.goes x
  ·rw [if_pos e, hin _ e]
   rw [Bool.eq_iff_iff, decide_eq_true_eq, decide_eq_true_eq]
   constructor
   ·rintro ⟨g1, g2, _⟩; exact ⟨g1, g2, by decide⟩
   ·rintro ⟨g1, g2, _⟩; exact ⟨g1, g2, by decide⟩
  ·rw [if_neg e]
 split at h
 ·injection h with e1 h
  injection h with e2 e3
  subst e3
  exact ⟨rfl, rfl, rtB_ext (fun m => rfl)⟩
 split at h
 ·injection h with e1 h
  injection h with e2 e3
  subst e3
  exact ⟨rfl, rfl, rtB_ext (fun m => rfl)⟩
 ·injection h with e1 h
  injection h with e2 e3
  subst e3
  exact ⟨rfl, rfl, rtB_ext (fun m => rfl)⟩
end Go.Proofs.YtlkdniglaldilaaGreat
