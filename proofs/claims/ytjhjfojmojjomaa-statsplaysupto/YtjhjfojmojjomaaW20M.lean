
/-
  Four Stats, apart; what a script tells. No condition.
-/
import Derived.Test.YtjhjfojmojjomaaW20Kit
namespace Go.Proofs.Ytjhjfojmojjomaa
open Go.RowKit
set_option linter.unusedVariables false
set_option linter.unusedSimpArgs false
set_option maxRecDepth 100000
/-- What a call adds to what was told. -/
def toldO (o : Ow) : List To := if o.k = 0 then (if isH o.h = true then [⟨o.h, false, o.s, o.c, o.r⟩] else []) else if o.ws.all isH = true then o.ws.map (fun h => ⟨h, true, 0, 0, 0⟩) else []
theorem tellL_told (l : List To) (o : Ow) : ∃ E, tellL l o = (E, l ++ toldO o) := by
  unfold tellL toldO ranL missedL
  by_cases hk : o.k = 0
  · rw [if_pos hk, if_pos hk]
    by_cases hh : isH o.h = true
    · rw [if_pos hh, if_pos hh]; exact ⟨_, rfl⟩
    · rw [if_neg hh, if_neg hh, List.append_nil]; exact ⟨_, rfl⟩
  · rw [if_neg hk, if_neg hk]
    by_cases hh : o.ws.all isH = true
    · rw [if_pos hh, if_pos hh]; exact ⟨_, rfl⟩
    · rw [if_neg hh, if_neg hh, List.append_nil]; exact ⟨_, rfl⟩
/-- What a script tells. -/
def toldS (is : List Ow) : List To := is.flatMap toldO
theorem toldS_more (is : List Ow) {j : Nat} (hj : j < is.length) : toldS (is.take (j + 1)) = toldS (is.take j) ++ toldO (is.getD j Ow.nil) := by
  unfold toldS
  rw [List.take_succ_eq_append_getElem hj, List.flatMap_append]
  simp [List.getD, hj]
theorem toldS_back (is : List Ow) {j : Nat} (hj : j < is.length) : toldS (is.reverse.take (j + 1)) = toldS (is.reverse.take j) ++ toldO (is.getD (is.length - 1 - j) Ow.nil) := by
  have h5 := toldS_more is.reverse (j := j) (by simpa using hj)
  rw [h5]
  congr 2
  have h6 : is.length - 1 - j < is.length := by omega
  simp [List.getD, hj, h6]
theorem toldS_rev (is : List Ow) : (toldS is.reverse).Perm (toldS is) := by
  unfold toldS
  exact List.Perm.flatMap_right _ (List.reverse_perm is)
/-- What was told to the one or the other. -/
theorem perm_left {a b t x : List To} (h : (a ++ b).Perm t) : ((a ++ x) ++ b).Perm (t ++ x) := by
  refine List.Perm.trans ?_ (h.append_right x)
  rw [List.append_assoc, List.append_assoc]
  exact List.perm_append_comm.append_left a
theorem perm_right {a b t x : List To} (h : (a ++ b).Perm t) : (a ++ (b ++ x)).Perm (t ++ x) := by
  rw [← List.append_assoc]
  exact h.append_right x
/-- Four Stats. -/
structure Lf (w0 w : World) (a b o k : Nat) (Fa Fb Fo Fk : Ft) (la lb lo lk : List To) : Prop where
  xa : Lz w0 w a Fa la
  xb : Lz w0 w b Fb lb
  xo : Lz w0 w o Fo lo
  xk : Lz w0 w k Fk lk
  ab : Apt Fa Fb
  ao : Apt Fa Fo
  ak : Apt Fa Fk
  bo : Apt Fb Fo
  bk : Apt Fb Fk
  ok : Apt Fo Fk
section
variable {w0 w w' : World} {a b o k : Nat} {Fa Fb Fo Fk F' G : Ft} {la lb lo lk L : List To}
theorem Lz.here (h : Lz w0 w a Fa la) : Fa a := by
  obtain ⟨B, _, h1⟩ := h.ex
  exact h1.here
theorem Lf.keeps (h : Lf w0 w a b o k Fa Fb Fo Fk la lb lo lk) (hc : Chg w w' G) (hs : Since w0 G) (ga : Apt G Fa) (gb : Apt G Fb) (go : Apt G Fo) (gk : Apt G Fk) : Lf w0 w' a b o k Fa Fb Fo Fk la lb lo lk :=
  ⟨h.xa.keeps hc ga hs, h.xb.keeps hc gb hs, h.xo.keeps hc go hs, h.xk.keeps hc gk hs, h.ab, h.ao, h.ak, h.bo, h.bk, h.ok⟩
theorem Lf.below (h : Lf w0 w a b o k Fa Fb Fo Fk la lb lo lk) (hb : Below w.heap.size w w') : Lf w0 w' a b o k Fa Fb Fo Fk la lb lo lk :=
  ⟨h.xa.below hb, h.xb.below hb, h.xo.below hb, h.xk.below hb, h.ab, h.ao, h.ak, h.bo, h.bk, h.ok⟩
theorem Lf.atA (h : Lf w0 w a b o k Fa Fb Fo Fk la lb lo lk) (hl : Lz w0 w' a F' L) (hn : Nx w w' Fa F') : Lf w0 w' a b o k F' Fb Fo Fk L lb lo lk :=
  ⟨hl, h.xb.keeps hn.chg h.ab h.xa.since, h.xo.keeps hn.chg h.ao h.xa.since, h.xk.keeps hn.chg h.ak h.xa.since, h.ab.next h.xb.lies hn, h.ao.next h.xo.lies hn, h.ak.next h.xk.lies hn, h.bo, h.bk, h.ok⟩
theorem Lf.atB (h : Lf w0 w a b o k Fa Fb Fo Fk la lb lo lk) (hl : Lz w0 w' b F' L) (hn : Nx w w' Fb F') : Lf w0 w' a b o k Fa F' Fo Fk la L lo lk :=
  ⟨h.xa.keeps hn.chg h.ab.symm h.xb.since, hl, h.xo.keeps hn.chg h.bo h.xb.since, h.xk.keeps hn.chg h.bk h.xb.since, (h.ab.symm.next h.xa.lies hn).symm, h.ao, h.ak, h.bo.next h.xo.lies hn, h.bk.next h.xk.lies hn, h.ok⟩
theorem Lf.atO (h : Lf w0 w a b o k Fa Fb Fo Fk la lb lo lk) (hl : Lz w0 w' o F' L) (hn : Nx w w' Fo F') : Lf w0 w' a b o k Fa Fb F' Fk la lb L lk :=
  ⟨h.xa.keeps hn.chg h.ao.symm h.xo.since, h.xb.keeps hn.chg h.bo.symm h.xo.since, hl, h.xk.keeps hn.chg h.ok h.xo.since, h.ab, (h.ao.symm.next h.xa.lies hn).symm, h.ak, (h.bo.symm.next h.xb.lies hn).symm, h.bk, h.ok.next h.xk.lies hn⟩
theorem Lf.atK (h : Lf w0 w a b o k Fa Fb Fo Fk la lb lo lk) (hl : Lz w0 w' k F' L) (hn : Nx w w' Fk F') : Lf w0 w' a b o k Fa Fb Fo F' la lb lo L :=
  ⟨h.xa.keeps hn.chg h.ak.symm h.xk.since, h.xb.keeps hn.chg h.bk.symm h.xk.since, h.xo.keeps hn.chg h.ok.symm h.xk.since, hl, h.ab, h.ao, (h.ak.symm.next h.xa.lies hn).symm, h.bo, (h.bk.symm.next h.xb.lies hn).symm, (h.ok.symm.next h.xo.lies hn).symm⟩
/-- Which list was told to which. -/
def pick4 (a b o : Nat) (la lb lo lk : List To) (x : Nat) : List To := if x = a then la else if x = b then lb else if x = o then lo else lk
theorem Lf.picks (h : Lf w0 w a b o k Fa Fb Fo Fk la lb lo lk) : pick4 a b o la lb lo lk a = la ∧ pick4 a b o la lb lo lk b = lb ∧ pick4 a b o la lb lo lk o = lo ∧ pick4 a b o la lb lo lk k = lk := by
  have n1 : ¬ b = a := fun e => h.ab a h.xa.here (e ▸ h.xb.here)
  have n2 : ¬ o = a := fun e => h.ao a h.xa.here (e ▸ h.xo.here)
  have n3 : ¬ k = a := fun e => h.ak a h.xa.here (e ▸ h.xk.here)
  have n4 : ¬ o = b := fun e => h.bo b h.xb.here (e ▸ h.xo.here)
  have n5 : ¬ k = b := fun e => h.bk b h.xb.here (e ▸ h.xk.here)
  have n6 : ¬ k = o := fun e => h.ok o h.xo.here (e ▸ h.xk.here)
  unfold pick4
  simp only [if_true, if_neg n1, if_neg n2, if_neg n3, if_neg n4, if_neg n5, if_neg n6, and_self]
theorem Lf.mg (h : Lf w0 w a b o k Fa Fb Fo Fk la lb lo lk) {v : Value} {qs : List (Option Nat)} (hs : SeesG ptC 1 none w v qs) (hl : qs.length ≤ 100) (hq : ∀ x, some x ∈ qs → x = a ∨ x = b ∨ x = o ∨ x = k) {A : List Ta} (HA : Hid (four (toldAll (pick4 a b o la lb lo lk) qs) = A)) : Calls Try.prog 14 #[v] w fun e w' => ∃ u, e = .returned u ∧ RoTa w' w.heap.size u A ∧ Below w.heap.size w w' := by
  refine lmerge hs hl (fun x hx => ?_) HA
  obtain ⟨p1, p2, p3, p4⟩ := h.picks
  rcases hq x hx with rfl | rfl | rfl | rfl
  · rw [p1]; obtain ⟨B, _, h1⟩ := h.xa.ex; exact ⟨B, _, h1⟩
  · rw [p2]; obtain ⟨B, _, h1⟩ := h.xb.ex; exact ⟨B, _, h1⟩
  · rw [p3]; obtain ⟨B, _, h1⟩ := h.xo.ex; exact ⟨B, _, h1⟩
  · rw [p4]; obtain ⟨B, _, h1⟩ := h.xk.ex; exact ⟨B, _, h1⟩
theorem Lf.told (h : Lf w0 w a b o k Fa Fb Fo Fk la lb lo lk) : toldAll (pick4 a b o la lb lo lk) [some a, some b] = la ++ lb ∧ toldAll (pick4 a b o la lb lo lk) [some b, none, some a] = lb ++ la ∧ toldAll (pick4 a b o la lb lo lk) [some o] = lo ∧ toldAll (pick4 a b o la lb lo lk) [some k] = lk := by
  obtain ⟨p1, p2, p3, p4⟩ := h.picks
  simp [toldAll, p1, p2, p3, p4]
end
/-- A row of tallies, cell by cell. -/
theorem RoTa.cells {w : World} {B : Nat} {u : Value} {Y : List Ta} (h : RoTa w B u Y) (hn : 0 < Y.length) : ∃ p cap, u = .slice (some ⟨p, 0, none⟩) Y.length cap ∧ B ≤ p ∧ p < w.heap.size ∧ Y.length ≤ cap ∧ cap ≤ 9223372036854775807 ∧ ∀ i, i < Y.length → ∀ t, Y.getD i Ta.nil = t → w.cell? ⟨p, i * 5, none⟩ = some (.int .u64 t.r) ∧ w.frozen? ⟨p, i * 5, none⟩ = false ∧ ∀ y : Int, RoTa (w.setCell ⟨p, i * 5, none⟩ (.int .u64 y)) B (.slice (some ⟨p, 0, none⟩) Y.length cap) (Y.set i ⟨y, t.m, t.s, t.c, t.u⟩) := by
  have h0 := h
  unfold RoTa at h0
  obtain ⟨p, cap, cur, e, h1, h2, h3, h4, _⟩ := own_row h0 hn
  subst e
  unfold maxLen at h4
  have hlt := (h0.lt p rfl).2
  refine ⟨p, cap, rfl, h1, hlt, h3, by omega, fun i hi t ht => ?_⟩
  obtain ⟨p2, off2, ev2, hat⟩ := taAt h.sees hi
  simp only [Option.some.injEq, Addr.mk.injEq, and_true] at ev2
  obtain ⟨rfl, rfl⟩ := ev2
  have hc := (hat i hi t ht).1
  rw [Nat.zero_add] at hc
  refine ⟨hc, h0.frozenAt _, fun y => ?_⟩
  have := own_setG taC_len Ta.nil h0 (k := i) (j := 0) (x := ⟨y, t.m, t.s, t.c, t.u⟩) (u := .int .u64 y) hi (by omega) (by rw [ht]; rfl)
  unfold RoTa
  simpa using this
end Go.Proofs.Ytjhjfojmojjomaa
