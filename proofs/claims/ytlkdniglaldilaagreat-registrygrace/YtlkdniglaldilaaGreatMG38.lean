/-
  R24LA
  R24LB
-/
import Derived.Test.YtlkdniglaldilaaGreatMG36
import Derived.Test.YtlkdniglaldilaaGreatMG32
import Derived.Test.YtlkdniglaldilaaGreatMG35
import Derived.Test.YtlkdniglaldilaaGreatMG37
import Derived.Test.YtlkdniglaldilaaGreatMG31
import Derived.Test.YtlkdniglaldilaaGreatMG18
import Derived.Test.YtlkdniglaldilaaGreatMG0
namespace Go.Proofs.YtlkdniglaldilaaGreat
open Go.RowKit
set_option linter.unusedVariables false
set_option linter.unusedSimpArgs false
set_option maxRecDepth 100000
abbrev pwC (p : Pw) : List Value := [.int .i64 p.n, p.md.um, p.md.uc, .int .i64 p.g]
theorem pwC_len (p : Pw) : (pwC p).length = 4 := rfl
def ftM (M : List Md) : Ft := fun k => ∃ m ∈ M, m.um.ownBlock = some k ∨ m.uc.ownBlock = some k
structure MdIn (w : World) (m : Md) : Prop where
 om : w.ownsRow 0 3 1 m.um m.ms.length (m.ms.map (Value.int .i64))
 oc : w.ownsRow 0 74 5 m.uc m.xs.length (flat m.xs)
 wm : ∀ x ∈ m.ms, (Lit.int .i64 x).wf = true
 wx : m.xs.length <= 64
structure Cp where
 cs : List Value
 bt : Nat
 br : Nat
 bc : Nat
 gc : Nat
 tb : Tb
 mp : Nat
 P : Rs_g
 ck : Ck
 ul : Value
 L : List Pw
 ut : Value
 T : List Pw
 M : List Md
def ObR (b : Nat) (c : Cp) (w : World) : Nat -> Ft -> Prop
 | 0, F => F = (fun k => k = b) /\ Hp w b 48 c.cs
 | 1, F => ∃ B, B <= w.heap.size /\ Lt w B c.bt F c.tb
 | 2, F => ∃ B, B <= w.heap.size /\ Lq_g w B c.br F c.mp c.P
 | 3, F => F = ftE c.bc c.gc /\ Ec w c.bc c.gc c.ck
 | 4, F => F = ftV c.ul /\ w.ownsRow 0 64 4 c.ul c.L.length (flatG pwC c.L)
 | 5, F => F = ftV c.ut /\ w.ownsRow 0 64 4 c.ut c.T.length (flatG pwC c.T)
 | _ + 6, F => F = ftM c.M /\ ∀ m ∈ c.M, MdIn w m
abbrev Mr (w : World) (b : Nat) (F : Nat -> Ft) (c : Cp) : Prop := Fam (fun w i F => ObR b c w i F) w 7 F
section
variable {w w' : World} {b : Nat} {F : Nat -> Ft} {G : Ft} {c : Cp}
theorem MdIn.chg {m : Md} (h : MdIn w m) (hc : Chg w w' G) (ha : ∀ k, G k -> ¬ (m.um.ownBlock = some k ∨ m.uc.ownBlock = some k)) : MdIn w' m :=
 ⟨own_chg h.om hc (fun k hk e => ha k e (.inl hk)), own_chg h.oc hc (fun k hk e => ha k e (.inr hk)), h.wm, h.wx⟩
theorem ObR.chg {i : Nat} {H : Ft} (h : ObR b c w i H) (hc : Chg w w' G) (ha : Apt G H) : ObR b c w' i H := by
 match i, h with
 | 0, h => obtain ⟨rfl, h1⟩ := h; exact ⟨rfl, h1.chg hc (fun e => ha b e rfl)⟩
 | 1, h => obtain ⟨B, hB, h1⟩ := h; exact ⟨B, Nat.le_trans hB hc.size, h1.keeps hc ha⟩
 | 2, h => obtain ⟨B, hB, h1⟩ := h; exact ⟨B, Nat.le_trans hB hc.size, h1.keeps hc ha⟩
 | 3, h => obtain ⟨rfl, h1⟩ := h; exact ⟨rfl, h1.chg hc ha⟩
 | 4, h => obtain ⟨rfl, h1⟩ := h; exact ⟨rfl, own_keeps h1 hc ha⟩
 | 5, h => obtain ⟨rfl, h1⟩ := h; exact ⟨rfl, own_keeps h1 hc ha⟩
 | _ + 6, h => obtain ⟨rfl, h1⟩ := h; exact ⟨rfl, fun m hm => (h1 m hm).chg hc (fun k hk e => ha k hk ⟨m, hm, e⟩)⟩
theorem Mr.lies (h : Mr w b F c) : Lies w (unF 7 F) := fun k hk => by
 obtain ⟨i, hi, e⟩ := hk
 exact h.li i hi k e
theorem Mr.keeps (h : Mr w b F c) (hc : Chg w w' G) (ha : Apt G (unF 7 F)) : Mr w' b F c := Fam.keeps h hc (fun j hj hP => ObR.chg hP hc (fun k hk e => ha k hk ⟨j, hj, e⟩))
theorem Mr.below (h : Mr w b F c) (hb : Below w.heap.size w w') : Mr w' b F c := Mr.keeps (G := fun _ => False) h (Chg.of_below hb) (fun _ e => e.elim)
theorem Mr.cel (h : Mr w b F c) : Hp w b 48 c.cs := (h.ob 0 (by omega)).2
theorem Mr.f0 (h : Mr w b F c) : F 0 = (fun k => k = b) := (h.ob 0 (by omega)).1
theorem Mr.f3 (h : Mr w b F c) : F 3 = ftE c.bc c.gc := (h.ob 3 (by omega)).1
theorem Mr.f4 (h : Mr w b F c) : F 4 = ftV c.ul := (h.ob 4 (by omega)).1
theorem Mr.f5 (h : Mr w b F c) : F 5 = ftV c.ut := (h.ob 5 (by omega)).1
theorem Mr.f6 (h : Mr w b F c) : F 6 = ftM c.M := (h.ob 6 (by omega)).1
theorem Mr.tab (h : Mr w b F c) : ∃ B, B <= w.heap.size /\ Lt w B c.bt (F 1) c.tb := h.ob 1 (by omega)
theorem Mr.ref (h : Mr w b F c) : ∃ B, B <= w.heap.size /\ Lq_g w B c.br (F 2) c.mp c.P := h.ob 2 (by omega)
theorem Mr.clk (h : Mr w b F c) : Ec w c.bc c.gc c.ck := (h.ob 3 (by omega)).2
theorem Mr.liv (h : Mr w b F c) : w.ownsRow 0 64 4 c.ul c.L.length (flatG pwC c.L) := (h.ob 4 (by omega)).2
theorem Mr.ret (h : Mr w b F c) : w.ownsRow 0 64 4 c.ut c.T.length (flatG pwC c.T) := (h.ob 5 (by omega)).2
theorem Mr.mod (h : Mr w b F c) : ∀ m ∈ c.M, MdIn w m := (h.ob 6 (by omega)).2
theorem Mr.cell (h : Mr w b F c) {i : Nat} {v : Value} (hv : c.cs[i]? = some v) : w.cell? ⟨b, i, none⟩ = some v := h.cel.cell hv
theorem Mr.tabS (h : Mr w b F c) {tb' : Tb} (hn : Nx w w' (F 1) G) {B : Nat} (hB : B <= w.heap.size) (hP : Lt w' B c.bt G tb') : Mr w' b (upd F 1 G) { c with tb := tb' } /\ Nx w w' (unF 7 F) (unF 7 (upd F 1 G)) := by
 refine ⟨Fam.step h (by omega) hn hP.lies ⟨B, Nat.le_trans hB hn.chg.size, hP⟩ (fun j hj hne hP' ha => ?_), Nx.fam (by omega) hn⟩
 have := ObR.chg hP' hn.chg ha
 match j, hne, this with
 | 0, _, q => exact q
 | 1, e, _ => exact absurd rfl e
 | 2, _, q => exact q
 | 3, _, q => exact q
 | 4, _, q => exact q
 | 5, _, q => exact q
 | _ + 6, _, q => exact q
theorem Mr.refS (h : Mr w b F c) {P' : Rs_g} (hn : Nx w w' (F 2) G) {B : Nat} (hB : B <= w.heap.size) (hP : Lq_g w' B c.br G c.mp P') : Mr w' b (upd F 2 G) { c with P := P' } /\ Nx w w' (unF 7 F) (unF 7 (upd F 2 G)) := by
 refine ⟨Fam.step h (by omega) hn hP.lies ⟨B, Nat.le_trans hB hn.chg.size, hP⟩ (fun j hj hne hP' ha => ?_), Nx.fam (by omega) hn⟩
 have := ObR.chg hP' hn.chg ha
 match j, hne, this with
 | 0, _, q => exact q
 | 1, _, q => exact q
 | 2, e, _ => exact absurd rfl e
 | 3, _, q => exact q
 | 4, _, q => exact q
 | 5, _, q => exact q
 | _ + 6, _, q => exact q
theorem Mr.clkS (h : Mr w b F c) {ck' : Ck} (hn : Chg w w' (ftE c.bc c.gc)) (hP : Ec w' c.bc c.gc ck') : Mr w' b (upd F 3 (ftE c.bc c.gc)) { c with ck := ck' } /\ Nx w w' (unF 7 F) (unF 7 (upd F 3 (ftE c.bc c.gc))) := by
 have hn : Nx w w' (F 3) (ftE c.bc c.gc) := by rw [h.f3]; exact ⟨hn, fun k e => .inl e⟩
 refine ⟨Fam.step h (by omega) hn hP.lies ⟨rfl, hP⟩ (fun j hj hne hP' ha => ?_), Nx.fam (by omega) hn⟩
 have := ObR.chg hP' hn.chg ha
 match j, hne, this with
 | 0, _, q => exact q
 | 1, _, q => exact q
 | 2, _, q => exact q
 | 3, e, _ => exact absurd rfl e
 | 4, _, q => exact q
 | 5, _, q => exact q
 | _ + 6, _, q => exact q
theorem Mr.livS (h : Mr w b F c) {ul' : Value} {L' : List Pw} (hc : Chg w w' (ftV c.ul)) (hr : RowNew w c.ul ul') (hP : w'.ownsRow 0 64 4 ul' L'.length (flatG pwC L')) : Mr w' b (upd F 4 (ftV ul')) { c with ul := ul', L := L' } /\ Nx w w' (unF 7 F) (unF 7 (upd F 4 (ftV ul'))) := by
 have hn : Nx w w' (F 4) (ftV ul') := by
  rw [h.f4]
  refine ⟨hc, fun k e => ?_⟩
  rcases hr with hr | ⟨j, h1, h2⟩
  ·exact .inl (by show c.ul.ownBlock = some k; rw [<- hr]; exact e)
  ·have e : ul'.ownBlock = some k := e
   rw [h1] at e
   injection e with e
   exact .inr (by omega)
 refine ⟨Fam.step h (by omega) hn (own_lies hP) ⟨rfl, hP⟩ (fun j hj hne hP' ha => ?_), Nx.fam (by omega) hn⟩
 have := ObR.chg hP' hn.chg ha
 match j, hne, this with
 | 0, _, q => exact q
 | 1, _, q => exact q
 | 2, _, q => exact q
 | 3, _, q => exact q
 | 4, e, _ => exact absurd rfl e
 | 5, _, q => exact q
 | _ + 6, _, q => exact q
theorem Mr.retS (h : Mr w b F c) {ut' : Value} {T' : List Pw} (hc : Chg w w' (ftV c.ut)) (hr : RowNew w c.ut ut') (hP : w'.ownsRow 0 64 4 ut' T'.length (flatG pwC T')) : Mr w' b (upd F 5 (ftV ut')) { c with ut := ut', T := T' } /\ Nx w w' (unF 7 F) (unF 7 (upd F 5 (ftV ut'))) := by
 have hn : Nx w w' (F 5) (ftV ut') := by
  rw [h.f5]
  refine ⟨hc, fun k e => ?_⟩
  rcases hr with hr | ⟨j, h1, h2⟩
  ·exact .inl (by show c.ut.ownBlock = some k; rw [<- hr]; exact e)
  ·have e : ut'.ownBlock = some k := e
   rw [h1] at e
   injection e with e
   exact .inr (by omega)
 refine ⟨Fam.step h (by omega) hn (own_lies hP) ⟨rfl, hP⟩ (fun j hj hne hP' ha => ?_), Nx.fam (by omega) hn⟩
 have := ObR.chg hP' hn.chg ha
 match j, hne, this with
 | 0, _, q => exact q
 | 1, _, q => exact q
 | 2, _, q => exact q
 | 3, _, q => exact q
 | 4, _, q => exact q
 | 5, e, _ => exact absurd rfl e
 | _ + 6, _, q => exact q
theorem Mr.retN (h : Mr w b F c) {ut' : Value} {T' : List Pw} (hP : w.ownsRow 0 64 4 ut' T'.length (flatG pwC T')) {w0 : World} {F0 : Nat -> Ft} (hn0 : Nx w0 w (unF 7 F0) (unF 7 F)) (hs : Since w0 (ftV ut')) (ha : Apt (ftV ut') (unF 7 F)) : Mr w b (upd F 5 (ftV ut')) { c with ut := ut', T := T' } /\ Nx w0 w (unF 7 F0) (unF 7 (upd F 5 (ftV ut'))) := by
 refine ⟨⟨fun j hj => ?_, fun j hj => ?_, fun i j hi hj hne => ?_⟩, hn0.chg, fun k hk => ?_⟩
 ·by_cases e : j = 5
  ·subst e; rw [upd_same]; exact ⟨rfl, hP⟩
  ·rw [upd_other F _ e]
   have := h.ob j hj
   match j, e, this with
   | 0, _, q => exact q
   | 1, _, q => exact q
   | 2, _, q => exact q
   | 3, _, q => exact q
   | 4, _, q => exact q
   | 5, e, _ => exact absurd rfl e
   | _ + 6, _, q => exact q
 ·by_cases e : j = 5
  ·subst e; rw [upd_same]; exact own_lies hP
  ·rw [upd_other F _ e]; exact h.li j hj
 ·by_cases e : i = 5
  ·subst e
   rw [upd_same, upd_other F _ (fun e => hne e.symm)]
   exact fun k hk e => ha k hk ⟨j, hj, e⟩
  ·rw [upd_other F _ e]
   by_cases e2 : j = 5
   ·subst e2
    rw [upd_same]
    exact fun k hk e => ha k e ⟨i, hi, hk⟩
   ·rw [upd_other F _ e2]; exact h.ap i j hi hj hne
 ·obtain ⟨j, hj, e⟩ := hk
  by_cases g : j = 5
  ·subst g; rw [upd_same] at e; exact .inr (hs k e)
  ·rw [upd_other F _ g] at e; exact hn0.new k ⟨j, hj, e⟩
theorem Mr.set (h : Mr w b F c) (i : Nat) (v : Value) : Mr (w.setCell ⟨b, i, none⟩ v) b (upd F 0 (fun k => k = b)) { c with cs := c.cs.set i v } /\ Nx w (w.setCell ⟨b, i, none⟩ v) (unF 7 F) (unF 7 (upd F 0 (fun k => k = b))) := by
 have hn : Nx w (w.setCell ⟨b, i, none⟩ v) (F 0) (fun k => k = b) := by rw [h.f0]; exact ⟨Chg.set w b i v, fun k e => .inl e⟩
 have hp := h.cel.set i v
 refine ⟨Fam.step h (by omega) hn (fun k e => by rw [e]; exact hp.lt) ⟨rfl, hp⟩ (fun j hj hne hP' ha => ?_), Nx.fam (by omega) hn⟩
 have := ObR.chg hP' hn.chg ha
 match j, hne, this with
 | 0, e, _ => exact absurd rfl e
 | 1, _, q => exact q
 | 2, _, q => exact q
 | 3, _, q => exact q
 | 4, _, q => exact q
 | 5, _, q => exact q
 | _ + 6, _, q => exact q
theorem Mr.modS (h : Mr w b F c) (hb : Below w.heap.size w w') {m : Md} (hm : MdIn w' m) (h1 : ∀ k, m.um.ownBlock = some k -> w.heap.size <= k) (h2 : ∀ k, m.uc.ownBlock = some k -> w.heap.size <= k) : Mr w' b (upd F 6 (ftM (m :: c.M))) { c with M := m :: c.M } /\ Nx w w' (unF 7 F) (unF 7 (upd F 6 (ftM (m :: c.M)))) := by
 have hn : Nx w w' (F 6) (ftM (m :: c.M)) := by
  rw [h.f6]
  refine ⟨Chg.of_below hb, fun k e => ?_⟩
  obtain ⟨q, hq, e⟩ := e
  rcases List.mem_cons.1 hq with g | g
  ·subst g
   rcases e with e | e
   ·exact .inr (h1 k e)
   ·exact .inr (h2 k e)
  ·exact .inl ⟨q, g, e⟩
 have hall : ∀ q ∈ m :: c.M, MdIn w' q := fun q hq => by
  rcases List.mem_cons.1 hq with g | g
  ·subst g; exact hm
  ·exact (h.mod q g).chg (G := fun _ => False) (Chg.of_below hb) (fun _ e => e.elim)
 refine ⟨Fam.step h (by omega) hn (fun k e => ?_) ⟨rfl, hall⟩ (fun j hj hne hP' ha => ?_), Nx.fam (by omega) hn⟩
 ·obtain ⟨q, hq, e⟩ := e
  rcases e with e | e
  ·exact ((hall q hq).om.lt k e).2
  ·exact ((hall q hq).oc.lt k e).2
 have := ObR.chg (G := fun _ => False) hP' (Chg.of_below hb) (fun _ e => e.elim)
 match j, hne, this with
 | 0, _, q => exact q
 | 1, _, q => exact q
 | 2, _, q => exact q
 | 3, _, q => exact q
 | 4, _, q => exact q
 | 5, _, q => exact q
 | 6, e, _ => exact absurd rfl e
 | n + 7, _, q => omega
end
structure Lr (w : World) (b bt br bc : Nat) (G : Ft) (r : Rg) : Prop where
 ex : ∃ F gc P ul L ut T M, Mr w b F ⟨[.pointer (some ⟨bt, 0, none⟩), .pointer (some ⟨br, 0, none⟩), .pointer (some ⟨bc, 0, none⟩), .int .i64 r.tb.at'.length, .int .i64 r.ps.length, ul, ut], bt, br, bc, gc, r.tb, r.mp, P, r.ck, ul, L, ut, T, M⟩ /\ G = unF 7 F /\ Rel r L T P /\ (∀ p ∈ L ++ T, p.md ∈ M)
section
variable {w w' : World} {b bt br bc : Nat} {G H : Ft} {r : Rg}
theorem Lr.lies (h : Lr w b bt br bc G r) : Lies w G := by
 obtain ⟨F, gc, P, ul, L, ut, T, M, h1, rfl, _⟩ := h.ex
 exact h1.lies
theorem Lr.keeps (h : Lr w b bt br bc G r) (hc : Chg w w' H) (ha : Apt H G) : Lr w' b bt br bc G r := by
 obtain ⟨F, gc, P, ul, L, ut, T, M, h1, rfl, h2⟩ := h.ex
 exact ⟨F, gc, P, ul, L, ut, T, M, h1.keeps hc ha, rfl, h2⟩
theorem Lr.below (h : Lr w b bt br bc G r) (hb : Below w.heap.size w w') : Lr w' b bt br bc G r := h.keeps (Chg.of_below (S := fun _ => False) hb) (fun _ e => e.elim)
theorem Lr.low (h : Lr w b bt br bc G r) : w.cell? ⟨b, 0, none⟩ = some (.pointer (some ⟨bt, 0, none⟩)) /\ w.cell? ⟨b, 1, none⟩ = some (.pointer (some ⟨br, 0, none⟩)) /\ w.cell? ⟨b, 2, none⟩ = some (.pointer (some ⟨bc, 0, none⟩)) /\ w.cell? ⟨b, 3, none⟩ = some (.int .i64 r.tb.at'.length) /\ w.cell? ⟨b, 4, none⟩ = some (.int .i64 r.ps.length) := by
 obtain ⟨F, gc, P, ul, L, ut, T, M, h1, rfl, _⟩ := h.ex
 exact ⟨h1.cell rfl, h1.cell rfl, h1.cell rfl, h1.cell rfl, h1.cell rfl⟩
theorem Lr.detach (h : Lr w b bt br bc G r) (hk : r.Ok) {u : Value} {xs : List Int} (hz : Hid (xs.length * 8 <= 140737488355328)) (hs : Sees .i64 w u xs) (hap : xs ≠ [] -> Apt G (ftV u)) {E : Int} {r' : Rg} (HQ : Hid (r.det xs = (E, r'))) : Calls Tryz.prog 25 #[.pointer (some ⟨bt, 0, none⟩), u] w fun e w' => e = .returned (.int .i64 E) /\ ∃ G', Lr w' b bt br bc G' r' /\ Nx w w' G G' := by
 obtain ⟨F, gc, P, ul, L, ut, T, M, h1, rfl, h2, h3⟩ := h.ex
 obtain ⟨B, hB, ht⟩ := h1.tab
 have hq := HQ.out
 unfold Rg.det at hq
 injection hq with e1 e2
 subst e1 e2
 refine (ht.detach hk.tb hB hz hs (fun hne k e g => hap hne k ⟨1, by omega, e⟩ g) (E := (r.tb.det xs).1) (t' := (r.tb.det xs).2) (show _ = _ from rfl)).mono ?_
 rintro e w' ⟨rfl, F', g1, g2⟩
 obtain ⟨a1, a2⟩ := Mr.tabS h1 g2 hB g1
 refine ⟨rfl, _, ⟨_, gc, P, ul, L, ut, T, M, ?_, rfl, h2.same _ _, h3⟩, a2⟩
 rw [(Tb.det_last (E := (r.tb.det xs).1) (t' := (r.tb.det xs).2) rfl).2]
 exact a1
theorem Lr.enter (h : Lr w b bt br bc G r) (x : Int) {n E : Int} {r' : Rg} (HQ : Hid (r.enter x = (n, E, r'))) : Calls Tryz.prog 26 #[.pointer (some ⟨bc, 0, none⟩), .int .i64 x] w fun e w' => e = .returned (.tuple #[.int .i64 n, .int .i64 E]) /\ ∃ G', Lr w' b bt br bc G' r' /\ Nx w w' G G' := by
 obtain ⟨F, gc, P, ul, L, ut, T, M, h1, rfl, h2, h3⟩ := h.ex
 have hq := HQ.out
 unfold Rg.enter at hq
 injection hq with e1 hq
 injection hq with e2 e3
 subst e1 e2 e3
 refine (lenter h1.clk x (n := (r.ck.enter x).1) (E := (r.ck.enter x).2.1) (c' := (r.ck.enter x).2.2) (show _ = _ from rfl)).mono ?_
 rintro e w' ⟨rfl, g1, g2⟩
 obtain ⟨a1, a2⟩ := Mr.clkS h1 g2 g1
 exact ⟨rfl, _, ⟨_, gc, P, ul, L, ut, T, M, a1, rfl, h2.same _ _, h3⟩, a2⟩
theorem Lr.leave (h : Lr w b bt br bc G r) (hk : r.Ok) {v : Value} {ws : List Int} (hs : Sees .i64 w v ws) (hap : ws ≠ [] -> Apt G (ftV v)) {E : Int} {r' : Rg} (HQ : Hid (r.leave ws = (E, r'))) : Calls Tryz.prog 16 #[.pointer (some ⟨bc, 0, none⟩), v] w fun e w' => e = .returned (.int .i64 E) /\ ∃ G', Lr w' b bt br bc G' r' /\ Nx w w' G G' := by
 obtain ⟨F, gc, P, ul, L, ut, T, M, h1, rfl, h2, h3⟩ := h.ex
 have hq := HQ.out
 unfold Rg.leave at hq
 injection hq with e1 e2
 subst e1 e2
 have f3 := h1.f3
 refine (lleave h1.clk hk.ck hs (fun hne k e g => hap hne k ⟨3, by omega, by rw [f3]; exact e⟩ g) (E := (r.ck.leave ws).1) (c' := (r.ck.leave ws).2) (show _ = _ from rfl)).mono ?_
 rintro e w' ⟨rfl, g1, g2⟩
 obtain ⟨a1, a2⟩ := Mr.clkS h1 g2 g1
 exact ⟨rfl, _, ⟨_, gc, P, ul, L, ut, T, M, a1, rfl, h2.same _ _, h3⟩, a2⟩
theorem Lr.advance (h : Lr w b bt br bc G r) (hk : r.Ok) (hl : r.ck.now <= 1000000000000000000) : Calls Tryz.prog 27 #[.pointer (some ⟨bc, 0, none⟩)] w fun e w' => e = .returned (.int .i64 (r.ck.now + 1)) /\ ∃ G', Lr w' b bt br bc G' r.go /\ Nx w w' G G' := by
 obtain ⟨F, gc, P, ul, L, ut, T, M, h1, rfl, h2, h3⟩ := h.ex
 refine (ladvance h1.clk (by show 0 <= r.ck.now; have := hk.ck.now; omega) hl).mono ?_
 rintro e w' ⟨rfl, g1, g2⟩
 obtain ⟨a1, a2⟩ := Mr.clkS h1 g2 g1
 exact ⟨rfl, _, ⟨_, gc, P, ul, L, ut, T, M, a1, rfl, h2.same _ _, h3⟩, a2⟩
theorem Lr.inn (h : Lr w b bt br bc G r) (x : Int) {y : Int} {q : Bool} (HY : Hid (r.ck.at x = y)) (HR : Hid ((y != 0) = q)) : Calls Tryz.prog 15 #[.pointer (some ⟨bc, 0, none⟩), .int .i64 x] w fun e w' => e = .returned (.tuple #[.int .i64 y, .bool q]) /\ w = w' := by
 obtain ⟨F, gc, P, ul, L, ut, T, M, h1, rfl, h2⟩ := h.ex
 exact lin h1.clk x HY HR
def Rg.names (r : Rg) (x : Int) : Int := ((r.live ++ r.ln).filter (fun n => decide (x ∈ (r.pg n).ms))).length
theorem Rel.count {L T : List Pw} {P : Rs_g} (h : Rel r L T P) (x : Int) : cntH r.mp P x = if inM r.mp x = true then (r.names x, 0) else (0, 2) := by
 have e : ((P.holders x).length : Int) = r.names x := by
  unfold Rs_g.holders Rg.names
  rw [List.length_map, (h.hol.filter _).length_eq, List.filter_map, List.length_map, <- h.liv, <- h.ret, <- List.map_append, List.filter_map, List.length_map]
  congr 2
  refine List.filter_congr (fun p hp => ?_)
  show decide (x ∈ p.md.ms) = decide (x ∈ (r.pg p.n).ms)
  rcases List.mem_append.1 hp with g | g
  ·rw [(h.mdL p g).1]
  ·rw [(h.mdT p g).1]
 unfold cntH
 rw [e]
theorem Lr.count (h : Lr w b bt br bc G r) (hk : r.Ok) (x : Int) {y E : Int} (HC : Hid ((if inM r.mp x = true then (r.names x, (0 : Int)) else (0, 2)) = (y, E))) : Calls Tryz.prog 12 #[.pointer (some ⟨br, 0, none⟩), .int .i64 x] w fun e w' => e = .returned (.tuple #[.int .i64 y, .int .i64 E]) /\ Below w.heap.size w w' := by
 obtain ⟨F, gc, P, ul, L, ut, T, M, h1, rfl, h2, _⟩ := h.ex
 obtain ⟨B, hB, ht⟩ := h1.ref
 exact ht.count h2.pok hk.mp (by show P.length <= 10000; have := (h2.lens hk).2; omega) x (by show _ = _; rw [h2.count]; exact HC.out)
end
def idxP (n : Int) (L : List Pw) : Int := if L.findIdx (fun p => p.n == n) < L.length then (L.findIdx (fun p => p.n == n) : Int) else -1
theorem idxP_at {n : Int} {L : List Pw} {i : Nat} (hi : i < L.length) (h1 : (L.getD i Pw.nil).n = n) (h2 : ∀ j, j < i -> (L.getD j Pw.nil).n ≠ n) : idxP n L = i := by
 have e : L.findIdx (fun p => p.n == n) = i := by
  rw [List.findIdx_eq hi]
  have a : L.getD i Pw.nil = L[i] := by simp [List.getD, hi]
  rw [a] at h1
  refine ⟨by simpa using h1, fun j hj => ?_⟩
  have := h2 j hj
  have a : L.getD j Pw.nil = L[j]'(by omega) := by simp [List.getD, show j < L.length by omega]
  rw [a] at this
  simpa using this
 unfold idxP
 rw [e, if_pos hi]
theorem idxP_no {n : Int} {L : List Pw} (h : ∀ j, j < L.length -> (L.getD j Pw.nil).n ≠ n) : idxP n L = -1 := by
 unfold idxP
 rw [if_neg]
 intro hl
 have := List.findIdx_getElem (w := hl)
 refine h _ hl ?_
 have a : L.getD (L.findIdx (fun p => p.n == n)) Pw.nil = L[L.findIdx (fun p => p.n == n)] := by simp [List.getD, hl]
 rw [a]
 simpa using this
theorem box24 (wr : World) (p : Pw) : ∃ W1 W2, Hid (wr.alloc (.cells #[.int .i64 0, .slice none 0 0, .slice none 0 0, .int .i64 0] 64) = W1) /\
  Hid ((((W1.setCell ⟨wr.heap.size, 0, none⟩ (.int .i64 p.n)).setCell ⟨wr.heap.size, 1, none⟩ p.md.um).setCell ⟨wr.heap.size, 2, none⟩ p.md.uc).setCell ⟨wr.heap.size, 3, none⟩ (.int .i64 p.g) = W2) /\
  (W1.cell? ⟨wr.heap.size, 0, none⟩ = some (.int .i64 0) /\ W1.cell? ⟨wr.heap.size, 1, none⟩ = some (.slice none 0 0) /\ W1.cell? ⟨wr.heap.size, 2, none⟩ = some (.slice none 0 0) /\ W1.cell? ⟨wr.heap.size, 3, none⟩ = some (.int .i64 0)) /\
  (W1.frozen? ⟨wr.heap.size, 0, none⟩ = false /\ W1.frozen? ⟨wr.heap.size, 1, none⟩ = false /\ W1.frozen? ⟨wr.heap.size, 2, none⟩ = false /\ W1.frozen? ⟨wr.heap.size, 3, none⟩ = false) /\
  Hid (Hp W2 wr.heap.size 64 (pwC p)) /\ Hid (Below wr.heap.size wr W2) := by
 have h0 := Hp.new wr [.int .i64 0, .slice none 0 0, .slice none 0 0, .int .i64 0] 64
 have h1 := ((((h0.set 0 (.int .i64 p.n)).set 1 p.md.um).set 2 p.md.uc).set 3 (.int .i64 p.g))
 refine ⟨_, _, rfl, rfl, ⟨h0.cell rfl, h0.cell rfl, h0.cell rfl, h0.cell rfl⟩, ⟨h0.frozen 0, h0.frozen 1, h0.frozen 2, h0.frozen 3⟩, h1, ?_⟩
 refine ((((below_allocG wr _).trans (grown_to_below (grown_set _ wr.heap.size 0 _) (Nat.le_refl _) (by simp))).trans (grown_to_below (grown_set _ wr.heap.size 1 _) (Nat.le_refl _) (by simp))).trans (grown_to_below (grown_set _ wr.heap.size 2 _) (Nat.le_refl _) (by simp))).trans (grown_to_below (grown_set _ wr.heap.size 3 _) (Nat.le_refl _) (by simp))
theorem SeesG.at24 {w : World} {a : Option Addr} {cap : Nat} {L : List Pw} (h : SeesG pwC 4 Pw.nil w (.slice a L.length cap) L) {k : Nat} (hk : k < L.length) : ∃ g off, a = some ⟨g, off, none⟩ /\ g < w.heap.size /\ w.cell? ⟨g, off + k * 4, none⟩ = some (.int .i64 (L.getD k Pw.nil).n) /\ w.cell? ⟨g, off + k * 4 + 1, none⟩ = some (L.getD k Pw.nil).md.um /\ w.cell? ⟨g, off + k * 4 + 2, none⟩ = some (L.getD k Pw.nil).md.uc /\ w.cell? ⟨g, off + k * 4 + 3, none⟩ = some (.int .i64 (L.getD k Pw.nil).g) := by
 obtain ⟨a', cap', e, h1, h2, _, h3⟩ := h
 injection e with e1 _ e2
 subst e1
 obtain ⟨g, off, rfl, hlt, hat⟩ := h3 (fun e => by rw [e] at hk; simp at hk)
 exact ⟨g, off, rfl, hlt, hat k hk 0 (by omega), hat k hk 1 (by omega), hat k hk 2 (by omega), hat k hk 3 (by omega)⟩
def ShM (m : Md) : Prop := (∃ a n c, m.um = .slice a n c) /\ ∃ a n c, m.uc = .slice a n c
theorem MdIn.sh {w : World} {m : Md} (h : MdIn w m) : ShM m := by
 obtain ⟨a, c, e⟩ := own_shape h.om
 obtain ⟨a', c', e'⟩ := own_shape h.oc
 exact ⟨⟨a, _, c, e⟩, ⟨a', _, c', e'⟩⟩
section
variable {w w' : World}
theorem lfindC (n : Int) (B : Nat) (p : Pw) (w : World) (hB : B < w.heap.size) (hcell : w.cell? ⟨B, 0, none⟩ = some (.int .i64 n)) {r : Bool} (HR : Hid ((p.n == n) = r)) : Calls Tryz.prog 48 #[.agg #[.int .i64 p.n, p.md.um, p.md.uc, .int .i64 p.g], .pointer (some ⟨B, 0, none⟩)] w fun e w' => e = .returned (.bool r) /\ Below w.heap.size w w' := by
 have hne : B ≠ w.heap.size := by omega
 obtain ⟨pn, ⟨um, uc, ms, xs⟩, g⟩ := p
 have hr := HR.out
 clear HR
 simp only at hr
 subst hr
 go_enter Tryz.func48, Tryz.ntmps48
 go_wp2
 go_ret
 exact ⟨rfl, below_allocG _ _⟩
set_option maxHeartbeats 3200000 in
theorem lindexP {v : Value} {L : List Pw} (hs : SeesG pwC 4 Pw.nil w v L) (hl : L.length <= 1000) (n : Int) {B : Nat} (hB : B < w.heap.size) (hc : w.cell? ⟨B, 0, none⟩ = some (.int .i64 n)) {z : Int} (HZ : Hid (idxP n L = z)) :
  Calls Tryz.prog 47 #[v, .func (.func 48) #[] #[.pointer (some ⟨B, 0, none⟩)]] w fun e w' => e = .returned (.int .i64 z) /\ Below w.heap.size w w' := by
 have eg : ∀ args w, (callFunc 48 args).run Tryz.prog w = .ok (.enter 48 args) w := enters_of Tryz.func48 (by kernel_rfl) rfl
 have HS := keepG (fun (wr : World) (hb : Below w.heap.size w wr) => hs.below hb (Nat.le_refl _))
 have HC := keepG (fun (wr : World) (hb : Below w.heap.size w wr) => (hb.cell (p := ⟨B, 0, none⟩) hB).trans hc)
 obtain ⟨a, cap, rfl, hlc, hmx⟩ := hs.shape
 clear hs hc
 go_enter Tryz.func47, Tryz.ntmps47
 go_wp2
 go_loopw [8] (fun i wr => ∃ j : Nat, j <= L.length /\ i = .int .i64 j /\ Hid (Below w.heap.size w wr) /\ Hid (∀ k, k < j -> (L.getD k Pw.nil).n ≠ n)) (fun i _ => L.length - (intOf i).toNat)
 case atStart => exact ⟨0, by omega, rfl, Below.refl _ _, (show ∀ k, k < 0 -> _ from fun k h => by omega)⟩
 case round =>
  rename_i wr
  obtain ⟨j, hj, rfl, HB, HA⟩ := hrel
  by_cases hlt : j < L.length
  ·have hltI : (j : Int) < L.length := by omega
   obtain ⟨g, off, ea, _, d0, d1, d2, d3⟩ := (HS.out wr HB.out).at24 hlt
   subst ea
   have hcc := HC.out wr HB.out
   have hBw : B < wr.heap.size := Nat.lt_of_lt_of_le hB HB.out.size
   obtain ⟨p, HP⟩ : ∃ p, Hid (L.getD j Pw.nil = p) := ⟨_, rfl⟩
   rw [HP.out] at d0 d1 d2 d3
   cases hq : p.n == n with
   | true =>
    have HCL := keepG (lfindC n B p wr hBw hcc (show Hid (_ = true) from hq))
    have HZ2 : Hid (z = j) := by
     show _ = _
     rw [<- HZ.out]
     exact idxP_at hlt (by rw [HP.out]; simpa using hq) HA.out
    clear hq hcc hBw
    go_wp2_with (go_at_fn 48; go_must (refine HCL.out.mono ?_); rintro e w1 ⟨rfl, hb1⟩; go_must (have HB1 := keepG (HB.out.trans (hb1.mono HB.out.size)); clear hb1))
    go_ret
    exact ⟨by rw [HZ2.out]; rfl, HB1.out⟩
   | false =>
    have HCL := keepG (lfindC n B p wr hBw hcc (show Hid (_ = false) from hq))
    have HA2 : Hid (∀ k, k < j + 1 -> (L.getD k Pw.nil).n ≠ n) := fun k hk => by
     by_cases e : k = j
     ·rw [e, HP.out]; simpa using hq
     ·exact HA.out k (by omega)
    clear hq hcc hBw
    go_wp2_with (go_at_fn 48; go_must (refine HCL.out.mono ?_); rintro e w1 ⟨rfl, hb1⟩; go_must (have HB1 := keepG (HB.out.trans (hb1.mono HB.out.size)); clear hb1))
    go_roundw
    case rel => exact ⟨j + 1, by omega, by go_num, HB1.out, HA2.out⟩
    case measure => simp [intOf]; omega
  ·have hltI : ¬ (j : Int) < L.length := by omega
   have HZ2 : Hid (z = -1) := by
    show _ = _
    rw [<- HZ.out]
    exact idxP_no (fun k hk => HA.out k (by omega))
   go_wp2
   go_ret
   exact ⟨by rw [HZ2.out]; rfl, HB.out⟩
theorem lfind {v : Value} {L : List Pw} (hs : SeesG pwC 4 Pw.nil w v L) (hl : L.length <= 1000) (n : Int) {z : Int} (HZ : Hid (idxP n L = z)) : Calls Tryz.prog 29 #[.int .i64 n, v] w fun e w' => e = .returned (.int .i64 z) /\ Below w.heap.size w w' := by
 have hmf : ∀ (fn : Fn) (first cap : Array Value) (w : World), (Instr.makeFunc fn first cap).run Tryz.prog w = .ok (.func fn first cap) w := fun _ _ _ _ => rfl
 obtain ⟨W1, HW1, HX⟩ : ∃ W1, Hid (w.alloc (.cells #[.int .i64 n] 3) = W1) /\ Hid (Below w.heap.size w W1 /\ w.heap.size < W1.heap.size /\ W1.cell? ⟨w.heap.size, 0, none⟩ = some (.int .i64 n)) := ⟨_, rfl, below_allocG _ _, by simp, by simp⟩
 have HC := keepG (lindexP (hs.below HX.out.1 (Nat.le_refl _)) hl n HX.out.2.1 HX.out.2.2 HZ)
 clear hs
 go_enter Tryz.func29, Tryz.ntmps29
 go_wp2_with (first | (rw [HW1.out]) | (go_at_call 47; go_must (refine HC.out.mono ?_); rintro e w1 ⟨rfl, hb1⟩; go_must (have HB1 := keepG (HX.out.1.trans (hb1.mono HX.out.1.size)); clear hb1)))
 go_ret
 exact ⟨rfl, HB1.out⟩
set_option maxHeartbeats 3200000 in
theorem lnumbers {v : Value} {L : List Pw} (hs : SeesG pwC 4 Pw.nil w v L) (hl : L.length <= 1000) (hsh : ∀ p ∈ L, ShM p.md) : Calls Tryz.prog 28 #[v] w fun e w' => ∃ u, e = .returned u /\ RoN w' w.heap.size u (L.map Pw.n) /\ Below w.heap.size w w' := by
 obtain ⟨i0, hi0, hz0, hzs, hzb⟩ := info_parts infoIntN
 have HS := keepG (fun (wr : World) (hb : Below w.heap.size w wr) => hs.below hb (Nat.le_refl _))
 obtain ⟨a, cap, rfl, hlc, hmx⟩ := hs.shape
 clear hs
 go_enter Tryz.func28, Tryz.ntmps28
 go_wp2
 go_loopw [3, 8] (fun v i wr => ∃ j : Nat, j <= L.length /\ i = .int .i64 j /\ Hid (RoN wr w.heap.size v ((L.take j).map Pw.n)) /\ Hid (Below w.heap.size w wr)) (fun _ i _ => L.length - (intOf i).toNat)
 case atStart => exact ⟨0, by omega, rfl, RoN.nil _ _, Below.refl _ _⟩
 case round =>
  rename_i v wr
  obtain ⟨j, hj, rfl, HO, HB⟩ := hrel
  obtain ⟨va, vc, ev⟩ := own_shape HO.out
  subst ev
  by_cases hlt : j < L.length
  ·have hltI : (j : Int) < L.length := by omega
   obtain ⟨g, off, ea, hg, d0, d1, d2, d3⟩ := (HS.out wr HB.out).at24 hlt
   subst ea
   have hm := hsh _ (getD_memP L j hlt)
   obtain ⟨p, HP⟩ : ∃ p, Hid (L.getD j Pw.nil = p) := ⟨_, rfl⟩
   rw [HP.out] at d0 d1 d2 d3 hm
   obtain ⟨pn, ⟨um, uc, pms, pxs⟩, pg⟩ := p
   obtain ⟨⟨q1, q2, q3, e1⟩, ⟨q4, q5, q6, e2⟩⟩ := hm
   simp only at d0 d1 d2 d3 e1 e2
   subst e1 e2
   have HM : Hid ((L.take (j + 1)).map Pw.n = (L.take j).map Pw.n ++ [pn]) := by
    show _ = _
    have e : L.getD j Pw.nil = L[j] := by simp [List.getD, hlt]
    rw [List.take_succ_eq_append_getElem hlt, List.map_append, <- e, HP.out]
    rfl
   have hYl : ((L.take j).map Pw.n).length <= 1000 := by simp; omega
   obtain ⟨Y, HY⟩ : ∃ Y, Hid ((L.take j).map Pw.n = Y) := ⟨_, rfl⟩
   rw [HY.out] at HM HO hYl ⊢
   obtain ⟨W1, W2, HW1, HW2, ⟨n0, n1, n2, n3⟩, ⟨f0, f1, f2, f3⟩, HP2, HB2⟩ := box24 wr ⟨pn, ⟨.slice q1 q2 q3, .slice q4 q5 q6, pms, pxs⟩, pg⟩
   simp only at HW2
   have HBW := keepG (HB.out.trans (HB2.out.mono HB.out.size))
   have HO2 : Hid (RoN W2 w.heap.size (.slice va Y.length vc) Y) := HO.out.below HB2.out
   have c0 : W2.cell? ⟨wr.heap.size, 0, none⟩ = some (.int .i64 pn) := HP2.out.cell rfl
   have hz2 := HBW.out.size
   go_wp2_with (first | (rw [HW1.out]) | (rw [HW2.out]) | (at_builtin; go_must (refine wpList_append_wide _ rfl _ _ 32 rfl w.heap.size 3 i0 (.int .i64 0) 1 8 Tryz.underlying32 hi0 hz0 hzs hzb rfl (by decide) _ _ _ rfl (HO2.out.alloc _) ⟨_, 0, none⟩ 1 1 [.int .i64 pn] rfl rfl (cell_one_new _ _ _) (one_cell _ _) (by unfold maxLen; omega) (by omega) (by simp; omega) ?_); intro v' w5 hown' hgrow _; go_must (have HR5 := keepG (HO2.out.more HBW.out (Nat.le_refl _) hown' hgrow); clear hown' hgrow)))
   go_roundw
   case rel => exact ⟨j + 1, by omega, by go_num, by rw [HM.out]; exact HR5.out.1, HR5.out.2⟩
   case measure => simp [intOf]; omega
  ·have hltI : ¬ (j : Int) < L.length := by omega
   have HE : Hid ((L.take j).map Pw.n = L.map Pw.n) := by
    show _ = _
    rw [List.take_of_length_le (by omega)]
   rw [HE.out] at HO ⊢
   have HO2 := HO.out
   simp only [List.length_map] at HO2
   go_wp2
   go_ret
   exact ⟨_, rfl, HO2, HB.out⟩
variable {b bt br bc : Nat} {G H : Ft} {r : Rg}
theorem Lr.retiring (h : Lr w b bt br bc G r) (hk : r.Ok) : Calls Tryz.prog 10 #[.pointer (some ⟨b, 0, none⟩)] w fun e w' => ∃ u, e = .returned u /\ RoN w' w.heap.size u r.ln /\ Below w.heap.size w w' := by
 obtain ⟨F, gc, P, ul, L, ut, T, M, h1, rfl, h2, h3⟩ := h.ex
 have HC := keepG (lnumbers (own_seesG pwC_len Pw.nil h1.ret) (by have := (h2.lens hk).1; show T.length <= _; omega) (fun p hp => (h1.mod _ (h3 p (List.mem_append_right _ hp))).sh))
 have e := h2.ret
 rw [show (T.map Pw.n) = r.ln from e] at HC
 obtain ⟨ua, uc, eu⟩ := own_shape h1.ret
 have c6 := h1.cell (i := 6) rfl
 simp only at eu c6
 subst eu
 clear h h1 h2 h3 e
 go_enter Tryz.func10, Tryz.ntmps10
 go_wp2_with (go_at_call 28; go_must (refine HC.out.mono ?_); rintro e w1 ⟨u, rfl, hu, hb⟩; go_must (obtain ⟨va, vc, ev⟩ := own_shape hu; subst ev; have HU := keepG hu; have HB := keepG hb; clear hu hb))
 go_ret
 exact ⟨_, rfl, HU.out, HB.out⟩
end
end Go.Proofs.YtlkdniglaldilaaGreat
