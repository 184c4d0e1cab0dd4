
/-
  Two landed rings that share their Numbers, and two of the document's, beside one another. No condition.
-/
import Derived.Test.YthcdfknadcdfkaaW16Rc
namespace Go.Proofs.Ythcdfknadcdfkaa
open Go.RowKit
set_option linter.unusedVariables false
set_option linter.unusedSimpArgs false
set_option maxRecDepth 100000
/-- Boxes of other types stay. -/
def Ot3 (w w' : World) : Prop := ∀ (m : Nat) (t : TypeId) (cs : List Value), t ≠ 62 → t ≠ 46 → t ≠ 26 → t ≠ 64 → Hp w m t cs → Hp w' m t cs
theorem Ot3.below {w w' : World} (hb : Below w.heap.size w w') : Ot3 w w' := fun m t cs _ _ _ _ hp => hp.below hb hp.lt
theorem Ko.other {w : World} {B b : Nat} {r : Rg} {F : Ft} (h : Ko w B b r F) {m : Nat} {t : TypeId} {cs : List Value} (hp : Hp w m t cs) (h1 : t ≠ 64) (h2 : t ≠ 46) : ¬ F m := by
  obtain ⟨v, h, rfl⟩ := h
  rintro (e | e)
  · exact hp_type hp h.hp h1 e
  · exact own_type10 h.row hp (fun e => h2 e.symm) e
/-- What reads as events that wait doesn't lie in the document's ring itself. -/
theorem sees_ring {w w' : World} {x : Nat} {rm tk rf : Int} {cl : Bool} {a : Option Addr} {l c : Nat} {u : Value} {A : List Qe} (h : SeesG qeC 3 Qe.nil w u A) (hp : Hp w x 64 [.int .i64 rm, .int .i64 tk, .int .i64 rf, .bool cl, .slice a l c]) (hc : Chg w w' (fun k => k = x)) : SeesG qeC 3 Qe.nil w' u A := by
  obtain ⟨ua, uc, rfl, h1, h2, h3, h4⟩ := h
  refine ⟨ua, uc, rfl, h1, h2, h3, fun hne => ?_⟩
  obtain ⟨g, off, rfl, hg, hat⟩ := h4 hne
  have hx : g ≠ x := by
    rintro rfl
    have hl : 0 < A.length := List.length_pos_iff.2 hne
    have t1 := hat 0 hl 1 (by omega)
    simp only [List.getElem?_cons_zero, List.getElem?_cons_succ, Nat.zero_mul, Nat.add_zero] at t1
    rw [Hp.cellOf hp] at t1
    match off, t1 with
    | 0, t1 => simp at t1
    | 1, t1 => simp at t1
    | 2, t1 => simp at t1
    | 3, t1 => simp at t1
    | n + 4, t1 => simp at t1
  exact ⟨g, off, rfl, Nat.lt_of_lt_of_le hg hc.size, fun k hk j hj => (World.cell?_of_block (hc.block g hg hx)).trans (hat k hk j hj)⟩
/-- Two landed rings and two of the document's. -/
structure Pl (w0 w : World) (a b x y nb : Nat) (r s t u : Rg) (last : Int) (F G H K : Ft) : Prop where
  la : ∃ B, B ≤ w.heap.size ∧ Lo w B a nb r F
  lb : ∃ B, B ≤ w.heap.size ∧ Lo w B b nb s G
  dx : ∃ B, B ≤ w.heap.size ∧ Ko w B x t H
  dy : ∃ B, B ≤ w.heap.size ∧ Ko w B y u K
  nm : Nm w nb last
  fg : Apt F G
  fh : Apt F H
  fk : Apt F K
  gh : Apt G H
  gk : Apt G K
  hk : Apt H K
  sf : Since w0 F
  sg : Since w0 G
  sh : Since w0 H
  sk : Since w0 K
  sn : w0.heap.size ≤ nb
  be : Below w0.heap.size w0 w
def PlE (w0 w : World) (a b x y nb : Nat) (r s t u : Rg) (last : Int) : Prop := ∃ F G H K, Pl w0 w a b x y nb r s t u last F G H K
section
variable {w0 w w' : World} {a b x y nb : Nat} {r s t u r' t' : Rg} {last last' : Int} {F G H K F' H' : Ft}
theorem Pl.swap (h : Pl w0 w a b x y nb r s t u last F G H K) : Pl w0 w b a y x nb s r u t last G F K H := ⟨h.lb, h.la, h.dy, h.dx, h.nm, h.fg.symm, h.gk, h.gh, h.fk, h.fh, h.hk.symm, h.sg, h.sf, h.sk, h.sh, h.sn, h.be⟩
theorem PlE.swap (h : PlE w0 w a b x y nb r s t u last) : PlE w0 w b a y x nb s r u t last := by
  obtain ⟨F, G, H, K, h⟩ := h
  exact ⟨G, F, K, H, h.swap⟩
theorem PlE.be (h : PlE w0 w a b x y nb r s t u last) : Below w0.heap.size w0 w := by
  obtain ⟨F, G, H, K, h⟩ := h
  exact h.be
theorem Pl.below (h : Pl w0 w a b x y nb r s t u last F G H K) (hb : Below w.heap.size w w') : Pl w0 w' a b x y nb r s t u last F G H K := by
  obtain ⟨B, q1, q2⟩ := h.la
  obtain ⟨C, q3, q4⟩ := h.lb
  obtain ⟨D, q5, q6⟩ := h.dx
  obtain ⟨E, q7, q8⟩ := h.dy
  have hz := hb.size
  exact ⟨⟨B, by omega, q2.below hb⟩, ⟨C, by omega, q4.below hb⟩, ⟨D, by omega, q6.below hb⟩, ⟨E, by omega, q8.below hb⟩, Hp.below h.nm hb (Hp.lt h.nm), h.fg, h.fh, h.fk, h.gh, h.gk, h.hk, h.sf, h.sg, h.sh, h.sk, h.sn, h.be.trans (hb.mono h.be.size)⟩
theorem PlE.below (h : PlE w0 w a b x y nb r s t u last) (hb : Below w.heap.size w w') : PlE w0 w' a b x y nb r s t u last := by
  obtain ⟨F, G, H, K, h⟩ := h
  exact ⟨F, G, H, K, h.below hb⟩
theorem PlE.drewN (h : PlE w0 w a b x y nb r s t u last) (m : Nat) : PlE w0 (w.drewN m) a b x y nb r s t u last := h.below ⟨rfl, rfl, rfl, Nat.le_refl _, fun _ _ => rfl⟩
/-- A step of the first landed ring and the Numbers. -/
theorem Pl.stepL (h : Pl w0 w a b x y nb r s t u last F G H K) {B : Nat} (hB : B ≤ w.heap.size) (hL : Lo w' B a nb r' F') (hN : Nm w' nb last') (hn : Nx w w' (FN F nb) (FN F' nb)) : Pl w0 w' a b x y nb r' s t u last' F' G H K := by
  obtain ⟨C, q3, q4⟩ := h.lb
  obtain ⟨D, q5, q6⟩ := h.dx
  obtain ⟨E, q7, q8⟩ := h.dy
  have hz := hn.chg.size
  have nG : ¬ G nb := q4.other h.nm (by decide) (by decide)
  have nH : ¬ H nb := q6.other h.nm (by decide) (by decide)
  have nK : ¬ K nb := q8.other h.nm (by decide) (by decide)
  have aG : Apt (FN F nb) G := fun k e f => by
    rcases e with e | e
    · exact h.fg k e f
    · exact nG (e ▸ f)
  have aH : Apt (FN F nb) H := fun k e f => by
    rcases e with e | e
    · exact h.fh k e f
    · exact nH (e ▸ f)
  have aK : Apt (FN F nb) K := fun k e f => by
    rcases e with e | e
    · exact h.fk k e f
    · exact nK (e ▸ f)
  have sF : Since w0 (FN F nb) := fun k e => by
    rcases e with e | e
    · exact h.sf k e
    · have := h.sn; omega
  exact ⟨⟨B, by omega, hL⟩, ⟨C, by omega, q4.keeps hn.chg aG⟩, ⟨D, by omega, q6.keeps hn.chg aH⟩, ⟨E, by omega, q8.keeps hn.chg aK⟩, hN, fun k e f => aG.next q4.lies hn k (.inl e) f, fun k e f => aH.next q6.lies hn k (.inl e) f, fun k e f => aK.next q8.lies hn k (.inl e) f, h.gh, h.gk, h.hk, fun k e => sF.next h.be.size hn k (.inl e), h.sg, h.sh, h.sk, h.sn, sF.be h.be hn⟩
/-- A step of the first of the document's rings. -/
theorem Pl.stepR (h : Pl w0 w a b x y nb r s t u last F G H K) {B : Nat} (hB : B ≤ w.heap.size) (hL : Ko w' B x t' H') (hn : Nx w w' H H') : Pl w0 w' a b x y nb r s t' u last F G H' K := by
  obtain ⟨A, q1, q2⟩ := h.la
  obtain ⟨C, q3, q4⟩ := h.lb
  obtain ⟨D, q5, q6⟩ := h.dx
  obtain ⟨E, q7, q8⟩ := h.dy
  have hz := hn.chg.size
  have nH : ¬ H nb := q6.other h.nm (by decide) (by decide)
  exact ⟨⟨A, by omega, q2.keeps hn.chg h.fh.symm⟩, ⟨C, by omega, q4.keeps hn.chg h.gh.symm⟩, ⟨B, by omega, hL⟩, ⟨E, by omega, q8.keeps hn.chg h.hk⟩, Hp.chg h.nm hn.chg nH, h.fg, (h.fh.symm.next q2.lies hn).symm, h.fk, (h.gh.symm.next q4.lies hn).symm, h.gk, h.hk.next q8.lies hn, h.sf, h.sg, h.sh.next h.be.size hn, h.sk, h.sn, h.sh.be h.be hn⟩
theorem PlE.acceptL (ea eb : Int) (h : PlE w0 w a b x y nb r s t u last) (hk : r.Ok) (h0 : 0 ≤ last) (hla : last ≤ 1000000000000000000) (hr : r.refused ≤ 1000000000000000000) {q E : Int} (HQ : Hid (r.accept ea eb (last + 1) = (q, E, r'))) (HL : Hid ((if E = 0 then last + 1 else last) = last')) :
    Calls Try.prog 10 #[.pointer (some ⟨a, 0, none⟩), .agg #[.int .u64 ea, .int .u64 eb]] w fun e w' => e = .returned (.tuple #[.int .i64 q, .int .i64 E]) ∧ PlE w0 w' a b x y nb r' s t u last' ∧ Ot3 w w' := by
  obtain ⟨F, G, H, K, h⟩ := h
  obtain ⟨B, h1, h2⟩ := h.la
  refine (h2.accept ea eb hk h.nm h1 h0 hla hr HQ HL).mono ?_
  rintro e w' ⟨rfl, F', g1, g2, g3⟩
  refine ⟨rfl, ⟨F', G, H, K, h.stepL h1 g1 g2 g3⟩, fun m t cs a1 a2 a3 a4 hp => hp.chg g3.chg ?_⟩
  rintro (e | e)
  · exact h2.other hp a1 a2 e
  · exact hp_type hp h.nm a3 e
theorem PlE.acceptR (ea eb nx : Int) (h : PlE w0 w a b x y nb r s t u last) (hk : t.Ok) (hz : (t.all.length + 1) * 24 ≤ 140737488355328) (hr : t.refused ≤ 1000000000000000000) {q E : Int} (HQ : Hid (t.accept ea eb nx = (q, E, t'))) :
    Calls Try.prog 11 #[.pointer (some ⟨x, 0, none⟩), .agg #[.int .u64 ea, .int .u64 eb], .int .i64 nx] w fun e w' => e = .returned (.tuple #[.int .i64 q, .int .i64 E]) ∧ PlE w0 w' a b x y nb r s t' u last ∧ Ot3 w w' := by
  obtain ⟨F, G, H, K, h⟩ := h
  obtain ⟨B, h1, h2⟩ := h.dx
  refine (h2.accept ea eb nx hk h1 hz hr HQ).mono ?_
  rintro e w' ⟨rfl, H', g1, g3⟩
  exact ⟨rfl, ⟨F, G, H', K, h.stepR h1 g1 g3⟩, fun m t cs a1 a2 a3 a4 hp => hp.chg g3.chg (h2.other hp a4 a2)⟩
theorem PlE.takeL (h : PlE w0 w a b x y nb r s t u last) (hk : r.Ok) (hm : r.all.length ≤ 1000000000000000) {q : Qe} {o : Bool} (HQ : Hid (r.take = (q, o, r'))) :
    Calls Try.prog 12 #[.pointer (some ⟨a, 0, none⟩)] w fun e w' => e = .returned (.tuple #[qeV q, .bool o]) ∧ PlE w0 w' a b x y nb r' s t u last ∧ Ot3 w w' := by
  obtain ⟨F, G, H, K, h⟩ := h
  obtain ⟨B, h1, h2⟩ := h.la
  have hn : ¬ F nb := h2.other h.nm (by decide) (by decide)
  refine (h2.take hk hm HQ).mono ?_
  rintro e w' ⟨rfl, g1, g2⟩
  exact ⟨rfl, ⟨F, G, H, K, h.stepL h1 g1 (Hp.chg h.nm g2.chg hn) (g2.fn nb)⟩, fun m t cs a1 a2 a3 a4 hp => hp.chg g2.chg (h2.other hp a1 a2)⟩
theorem PlE.takeR {w1 : World} (h : PlE w0 w1 a b x y nb r s t u last) (hb : Below w1.heap.size w1 w) {m : Nat} {ms : List Value} (hp : Hp w m 46 ms) (hm1 : w1.heap.size ≤ m) (hk : t.Ok) (hm : t.all.length ≤ 1000000000000000) {q : Qe} {o : Bool} (HQ : Hid (t.take = (q, o, t'))) :
    Calls Try.prog 13 #[.pointer (some ⟨x, 0, none⟩)] w fun e w' => e = .returned (.tuple #[qeV q, .bool o]) ∧ PlE w0 w' a b x y nb r s t' u last ∧ Ot3 w w' ∧ Hp w' m 46 ms := by
  obtain ⟨F, G, H, K, h1⟩ := h
  have h := h1.below hb
  obtain ⟨_, _, h0⟩ := h1.dx
  have hl := h0.lies
  obtain ⟨B, h1, h2⟩ := h.dx
  refine (h2.take hk hm HQ).mono ?_
  rintro e w' ⟨rfl, g1, g3⟩
  exact ⟨rfl, ⟨F, G, H, K, h.stepR h1 g1 g3⟩, fun m t cs a1 a2 a3 a4 hp => hp.chg g3.chg (h2.other hp a4 a2), hp.chg g3.chg (fun e => by have := hl m e; omega)⟩
theorem PlE.shutL (h : PlE w0 w a b x y nb r s t u last) (hk : r.Ok) (hm : r.all.length ≤ 1000000000000000) {A : List Qe} (HA : Hid (r.waits = A)) : Calls Try.prog 15 #[.pointer (some ⟨a, 0, none⟩)] w fun e w' => ∃ v, e = .returned v ∧ w'.ownsRow w.heap.size 46 3 v A.length (flatG qeC A) ∧ PlE w0 w' a b x y nb r.shut.2 s t u last ∧ Ot3 w w' := by
  obtain ⟨F, G, H, K, h⟩ := h
  obtain ⟨B, h1, h2⟩ := h.la
  have hn : ¬ F nb := h2.other h.nm (by decide) (by decide)
  rw [← HA.out]
  refine (h2.shut hk hm h1).mono ?_
  rintro e w' ⟨v, F', rfl, g0, g1, g2, _⟩
  exact ⟨v, rfl, g0, ⟨F', G, H, K, h.stepL h1 g1 (Hp.chg h.nm g2.chg hn) (g2.fn nb)⟩, fun m t cs a1 a2 a3 a4 hp => hp.chg g2.chg (h2.other hp a1 a2)⟩
theorem PlE.shutR (h : PlE w0 w a b x y nb r s t u last) (hk : t.Ok) {A : List Qe} (HA : Hid (t.waits = A)) {v : Value} {B0 : Nat} (ho : w.ownsRow B0 46 3 v A.length (flatG qeC A)) : Calls Try.prog 16 #[.pointer (some ⟨x, 0, none⟩)] w fun e w' => ∃ v', e = .returned v' ∧ SeesG qeC 3 Qe.nil w' v' A ∧ SeesG qeC 3 Qe.nil w' v A ∧ PlE w0 w' a b x y nb r s t.shut.2 u last ∧ Ot3 w w' := by
  obtain ⟨F, G, H, K, h⟩ := h
  obtain ⟨B, h1, h2⟩ := h.dx
  have h2' := h2
  obtain ⟨vv, hR, rfl⟩ := h2'
  obtain ⟨va, vc, ev⟩ := own_shape hR.row
  subst ev
  rw [← HA.out] at ho ⊢
  refine (h2.shut hk).mono ?_
  rintro e w' ⟨v', rfl, g0, g1, g2⟩
  have hsee : SeesG qeC 3 Qe.nil w' v' t.waits := sees_ring g0 hR.hp g2
  have hown := own_chg ho g2 (fun k hk e => own_type10 ho hR.hp (by decide) (by rw [hk, e]))
  exact ⟨v', rfl, hsee, own_seesG qeC_len Qe.nil hown, ⟨F, G, _, K, h.stepR h1 g1 ⟨g2.mono (fun k e => .inl e), fun k hk => .inl hk⟩⟩, fun m ty cs a1 a2 a3 a4 hp => hp.chg g2 (fun e => hp_type hp hR.hp a4 e)⟩
theorem PlE.waitsL (h : PlE w0 w a b x y nb r s t u last) (hk : r.Ok) {A : List Qe} (HA : Hid (r.waits = A)) : Calls Try.prog 17 #[.pointer (some ⟨a, 0, none⟩)] w fun e w' => ∃ v, e = .returned v ∧ SeesG qeC 3 Qe.nil w' v A ∧ PlE w0 w' a b x y nb r s t u last ∧ Ot3 w w' := by
  have h0 := h
  obtain ⟨F, G, H, K, h⟩ := h
  obtain ⟨B, h1, h2⟩ := h.la
  rw [← HA.out]
  refine (h2.waits hk).mono ?_
  rintro e w' ⟨v, rfl, g0, g1⟩
  exact ⟨v, rfl, own_seesG qeC_len Qe.nil g0, h0.below g1, Ot3.below g1⟩
theorem PlE.waitsR (h : PlE w0 w a b x y nb r s t u last) (hk : t.Ok) {A : List Qe} (HA : Hid (t.waits = A)) : Calls Try.prog 18 #[.pointer (some ⟨x, 0, none⟩)] w fun e w' => ∃ v, e = .returned v ∧ SeesG qeC 3 Qe.nil w' v A ∧ Below w.heap.size w w' := by
  obtain ⟨F, G, H, K, h⟩ := h
  obtain ⟨B, h1, h2⟩ := h.dx
  rw [← HA.out]
  refine (h2.waits hk).mono ?_
  rintro e w' ⟨v, k, rfl, g, rfl⟩
  exact ⟨v, rfl, g.drewN k, ⟨rfl, rfl, rfl, Nat.le_refl _, fun _ _ => rfl⟩⟩
theorem PlE.countsL (h : PlE w0 w a b x y nb r s t u last) (hk : r.Ok) (hm : r.all.length ≤ 1000000000000000) {c rf tt d q : Int} (HQ : Hid (r.counts = (c, rf, tt, d, q))) : Calls Try.prog 19 #[.pointer (some ⟨a, 0, none⟩)] w fun e w' => e = .returned (cntV c rf tt d q) ∧ Below w.heap.size w w' := by
  obtain ⟨F, G, H, K, h⟩ := h
  obtain ⟨B, h1, h2⟩ := h.la
  exact h2.counts hk hm HQ
theorem PlE.countsR (h : PlE w0 w a b x y nb r s t u last) (hk : t.Ok) {c rf tt d q : Int} (HQ : Hid (t.counts = (c, rf, tt, d, q))) : Calls Try.prog 20 #[.pointer (some ⟨x, 0, none⟩)] w fun e w' => e = .returned (cntV c rf tt d q) ∧ Below w.heap.size w w' := by
  obtain ⟨F, G, H, K, h⟩ := h
  obtain ⟨B, h1, h2⟩ := h.dx
  exact h2.counts hk HQ
end
/-- Events that are alike. -/
theorem wqueuedB {w : World} {va vb : Value} {A : List Qe} (ha : SeesG qeC 3 Qe.nil w va A) (hb : SeesG qeC 3 Qe.nil w vb A) :
    Calls Try.prog 14 #[va, vb] w fun e w' => e = .returned (.bool true) ∧ Below w.heap.size w w' := by
  refine (wqueued16 ha hb).mono ?_
  rintro e w' ⟨rfl, n, rfl⟩
  exact ⟨rfl, ⟨rfl, rfl, rfl, Nat.le_refl _, fun _ _ => rfl⟩⟩
theorem PlE.new {w0 w1 w2 w3 w4 w5 : World} {a b x y nb : Nat} {r s t u : Rg} {last : Int} {F G H K : Ft} (hb1 : Below w0.heap.size w0 w1) (hN : Nm w1 nb last) (hn0 : w0.heap.size ≤ nb) (hA : Lo w2 w1.heap.size a nb r F) (hsA : Since w1 F) (hb2 : Below w1.heap.size w1 w2) (hB : Lo w3 w2.heap.size b nb s G) (hsB : Since w2 G) (hb3 : Below w2.heap.size w2 w3) (hX : Ko w4 w3.heap.size x t H) (hsX : Since w3 H) (hb4 : Below w3.heap.size w3 w4) (hY : Ko w5 w4.heap.size y u K) (hsY : Since w4 K) (hb5 : Below w4.heap.size w4 w5) : PlE w0 w5 a b x y nb r s t u last := by
  have z1 := hb1.size
  have z2 := hb2.size
  have z3 := hb3.size
  have z4 := hb4.size
  have z5 := hb5.size
  have lA3 := hA.below hb3
  have lA4 := lA3.below hb4
  have lB4 := hB.below hb4
  exact ⟨F, G, H, K, ⟨_, by omega, lA4.below hb5⟩, ⟨_, by omega, lB4.below hb5⟩, ⟨_, by omega, hX.below hb5⟩, ⟨_, by omega, hY⟩, Hp.below (Hp.below (Hp.below (Hp.below hN hb2 (Hp.lt hN)) hb3 (Nat.lt_of_lt_of_le (Hp.lt hN) (by omega))) hb4 (Nat.lt_of_lt_of_le (Hp.lt hN) (by omega))) hb5 (Nat.lt_of_lt_of_le (Hp.lt hN) (by omega)), Apt.made hA.lies hsB, Apt.made lA3.lies hsX, Apt.made lA4.lies hsY, Apt.made hB.lies hsX, Apt.made lB4.lies hsY, Apt.made hX.lies hsY, fun k hk => by have := hsA k hk; omega, fun k hk => by have := hsB k hk; omega, fun k hk => by have := hsX k hk; omega, fun k hk => by have := hsY k hk; omega, hn0, (((hb1.trans (hb2.mono (by omega))).trans (hb3.mono (by omega))).trans (hb4.mono (by omega))).trans (hb5.mono (by omega))⟩
end Go.Proofs.Ythcdfknadcdfkaa
