
/-
  A landed map and a shard made alike, for CmapParts. No condition.
-/
import Derived.Test.YtinoelooccmmnaaW15Ba
import Derived.Test.YtinoelooccmmnaaW15Via
namespace Go.Proofs.Ytinoelooccmmnaa
open Go.RowKit
set_option linter.unusedVariables false
set_option linter.unusedSimpArgs false
set_option maxRecDepth 100000

theorem runM_at (κ : Bool) (cap : Nat) : ∀ (is : List It) (st : List Sr) (j : Nat), j < is.length → (runM κ cap st is).1.getD j Rq.nil = (doM κ cap (runM κ cap st (is.take j)).2 (is.getD j It.nil).op (is.getD j It.nil).k (is.getD j It.nil).v).1
  | [], _, _, h => by simp at h
  | i :: is, st, 0, _ => rfl
  | i :: is, st, j + 1, h => by
    have := runM_at κ cap is (doM κ cap st i.op i.k i.v).2 j (by simpa using h)
    simpa [runM, List.getD_eq_getElem?_getD] using this
theorem doM_here {κ : Bool} {cap n : Nat} {st : List Sr} {op key val : Int} (hl : st.length = n) (hi : atM key n < n) : (doM κ cap st op key val).1 = (doSh κ cap (st.getD (atM key n) Sr.nil) op key val).1 ∧ (doM κ cap st op key val).2.getD (atM key n) Sr.nil = (doSh κ cap (st.getD (atM key n) Sr.nil) op key val).2 := by
  subst hl
  exact ⟨rfl, getD_set_same hi _ _⟩
theorem doM_there {κ : Bool} {cap n s : Nat} {st : List Sr} {op key val : Int} (hl : st.length = n) (hs : atM key n ≠ s) : (doM κ cap st op key val).2.getD s Sr.nil = st.getD s Sr.nil := by
  subst hl
  exact getD_set_other hs _ _
/-- The map, the argument's box and the answers' row. -/
structure M1 (w0 w : World) (m n cap : Nat) (κ : Bool) (k : Int) (st : List Sr) (b E : Nat) (xv : Value) (rs : List Rq) : Prop where
  ex : ∃ B F, B ≤ w.heap.size ∧ Lmo w B m n cap κ k st F ∧ Since w0 F
  be : Below w0.heap.size w0 w
  box : Hp w b 24 [.int .i64 k, .int .i64 cap]
  row : w.ownsRow E 37 6 xv rs.length (flatG rqC rs)
  n1 : 1 ≤ n
  n4 : n ≤ 4
  c16 : cap ≤ 16
  inv : InvM κ cap st
/-- And a shard. -/
structure Ms (w0 w : World) (m n cap : Nat) (κ : Bool) (k : Int) (st : List Sr) (b E : Nat) (xv : Value) (rs : List Rq) (v : Value) (t : Sr) : Prop where
  ex : ∃ B C F G, B ≤ w.heap.size ∧ C ≤ w.heap.size ∧ Lmo w B m n cap κ k st F ∧ Sh w C v κ cap t G ∧ Two w0 w F G
  box : Hp w b 24 [.int .i64 k, .int .i64 cap]
  row : w.ownsRow E 37 6 xv rs.length (flatG rqC rs)
  n1 : 1 ≤ n
  n4 : n ≤ 4
  c16 : cap ≤ 16
  inv : InvM κ cap st
  ish : InvSh κ cap t
section
variable {w0 w w' : World} {m n cap : Nat} {κ : Bool} {k : Int} {st : List Sr} {b E : Nat} {xv : Value} {rs : List Rq} {v : Value} {t : Sr}
theorem M1.below (h : M1 w0 w m n cap κ k st b E xv rs) (hb : Below w.heap.size w w') : M1 w0 w' m n cap κ k st b E xv rs := by
  obtain ⟨B, F, h1, h2, h3⟩ := h.ex
  exact ⟨⟨B, F, Nat.le_trans h1 hb.size, h2.below hb, h3⟩, h.be.trans (hb.mono h.be.size), h.box.below hb h.box.lt, own_below h.row hb (Nat.le_refl _), h.n1, h.n4, h.c16, h.inv⟩
theorem M1.drewN (h : M1 w0 w m n cap κ k st b E xv rs) (q : Nat) : M1 w0 (w.drewN q) m n cap κ k st b E xv rs := h.below ⟨rfl, rfl, rfl, Nat.le_refl _, fun _ _ => rfl⟩
theorem M1.lenM {l : Nat} (h : M1 w0 w m n cap κ k st b E xv rs) (HL : Hid ((walkM st).length = l)) :
    Calls Try.prog 16 #[.pointer (some ⟨m, 0, none⟩)] w fun e w' => e = .returned (.int .i64 l) ∧ w = w' := by
  obtain ⟨B, F, h1, h2, h3⟩ := h.ex
  exact h2.lenM h.inv h.n4 h.c16 HL
theorem M1.new {C : Nat} {G : Ft} (h : M1 w0 w m n cap κ k st b E xv rs) (hc : 1 ≤ cap) (hb : Below w.heap.size w w') (hM : Sh w' C v κ cap Sr.nil G) (hC : C ≤ w'.heap.size) (ht : Since w G) : Ms w0 w' m n cap κ k st b E xv rs v Sr.nil := by
  obtain ⟨B, F, h1, h2, h3⟩ := h.ex
  have h' := h.below hb
  have hz := h.be.size
  exact ⟨⟨B, C, F, G, Nat.le_trans h1 hb.size, hC, h2.below hb, hM, Apt.made h2.lies ht, h3, fun k hk => Nat.le_trans hz (ht k hk), h'.be⟩, h'.box, h'.row, h.n1, h.n4, h.c16, h.inv, InvSh.new hc⟩
theorem Ms.one (h : Ms w0 w m n cap κ k st b E xv rs v t) : M1 w0 w m n cap κ k st b E xv rs := by
  obtain ⟨B, C, F, G, h1, h2, h3, h4, h5⟩ := h.ex
  exact ⟨⟨B, F, h1, h3, h5.sf⟩, h5.be, h.box, h.row, h.n1, h.n4, h.c16, h.inv⟩
theorem Ms.below (h : Ms w0 w m n cap κ k st b E xv rs v t) (hb : Below w.heap.size w w') : Ms w0 w' m n cap κ k st b E xv rs v t := by
  obtain ⟨B, C, F, G, h1, h2, h3, h4, h5⟩ := h.ex
  exact ⟨⟨B, C, F, G, Nat.le_trans h1 hb.size, Nat.le_trans h2 hb.size, h3.below hb, h4.below hb, h5.below hb⟩, h.box.below hb h.box.lt, own_below h.row hb (Nat.le_refl _), h.n1, h.n4, h.c16, h.inv, h.ish⟩
theorem Ms.drewN (h : Ms w0 w m n cap κ k st b E xv rs v t) (q : Nat) : Ms w0 (w.drewN q) m n cap κ k st b E xv rs v t := h.below ⟨rfl, rfl, rfl, Nat.le_refl _, fun _ _ => rfl⟩
theorem Ms.be (h : Ms w0 w m n cap κ k st b E xv rs v t) : Below w0.heap.size w0 w := by
  obtain ⟨B, C, F, G, h1, h2, h3, h4, h5⟩ := h.ex
  exact h5.be
theorem Ms.doS {op key val : Int} {q : Rq} {t' : Sr} (HQ : Hid (doSh κ cap t op key val = (q, t'))) (h : Ms w0 w m n cap κ k st b E xv rs v t) :
    ∃ f x, Via w v "Do" f x ∧ Calls Try.prog f #[x, .int .i64 op, .int .u64 key, .int .u64 val] w fun e w' => e = .returned (resG q.E q.f q.v q.o q.k q.u) ∧ Ms w0 w' m n cap κ k st b E xv rs v t' := by
  obtain ⟨B, C, F, G, h1, h2, h3, h4, h5⟩ := h.ex
  obtain ⟨f, x, g0, gc⟩ := h4.do_any op key val h.ish h.c16 h2 HQ
  have hi := h.ish.do op key val
  rw [HQ.out] at hi
  refine ⟨f, x, g0, gc.mono ?_⟩
  rintro e w' ⟨rfl, G', g1, g2⟩
  exact ⟨rfl, ⟨⟨B, C, F, G', Nat.le_trans h1 g2.chg.size, Nat.le_trans h2 g2.chg.size, h3.keeps g2.chg h5.apt.symm, g1, h5.two h3.lies g2⟩, h.box.chg g2.chg (h4.other h.box (by decide) (by decide) (by decide) (by decide)), own_chg h.row g2.chg (fun k hk e => by
    obtain ⟨cs, hq⟩ := own_hpC h.row hk
    exact h4.other hq (by decide) (by decide) (by decide) (by decide) e), h.n1, h.n4, h.c16, h.inv, hi⟩⟩
theorem Ms.ahead {tv : TypeId} {uv : Value} (h : Ms w0 w m n cap κ k st b E xv rs (.iface tv uv) t) : ∀ fuel wx, (nilAhead (fuel + 1) tv uv "Do").run Try.prog wx = .ok (some false) wx := by
  obtain ⟨B, C, F, G, h1, h2, h3, h4, h5⟩ := h.ex
  rcases h4 with ⟨_, b, ev, _⟩ | ⟨_, l, ev, _⟩
  · injection ev with e1 e2
    subst e1 e2
    exact fun fuel wx => ahead_book fuel _ wx
  · injection ev with e1 e2
    subst e1 e2
    exact fun fuel wx => ahead_lru fuel _ wx
theorem Ms.pairs (h : Ms w0 w m n cap κ k st b E xv rs v t) {T : List Pp} (HT : Hid (t.1 = T)) : ∃ f x, Via w v "Pairs" f x ∧ Calls Try.prog f #[x] w fun e w' => ∃ u, e = .returned u ∧ w'.ownsRow w.heap.size 64 2 u T.length (flatG ppC T) ∧ Below w.heap.size w w' := by
  obtain ⟨B, C, F, G, h1, h2, h3, h4, h5⟩ := h.ex
  rw [← HT.out]
  exact h4.pairs h.ish h.c16
theorem Ms.len (h : Ms w0 w m n cap κ k st b E xv rs v t) {T : List Pp} (HT : Hid (t.1 = T)) : ∃ f x, Via w v "Len" f x ∧ Calls Try.prog f #[x] w fun e w' => e = .returned (.int .i64 T.length) ∧ w = w' := by
  obtain ⟨B, C, F, G, h1, h2, h3, h4, h5⟩ := h.ex
  rw [← HT.out]
  exact h4.len
theorem Ms.part (h : Ms w0 w m n cap κ k st b E xv rs v t) {i : Nat} (hi : i < n) {T : List Pp} (HT : Hid ((st.getD i Sr.nil).1 = T)) :
    Calls Try.prog 17 #[.pointer (some ⟨m, 0, none⟩), .int .i64 i] w fun e w' => ∃ u, e = .returned (.tuple #[u, .int .i64 0]) ∧ w'.ownsRow w.heap.size 64 2 u T.length (flatG ppC T) ∧ Below w.heap.size w w' := by
  obtain ⟨B, C, F, G, h1, h2, h3, h4, h5⟩ := h.ex
  exact h3.part h.inv h.n4 h.c16 hi HT
theorem Ms.at {xa : Option Addr} {l xc : Nat} (h : Ms w0 w m n cap κ k st b E (.slice xa l xc) rs v t) {j : Nat} (hj : j < rs.length) : ∃ g, l = rs.length ∧ xa = some ⟨g, 0, none⟩ ∧ ∀ i, i < 6 → w.cell? ⟨g, j * 6 + i, none⟩ = (rqC (rs.getD j Rq.nil))[i]? := by
  obtain ⟨g, c, ev, _, _, _, _, hat⟩ := own_atG rqC_len Rq.nil h.row (by omega)
  simp only [Value.slice.injEq] at ev
  obtain ⟨rfl, rfl, rfl⟩ := ev
  exact ⟨g, rfl, rfl, fun i hi => (hat j hj i hi).1⟩
end
end Go.Proofs.Ytinoelooccmmnaa
