
/-
  A ring, and a line of events apart from it. No condition.
-/
import Derived.Test.YthcdfknadcdfkaaW16Kit
import Derived.Test.YthcdfknadcdfkaaW16Awake
import Derived.Test.YthcdfknadcdfkaaGCut
namespace Go.Proofs.Ythcdfknadcdfkaa
open Go.RowKit
set_option linter.unusedVariables false
set_option linter.unusedSimpArgs false
set_option maxRecDepth 100000
/-- Boxes of other types stay. -/
def Oth (w w' : World) : Prop := ∀ (m : Nat) (t : TypeId) (cs : List Value), t ≠ 62 → t ≠ 46 → t ≠ 26 → Hp w m t cs → Hp w' m t cs
/-- A ring, and a line of events apart from it. -/
structure Rc (w0 w : World) (b : Nat) (r : Rg) (last : Int) (v : Value) (L : List Qe) : Prop where
  ex : ∃ B F, B ≤ w.heap.size ∧ Lr w B b r last F ∧ Since w0 F ∧ Apt F (ftV v)
  be : Below w0.heap.size w0 w
  ln : Ct w w0.heap.size 46 3 v L.length (flatG qeC L)
section
variable {w0 w w' : World} {b : Nat} {r : Rg} {last : Int} {v : Value} {L : List Qe}
theorem Rc.below (h : Rc w0 w b r last v L) (hb : Below w.heap.size w w') : Rc w0 w' b r last v L := by
  obtain ⟨B, F, h1, h2, h3, h4⟩ := h.ex
  exact ⟨⟨B, F, Nat.le_trans h1 hb.size, h2.below hb, h3, h4⟩, h.be.trans (hb.mono h.be.size), h.ln.below hb⟩
theorem Rc.drewN (h : Rc w0 w b r last v L) (m : Nat) : Rc w0 (w.drewN m) b r last v L := h.below ⟨rfl, rfl, rfl, Nat.le_refl _, fun _ _ => rfl⟩
theorem Rc.sees (h : Rc w0 w b r last v L) : SeesG qeC 3 Qe.nil w v L := h.ln.sees qeC_len Qe.nil
theorem Rc.new {w1 w2 : World} {B : Nat} {F : Ft} (hb1 : Below w0.heap.size w0 w1) (hL : Lr w2 B b r last F) (hB : B ≤ w2.heap.size) (hs : Since w1 F) (hb2 : Below w1.heap.size w1 w2) : Rc w0 w2 b r last (.slice none 0 0) [] :=
  ⟨⟨B, F, hB, hL, fun k hk => Nat.le_trans hb1.size (hs k hk), fun k _ e => by cases e⟩, hb1.trans (hb2.mono hb1.size), Ct.nil _ _ _ _⟩
theorem Rc.step {B : Nat} {F F' : Ft} {r' : Rg} {last' : Int} (h : Rc w0 w b r last v L) (h1 : B ≤ w.heap.size) (hL : Lies w (ftV v)) (h3 : Since w0 F) (h4 : Apt F (ftV v)) (g : Lr w' B b r' last' F') (hn : Nx w w' F F') : Rc w0 w' b r' last' v L :=
  ⟨⟨B, F', Nat.le_trans h1 hn.chg.size, g, h3.next h.be.size hn, h4.next hL hn⟩, h3.be h.be hn, h.ln.keeps hn.chg h4⟩
theorem Rc.accept (ea eb : Int) (h : Rc w0 w b r last v L) (hk : r.Ok) (h0 : 0 ≤ last) (hla : last ≤ 1000000000000000000) (hr : r.refused ≤ 1000000000000000000) {q E last' : Int} {r' : Rg} (HQ : Hid (r.accept ea eb (last + 1) = (q, E, r'))) (HL : Hid ((if E = 0 then last + 1 else last) = last')) :
    Calls Try.prog 10 #[.pointer (some ⟨b, 0, none⟩), .agg #[.int .u64 ea, .int .u64 eb]] w fun e w' => e = .returned (.tuple #[.int .i64 q, .int .i64 E]) ∧ Rc w0 w' b r' last' v L ∧ Oth w w' := by
  obtain ⟨B, F, h1, h2, h3, h4⟩ := h.ex
  refine (h2.accept ea eb hk h1 h0 hla hr HQ HL).mono ?_
  rintro e w' ⟨rfl, F', g1, g2⟩
  exact ⟨rfl, h.step h1 h.ln.lies h3 h4 g1 g2, fun m t cs a1 a2 a3 hp => hp.chg g2.chg (h2.other hp a1 a2 a3)⟩
theorem Rc.take (h : Rc w0 w b r last v L) (hk : r.Ok) (hm : r.all.length ≤ 1000000000000000) {q : Qe} {o : Bool} {r' : Rg} (HQ : Hid (r.take = (q, o, r'))) :
    Calls Try.prog 12 #[.pointer (some ⟨b, 0, none⟩)] w fun e w' => e = .returned (.tuple #[qeV q, .bool o]) ∧ Rc w0 w' b r' last v L := by
  obtain ⟨B, F, h1, h2, h3, h4⟩ := h.ex
  refine (h2.take hk hm HQ).mono ?_
  rintro e w' ⟨rfl, g1, g2⟩
  exact ⟨rfl, h.step h1 h.ln.lies h3 h4 g1 g2⟩
theorem Rc.waits (h : Rc w0 w b r last v L) (hk : r.Ok) {A : List Qe} (HA : Hid (r.waits = A)) : Calls Try.prog 17 #[.pointer (some ⟨b, 0, none⟩)] w fun e w' => ∃ u, e = .returned u ∧ w'.ownsRow w.heap.size 46 3 u A.length (flatG qeC A) ∧ Below w.heap.size w w' := by
  obtain ⟨B, F, h1, h2, h3, h4⟩ := h.ex
  exact h2.waits hk HA
theorem Rc.shut (h : Rc w0 w b r last v L) (hk : r.Ok) (hm : r.all.length ≤ 1000000000000000) {A : List Qe} (HA : Hid (r.waits = A)) : Calls Try.prog 15 #[.pointer (some ⟨b, 0, none⟩)] w fun e w' => ∃ u, e = .returned u ∧ w'.ownsRow w.heap.size 46 3 u A.length (flatG qeC A) ∧ Rc w0 w' b r.shut.2 last v L := by
  obtain ⟨B, F, h1, h2, h3, h4⟩ := h.ex
  refine (h2.shut hk hm h1 HA).mono ?_
  rintro e w' ⟨u, F', rfl, g1, g2, g3, g4⟩
  exact ⟨u, rfl, g1, h.step h1 h.ln.lies h3 h4 g2 g3⟩
theorem Rc.counts (h : Rc w0 w b r last v L) (hk : r.Ok) (hm : r.all.length ≤ 1000000000000000) {a rf t d q : Int} (HQ : Hid (r.counts = (a, rf, t, d, q))) : Calls Try.prog 19 #[.pointer (some ⟨b, 0, none⟩)] w fun e w' => e = .returned (cntV a rf t d q) ∧ Below w.heap.size w w' := by
  obtain ⟨B, F, h1, h2, h3, h4⟩ := h.ex
  exact h2.counts hk hm HQ
/-- The line changed. -/
theorem Rc.line {v' : Value} {L' : List Qe} (h : Rc w0 w b r last v L) (hc : Chg w w' (ftV v)) (hn : v'.ownBlock = v.ownBlock ∨ ∃ k, v'.ownBlock = some k ∧ w.heap.size ≤ k) (hl : Ct w' w0.heap.size 46 3 v' L'.length (flatG qeC L')) : Rc w0 w' b r last v' L' := by
  obtain ⟨B, F, h1, h2, h3, h4⟩ := h.ex
  refine ⟨⟨B, F, Nat.le_trans h1 hc.size, h2.keeps hc h4.symm, h3, fun k hk e => ?_⟩, (h.ln.since (Nat.le_refl _)).be h.be ⟨hc, fun k hk => .inl hk⟩, hl⟩
  unfold ftV at e
  rcases hn with g | ⟨j, g, hj⟩
  · rw [g] at e; exact h4 k hk e
  · rw [g] at e
    have := Option.some.inj e
    have := h2.lies k hk
    omega
theorem Rc.none (h : Rc w0 w b r last v L) : Rc w0 w b r last (.slice .none 0 0) [] := by
  obtain ⟨B, F, h1, h2, h3, h4⟩ := h.ex
  exact ⟨⟨B, F, h1, h2, h3, fun k _ e => by cases e⟩, h.be, Ct.nil _ _ _ _⟩
end
/-- A call's cells. -/
theorem op_box (w : World) (x : Oc) : ∃ X, Hid (w.alloc (.cells #[.int .i64 x.k, .int .i64 x.on, .int .u64 x.a, .int .u64 x.b] 40) = X) ∧ Below w.heap.size w X ∧ Hid (Hp X w.heap.size 40 (ocC x)) := ⟨_, rfl, below_allocG _ _, Hp.new w (ocC x) _⟩
theorem cnt_box (w : World) (a r t d q : Int) : ∃ X, Hid (w.alloc (.cells #[.int .i64 a, .int .i64 r, .int .i64 t, .int .i64 d, .int .i64 q] 53) = X) ∧ Below w.heap.size w X ∧ Hid (Hp X w.heap.size 53 (cntC a r t d q)) := ⟨_, rfl, below_allocG _ _, Hp.new w (cntC a r t d q) _⟩
theorem que_box (w : World) (q : Qe) : ∃ X, Hid (w.alloc (.cells #[.int .i64 q.n, .int .u64 q.a, .int .u64 q.b] 46) = X) ∧ Below w.heap.size w X ∧ Hid (Hp X w.heap.size 46 (qeC q)) := ⟨_, rfl, below_allocG _ _, Hp.new w (qeC q) _⟩
end Go.Proofs.Ythcdfknadcdfkaa
