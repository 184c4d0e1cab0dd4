
/-
  A book of the law's own, since a world. No condition.
-/
import Derived.Test.YtlinfpnkeiahlaaW13Kit
import Derived.Test.YtlinfpnkeiahlaaW13Open
import Derived.Test.YtlinfpnkeiahlaaB13Alg
namespace Go.Proofs.Ytlinfpnkeiahlaa
open Go.RowKit
set_option linter.unusedVariables false
set_option linter.unusedSimpArgs false
set_option maxRecDepth 100000

/-- A book that was made since the world w0, and a slice that lies apart from it. -/
structure St (w0 w : World) (b cap : Nat) (L : List Pp) (u : Value) (U : List Pp) : Prop where
  ex : ∃ v, Lb w w0.heap.size b cap v L ∧ ∀ k, u.ownBlock = some k → k ≠ b ∧ v.ownBlock ≠ some k
  be : Below w0.heap.size w0 w
  lo : w0.heap.size ≤ b
  ub : ∀ k, u.ownBlock = some k → k < w.heap.size
  see : SeesG ppC 2 Pp.nil w u U
  len : L.length ≤ cap
  c16 : cap ≤ 16
/-- Behind an append to a row of one's own. -/
theorem below_append {B : Nat} {w w' : World} {o : Obj} {v : Value} (hg : (w.alloc o).grownBy w' v.ownBlock) (hv : ∀ j, v.ownBlock = some j → B ≤ j) (hB : B ≤ w.heap.size) : Below B w w' :=
  (chg_append hg).below (fun k e => hv k e) hB
section
variable {w0 w : World} {b cap : Nat} {L : List Pp} {u : Value} {U : List Pp}
theorem St.below {w' : World} (h : St w0 w b cap L u U) (hb : Below w.heap.size w w') : St w0 w' b cap L u U := by
  obtain ⟨⟨v, h1, h2⟩, h3, h4, h5, h6, h7, h8⟩ := h
  exact ⟨⟨v, h1.below hb, h2⟩, h3.trans (hb.mono h3.size), h4, fun k hk => Nat.lt_of_lt_of_le (h5 k hk) hb.size, h6.below hb (Nat.le_refl _), h7, h8⟩
theorem St.drewN (h : St w0 w b cap L u U) (n : Nat) : St w0 (w.drewN n) b cap L u U := h.below ⟨rfl, rfl, rfl, Nat.le_refl _, fun _ _ => rfl⟩
theorem St.new {w1 : World} {n : Nat} (hb0 : Below w0.heap.size w0 w) (hb : Below w.heap.size w w1) (h : Hp w1 w.heap.size 53 [.int .i64 n, .slice none 0 0]) (hn : n ≤ 16) : St w0 w1 w.heap.size n [] (.slice none 0 0) [] :=
  ⟨⟨.slice none 0 0, Lb.new h, fun k hk => (by cases hk)⟩, hb0.trans (hb.mono hb0.size), hb0.size, fun k hk => (by cases hk), SeesG.nil _ _, by simp, hn⟩
/-- Another slice beside the book: one that was made behind it. -/
theorem St.with {B : Nat} {u' : Value} {U' : List Pp} (h : St w0 w b cap L u U) {wb : World} (hwb : St w0 wb b cap L u U) (hb : Below wb.heap.size wb w) (hB : wb.heap.size ≤ B) (ho : w.ownsRow B 47 2 u' U'.length (flatG ppC U')) : St w0 w b cap L u' U' := by
  obtain ⟨⟨v, h1, h2⟩, h3, h4, h5, h6, h7, h8⟩ := hwb
  refine ⟨⟨v, h1.below hb, fun k hk => ?_⟩, h.be, h4, fun k hk => (ho.lt k hk).2, own_seesG ppC_len Pp.nil ho, h7, h8⟩
  have g1 := (ho.lt k hk).1
  have g2 := h1.hp.lt
  refine ⟨by omega, fun e => ?_⟩
  have := (h1.row.lt k e).2
  omega
/-- What is neither a book nor a row of pairs stays. -/
def Keeps (w w' : World) : Prop := ∀ n t cs, t ≠ 47 → t ≠ 53 → Hp w n t cs → Hp w' n t cs
theorem Keeps.box {w w' : World} (h : Keeps w w') {n : Nat} {cs : List Value} (hp : Hp w n 36 cs) : Hp w' n 36 cs := h n _ cs (by decide) (by decide) hp
theorem St.do_any (op key val : Int) (h : St w0 w b cap L u U) :
    Calls Try.prog 11 #[.pointer (some ⟨b, 0, none⟩), .int .i64 op, .int .u64 key, .int .u64 val] w fun e w' => e = .returned (resG (doS cap L op key val).1.E (doS cap L op key val).1.f (doS cap L op key val).1.v false 0 0) ∧ St w0 w' b cap (doS cap L op key val).2 u U ∧ Keeps w w' := by
  obtain ⟨⟨v, h1, h2⟩, h3, h4, h5, h6, h7, h8⟩ := h
  refine (ldo_any op key val h1 h7 h8 h3.size).mono ?_
  rintro e w' ⟨rfl, hn⟩
  refine ⟨rfl, ?_, ?_⟩
  case refine_2 =>
    obtain ⟨v', g1, g2, g3⟩ := hn
    intro n t cs t1 t2 hp
    refine hp.chg g2 (fun e => ?_)
    rcases e with e | e
    · exact hp_type hp h1.hp t2 e
    · exact own_type10 h1.row hp (fun e => t1 e.symm) e
  refine ⟨?_, hn.below h3 h4 h1.low, h4, ?_, ?_, doS_len h7, h8⟩
  · obtain ⟨v', g1, g2, g3⟩ := hn
    refine ⟨v', g1, fun k hk => ⟨(h2 k hk).1, ?_⟩⟩
    rcases g3 with g | ⟨j, g, gj⟩
    · rw [g]; exact (h2 k hk).2
    · rw [g]
      intro e
      have := Option.some.inj e
      have := h5 k hk
      omega
  · obtain ⟨v', g1, g2, g3⟩ := hn
    exact fun k hk => Nat.lt_of_lt_of_le (h5 k hk) g2.size
  · obtain ⟨v', g1, g2, g3⟩ := hn
    exact h6.chg g2 (fun k hk e => by rcases e with e | e; exact (h2 k hk).1 e; exact (h2 k hk).2 e)
theorem St.len_any (h : St w0 w b cap L u U) : Calls Try.prog 13 #[.pointer (some ⟨b, 0, none⟩)] w fun e w' => e = .returned (.int .i64 L.length) ∧ w = w' := by
  obtain ⟨⟨v, h1, h2⟩, _⟩ := h
  exact llen_any h1
theorem St.pairs_any (h : St w0 w b cap L u U) : Calls Try.prog 15 #[.pointer (some ⟨b, 0, none⟩)] w fun e w' => ∃ u', e = .returned u' ∧ w'.ownsRow w.heap.size 47 2 u' L.length (flatG ppC L) ∧ Below w.heap.size w w' := by
  have h7 := h.len
  have h8 := h.c16
  obtain ⟨⟨v, h1, h2⟩, _⟩ := h
  exact lpairs_any h1 (by omega)
end
/-- Calls, one behind the other. -/
def runS (cap : Nat) : List Pp → List Dc → List Pp
  | L, [] => L
  | L, d :: ds => runS cap (doS cap L d.op d.k d.v).2 ds
theorem runS_app (cap : Nat) (ds : List Dc) (d : Dc) : ∀ L, runS cap L (ds ++ [d]) = (doS cap (runS cap L ds) d.op d.k d.v).2 := by
  induction ds with
  | nil => intro L; rfl
  | cons q qs ih => intro L; rw [List.cons_append, runS, ih, runS]
theorem srt_run {cap : Nat} (ds : List Dc) : ∀ {L : List Pp}, Srt L → Srt (runS cap L ds) := by
  induction ds with
  | nil => intro L h; exact h
  | cons d ds ih => intro L h; exact ih (srt_do h _ _ _)
theorem take_moreD {ds : List Dc} {j : Nat} (hj : j < ds.length) : ds.take (j + 1) = ds.take j ++ [ds.getD j Dc.nil] := by
  rw [List.take_add_one, List.getD_eq_getElem?_getD, List.getElem?_eq_getElem hj]
  rfl
theorem srt_at {L : List Pp} (h : Srt L) {i : Nat} (hi : i + 1 < L.length) : (L.getD i Pp.nil).k < (L.getD (i + 1) Pp.nil).k := by
  have := List.pairwise_iff_getElem.1 h i (i + 1) (by omega) hi (by omega)
  rw [List.getD_eq_getElem?_getD, List.getD_eq_getElem?_getD, List.getElem?_eq_getElem (by omega), List.getElem?_eq_getElem hi]
  exact this
end Go.Proofs.Ytlinfpnkeiahlaa
