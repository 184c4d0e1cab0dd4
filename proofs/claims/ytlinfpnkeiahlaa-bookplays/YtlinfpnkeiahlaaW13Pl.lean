
/-
  The landed book and the document's, side by side. No condition.
-/
import Derived.Test.YtlinfpnkeiahlaaW13St
import Derived.Test.YtlinfpnkeiahlaaB13RPairs
import Derived.Test.YtlinfpnkeiahlaaB13Same
namespace Go.Proofs.Ytlinfpnkeiahlaa
open Go.RowKit
set_option linter.unusedVariables false
set_option linter.unusedSimpArgs false
set_option maxRecDepth 100000

structure Pl (w0 w : World) (b r cap : Nat) (S D : List Pp) : Prop where
  ex : ∃ vb vr, Lb w w0.heap.size b cap vb S ∧ Rb w w0.heap.size r cap vr D ∧ (∀ k, vb.ownBlock = some k → vr.ownBlock ≠ some k)
  be : Below w0.heap.size w0 w
  lob : w0.heap.size ≤ b
  lor : w0.heap.size ≤ r
  lenS : S.length ≤ cap
  lenD : D.length ≤ 16
  c16 : cap ≤ 16
/-- What is no book and no row of pairs stays. -/
def KeepsP (w w' : World) : Prop := ∀ n t cs, t ≠ 47 → t ≠ 53 → t ≠ 42 → Hp w n t cs → Hp w' n t cs
section
variable {w0 w : World} {b r cap : Nat} {S D : List Pp}
theorem Pl.below {w' : World} (h : Pl w0 w b r cap S D) (hb : Below w.heap.size w w') : Pl w0 w' b r cap S D := by
  obtain ⟨⟨vb, vr, h1, h2, h3⟩, g1, g2, g3, g4, g5, g6⟩ := h
  exact ⟨⟨vb, vr, h1.below hb, h2.below hb, h3⟩, g1.trans (hb.mono g1.size), g2, g3, g4, g5, g6⟩
theorem Pl.drewN (h : Pl w0 w b r cap S D) (n : Nat) : Pl w0 (w.drewN n) b r cap S D := h.below ⟨rfl, rfl, rfl, Nat.le_refl _, fun _ _ => rfl⟩
theorem Pl.new {w1 w2 : World} {n : Nat} (hb0 : Below w0.heap.size w0 w) (hb1 : Below w.heap.size w w1) (h1 : Hp w1 w.heap.size 53 [.int .i64 n, .slice none 0 0]) (hb2 : Below w1.heap.size w1 w2) (h2 : Hp w2 w1.heap.size 42 [.int .i64 n, .slice none 0 0]) (hn : n ≤ 16) : Pl w0 w2 w.heap.size w1.heap.size n [] [] :=
  ⟨⟨.slice none 0 0, .slice none 0 0, (Lb.new h1).below hb2, ⟨h2, World.ownsRow_nil _ _ _ _⟩, fun k hk => (by cases hk)⟩, (hb0.trans (hb1.mono hb0.size)).trans (hb2.mono (Nat.le_trans hb0.size hb1.size)), hb0.size, Nat.le_trans hb0.size hb1.size, by simp, by simp, hn⟩
theorem Pl.doB (op key val : Int) (h : Pl w0 w b r cap S D) :
    Calls Try.prog 11 #[.pointer (some ⟨b, 0, none⟩), .int .i64 op, .int .u64 key, .int .u64 val] w fun e w' => e = .returned (resG (doS cap S op key val).1.E (doS cap S op key val).1.f (doS cap S op key val).1.v false 0 0) ∧ Pl w0 w' b r cap (doS cap S op key val).2 D ∧ KeepsP w w' := by
  obtain ⟨⟨vb, vr, h1, h2, h3⟩, g1, g2, g3, g4, g5, g6⟩ := h
  refine (ldo_any op key val h1 g4 g6 g1.size).mono ?_
  rintro e w' ⟨rfl, hn⟩
  have hbe := hn.below g1 g2 h1.low
  obtain ⟨v', q1, q2, q3⟩ := hn
  have hkr : ¬ bkS b vb r := fun e => by
    rcases e with e | e
    · exact hp_type h2.hp h1.hp (by decide) e
    · exact own_type10 h1.row h2.hp (by decide) e
  have hkv : ∀ k, vr.ownBlock = some k → ¬ bkS b vb k := fun k hk e => by
    rcases e with e | e
    · subst e
      exact own_type10 h2.row h1.hp (by decide) hk
    · exact h3 k e hk
  refine ⟨rfl, ⟨⟨v', vr, q1, h2.chg q2 hkr hkv, fun k hk e => ?_⟩, hbe, g2, g3, doS_len g4, g5, g6⟩, fun n t cs t1 t2 t3 hp => ?_⟩
  · rcases q3 with q | ⟨j, q, qj⟩
    · rw [q] at hk
      exact h3 k hk e
    · rw [q] at hk
      have := Option.some.inj hk
      have := (h2.row.lt k e).2
      omega
  · refine hp.chg q2 (fun e => ?_)
    rcases e with e | e
    · exact hp_type hp h1.hp t2 e
    · exact own_type10 h1.row hp (fun e => t1 e.symm) e
theorem Pl.doR (op key val : Int) (h : Pl w0 w b r cap S D) (hl : (doP cap D op key val).2.length ≤ 16) :
    Calls Try.prog 12 #[.pointer (some ⟨r, 0, none⟩), .int .i64 op, .int .u64 key, .int .u64 val] w fun e w' => e = .returned (resG (doP cap D op key val).1.E (doP cap D op key val).1.f (doP cap D op key val).1.v false 0 0) ∧ Pl w0 w' b r cap S (doP cap D op key val).2 ∧ KeepsP w w' := by
  obtain ⟨⟨vb, vr, h1, h2, h3⟩, g1, g2, g3, g4, g5, g6⟩ := h
  refine (rdo_any op key val h2 (by omega) g1.size).mono ?_
  rintro e w' ⟨rfl, v', q1, q2, q3⟩
  have hkb : ¬ bkS r vr b := fun e => by
    rcases e with e | e
    · exact hp_type h1.hp h2.hp (by decide) e
    · exact own_type10 h2.row h1.hp (by decide) e
  have hkv : ∀ k, vb.ownBlock = some k → ¬ bkS r vr k := fun k hk e => by
    rcases e with e | e
    · subst e
      exact own_type10 h1.row h2.hp (by decide) hk
    · exact h3 k hk e
  refine ⟨rfl, ⟨⟨vb, v', h1.chg q2 hkb hkv, q1, fun k hk e => ?_⟩, g1.trans (q2.below (fun k e => by rcases e with e | e; omega; exact (h2.row.lt k e).1) g1.size), g2, g3, g4, hl, g6⟩, fun n t cs t1 t2 t3 hp => ?_⟩
  · rcases q3 k e with q | q
    · exact h3 k hk q
    · have := (h1.row.lt k hk).2
      omega
  · refine hp.chg q2 (fun e => ?_)
    rcases e with e | e
    · exact hp_type hp h2.hp t3 e
    · exact own_type10 h2.row hp (fun e => t1 e.symm) e
theorem Pl.len_any (h : Pl w0 w b r cap S D) : Calls Try.prog 13 #[.pointer (some ⟨b, 0, none⟩)] w fun e w' => e = .returned (.int .i64 S.length) ∧ w = w' := by
  obtain ⟨⟨vb, vr, h1, h2, h3⟩, _⟩ := h
  exact llen_any h1
theorem Pl.cap_any (h : Pl w0 w b r cap S D) : Calls Try.prog 10 #[.pointer (some ⟨b, 0, none⟩)] w fun e w' => e = .returned (.int .i64 cap) ∧ w = w' := by
  obtain ⟨⟨vb, vr, h1, h2, h3⟩, _⟩ := h
  exact lcap_any h1
theorem Pl.pairsB (h : Pl w0 w b r cap S D) : Calls Try.prog 15 #[.pointer (some ⟨b, 0, none⟩)] w fun e w' => ∃ u', e = .returned u' ∧ w'.ownsRow w.heap.size 47 2 u' S.length (flatG ppC S) ∧ Below w.heap.size w w' := by
  have h7 := h.lenS
  have h8 := h.c16
  obtain ⟨⟨vb, vr, h1, h2, h3⟩, _⟩ := h
  exact lpairs_any h1 (by omega)
theorem Pl.pairsR (h : Pl w0 w b r cap S D) (hp : S.Perm D) (hs : Srt S) : Calls Try.prog 16 #[.pointer (some ⟨r, 0, none⟩)] w fun e w' => ∃ u', e = .returned u' ∧ w'.ownsRow w.heap.size 47 2 u' S.length (flatG ppC S) ∧ Below w.heap.size w w' := by
  have h7 := h.lenD
  obtain ⟨⟨vb, vr, h1, h2, h3⟩, _⟩ := h
  exact rpairs_any h2 (by omega) hp hs
theorem Pl.list (h : Pl w0 w b r cap S D) : ∃ a c, w.cell? ⟨r, 1, none⟩ = some (.slice a D.length c) := by
  obtain ⟨⟨vb, vr, h1, h2, h3⟩, _⟩ := h
  obtain ⟨a, c, rfl⟩ := own_shape h2.row
  exact ⟨a, c, h2.hp.cell (j := 1) rfl⟩
end
end Go.Proofs.Ytlinfpnkeiahlaa
