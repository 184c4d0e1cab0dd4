
/-
  Two scratches and their books; a call of one of them. Condition: the numbers of a call lie below both.
-/
import Derived.Test.YtmfgpaigabkbbaaS10PlayB
import Derived.Test.YtmfgpaigabkbbaaS10PlayC
import Derived.Test.YtmfgpaigabkbbaaS10PlayD
import Derived.Test.YtmfgpaigabkbbaaS10PlayE
namespace Go.Proofs.Ytmfgpaigabkbbaa
open Go.RowKit
set_option linter.unusedVariables false
set_option linter.unusedSimpArgs false
set_option maxRecDepth 100000

theorem plays_any (k on a n : Int) (u : Value) (xs : List Int) {B s c : Nat} {v : Value} {ks : List Ak} {ws cs : List Int} (w : World) (h : Pr w B s c v ks ws cs) (hB : B ≤ w.heap.size) (hk : ks.length ≤ 80000) (hu : ∀ w', Below B w w' → Sees .u64 w' u xs) (hb : xs.length * 8 ≤ 219902325555200) :
    Calls Try.prog 9 #[.pointer (some ⟨s, 0, none⟩), .pointer (some ⟨c, 0, none⟩), opV k on a n u] w fun e w' => e = .returned (.bool true) ∧ Played w w' B s c v ks := by
  by_cases h0 : k = 0
  · subst h0; exact plays0 on a n u w h
  by_cases h1 : k = 1
  · subst h1; exact plays1 on a n u w h hB (by omega)
  by_cases h2 : k = 2
  · subst h2; exact plays2 on a n u w h hB (by omega)
  by_cases h3 : k = 3
  · subst h3; exact plays3 on a n u w h hB (by omega)
  by_cases h4 : k = 4
  · subst h4; exact plays4 on a n u w h
  by_cases h5 : k = 5
  · subst h5; exact plays5 on a n u xs w h hB hk hu hb
  exact plays6 k on a n u w h h0 h1 h2 h3 h4 h5
/-- Rows that are apart. -/
def Apart (v0 v1 : Value) : Prop := ∀ k, v0.ownBlock = some k → v1.ownBlock ≠ some k
theorem Apart.symm {v0 v1 : Value} (h : Apart v0 v1) : Apart v1 v0 := fun k h1 h2 => h k h2 h1
theorem Pr.chg {w w' : World} {B s c s0 c0 : Nat} {v v0 : Value} {ks ks0 : List Ak} {ws cs ws0 cs0 : List Int} (h : Pr w B s c v ks ws cs) (h0 : Pr w B s0 c0 v0 ks0 ws0 cs0) (hc : Chg w w' (prS s0 c0 v0)) (h1 : s ≠ s0) (h2 : c ≠ c0) (ha : Apart v0 v) : Pr w' B s c v ks ws cs := by
  have e1 : ¬ prS s0 c0 v0 s := fun e => by
    rcases e with e | e | e
    · exact h1 e
    · exact hp_type h.sc.hp h0.bk.hp (by decide) e
    · exact own_type10 h0.bk.row h.sc.hp (by decide) e
  have e2 : ¬ prS s0 c0 v0 c := fun e => by
    rcases e with e | e | e
    · exact hp_type h0.sc.hp h.bk.hp (by decide) e.symm
    · exact h2 e
    · exact own_type10 h0.bk.row h.bk.hp (by decide) e
  refine ⟨h.sc.chg hc e1, h.bk.chg hc e2 (fun k hk e => ?_), h.tie, h.bs, h.bc⟩
  rcases e with e | e | e
  · exact own_type10 h.bk.row h0.sc.hp (by decide) (e ▸ hk)
  · exact own_type10 h.bk.row h0.bk.hp (by decide) (e ▸ hk)
  · exact ha k e hk
theorem Apart.new {w : World} {B c : Nat} {v0 v1 v0' : Value} {ks : List Ak} (h : Apart v0 v1) (hn : RowNew w v0 v0') (hb : Bk w B c v1 ks) : Apart v0' v1 := by
  intro k h1 h2
  rcases hn with hn | ⟨j, e1, e2⟩
  · exact h k (hn ▸ h1) h2
  · rw [e1] at h1
    injection h1 with h1
    have := (hb.row.lt k h2).2
    omega
def ptr (b : Nat) : Value := .pointer (some ⟨b, 0, none⟩)
/-- Two scratches and their books, listed. -/
def Two (w wr : World) (s0 s1 c0 c1 ls lb N : Nat) : Prop := ∃ v0 v1 ks0 ks1 ws0 ws1 cs0 cs1, Pr wr w.heap.size s0 c0 v0 ks0 ws0 cs0 ∧ Pr wr w.heap.size s1 c1 v1 ks1 ws1 cs1 ∧ Apart v0 v1 ∧ s0 ≠ s1 ∧ c0 ≠ c1 ∧ ks0.length ≤ N ∧ ks1.length ≤ N ∧
  Hp wr ls 24 [ptr s0, ptr s1] ∧ Hp wr lb 27 [ptr c0, ptr c1] ∧ Below w.heap.size w wr
theorem Two.below {w wr w' : World} {s0 s1 c0 c1 ls lb N : Nat} (h : Two w wr s0 s1 c0 c1 ls lb N) (hb : Below wr.heap.size wr w') : Two w w' s0 s1 c0 c1 ls lb N := by
  obtain ⟨v0, v1, ks0, ks1, ws0, ws1, cs0, cs1, h0, h1, ha, hs, hc, n0, n1, hl, hk, hw⟩ := h
  exact ⟨v0, v1, ks0, ks1, ws0, ws1, cs0, cs1, h0.below hb, h1.below hb, ha, hs, hc, n0, n1, hl.below hb hl.lt, hk.below hb hk.lt, hw.trans (hb.mono hw.size)⟩
theorem Two.le {w wr : World} {s0 s1 c0 c1 ls lb N M : Nat} (h : Two w wr s0 s1 c0 c1 ls lb N) (hM : N ≤ M) : Two w wr s0 s1 c0 c1 ls lb M := by
  obtain ⟨v0, v1, ks0, ks1, ws0, ws1, cs0, cs1, h0, h1, ha, hs, hc, n0, n1, r⟩ := h
  exact ⟨v0, v1, ks0, ks1, ws0, ws1, cs0, cs1, h0, h1, ha, hs, hc, by omega, by omega, r⟩
theorem Two.old {w wr : World} {s0 s1 c0 c1 ls lb N : Nat} (h : Two w wr s0 s1 c0 c1 ls lb N) : Below w.heap.size w wr := by
  obtain ⟨v0, v1, ks0, ks1, ws0, ws1, cs0, cs1, h0, h1, ha, hs, hc, n0, n1, hl, hk, hw⟩ := h
  exact hw
theorem Two.lists {w wr : World} {s0 s1 c0 c1 ls lb N : Nat} (h : Two w wr s0 s1 c0 c1 ls lb N) : wr.cell? ⟨ls, 0, none⟩ = some (ptr s0) ∧ wr.cell? ⟨ls, 1, none⟩ = some (ptr s1) ∧ wr.cell? ⟨lb, 0, none⟩ = some (ptr c0) ∧ wr.cell? ⟨lb, 1, none⟩ = some (ptr c1) := by
  obtain ⟨v0, v1, ks0, ks1, ws0, ws1, cs0, cs1, h0, h1, ha, hs, hc, n0, n1, hl, hk, hw⟩ := h
  exact ⟨hl.cell rfl, hl.cell rfl, hk.cell rfl, hk.cell rfl⟩
theorem Two.lt {w wr : World} {s0 s1 c0 c1 ls lb N : Nat} (h : Two w wr s0 s1 c0 c1 ls lb N) : ls < wr.heap.size ∧ lb < wr.heap.size := by
  obtain ⟨v0, v1, ks0, ks1, ws0, ws1, cs0, cs1, h0, h1, ha, hs, hc, n0, n1, hl, hk, hw⟩ := h
  exact ⟨hl.lt, hk.lt⟩
theorem Two.swap0 {w wr w' : World} {s0 s1 c0 c1 ls lb N : Nat} {v0 v1 : Value} {ks0 ks1 : List Ak} {ws0 ws1 cs0 cs1 : List Int} (h0 : Pr wr w.heap.size s0 c0 v0 ks0 ws0 cs0) (h1 : Pr wr w.heap.size s1 c1 v1 ks1 ws1 cs1) (ha : Apart v0 v1) (hs : s0 ≠ s1) (hc : c0 ≠ c1) (n0 : ks0.length ≤ N) (n1 : ks1.length ≤ N)
    (hl : Hp wr ls 24 [ptr s0, ptr s1]) (hk : Hp wr lb 27 [ptr c0, ptr c1]) (hw : Below w.heap.size w wr) (hp : Played wr w' w.heap.size s0 c0 v0 ks0) : Two w w' s0 s1 c0 c1 ls lb (N + 16) := by
  obtain ⟨v', ks', ws', cs', hp', hc', hn', hk'⟩ := hp
  have hS : ∀ k, prS s0 c0 v0 k → w.heap.size ≤ k := fun k e => by
    rcases e with e | e | e
    · exact e ▸ h0.bs
    · exact e ▸ h0.bc
    · exact (h0.bk.row.lt k e).1
  have e1 : ¬ prS s0 c0 v0 ls := fun e => by
    rcases e with e | e | e
    · exact hp_type hl h0.sc.hp (by decide) e
    · exact hp_type hl h0.bk.hp (by decide) e
    · exact own_type10 h0.bk.row hl (by decide) e
  have e2 : ¬ prS s0 c0 v0 lb := fun e => by
    rcases e with e | e | e
    · exact hp_type hk h0.sc.hp (by decide) e
    · exact hp_type hk h0.bk.hp (by decide) e
    · exact own_type10 h0.bk.row hk (by decide) e
  exact ⟨v', v1, ks', ks1, ws', ws1, cs', cs1, hp', h1.chg h0 hc' hs.symm hc.symm ha, ha.new hn' h1.bk, hs, hc, by omega, by omega, hl.chg hc' e1, hk.chg hc' e2, hw.trans (hc'.below hS hw.size)⟩
theorem Two.swap1 {w wr w' : World} {s0 s1 c0 c1 ls lb N : Nat} {v0 v1 : Value} {ks0 ks1 : List Ak} {ws0 ws1 cs0 cs1 : List Int} (h0 : Pr wr w.heap.size s0 c0 v0 ks0 ws0 cs0) (h1 : Pr wr w.heap.size s1 c1 v1 ks1 ws1 cs1) (ha : Apart v0 v1) (hs : s0 ≠ s1) (hc : c0 ≠ c1) (n0 : ks0.length ≤ N) (n1 : ks1.length ≤ N)
    (hl : Hp wr ls 24 [ptr s0, ptr s1]) (hk : Hp wr lb 27 [ptr c0, ptr c1]) (hw : Below w.heap.size w wr) (hp : Played wr w' w.heap.size s1 c1 v1 ks1) : Two w w' s0 s1 c0 c1 ls lb (N + 16) := by
  obtain ⟨v', ks', ws', cs', hp', hc', hn', hk'⟩ := hp
  have hS : ∀ k, prS s1 c1 v1 k → w.heap.size ≤ k := fun k e => by
    rcases e with e | e | e
    · exact e ▸ h1.bs
    · exact e ▸ h1.bc
    · exact (h1.bk.row.lt k e).1
  have e1 : ¬ prS s1 c1 v1 ls := fun e => by
    rcases e with e | e | e
    · exact hp_type hl h1.sc.hp (by decide) e
    · exact hp_type hl h1.bk.hp (by decide) e
    · exact own_type10 h1.bk.row hl (by decide) e
  have e2 : ¬ prS s1 c1 v1 lb := fun e => by
    rcases e with e | e | e
    · exact hp_type hk h1.sc.hp (by decide) e
    · exact hp_type hk h1.bk.hp (by decide) e
    · exact own_type10 h1.bk.row hk (by decide) e
  exact ⟨v0, v', ks0, ks', ws0, ws', cs0, cs', h0.chg h1 hc' hs hc ha.symm, hp', (ha.symm.new hn' h0.bk).symm, hs, hc, by omega, by omega, hl.chg hc' e1, hk.chg hc' e2, hw.trans (hc'.below hS hw.size)⟩
/-- Which of the two. -/
def Sel (s0 s1 c0 c1 : Nat) (j s c : Nat) : Prop := (j = 0 ∧ s = s0 ∧ c = c0) ∨ (j = 1 ∧ s = s1 ∧ c = c1)
def Still (wr w' : World) : Prop := ∀ b T cs, Hp wr b T cs → T ≠ 48 → T ≠ 30 → T ≠ 65 → Hp w' b T cs
theorem still_of {w wr w' : World} {B s c : Nat} {v : Value} {ks : List Ak} {ws cs : List Int} (h : Pr wr B s c v ks ws cs) (hp : Played wr w' B s c v ks) : Still wr w' := by
  obtain ⟨v', ks', ws', cs', hp', hc', hn', hk'⟩ := hp
  intro b T l hb h1 h2 h3
  refine hb.chg hc' fun e => ?_
  rcases e with e | e | e
  · exact hp_type hb h.sc.hp h1 e
  · exact hp_type hb h.bk.hp h2 e
  · exact own_type10 h.bk.row hb h3.symm e
theorem two_call {w wr : World} {s0 s1 c0 c1 ls lb N : Nat} (h : Two w wr s0 s1 c0 c1 ls lb N) (hN : N ≤ 80000) {j s c : Nat} (hsel : Sel s0 s1 c0 c1 j s c) (k on a n : Int) (u : Value) (xs : List Int) (hu : Sees .u64 w u xs) (hb : xs.length * 8 ≤ 219902325555200) :
    Calls Try.prog 9 #[.pointer (some ⟨s, 0, none⟩), .pointer (some ⟨c, 0, none⟩), .agg #[.int .i64 k, .int .i64 on, .int .i64 a, .int .u64 n, u]] wr fun e w' => e = .returned (.bool true) ∧ Two w w' s0 s1 c0 c1 ls lb (N + 16) ∧ Still wr w' := by
  obtain ⟨v0, v1, ks0, ks1, ws0, ws1, cs0, cs1, h0, h1, ha, hs, hc, n0, n1, hl, hk, hw⟩ := h
  have hu' : ∀ w', Below w.heap.size wr w' → Sees .u64 w' u xs := fun w' hb' => hu.below (hw.trans hb') (Nat.le_refl _)
  rcases hsel with ⟨rfl, rfl, rfl⟩ | ⟨rfl, rfl, rfl⟩
  · refine (plays_any k on a n u xs wr h0 hw.size (by omega) hu' hb).mono ?_
    rintro e w' ⟨rfl, hp⟩
    exact ⟨rfl, Two.swap0 h0 h1 ha hs hc n0 n1 hl hk hw hp, still_of (w := w) h0 hp⟩
  · refine (plays_any k on a n u xs wr h1 hw.size (by omega) hu' hb).mono ?_
    rintro e w' ⟨rfl, hp⟩
    exact ⟨rfl, Two.swap1 h0 h1 ha hs hc n0 n1 hl hk hw hp, still_of (w := w) h1 hp⟩
theorem Still.undrew {wr w' : World} (h : Still wr.drew w') : Still wr w' := fun b T cs hb => h b T cs hb
theorem Two.drew {w wr : World} {s0 s1 c0 c1 ls lb N : Nat} (h : Two w wr s0 s1 c0 c1 ls lb N) : Two w wr.drew s0 s1 c0 c1 ls lb N := h.below ⟨rfl, rfl, rfl, Nat.le_refl _, fun _ _ => rfl⟩
end Go.Proofs.Ytmfgpaigabkbbaa
