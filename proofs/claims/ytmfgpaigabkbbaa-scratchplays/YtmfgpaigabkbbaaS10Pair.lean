
/-
  A scratch and its book, side by side; a call's parts. No condition.
-/
import Derived.Test.YtmfgpaigabkbbaaS10Book4
namespace Go.Proofs.Ytmfgpaigabkbbaa
open Go.RowKit
set_option linter.unusedVariables false
set_option linter.unusedSimpArgs false
set_option maxRecDepth 100000

/-- A scratch and its book that say the same. -/
structure Pr (w : World) (B s c : Nat) (v : Value) (ks : List Ak) (ws cs : List Int) : Prop where
  sc : Sc w s ws cs
  bk : Bk w B c v ks
  tie : Tie ks ws cs
  bs : B ≤ s
  bc : B ≤ c
def prS (s c : Nat) (v : Value) (k : Nat) : Prop := k = s ∨ bkS c v k
theorem Sc.chg {w w' : World} {b : Nat} {ws cs : List Int} {S : Nat → Prop} (h : Sc w b ws cs) (hc : Chg w w' S) (hS : ¬ S b) : Sc w' b ws cs := ⟨h.hp.chg hc hS, h.lw, h.lc⟩
theorem Pr.s_c {w : World} {B s c : Nat} {v : Value} {ks : List Ak} {ws cs : List Int} (h : Pr w B s c v ks ws cs) : s ≠ c := hp_type h.sc.hp h.bk.hp (by decide)
theorem Pr.s_r {w : World} {B s c : Nat} {v : Value} {ks : List Ak} {ws cs : List Int} (h : Pr w B s c v ks ws cs) : v.ownBlock ≠ some s := own_type10 h.bk.row h.sc.hp (by decide)
theorem Pr.not_bkS {w : World} {B s c : Nat} {v : Value} {ks : List Ak} {ws cs : List Int} (h : Pr w B s c v ks ws cs) : ¬ bkS c v s := fun e => e.elim h.s_c h.s_r
theorem Pr.below {w w' : World} {B s c : Nat} {v : Value} {ks : List Ak} {ws cs : List Int} (h : Pr w B s c v ks ws cs) (hb : Below w.heap.size w w') : Pr w' B s c v ks ws cs := ⟨h.sc.below hb h.sc.lt, h.bk.below hb, h.tie, h.bs, h.bc⟩
theorem Pr.alloc {w : World} {B s c : Nat} {v : Value} {ks : List Ak} {ws cs : List Int} (h : Pr w B s c v ks ws cs) (o : Obj) : Pr (w.alloc o) B s c v ks ws cs := h.below (below_alloc w o)
theorem Pr.drew {w : World} {B s c : Nat} {v : Value} {ks : List Ak} {ws cs : List Int} (h : Pr w B s c v ks ws cs) : Pr w.drew B s c v ks ws cs := ⟨h.sc.drew, h.bk.drew, h.tie, h.bs, h.bc⟩
/-- The book stays where the scratch alone was written. -/
theorem Pr.bk_grown {w w' : World} {B s c : Nat} {v : Value} {ks : List Ak} {ws cs : List Int} (h : Pr w B s c v ks ws cs) (hg : w.grownBy w' (some s)) : Bk w' B c v ks :=
  h.bk.chg (Chg.of_grown (S := fun k => k = s) hg rfl) (fun e => h.s_c e.symm) (fun k hk e => h.s_r (e ▸ hk))
theorem chg_s {w w' : World} {s c : Nat} {v : Value} (hg : w.grownBy w' (some s)) : Chg w w' (prS s c v) := Chg.of_grown hg (.inl rfl)
theorem chg_b {w w' : World} {s c : Nat} {v : Value} (h : Chg w w' (bkS c v)) : Chg w w' (prS s c v) := h.mono fun k hk => .inr hk
/-- What a played call leaves. -/
def Played (w w' : World) (B s c : Nat) (v : Value) (ks : List Ak) : Prop := ∃ v' ks' ws' cs', Pr w' B s c v' ks' ws' cs' ∧ Chg w w' (prS s c v) ∧ RowNew w v v' ∧ ks'.length ≤ ks.length + 16
/-- A call's parts. -/
def opV (k on at' n : Int) (u : Value) : Value := .agg #[.int .i64 k, .int .i64 on, .int .i64 at', .int .u64 n, u]
theorem store_tie {ks : List Ak} {ws cs : List Int} (h : Tie ks ws cs) {a n : Int} (hi : inB a = true) {us : List Int} (hu : (if inB a then ws.set a.toNat n else ws) = us) : Tie (ks ++ [⟨1, a, n⟩]) us cs := by
  obtain ⟨h0, h1⟩ : 0 ≤ a ∧ a < 16 := of_decide_eq_true hi
  obtain ⟨j, rfl⟩ : ∃ j : Nat, a = j := ⟨a.toNat, by omega⟩
  rw [hi, Int.toNat_natCast] at hu
  rw [← hu]
  exact h.store (by omega) n
theorem mark_tie {ks : List Ak} {ws cs : List Int} (h : Tie ks ws cs) {a : Int} (hi : inB a = true) {us : List Int} (hu : (if inB a then oneUp cs a.toNat else cs) = us) : Tie (ks ++ [⟨3, a, 1⟩]) ws us := by
  obtain ⟨h0, h1⟩ : 0 ≤ a ∧ a < 16 := of_decide_eq_true hi
  obtain ⟨j, rfl⟩ : ∃ j : Nat, a = j := ⟨a.toNat, by omega⟩
  rw [hi, Int.toNat_natCast] at hu
  rw [← hu]
  exact h.up (by omega) 1
theorem mark_new {ks : List Ak} {ws cs : List Int} (h : Tie ks ws cs) {a : Int} (hi : inB a = true) {x : Int} (hx : (if inB a then addW (cs.getD a.toNat 0) 1 else 0) = x) : countA (ks ++ [⟨3, a, 1⟩]) a = x := by
  obtain ⟨h0, h1⟩ : 0 ≤ a ∧ a < 16 := of_decide_eq_true hi
  obtain ⟨j, rfl⟩ : ∃ j : Nat, a = j := ⟨a.toNat, by omega⟩
  rw [hi, Int.toNat_natCast] at hx
  rw [← hx, countA_snoc, h.c j (by omega)]
  show (if (3 : Int) = 3 ∧ (j : Int) = j then addW (countA ks j) 1 else countA ks j) = _
  rw [if_pos ⟨rfl, rfl⟩]
  rfl
theorem word_new {ks : List Ak} {ws cs : List Int} (h : Tie ks ws cs) {a : Int} (hi : inB a = true) {x : Int} (hx : (if inB a then ws.getD a.toNat 0 else 0) = x) : wordA ks a = x := by
  obtain ⟨h0, h1⟩ : 0 ≤ a ∧ a < 16 := of_decide_eq_true hi
  obtain ⟨j, rfl⟩ : ∃ j : Nat, a = j := ⟨a.toNat, by omega⟩
  rw [hi, Int.toNat_natCast] at hx
  rw [← hx, ← h.w j (by omega)]
  rfl
theorem count_new {ks : List Ak} {ws cs : List Int} (h : Tie ks ws cs) {a : Int} (hi : inB a = true) {x : Int} (hx : (if inB a then cs.getD a.toNat 0 else 0) = x) : countA ks a = x := by
  obtain ⟨h0, h1⟩ : 0 ≤ a ∧ a < 16 := of_decide_eq_true hi
  obtain ⟨j, rfl⟩ : ∃ j : Nat, a = j := ⟨a.toNat, by omega⟩
  rw [hi, Int.toNat_natCast] at hx
  rw [← hx, ← h.c j (by omega)]
  rfl
theorem box_cells (w : World) (k on at' n : Int) (u : Value) (T : TypeId) : ∃ W, Hid (W = w.alloc (Obj.cells #[.int .i64 k, .int .i64 on, .int .i64 at', .int .u64 n, u] T)) ∧ Hid (Below w.heap.size w W) ∧ w.heap.size < W.heap.size ∧ W.cell? ⟨w.heap.size, 0, none⟩ = some (.int .i64 k) ∧ W.cell? ⟨w.heap.size, 2, none⟩ = some (.int .i64 at') ∧ W.cell? ⟨w.heap.size, 3, none⟩ = some (.int .u64 n) ∧ W.cell? ⟨w.heap.size, 4, none⟩ = some u :=
  ⟨_, rfl, below_alloc _ _, by simp, by go_cell, by go_cell, by go_cell, by go_cell⟩
/-- A call that changed nothing. -/
theorem Pr.idle {w W : World} {B s c : Nat} {v : Value} {ks : List Ak} {ws cs : List Int} (h : Pr w B s c v ks ws cs) (hb : Below w.heap.size w W) : Played w W B s c v ks :=
  ⟨v, ks, ws, cs, h.below hb, Chg.of_below hb, .inl rfl, by omega⟩
theorem cell_chg {w w' : World} {S : Nat → Prop} {x j : Nat} {u : Value} (hc : Chg w w' S) (h : w.cell? ⟨x, j, none⟩ = some u) (hS : ¬ S x) : w'.cell? ⟨x, j, none⟩ = some u :=
  (World.cell?_of_block (hc.block x (World.block_lt_of_cell? w _ h) hS)).trans h
end Go.Proofs.Ytmfgpaigabkbbaa
