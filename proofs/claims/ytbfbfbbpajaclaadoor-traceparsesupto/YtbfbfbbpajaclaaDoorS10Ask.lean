
/-
  What was asked so far, plain: the document's answers looked up in it, held against words and counters. No Go text in sight.
-/
import Derived.Test.YtbfbfbbpajaclaaDoorW10Totals
namespace Go.Proofs.YtbfbfbbpajaclaaDoor
set_option linter.unusedVariables false
set_option linter.unusedSimpArgs false

structure Ak where
  k : Int
  a : Int
  n : Int
def wordR : List Ak → Int → Int
  | [], _ => 0
  | x :: r, p => if x.k = 2 then 0 else if x.k = 1 ∧ x.a = p then x.n else wordR r p
def wordA (ks : List Ak) (p : Int) : Int := wordR ks.reverse p
def cntStep (p : Int) (s : Int) (x : Ak) : Int := if x.k = 3 ∧ x.a = p then addW s x.n else s
def countA (ks : List Ak) (p : Int) : Int := ks.foldl (cntStep p) 0
def Ak.nil : Ak := ⟨0, 0, 0⟩
theorem wordA_snoc (ks : List Ak) (x : Ak) (p : Int) : wordA (ks ++ [x]) p = if x.k = 2 then 0 else if x.k = 1 ∧ x.a = p then x.n else wordA ks p := by
  unfold wordA
  rw [List.reverse_append]
  rfl
theorem countA_snoc (ks : List Ak) (x : Ak) (p : Int) : countA (ks ++ [x]) p = cntStep p (countA ks p) x := by
  unfold countA
  rw [List.foldl_append]
  rfl
theorem ak_take (ks : List Ak) {k : Nat} (h : k < ks.length) : ks.take (k + 1) = ks.take k ++ [ks.getD k Ak.nil] := by
  rw [List.take_succ_eq_append_getElem h]; simp [List.getD, h]
/-- The words and the counters are what was asked. -/
structure Tie (ks : List Ak) (ws cs : List Int) : Prop where
  lw : ws.length = 16
  lc : cs.length = 16
  w : ∀ k : Nat, k < 16 → ws.getD k 0 = wordA ks k
  c : ∀ k : Nat, k < 16 → cs.getD k 0 = countA ks k
theorem Tie.nil : Tie [] nought nought := ⟨rfl, rfl, fun k _ => nought_at0 k, fun k _ => nought_at0 k⟩
theorem Tie.store {ks : List Ak} {ws cs : List Int} (h : Tie ks ws cs) {a : Nat} (ha : a < 16) (n : Int) : Tie (ks ++ [⟨1, a, n⟩]) (ws.set a n) cs := by
  refine ⟨by simp [h.lw], h.lc, fun k hk => ?_, fun k hk => ?_⟩
  · rw [getD_setI _ _ _ (by rw [h.lw]; exact ha), wordA_snoc]
    show _ = if (1 : Int) = 2 then 0 else if (1 : Int) = 1 ∧ (a : Int) = k then n else wordA ks k
    by_cases e : k = a
    · rw [if_pos e, if_neg (show ¬ (1 : Int) = 2 by omega), if_pos ⟨rfl, by omega⟩]
    · rw [if_neg e, if_neg (show ¬ (1 : Int) = 2 by omega), if_neg (by omega), h.w k hk]
  · rw [countA_snoc, h.c k hk]
    show _ = if (1 : Int) = 3 ∧ (a : Int) = k then _ else countA ks k
    rw [if_neg (by omega)]
theorem Tie.wipe {ks : List Ak} {ws cs : List Int} (h : Tie ks ws cs) : Tie (ks ++ [⟨2, 0, 0⟩]) nought cs := by
  refine ⟨rfl, h.lc, fun k hk => ?_, fun k hk => ?_⟩
  · rw [wordA_snoc, nought_at0]
    show _ = if (2 : Int) = 2 then (0 : Int) else _
    rw [if_pos rfl]
  · rw [countA_snoc, h.c k hk]
    show _ = if (2 : Int) = 3 ∧ (0 : Int) = k then _ else countA ks k
    rw [if_neg (by omega)]
theorem Tie.up {ks : List Ak} {ws cs : List Int} (h : Tie ks ws cs) {a : Nat} (ha : a < 16) (n : Int) : Tie (ks ++ [⟨3, a, n⟩]) ws (cs.set a (addW (cs.getD a 0) n)) := by
  refine ⟨h.lw, by simp [h.lc], fun k hk => ?_, fun k hk => ?_⟩
  · rw [wordA_snoc, h.w k hk]
    show _ = if (3 : Int) = 2 then 0 else if (3 : Int) = 1 ∧ (a : Int) = k then n else wordA ks k
    rw [if_neg (by omega), if_neg (by omega)]
  · rw [getD_setI _ _ _ (by rw [h.lc]; exact ha), countA_snoc]
    show _ = if (3 : Int) = 3 ∧ (a : Int) = k then addW (countA ks k) n else countA ks k
    by_cases e : k = a
    · subst e
      rw [if_pos rfl, if_pos ⟨rfl, rfl⟩, h.c k hk]
    · rw [if_neg e, if_neg (by omega), h.c k hk]
def raiseAs (ks : List Ak) (xs : List Int) : Nat → List Ak
  | 0 => ks
  | k + 1 => raiseAs ks xs k ++ [⟨3, k, xs.getD k 0⟩]
theorem raiseAs_len (ks : List Ak) (xs : List Int) : ∀ k, (raiseAs ks xs k).length = ks.length + k
  | 0 => rfl
  | k + 1 => by rw [raiseAs, List.length_append, raiseAs_len ks xs k]; rfl
theorem Tie.raise {ks : List Ak} {ws cs : List Int} (h : Tie ks ws cs) (xs : List Int) : ∀ k, k ≤ 16 → k ≤ xs.length → Tie (raiseAs ks xs k) ws (raiseU cs xs k)
  | 0, _, _ => by rw [raise_zero _ h.lc]; exact h
  | k + 1, h1, h2 => by
    have := (Tie.raise h xs k (by omega) (by omega)).up (a := k) (by omega) (xs.getD k 0)
    rw [raise_step (by omega) (by omega)] at this
    exact this
/-- The counters ks a list. -/
def csA (ks : List Ak) : List Int := (List.range 16).map fun k => countA ks (k : Nat)
theorem csA_len (ks : List Ak) : (csA ks).length = 16 := by simp [csA]
theorem csA_at (ks : List Ak) {k : Nat} (h : k < 16) : (csA ks).getD k 0 = countA ks k := by
  simp [csA, List.getD, List.getElem?_range h]
theorem Tie.cs {ks : List Ak} {ws cs : List Int} (h : Tie ks ws cs) : cs = csA ks := list16 h.lc (csA_len _) fun k hk => by rw [h.c k hk, csA_at ks hk]
end Go.Proofs.YtbfbfbbpajaclaaDoor
