/-
  S10Meth
  S10Raise
  S10Totals
  S10Awake
  W10Marks
  W10Totals
  S10Ask
-/
import Derived.Test.YtbfbfbbpajaclaaDoorMB16
import Derived.Test.YtbfbfbbpajaclaaDoorMB15
import Derived.Deep.RegionHeld3
import Derived.Lib.MinMax
import Derived.Lib.SliceRun
/-
  The landed scratch: New and the methods of words and counters. No condition but that the scratch lies where the pointer says.
-/
namespace Go.Proofs.YtbfbfbbpajaclaaDoor
open Go.RowKit
set_option linter.unusedVariables false
set_option linter.unusedSimpArgs false
set_option maxRecDepth 100000

/-- A scratch at a block: its sixteen words and its sixteen counters. -/
def nums (xs : List Int) : List Value := xs.map (Value.int .u64)
def nought : List Int := List.replicate 16 0
theorem nums_len (xs : List Int) : (nums xs).length = xs.length := by simp [nums]
theorem nums_at (xs : List Int) {k : Nat} (h : k < xs.length) : (nums xs)[k]? = some (.int .u64 (xs.getD k 0)) := by
  simp [nums, List.getD, List.getElem?_eq_getElem h]
theorem nums_set (xs : List Int) (k : Nat) (n : Int) : (nums xs).set k (.int .u64 n) = nums (xs.set k n) := by
  simp [nums, List.map_set]
def inB (at' : Int) : Bool := decide (0 ≤ at' ∧ at' < 16)
theorem wiped (ws : List Int) (cs : List Int) (h : ws.length = 16) : splice (nums ws ++ nums cs) 0 (List.replicate 16 (Value.int .u64 0)) = nums nought ++ nums cs := by
  rw [splice_ahead _ _ _ _ (by simp [nums_len, h]), splice_all _ _ (by simp [nums_len, h])]
  rfl
/-- One more, modulo 2^64. -/
def addW (a b : Int) : Int := (a + b) % 18446744073709551616
def oneUp (cs : List Int) (k : Nat) : List Int := cs.set k (addW (cs.getD k 0) 1)
end Go.Proofs.YtbfbfbbpajaclaaDoor
/-
  The landed scratch: Raise. Condition: the numbers don't lie in the scratch itself.
-/
namespace Go.Proofs.YtbfbfbbpajaclaaDoor
open Go.RowKit
set_option linter.unusedVariables false
set_option linter.unusedSimpArgs false
set_option maxRecDepth 100000

/-- The first k counters are raised. -/
def raiseU (cs xs : List Int) (k : Nat) : List Int := (List.range 16).map fun i => if i < k ∧ i < xs.length then addW (cs.getD i 0) (xs.getD i 0) else cs.getD i 0
def raiseL (cs xs : List Int) : List Int := raiseU cs xs 16
theorem raiseU_len (cs xs : List Int) (k : Nat) : (raiseU cs xs k).length = 16 := by simp [raiseU]
theorem raiseU_at (cs xs : List Int) (k : Nat) {i : Nat} (h : i < 16) : (raiseU cs xs k).getD i 0 = if i < k ∧ i < xs.length then addW (cs.getD i 0) (xs.getD i 0) else cs.getD i 0 := by
  simp [raiseU, List.getD, List.getElem?_range h]
theorem list16 {xs ys : List Int} (h1 : xs.length = 16) (h2 : ys.length = 16) (h : ∀ i, i < 16 → xs.getD i 0 = ys.getD i 0) : xs = ys := by
  apply List.ext_getElem (by omega)
  intro i hi hj
  have := h i (by omega)
  simpa [List.getD, List.getElem?_eq_getElem hi, List.getElem?_eq_getElem hj] using this
theorem getD_setI {xs : List Int} (k i : Nat) (n : Int) (h : k < xs.length) : (xs.set k n).getD i 0 = if i = k then n else xs.getD i 0 := by
  by_cases hik : i = k
  · subst hik; simp [List.getD, h]
  · simp [List.getD, List.getElem?_set, hik, Ne.symm hik]
theorem raise_zero {cs : List Int} (xs : List Int) (h : cs.length = 16) : raiseU cs xs 0 = cs := list16 (raiseU_len _ _ _) h fun i hi => by rw [raiseU_at _ _ _ hi, if_neg (by omega)]
theorem raise_step {cs xs : List Int} {k : Nat} (hk : k < 16) (hx : k < xs.length) : (raiseU cs xs k).set k (addW ((raiseU cs xs k).getD k 0) (xs.getD k 0)) = raiseU cs xs (k + 1) := list16 (by simp [raiseU_len]) (raiseU_len _ _ _) fun i hi => by
  rw [getD_setI _ _ _ (by rw [raiseU_len]; exact hk), raiseU_at _ _ _ hi, raiseU_at _ _ _ hi, raiseU_at _ _ _ hk]
  by_cases hik : i = k
  · subst hik
    rw [if_pos rfl, if_neg (by omega), if_pos (by omega)]
  · rw [if_neg hik]
    by_cases h : i < k ∧ i < xs.length
    · rw [if_pos h, if_pos (by omega)]
    · rw [if_neg h, if_neg (by omega)]
theorem raise_all {cs xs : List Int} {m : Nat} (h : (m : Int) = min (xs.length : Int) 16) : raiseU cs xs m = raiseL cs xs := list16 (raiseU_len _ _ _) (raiseU_len _ _ _) fun i hi => by
  unfold raiseL
  rw [raiseU_at _ _ _ hi, raiseU_at _ _ _ hi]
  by_cases h2 : i < m ∧ i < xs.length
  · rw [if_pos h2, if_pos (by omega)]
  · rw [if_neg h2, if_neg (by omega)]
theorem Sees.grown {k : IntKind} {w w' : World} {g o n c b : Nat} {xs : List Int} (h : Sees k w (.slice (some ⟨g, o, none⟩) n c) xs) (hg : w.grownBy w' (some b)) (hne : g ≠ b) : Sees k w' (.slice (some ⟨g, o, none⟩) n c) xs := by
  obtain ⟨a, cap, hv, hl, hm, hn0, hw, hs⟩ := h
  refine ⟨a, cap, hv, hl, hm, hn0, hw, fun hn => ?_⟩
  obtain ⟨b', off, rfl, hlt, hc⟩ := hs hn
  injection hv with e1 e2 e3
  injection e1 with e1
  injection e1 with e1 e4
  subst e1 e4
  exact ⟨_, _, rfl, Nat.lt_of_lt_of_le hlt hg.size, fun i hi => (World.cell?_of_block (hg.block _ hlt (fun e => hne (by injection e)))).trans (hc i hi)⟩
end Go.Proofs.YtbfbfbbpajaclaaDoor
/-
  The landed scratch: Totals. Condition: the scratches lie where the pointers say.
-/
namespace Go.Proofs.YtbfbfbbpajaclaaDoor
open Go.RowKit
set_option linter.unusedVariables false
set_option linter.unusedSimpArgs false
set_option maxRecDepth 100000

/-- Sums, the first k places. -/
def sumU (a cs : List Int) (k : Nat) : List Int := raiseU a cs k
def sumL (a cs : List Int) : List Int := raiseL a cs
def totStep (a : List Int) : Option (List Int) → List Int
  | none => a
  | some cs => sumL a cs
def totL (ss : List (Option (List Int))) : List Int := ss.foldl totStep nought
theorem tot_len (ss : List (Option (List Int))) : (totL ss).length = 16 := by
  unfold totL
  have : ∀ (ss : List (Option (List Int))) (a : List Int), a.length = 16 → (ss.foldl totStep a).length = 16 := by
    intro ss
    induction ss with
    | nil => intro a h; exact h
    | cons o ss ih =>
      intro a h
      refine ih _ ?_
      cases o with
      | none => exact h
      | some cs => exact raiseU_len _ _ _
  exact this ss _ rfl
theorem tot_take (ss : List (Option (List Int))) {k : Nat} (h : k < ss.length) : totL (ss.take (k + 1)) = totStep (totL (ss.take k)) (ss.getD k none) := by
  rw [show ss.take (k + 1) = ss.take k ++ [ss.getD k none] from by rw [List.take_succ_eq_append_getElem h]; simp [List.getD, h]]
  unfold totL
  rw [List.foldl_append]
  rfl
theorem nums_one (cs : List Int) : ∀ v ∈ nums cs, v.oneCell' = true := by
  intro v hv
  obtain ⟨x, _, rfl⟩ := List.mem_map.1 hv
  rfl
theorem own16 (w : World) : (w.alloc (.cells (nums nought).toArray 29)).ownsRow w.heap.size 29 1 (.slice (some ⟨w.heap.size, 0, none⟩) 16 16) 16 (nums nought) := own_lit w w.heap.size 29 (nums nought) w.heap.size rfl (Nat.le_refl _) (by decide)
theorem own_hp {w : World} {g B : Nat} {e : TypeId} {l : List Value} {n : Nat} (h : Hp w g e l) (hB : B ≤ g) (hn : l.length = n) (hm : n ≤ maxLen) : w.ownsRow B e 1 (.slice (some ⟨g, 0, none⟩) n n) n l := by
  subst hn
  exact ⟨by simp, .inr ⟨g, l.length, l.toArray, rfl, hB, h, Nat.le_refl _, hm, by simp, by simp⟩⟩
end Go.Proofs.YtbfbfbbpajaclaaDoor
/-
  The landed scratch's answers as letters; the law's awake. No condition.
-/
namespace Go.Proofs.YtbfbfbbpajaclaaDoor
open Go.RowKit
set_option linter.unusedVariables false
set_option linter.unusedSimpArgs false
set_option maxRecDepth 100000

theorem own_grown {w w' w0 : World} {b : Nat} (hb : Below w0.heap.size w0 w) (hg : w.grownBy w' (some b)) (h : w0.heap.size ≤ b) : Below w0.heap.size w0 w' := hb.trans (grown_to_below hg h hb.size)
theorem below_alloc10 (w : World) (o : Obj) : Below w.heap.size w (w.alloc o) := (Below.refl _ _).alloc (Nat.le_refl _) _
end Go.Proofs.YtbfbfbbpajaclaaDoor
/-
  ScratchMarks, walked: the answer is true. Condition: the slice reads as its numbers.
-/
namespace Go.Proofs.YtbfbfbbpajaclaaDoor
open Go.RowKit
set_option linter.unusedVariables false
set_option linter.unusedSimpArgs false
set_option maxRecDepth 100000

/-- The counters behind the first marks. -/
def markStep (cs : List Int) (a : Int) : List Int := if inB a then oneUp cs a.toNat else cs
def marksL (cs : List Int) (xs : List Int) : List Int := xs.foldl markStep cs
theorem markStep_len {cs : List Int} (a : Int) (h : cs.length = 16) : (markStep cs a).length = 16 := by
  unfold markStep oneUp; split <;> simp [h]
theorem marks_len {cs : List Int} : ∀ (xs : List Int), cs.length = 16 → (marksL cs xs).length = 16 := by
  intro xs
  unfold marksL
  induction xs generalizing cs with
  | nil => intro h; exact h
  | cons x xs ih => intro h; exact ih (markStep_len x h)
theorem marks_take (cs xs : List Int) {k : Nat} (h : k < xs.length) : marksL cs (xs.take (k + 1)) = markStep (marksL cs (xs.take k)) (xs.getD k 0) := by
  rw [take_at xs k h]
  unfold marksL
  rw [List.foldl_append]
  rfl
/-- All within 64 bits. -/
def W64L (cs : List Int) : Prop := ∀ i, 0 ≤ cs.getD i 0 ∧ cs.getD i 0 < 18446744073709551616
theorem addW_in (a b : Int) : 0 ≤ addW a b ∧ addW a b < 18446744073709551616 := by unfold addW; omega
theorem getD_set_any (xs : List Int) (k i : Nat) (n : Int) : (xs.set k n).getD i 0 = if i = k ∧ k < xs.length then n else xs.getD i 0 := by
  by_cases h : k < xs.length
  · rw [getD_setI _ _ _ h]
    by_cases hi : i = k
    · rw [if_pos hi, if_pos ⟨hi, h⟩]
    · rw [if_neg hi, if_neg (fun e => hi e.1)]
  · rw [List.set_eq_of_length_le (by omega), if_neg (fun e => h e.2)]
theorem W64L.mark {cs : List Int} (h : W64L cs) (a : Int) : W64L (markStep cs a) := by
  unfold markStep oneUp
  split
  · intro i
    rw [getD_set_any]
    split
    · exact addW_in _ _
    · exact h i
  · exact h
theorem W64L.marks {cs : List Int} : ∀ (xs : List Int), W64L cs → W64L (marksL cs xs) := by
  intro xs
  unfold marksL
  induction xs generalizing cs with
  | nil => intro h; exact h
  | cons x xs ih => intro h; exact ih (h.mark x)
theorem W64L.nought : W64L nought := by
  intro i
  have : Go.Proofs.YtbfbfbbpajaclaaDoor.nought.getD i 0 = 0 := by
    by_cases h : i < 16
    · exact (by decide : ∀ k : Fin 16, Go.Proofs.YtbfbfbbpajaclaaDoor.nought.getD k 0 = 0) ⟨i, h⟩
    · rw [List.getD_eq_getElem?_getD, List.getElem?_eq_none (by show 16 ≤ i; omega)]; rfl
  rw [this]; omega
theorem W64L.wf {cs : List Int} (h : W64L cs) : ∀ x ∈ cs, (Lit.int .u64 x).wf = true := by
  intro x hx
  obtain ⟨i, hi, rfl⟩ := List.getElem_of_mem hx
  have := h i
  simp only [List.getD, List.getElem?_eq_getElem hi, Option.getD_some] at this
  exact WalkArith.wf_u64 (by omega)
theorem tot_one {cs : List Int} (hl : cs.length = 16) (h : W64L cs) : totL [some cs] = cs := by
  show raiseU nought cs 16 = cs
  refine list16 (raiseU_len _ _ _) hl fun i hi => ?_
  rw [raiseU_at _ _ _ hi, if_pos (by omega)]
  have e0 : nought.getD i 0 = 0 := (by decide : ∀ k : Fin 16, nought.getD k 0 = 0) ⟨i, hi⟩
  have := h i
  rw [e0]
  unfold addW
  omega
end Go.Proofs.YtbfbfbbpajaclaaDoor
/-
  ScratchTotals, walked: the answer is true. Condition: the slices read as their numbers.
-/
namespace Go.Proofs.YtbfbfbbpajaclaaDoor
open Go.RowKit
set_option linter.unusedVariables false
set_option linter.unusedSimpArgs false
set_option maxRecDepth 100000

theorem nought_at0 (k : Nat) : nought.getD k 0 = 0 := by
  by_cases h : k < 16
  · exact (by decide : ∀ k : Fin 16, nought.getD k 0 = 0) ⟨k, h⟩
  · rw [List.getD_eq_getElem?_getD, List.getElem?_eq_none (by show 16 ≤ k; omega)]; rfl
theorem raiseL_at (cs xs : List Int) {i : Nat} (h : i < 16) : (raiseL cs xs).getD i 0 = if i < xs.length then addW (cs.getD i 0) (xs.getD i 0) else cs.getD i 0 := by
  unfold raiseL
  rw [raiseU_at _ _ _ h]
  by_cases h2 : i < xs.length
  · rw [if_pos ⟨h, h2⟩, if_pos h2]
  · rw [if_neg (fun e => h2 e.2), if_neg h2]
theorem raiseL_len (cs xs : List Int) : (raiseL cs xs).length = 16 := raiseU_len _ _ _
theorem W64L.of16 {cs : List Int} (hl : cs.length = 16) (h : ∀ i, i < 16 → 0 ≤ cs.getD i 0 ∧ cs.getD i 0 < 18446744073709551616) : W64L cs := fun i => by
  by_cases hi : i < 16
  · exact h i hi
  · rw [List.getD_eq_getElem?_getD, List.getElem?_eq_none (by omega)]
    show (0 : Int) ≤ 0 ∧ (0 : Int) < 18446744073709551616
    omega
theorem W64L.raise {cs xs : List Int} (h : W64L cs) : W64L (raiseL cs xs) := W64L.of16 (raiseL_len _ _) fun i hi => by
  rw [raiseL_at _ _ hi]
  split
  · exact addW_in _ _
  · exact h i
theorem W64L.tot (ss : List (Option (List Int))) : W64L (totL ss) := by
  unfold totL
  have : ∀ (ss : List (Option (List Int))) (a : List Int), W64L a → W64L (ss.foldl totStep a) := by
    intro ss
    induction ss with
    | nil => intro a h; exact h
    | cons o ss ih =>
      intro a h
      refine ih _ ?_
      cases o with
      | none => exact h
      | some cs => exact h.raise
  exact this ss _ W64L.nought
theorem add3 (p q r : Prop) [Decidable p] [Decidable q] [Decidable r] (a b c : Int) :
    addW (addW 0 (if r then addW (if p then addW 0 a else 0) c else if p then addW 0 a else 0)) (if q then addW 0 b else 0) = addW 0 (if p then addW (if q then addW (if r then addW 0 c else 0) b else if r then addW 0 c else 0) a else if q then addW (if r then addW 0 c else 0) b else if r then addW 0 c else 0) := by
  unfold addW
  by_cases hp : p <;> by_cases hq : q <;> by_cases hr : r <;> simp only [hp, hq, hr, if_true, if_false] <;> omega
theorem add3' (p q r : Prop) [Decidable p] [Decidable q] [Decidable r] (a b c : Int) :
    addW (addW 0 (if q then addW 0 b else 0)) (if r then addW (if p then addW 0 a else 0) c else if p then addW 0 a else 0) = addW 0 (if p then addW (if q then addW (if r then addW 0 c else 0) b else if r then addW 0 c else 0) a else if q then addW (if r then addW 0 c else 0) b else if r then addW 0 c else 0) := by
  unfold addW
  by_cases hp : p <;> by_cases hq : q <;> by_cases hr : r <;> simp only [hp, hq, hr, if_true, if_false] <;> omega
def xL (a c : List Int) : List Int := raiseL (raiseL nought a) c
def oL (a b c : List Int) : List Int := raiseL (raiseL (raiseL nought c) b) a
theorem tot_two (p q : List Int) : totL [some p, some q] = raiseL (raiseL nought p) q := rfl
theorem tot_two' (p : List Int) : totL [some p, none] = raiseL nought p := rfl
theorem tot_xy (a b c : List Int) : totL [some (xL a c), some (raiseL nought b)] = totL [some (oL a b c), none] := by
  rw [tot_two, tot_two']
  refine list16 (raiseL_len _ _) (raiseL_len _ _) fun i hi => ?_
  unfold xL oL
  simp only [raiseL_at _ _ hi, raiseL_len, if_pos hi, nought_at0]
  exact add3 _ _ _ _ _ _
theorem tot_yx (a b c : List Int) : totL [some (raiseL nought b), some (xL a c)] = totL [some (oL a b c), none] := by
  rw [tot_two, tot_two']
  refine list16 (raiseL_len _ _) (raiseL_len _ _) fun i hi => ?_
  unfold xL oL
  simp only [raiseL_at _ _ hi, raiseL_len, if_pos hi, nought_at0]
  exact add3' _ _ _ _ _ _
theorem own_baseS {w : World} {base base' : Nat} {e : TypeId} {size : Nat} {v : Value} {n : Nat} {xs : List Value} (h : w.ownsRow base' e size v n xs) (hb : base ≤ base') : w.ownsRow base e size v n xs := by
  rcases h with ⟨h1, h2 | ⟨g, cap, cur, hv, hg, r⟩⟩
  · exact ⟨h1, .inl h2⟩
  · exact ⟨h1, .inr ⟨g, cap, cur, hv, by omega, r⟩⟩
end Go.Proofs.YtbfbfbbpajaclaaDoor
/-
  What was asked so far, plain: the document's answers looked up in it, held against words and counters. No Go text in sight.
-/
namespace Go.Proofs.YtbfbfbbpajaclaaDoor
set_option linter.unusedVariables false
set_option linter.unusedSimpArgs false

structure Ak where
  k : Int
  a : Int
  n : Int
def wordR : List Ak → Int → Int
  | [], _ => 0
  | x :: r, p => if x.k = 2 then 0 else if x.k = 1 ∧ x.a = p then x.n else wordR r p
def wordA (ks : List Ak) (p : Int) : Int := wordR ks.reverse p
def cntStep (p : Int) (s : Int) (x : Ak) : Int := if x.k = 3 ∧ x.a = p then addW s x.n else s
def countA (ks : List Ak) (p : Int) : Int := ks.foldl (cntStep p) 0
def Ak.nil : Ak := ⟨0, 0, 0⟩
theorem wordA_snoc (ks : List Ak) (x : Ak) (p : Int) : wordA (ks ++ [x]) p = if x.k = 2 then 0 else if x.k = 1 ∧ x.a = p then x.n else wordA ks p := by
  unfold wordA
  rw [List.reverse_append]
  rfl
theorem countA_snoc (ks : List Ak) (x : Ak) (p : Int) : countA (ks ++ [x]) p = cntStep p (countA ks p) x := by
  unfold countA
  rw [List.foldl_append]
  rfl
theorem ak_take (ks : List Ak) {k : Nat} (h : k < ks.length) : ks.take (k + 1) = ks.take k ++ [ks.getD k Ak.nil] := by
  rw [List.take_succ_eq_append_getElem h]; simp [List.getD, h]
/-- The words and the counters are what was asked. -/
structure Tie (ks : List Ak) (ws cs : List Int) : Prop where
  lw : ws.length = 16
  lc : cs.length = 16
  w : ∀ k : Nat, k < 16 → ws.getD k 0 = wordA ks k
  c : ∀ k : Nat, k < 16 → cs.getD k 0 = countA ks k
theorem Tie.nil : Tie [] nought nought := ⟨rfl, rfl, fun k _ => nought_at0 k, fun k _ => nought_at0 k⟩
theorem Tie.store {ks : List Ak} {ws cs : List Int} (h : Tie ks ws cs) {a : Nat} (ha : a < 16) (n : Int) : Tie (ks ++ [⟨1, a, n⟩]) (ws.set a n) cs := by
  refine ⟨by simp [h.lw], h.lc, fun k hk => ?_, fun k hk => ?_⟩
  · rw [getD_setI _ _ _ (by rw [h.lw]; exact ha), wordA_snoc]
    show _ = if (1 : Int) = 2 then 0 else if (1 : Int) = 1 ∧ (a : Int) = k then n else wordA ks k
    by_cases e : k = a
    · rw [if_pos e, if_neg (show ¬ (1 : Int) = 2 by omega), if_pos ⟨rfl, by omega⟩]
    · rw [if_neg e, if_neg (show ¬ (1 : Int) = 2 by omega), if_neg (by omega), h.w k hk]
  · rw [countA_snoc, h.c k hk]
    show _ = if (1 : Int) = 3 ∧ (a : Int) = k then _ else countA ks k
    rw [if_neg (by omega)]
theorem Tie.wipe {ks : List Ak} {ws cs : List Int} (h : Tie ks ws cs) : Tie (ks ++ [⟨2, 0, 0⟩]) nought cs := by
  refine ⟨rfl, h.lc, fun k hk => ?_, fun k hk => ?_⟩
  · rw [wordA_snoc, nought_at0]
    show _ = if (2 : Int) = 2 then (0 : Int) else _
    rw [if_pos rfl]
  · rw [countA_snoc, h.c k hk]
    show _ = if (2 : Int) = 3 ∧ (0 : Int) = k then _ else countA ks k
    rw [if_neg (by omega)]
theorem Tie.up {ks : List Ak} {ws cs : List Int} (h : Tie ks ws cs) {a : Nat} (ha : a < 16) (n : Int) : Tie (ks ++ [⟨3, a, n⟩]) ws (cs.set a (addW (cs.getD a 0) n)) := by
  refine ⟨h.lw, by simp [h.lc], fun k hk => ?_, fun k hk => ?_⟩
  · rw [wordA_snoc, h.w k hk]
    show _ = if (3 : Int) = 2 then 0 else if (3 : Int) = 1 ∧ (a : Int) = k then n else wordA ks k
    rw [if_neg (by omega), if_neg (by omega)]
  · rw [getD_setI _ _ _ (by rw [h.lc]; exact ha), countA_snoc]
    show _ = if (3 : Int) = 3 ∧ (a : Int) = k then addW (countA ks k) n else countA ks k
    by_cases e : k = a
    · subst e
      rw [if_pos rfl, if_pos ⟨rfl, rfl⟩, h.c k hk]
    · rw [if_neg e, if_neg (by omega), h.c k hk]
def raiseAs (ks : List Ak) (xs : List Int) : Nat → List Ak
  | 0 => ks
  | k + 1 => raiseAs ks xs k ++ [⟨3, k, xs.getD k 0⟩]
theorem raiseAs_len (ks : List Ak) (xs : List Int) : ∀ k, (raiseAs ks xs k).length = ks.length + k
  | 0 => rfl
  | k + 1 => by rw [raiseAs, List.length_append, raiseAs_len ks xs k]; rfl
theorem Tie.raise {ks : List Ak} {ws cs : List Int} (h : Tie ks ws cs) (xs : List Int) : ∀ k, k ≤ 16 → k ≤ xs.length → Tie (raiseAs ks xs k) ws (raiseU cs xs k)
  | 0, _, _ => by rw [raise_zero _ h.lc]; exact h
  | k + 1, h1, h2 => by
    have := (Tie.raise h xs k (by omega) (by omega)).up (a := k) (by omega) (xs.getD k 0)
    rw [raise_step (by omega) (by omega)] at this
    exact this
/-- The counters ks a list. -/
def csA (ks : List Ak) : List Int := (List.range 16).map fun k => countA ks (k : Nat)
theorem csA_len (ks : List Ak) : (csA ks).length = 16 := by simp [csA]
theorem csA_at (ks : List Ak) {k : Nat} (h : k < 16) : (csA ks).getD k 0 = countA ks k := by
  simp [csA, List.getD, List.getElem?_range h]
theorem Tie.cs {ks : List Ak} {ws cs : List Int} (h : Tie ks ws cs) : cs = csA ks := list16 h.lc (csA_len _) fun k hk => by rw [h.c k hk, csA_at ks hk]
end Go.Proofs.YtbfbfbbpajaclaaDoor
