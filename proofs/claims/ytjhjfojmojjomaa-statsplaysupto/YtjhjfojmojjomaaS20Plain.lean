
/-
  Tallies, plain: five numbers below 2^64, added modulo it; four of them; what was told. No Go text in sight.
-/
import Derived.Test.YtjhjfojmojjomaaGx
namespace Go.Proofs.Ytjhjfojmojjomaa
set_option linter.unusedVariables false
set_option linter.unusedSimpArgs false

def inW (a : Int) : Prop := 0 ≤ a ∧ a < 18446744073709551616
def ad (a b : Int) : Int := (a + b) % 18446744073709551616
theorem ad_in (a b : Int) : inW (ad a b) := ⟨Int.emod_nonneg _ (by decide), Int.emod_lt_of_pos _ (by decide)⟩
theorem ad_zero {a : Int} (h : inW a) : ad a 0 = a := by unfold ad; rw [Int.add_zero]; exact Int.emod_eq_of_lt h.1 h.2
theorem zero_ad {a : Int} (h : inW a) : ad 0 a = a := by unfold ad; rw [Int.zero_add]; exact Int.emod_eq_of_lt h.1 h.2
theorem ad_comm (a b : Int) : ad a b = ad b a := by unfold ad; rw [Int.add_comm]
theorem ad_assoc (a b c : Int) : ad (ad a b) c = ad a (ad b c) := by
  unfold ad
  rw [Int.emod_add_emod, Int.add_emod_emod, Int.add_assoc]
/-- A tally. -/
structure Ta where
  r : Int
  m : Int
  s : Int
  c : Int
  u : Int
def Ta.nil : Ta := ⟨0, 0, 0, 0, 0⟩
structure Ta.Ok (a : Ta) : Prop where
  r : inW a.r
  m : inW a.m
  s : inW a.s
  c : inW a.c
  u : inW a.u
theorem Ta.Ok.nil : Ta.nil.Ok := ⟨⟨by decide, by decide⟩, ⟨by decide, by decide⟩, ⟨by decide, by decide⟩, ⟨by decide, by decide⟩, ⟨by decide, by decide⟩⟩
def Ta.add (a b : Ta) : Ta := ⟨ad a.r b.r, ad a.m b.m, ad a.s b.s, ad a.c b.c, ad a.u b.u⟩
theorem Ta.Ok.add (a b : Ta) : (a.add b).Ok := ⟨ad_in _ _, ad_in _ _, ad_in _ _, ad_in _ _, ad_in _ _⟩
theorem Ta.add_nil {a : Ta} (h : a.Ok) : a.add Ta.nil = a := by
  unfold Ta.add Ta.nil
  simp only [ad_zero h.r, ad_zero h.m, ad_zero h.s, ad_zero h.c, ad_zero h.u]
theorem Ta.nil_add {a : Ta} (h : a.Ok) : Ta.nil.add a = a := by
  unfold Ta.add Ta.nil
  simp only [zero_ad h.r, zero_ad h.m, zero_ad h.s, zero_ad h.c, zero_ad h.u]
theorem Ta.add_comm (a b : Ta) : a.add b = b.add a := by
  unfold Ta.add
  simp only [ad_comm b.r, ad_comm b.m, ad_comm b.s, ad_comm b.c, ad_comm b.u]
theorem Ta.add_assoc (a b c : Ta) : (a.add b).add c = a.add (b.add c) := by
  unfold Ta.add
  simp only [ad_assoc]
/-- The sum of many. -/
def sumT (l : List Ta) : Ta := l.foldl Ta.add Ta.nil
theorem foldT_ok {l : List Ta} {a : Ta} (h : a.Ok) : (l.foldl Ta.add a).Ok := by
  induction l generalizing a with
  | nil => exact h
  | cons x l ih => exact ih (Ta.Ok.add a x)
theorem sumT_ok (l : List Ta) : (sumT l).Ok := foldT_ok Ta.Ok.nil
theorem foldT_from (l : List Ta) {a : Ta} (h : a.Ok) : l.foldl Ta.add a = a.add (sumT l) := by
  induction l generalizing a with
  | nil => exact (Ta.add_nil h).symm
  | cons x l ih =>
    show l.foldl Ta.add (a.add x) = _
    rw [ih (Ta.Ok.add a x)]
    have e : sumT (x :: l) = (Ta.nil.add x).add (sumT l) := ih (Ta.Ok.add Ta.nil x)
    rw [e, ← Ta.add_assoc, ← Ta.add_assoc a Ta.nil x, Ta.add_nil h]
theorem sumT_app (a b : List Ta) : sumT (a ++ b) = (sumT a).add (sumT b) := by
  unfold sumT
  rw [List.foldl_append]
  exact foldT_from b (sumT_ok a)
theorem sumT_more (a : List Ta) (x : Ta) : sumT (a ++ [x]) = (sumT a).add x := by
  unfold sumT
  rw [List.foldl_append]
  rfl
theorem sumT_perm {a b : List Ta} (h : a.Perm b) : sumT a = sumT b := by
  have key : ∀ {a b : List Ta}, a.Perm b → ∀ x, a.foldl Ta.add x = b.foldl Ta.add x := by
    intro a b h
    induction h with
    | nil => intro x; rfl
    | cons y _ ih => intro x; exact ih _
    | swap y z l =>
      intro x
      show l.foldl Ta.add ((x.add z).add y) = l.foldl Ta.add ((x.add y).add z)
      rw [Ta.add_assoc, Ta.add_comm z y, ← Ta.add_assoc]
    | trans _ _ ih1 ih2 => intro x; rw [ih1 x, ih2 x]
  exact key h _
/-- What was told: a run, or (m) an event without a program. -/
structure To where
  h : Int
  m : Bool
  s : Int
  c : Int
  u : Int
def To.nil : To := ⟨0, false, 0, 0, 0⟩
def To.ta (x : To) : Ta := if x.m = true then ⟨0, 1, 0, 0, 0⟩ else ⟨1, 0, x.s, x.c, x.u⟩
/-- All of a hook. -/
def ofL (h : Int) (l : List To) : Ta := sumT ((l.filter (fun x => x.h == h)).map To.ta)
theorem ofL_ok (h : Int) (l : List To) : (ofL h l).Ok := sumT_ok _
theorem ofL_app (h : Int) (a b : List To) : ofL h (a ++ b) = (ofL h a).add (ofL h b) := by
  unfold ofL
  rw [List.filter_append, List.map_append, sumT_app]
theorem ofL_more (h : Int) (a : List To) (x : To) : ofL h (a ++ [x]) = if x.h = h then (ofL h a).add x.ta else ofL h a := by
  unfold ofL
  rw [List.filter_append, List.map_append]
  by_cases e : x.h = h
  · rw [if_pos e, List.filter_cons_of_pos (by simpa using e)]
    exact sumT_more _ _
  · rw [if_neg e, List.filter_cons_of_neg (by simpa using e)]
    simp
/-- Whether there is such a hook. -/
def isH (h : Int) : Bool := decide (0 ≤ h) && decide (h < 4)
theorem isH_nat {h : Int} (hh : isH h = true) : ∃ k : Nat, h = k ∧ k < 4 := by
  simp only [isH, Bool.and_eq_true, decide_eq_true_eq] at hh
  exact ⟨h.toNat, by omega, by omega⟩
theorem isH_no {h : Int} (hh : isH h = false) : h < 0 ∨ 3 < h := by
  by_cases h0 : h < 0
  · exact .inl h0
  · refine .inr (Int.not_le.1 fun e => ?_)
    have : isH h = true := by simp [isH]; omega
    rw [hh] at this; cases this
/-- What a call of Ran or Missed adds to what was told. -/
def ranL (l : List To) (h s c u : Int) : Int × List To := if isH h = true then (0, l ++ [⟨h, false, s, c, u⟩]) else (2, l)
def missedL (l : List To) (hs : List Int) : Int × List To := if hs.all isH = true then (0, l ++ hs.map (fun h => ⟨h, true, 0, 0, 0⟩)) else (2, l)
/-- The tallies of the four hooks. -/
def four (l : List To) : List Ta := [ofL 0 l, ofL 1 l, ofL 2 l, ofL 3 l]
theorem four_len (l : List To) : (four l).length = 4 := rfl
theorem four_at (l : List To) {k : Nat} (hk : k < 4) : (four l).getD k Ta.nil = ofL k l := by
  have h5 : k = 0 ∨ k = 1 ∨ k = 2 ∨ k = 3 := by omega
  rcases h5 with rfl | rfl | rfl | rfl <;> rfl
theorem four_more (l : List To) (x : To) {k : Nat} (hk : k < 4) (hx : x.h = k) : four (l ++ [x]) = (four l).set k ((ofL k l).add x.ta) := by
  have e : ∀ h : Int, ofL h (l ++ [x]) = if h = k then (ofL k l).add x.ta else ofL h l := by
    intro h
    rw [ofL_more, hx]
    by_cases e : h = k
    · subst e; rw [if_pos rfl]
    · rw [if_neg (fun e2 => e e2.symm), if_neg e]
  unfold four
  rw [e 0, e 1, e 2, e 3]
  have h5 : k = 0 ∨ k = 1 ∨ k = 2 ∨ k = 3 := by omega
  rcases h5 with rfl | rfl | rfl | rfl <;> rfl
theorem four_perm {a b : List To} (h : a.Perm b) : four a = four b := by
  have e : ∀ h, ofL h a = ofL h b := fun h => sumT_perm ((‹a.Perm b›.filter _).map _)
  unfold four
  rw [e, e, e, e]
/-- Hook by hook. -/
def addF (a b : List Ta) : List Ta := a.zipWith Ta.add b
def zeroF : List Ta := [Ta.nil, Ta.nil, Ta.nil, Ta.nil]
theorem four_nil : four [] = zeroF := rfl
theorem four_app (a b : List To) : four (a ++ b) = addF (four a) (four b) := by
  unfold four addF
  simp only [ofL_app, List.zipWith_cons_cons, List.zipWith_nil_left]
end Go.Proofs.Ytjhjfojmojjomaa
