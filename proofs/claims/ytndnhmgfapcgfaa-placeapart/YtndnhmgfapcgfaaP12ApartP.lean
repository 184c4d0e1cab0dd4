
/-
  Lists of shards that are written into and grown: what stays. Plain: the lists' lengths add up.
-/
import Derived.Test.YtndnhmgfapcgfaaP12Splits
import Derived.Laws.OwnMore
namespace Go.Proofs.Ytndnhmgfapcgfaa
open Go.RowKit Go.Deep
set_option linter.unusedVariables false
set_option maxRecDepth 20000

/-- How many keys the first shards have. -/
def sumL (s : Int) (xs : List Int) : Nat → Nat
  | 0 => 0
  | k + 1 => sumL s xs k + (mineL k s xs).length
theorem sum_filter (s : Int) (xs : List Int) (h0 : ∀ x ∈ xs, 0 ≤ x) : ∀ k : Nat, sumL s xs k = (xs.filter fun x => decide (ofL x s < k)).length
  | 0 => by
    have e : xs.filter (fun x => decide (ofL x s < ((0 : Nat) : Int))) = [] := List.filter_eq_nil_iff.2 fun x hx => by
      have := (ofL_bd x s (h0 x hx)).1
      simp; omega
    rw [e]; rfl
  | k + 1 => by
    rw [sumL, sum_filter s xs h0 k]
    clear h0
    induction xs with
    | nil => rfl
    | cons x r ih =>
      unfold mineL at ih ⊢
      by_cases h1 : ofL x s < k
      · rw [List.filter_cons_of_pos (by simpa using h1), List.filter_cons_of_neg (by simp; omega), List.filter_cons_of_pos (by simp; omega)]
        simp only [List.length_cons]; omega
      · by_cases h2 : ofL x s = k
        · rw [List.filter_cons_of_neg (by simpa using h1), List.filter_cons_of_pos (by simp; omega), List.filter_cons_of_pos (by simp; omega)]
          simp only [List.length_cons]; omega
        · rw [List.filter_cons_of_neg (by simpa using h1), List.filter_cons_of_neg (by simp; omega), List.filter_cons_of_neg (by simp; omega)]
          exact ih
theorem sum_all (N : Nat) (xs : List Int) (h1 : 1 ≤ N) (h0 : ∀ x ∈ xs, 0 ≤ x) : sumL N xs N = xs.length := by
  rw [sum_filter _ _ h0]
  congr 1
  refine List.filter_eq_self.2 fun x hx => ?_
  have := (ofL_bd x N (h0 x hx)).2
  simp; omega
theorem sum_le (s : Int) (xs : List Int) (h0 : ∀ x ∈ xs, 0 ≤ x) (k : Nat) : sumL s xs k ≤ xs.length := by
  rw [sum_filter s xs h0 k]; exact List.length_filter_le _ _
theorem own_opens {w : World} {base : Nat} {e : TypeId} {v : Value} {n : Nat} {xs : List Value} (h : w.ownsRow base e 1 v n xs) (hn : 0 < n) : ∃ g cap, v = .slice (some ⟨g, 0, none⟩) n cap ∧ base ≤ g ∧ g < w.heap.size ∧ n ≤ cap ∧ cap ≤ maxLen := by
  obtain ⟨g, cap, h1, h2, h3, h4, h5, _⟩ := own_open h hn
  exact ⟨g, cap, h1, h2, h3, h4, h5⟩
/-- A number is laid into a list. -/
theorem Rw.store {w wr : World} {N : Nat} {V : Nat → Value} {R : Nat → List Int} (h : Rw w N V R wr) {p i g cap : Nat} (hp : p < N) (x : Int) (hV : V p = .slice (some ⟨g, 0, none⟩) (R p).length cap) :
    Rw w N V (fun j => if j = p then (R p).set i x else R j) (wr.setCell ⟨g, i, none⟩ (.int .u64 x)) := by
  have ho := h.own p hp
  rw [hV] at ho
  obtain ⟨st, hg⟩ := ho.stored i (.int .u64 x)
  have hgb := (ho.lt g rfl).1
  refine ⟨below_setp h.g (by omega), h.out.setOther (by show w.heap.size ≠ g; omega) _, fun q hq => ?_, h.two⟩
  by_cases e : q = p
  · subst e
    rw [if_pos rfl, hV]
    simpa using st
  · rw [if_neg e]
    refine (h.own q hq).kept (grown_setp wr _ _) ?_
    have := h.two q p hq hp e
    rw [hV] at this
    exact this
theorem own_prefix {w : World} {base g n k cap : Nat} {e : TypeId} {xs ys : List Value} (h : w.ownsRow base e 1 (.slice (some ⟨g, 0, none⟩) (n + k) cap) (n + k) (xs ++ ys)) (hn : xs.length = n) : w.ownsRow base e 1 (.slice (some ⟨g, 0, none⟩) n cap) n xs := by
  rcases h with ⟨h1, ⟨h2, _⟩ | ⟨g', cap', cur, hv, hg, hh, h3, h4, h5, h6⟩⟩
  · cases h2
  · injection hv with e1 e2 e3
    injection e1 with e1
    injection e1 with e1
    subst e1 e3
    refine ⟨by omega, .inr ⟨g, cap, cur, rfl, hg, hh, by omega, h4, h5, ?_⟩⟩
    have := congrArg (List.take n) h6
    rw [List.take_take] at this
    simp only [Nat.mul_one] at this ⊢
    rw [show min n (n + k) = n by omega] at this
    rw [this, ← hn, List.take_left']
    rfl
/-- A list that is grown from one of the shards' lists: it lies where that one lies, or apart from all. -/
structure Gw (w : World) (N : Nat) (V : Nat → Value) (R : Nat → List Int) (p k : Nat) (u : Value) (wr : World) : Prop where
  rw : Rw w N V R wr
  own : wr.ownsRow (w.heap.size + 1) 22 1 u ((R p).length + k) ((R p).map (Value.int .u64) ++ List.replicate k (.int .u64 7))
  lies : (∃ b cap, V p = .slice (some ⟨b, 0, none⟩) (R p).length cap ∧ u = .slice (some ⟨b, 0, none⟩) ((R p).length + k) cap) ∨ ∀ q, q < N → (V q).ownBlock = none ∨ (V q).ownBlock ≠ u.ownBlock
theorem Gw.start {w wr : World} {N : Nat} {V : Nat → Value} {R : Nat → List Int} (h : Rw w N V R wr) {p : Nat} (hp : p < N) : Gw w N V R p 0 (V p) wr := by
  refine ⟨h, by simpa using h.own p hp, ?_⟩
  rcases id (h.own p hp) with ⟨_, ⟨h1, h2⟩ | ⟨g, cap, cur, hv, _⟩⟩
  · right
    intro q hq
    rw [h1]
    cases e : (V q).ownBlock with
    | none => exact .inl rfl
    | some j => exact .inr (by simp [Value.ownBlock])
  · exact .inl ⟨g, cap, hv, hv⟩
theorem Gw.step {w wr w1 : World} {N : Nat} {V : Nat → Value} {R : Nat → List Int} {p k : Nat} {u v' : Value} {o : Obj} (h : Gw w N V R p k u wr) (hp : p < N)
    (hown : w1.ownsRow (w.heap.size + 1) 22 1 v' ((R p).length + k + 1) (((R p).map (Value.int .u64) ++ List.replicate k (.int .u64 7)) ++ [.int .u64 7])) (hg : (wr.alloc o).grownBy w1 u.ownBlock)
    (hl : (∃ g cap, u = .slice (some ⟨g, 0, none⟩) ((R p).length + k) cap ∧ v' = .slice (some ⟨g, 0, none⟩) ((R p).length + k + 1) cap) ∨ ((wr.alloc o).grownBy w1 none ∧ v'.ownBlock = some (wr.alloc o).heap.size)) :
    Gw w N V R p (k + 1) v' w1 := by
  have hR := h.rw
  have hs := hR.g.size
  have hlt := hR.out.lt
  have hub : ∀ j, u.ownBlock = some j → w.heap.size + 1 ≤ j := fun j hj => (h.own.lt j hj).1
  have hown' : w1.ownsRow (w.heap.size + 1) 22 1 v' ((R p).length + (k + 1)) ((R p).map (Value.int .u64) ++ List.replicate (k + 1) (.int .u64 7)) := by
    rw [List.replicate_succ', ← List.append_assoc, ← Nat.add_assoc]; exact hown
  have hrow : w1.rowIs w.heap.size 26 N V := by
    refine hR.out.of_block ?_
    rw [hg.block w.heap.size (by simp; omega) (fun e => by have := hub _ e.symm; omega)]
    exact blk_alloc_lt _ _ _ hlt
  have hbe : Below w.heap.size w w1 := (hR.g.alloc (by omega) o).grown hg (by simp; omega) (fun j hj => by have := hub j hj; omega)
  have hrows : ∀ q, q < N → w1.ownsRow (w.heap.size + 1) 22 1 (V q) (R q).length ((R q).map (Value.int .u64)) := fun q hq => by
    rcases h.lies with ⟨b, cap, e1, e2⟩ | hap
    · by_cases e : q = p
      · subst e
        rcases hl with ⟨g, cap', e3, e4⟩ | ⟨hgn, _⟩
        · rw [e2] at e3
          injection e3 with f1 _ f3
          injection f1 with f1
          injection f1 with f1
          subst f1 f3
          rw [e1]
          rw [e4] at hown'
          exact own_prefix hown' (by simp)
        · exact ((hR.own q hq).alloc o).kept hgn (.inr (by intro e; rw [e1] at e; cases e))
      · refine ((hR.own q hq).alloc o).kept hg ?_
        have := hR.two q p hq hp e
        rw [e1] at this
        rw [e2]
        exact this
    · exact ((hR.own q hq).alloc o).kept hg (hap q hq)
  refine ⟨⟨hbe, hrow, hrows, hR.two⟩, hown', ?_⟩
  rcases hl with ⟨g, cap', e3, e4⟩ | ⟨_, hb⟩
  · rcases h.lies with ⟨b, cap, e1, e2⟩ | hap
    · left
      rw [e2] at e3
      injection e3 with f1 _ f3
      injection f1 with f1
      injection f1 with f1
      subst f1 f3
      exact ⟨b, cap, e1, e4⟩
    · right
      intro q hq
      rw [e4]
      have := hap q hq
      rw [e3] at this
      exact this
  · right
    intro q hq
    rw [hb]
    cases e : (V q).ownBlock with
    | none => exact .inl rfl
    | some j =>
      right
      intro e2
      have e2 : j = (wr.alloc o).heap.size := Option.some.inj e2
      have := ((hR.own q hq).lt j e).2
      simp at e2
      omega
end Go.Proofs.Ytndnhmgfapcgfaa
