
/-
  Many objects in memory, each with its blocks, apart from one another. No Go text in sight.
-/
import Derived.Test.YtpbfgebecgikjaaGObj
namespace Go.Proofs.Ytpbfgebecgikjaa
open Go.RowKit
set_option linter.unusedVariables false
set_option linter.unusedSimpArgs false

def upd {α : Type} (F : Nat → α) (i : Nat) (G : α) : Nat → α := fun j => if j = i then G else F j
theorem upd_same {α : Type} (F : Nat → α) (i : Nat) (G : α) : upd F i G i = G := by unfold upd; rw [if_pos rfl]
theorem upd_other {α : Type} (F : Nat → α) {i j : Nat} (G : α) (h : j ≠ i) : upd F i G j = F j := by unfold upd; rw [if_neg h]
/-- The blocks of all. -/
def unF (n : Nat) (F : Nat → Ft) : Ft := fun k => ∃ i, i < n ∧ F i k
structure Fam (P : World → Nat → Ft → Prop) (w : World) (n : Nat) (F : Nat → Ft) : Prop where
  ob : ∀ i, i < n → P w i (F i)
  li : ∀ i, i < n → Lies w (F i)
  ap : ∀ i j, i < n → j < n → i ≠ j → Apt (F i) (F j)
section
variable {P P' : World → Nat → Ft → Prop} {w w' : World} {n i : Nat} {F : Nat → Ft} {G : Ft}
/-- One of them goes a step. -/
theorem Fam.step (h : Fam P w n F) (hi : i < n) (hn : Nx w w' (F i) G) (hG : Lies w' G) (hP : P' w' i G) (hk : ∀ j, j < n → j ≠ i → P w j (F j) → Apt (F i) (F j) → P' w' j (F j)) : Fam P' w' n (upd F i G) := by
  refine ⟨fun j hj => ?_, fun j hj => ?_, fun j k hj hk' hne => ?_⟩
  · by_cases e : j = i
    · subst e; rw [upd_same]; exact hP
    · rw [upd_other F G e]; exact hk j hj e (h.ob j hj) (h.ap i j hi hj (fun e' => e e'.symm))
  · by_cases e : j = i
    · subst e; rw [upd_same]; exact hG
    · rw [upd_other F G e]; exact (h.li j hj).chg hn.chg
  · by_cases e : j = i
    · subst e
      rw [upd_same, upd_other F G (fun e => hne e.symm)]
      exact (h.ap j k hj hk' hne).next (h.li k hk') hn
    · rw [upd_other F G e]
      by_cases e2 : k = i
      · subst e2
        rw [upd_same]
        exact ((h.ap k j hk' hj (fun e => hne e.symm)).next (h.li j hj) hn).symm
      · rw [upd_other F G e2]; exact h.ap j k hj hk' hne
/-- All of them stay. -/
theorem Fam.keeps (h : Fam P w n F) {S : Ft} (hc : Chg w w' S) (hk : ∀ j, j < n → P w j (F j) → P' w' j (F j)) : Fam P' w' n F := ⟨fun j hj => hk j hj (h.ob j hj), fun j hj => (h.li j hj).chg hc, h.ap⟩
/-- One more, that was made anew. -/
theorem Fam.more (h : Fam P w n F) (hz : w.heap.size ≤ w'.heap.size) (hs : Since w G) (hG : Lies w' G) (hP : P' w' n G) (hk : ∀ j, j < n → P w j (F j) → P' w' j (F j)) : Fam P' w' (n + 1) (upd F n G) := by
  refine ⟨fun j hj => ?_, fun j hj => ?_, fun j k hj hk' hne => ?_⟩
  · by_cases e : j = n
    · subst e; rw [upd_same]; exact hP
    · rw [upd_other F G e]; exact hk j (by omega) (h.ob j (by omega))
  · by_cases e : j = n
    · subst e; rw [upd_same]; exact hG
    · rw [upd_other F G e]; exact fun k hk => Nat.lt_of_lt_of_le (h.li j (by omega) k hk) hz
  · by_cases e : j = n
    · subst e
      rw [upd_same, upd_other F G (fun e => hne e.symm)]
      exact (Apt.made (h.li k (by omega)) hs).symm
    · rw [upd_other F G e]
      by_cases e2 : k = n
      · subst e2
        rw [upd_same]
        exact Apt.made (h.li j (by omega)) hs
      · rw [upd_other F G e2]; exact h.ap j k (by omega) (by omega) hne
theorem Fam.nil : Fam P w 0 F := ⟨fun i h => by omega, fun i h => by omega, fun i j h => by omega⟩
theorem Nx.fam (hi : i < n) (hn : Nx w w' (F i) G) : Nx w w' (unF n F) (unF n (upd F i G)) := by
  refine ⟨hn.chg.mono (fun k hk => ⟨i, hi, hk⟩), fun k hk => ?_⟩
  obtain ⟨j, hj, hk⟩ := hk
  by_cases e : j = i
  · subst e
    rw [upd_same] at hk
    rcases hn.new k hk with g | g
    · exact .inl ⟨j, hj, g⟩
    · exact .inr g
  · rw [upd_other F G e] at hk
    exact .inl ⟨j, hj, hk⟩
end
/-- A row of one's own lies at a block that is known whole. -/
theorem own_hpC {w : World} {B : Nat} {e : TypeId} {z : Nat} {v : Value} {n : Nat} {xs : List Value} (h : w.ownsRow B e z v n xs) {k : Nat} (hk : v.ownBlock = some k) : ∃ cs, Hp w k e cs := by
  rcases h with ⟨_, ⟨rfl, _⟩ | ⟨g, cap, cur, rfl, _, hh, _⟩⟩
  · cases hk
  · have e1 : g = k := Option.some.inj hk
    subst e1
    exact ⟨cur.toList, by unfold Hp; rw [hh]⟩
end Go.Proofs.Ytpbfgebecgikjaa
