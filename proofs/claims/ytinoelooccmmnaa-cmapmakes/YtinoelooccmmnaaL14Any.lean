
/-
  The document's LRU of layer 14: Do, whatever comes, and what it keeps. Condition: it lies where the pointer says, its rows are the call's own.
-/
import Derived.Test.YtinoelooccmmnaaL14DoB
import Derived.Test.YtinoelooccmmnaaL14DoC
import Derived.Test.YtinoelooccmmnaaL14DoD
import Derived.Test.YtinoelooccmmnaaL14DoE
import Derived.Test.YtinoelooccmmnaaL14Order
import Derived.Test.YtinoelooccmmnaaB13Same
import Derived.Test.YtinoelooccmmnaaL14Laws
namespace Go.Proofs.Ytinoelooccmmnaa
open Go.RowKit
set_option linter.unusedVariables false
set_option linter.unusedSimpArgs false
set_option maxRecDepth 100000

/-- The document's LRU, plain: its book's list, its keys with their touches, its clock. -/
structure Lt where
  D : List Pp
  kt : List Kp
  c : Nat
/-- Is a key driven out. -/
def evB (cap : Nat) (s : Lt) (op key : Int) : Bool := decide (op = 2 ∨ op = 4) && !hasP key s.D && decide (s.D.length = cap)
/-- Is the key touched. -/
def tchB (s : Lt) (op key : Int) : Bool := decide (op = 2 ∨ op = 4) || (decide (op = 0) && hasP key s.D)
def oldT (s : Lt) : Int := (s.kt.getD 0 Kp.nil).k
/-- Behind what is driven out. -/
def outS (cap : Nat) (s : Lt) (op key : Int) : Lt := if evB cap s op key = true then ⟨s.D.eraseIdx (posP (oldT s) s.D), forgetT (oldT s) s.kt, s.c⟩ else s
def ktT (cap : Nat) (s : Lt) (op key : Int) : List Kp :=
  if tchB s op key = true then forgetT key (outS cap s op key).kt ++ [(⟨key, (s.c : Int) + 1⟩ : Kp)]
  else if op = 3 then forgetT key (outS cap s op key).kt
  else (outS cap s op key).kt
def doT (cap : Nat) (s : Lt) (op key val : Int) : Rq × Lt :=
  (⟨(doP cap (outS cap s op key).D op key val).1.E, (doP cap (outS cap s op key).D op key val).1.f, (doP cap (outS cap s op key).D op key val).1.v, evB cap s op key, if evB cap s op key = true then oldT s else 0, if evB cap s op key = true then valP (oldT s) s.D else 0⟩,
   ⟨(doP cap (outS cap s op key).D op key val).2, ktT cap s op key, if tchB s op key = true then s.c + 1 else s.c⟩)
section
variable {w : World} {B l b cap : Nat} {vd vk vw : Value} {s : Lt}
/-- The document's Do is doT. -/
theorem rldo_any (op key val : Int) (h : Rl w B l b cap vd vk vw s.D s.kt s.c) (hl : s.D.length ≤ cap) (hc16 : cap ≤ 16) (hk : s.kt.length ≤ 4000) (hc : s.c ≤ 4000) (hT : Ris s.kt) (hk0 : s.D.length = cap → 0 < s.kt.length) (hB : B ≤ w.heap.size) :
    Calls Try.prog 31 #[.pointer (some ⟨l, 0, none⟩), .int .i64 op, .int .u64 key, .int .u64 val] w fun e w' => e = .returned (resG (doT cap s op key val).1.E (doT cap s op key val).1.f (doT cap s op key val).1.v (doT cap s op key val).1.o (doT cap s op key val).1.k (doT cap s op key val).1.u) ∧ RlNext w B l b cap vd vk vw (doT cap s op key val).2.D (doT cap s op key val).2.kt (doT cap s op key val).2.c w' := by
  have hc0 : (0 : Int) ≤ (s.c : Int) ∧ (s.c : Int) ≤ 4000 := by omega
  have plain : ∀ (T : Bool), evB cap s op key = false → tchB s op key = T → doT cap s op key val = (⟨(doP cap s.D op key val).1.E, (doP cap s.D op key val).1.f, (doP cap s.D op key val).1.v, false, 0, 0⟩, ⟨(doP cap s.D op key val).2, if T = true then forgetT key s.kt ++ [(⟨key, (s.c : Int) + 1⟩ : Kp)] else if op = 3 then forgetT key s.kt else s.kt, if T = true then s.c + 1 else s.c⟩) := by
    intro T he ht
    unfold doT ktT outS
    rw [he, ht]
    rfl
  by_cases h24 : op = 2 ∨ op = 4
  · have ht : tchB s op key = true := by unfold tchB; rw [decide_eq_true h24]; rfl
    cases hh : hasP key s.D with
    | true =>
      have he : evB cap s op key = false := by unfold evB; rw [hh]; simp
      rw [plain true he ht]
      simp only [if_true]
      rcases h24 with rfl | rfl
      · exact rldo_put_has key val h (by omega) hk hc0 hB hh
      · exact rldo_add_has key val h (by omega) hk hc0 hB hh
    | false =>
      by_cases hf : s.D.length = cap
      · have he : evB cap s op key = true := by unfold evB; rw [hh, decide_eq_true h24, decide_eq_true hf]; rfl
        have hd : doT cap s op key val = (⟨(doP cap (s.D.eraseIdx (posP (oldT s) s.D)) op key val).1.E, (doP cap (s.D.eraseIdx (posP (oldT s) s.D)) op key val).1.f, (doP cap (s.D.eraseIdx (posP (oldT s) s.D)) op key val).1.v, true, oldT s, valP (oldT s) s.D⟩, ⟨(doP cap (s.D.eraseIdx (posP (oldT s) s.D)) op key val).2, forgetT key (forgetT (oldT s) s.kt) ++ [(⟨key, (s.c : Int) + 1⟩ : Kp)], s.c + 1⟩) := by
          unfold doT ktT outS
          rw [he, ht]
          rfl
        rw [hd]
        have htm : ∀ j, j < s.kt.length → (s.kt.getD 0 Kp.nil).t ≤ (s.kt.getD j Kp.nil).t := by
          intro j hj
          rcases Nat.eq_zero_or_pos j with g | g
          · rw [g]; exact Int.le_refl _
          · have := List.pairwise_iff_getElem.1 hT 0 j (by omega) hj g
            rw [List.getD_eq_getElem?_getD, List.getD_eq_getElem?_getD, List.getElem?_eq_getElem (by omega), List.getElem?_eq_getElem hj]
            exact Int.le_of_lt this
        rcases h24 with rfl | rfl
        · exact rldo_put_full key val h (by omega) hk hc0 hB hh hf (hk0 hf) htm rfl rfl rfl rfl rfl
        · exact rldo_add_full key val h (by omega) hk hc0 hB hh hf (hk0 hf) htm rfl rfl rfl rfl rfl
      · have he : evB cap s op key = false := by unfold evB; rw [decide_eq_false hf, Bool.and_false]
        rw [plain true he ht]
        simp only [if_true]
        rcases h24 with rfl | rfl
        · exact rldo_put_room key val h (by omega) hk hc0 hB hh (by omega)
        · exact rldo_add_room key val h (by omega) hk hc0 hB hh (by omega)
  · have he : evB cap s op key = false := by unfold evB; rw [decide_eq_false h24]; rfl
    by_cases h0 : op = 0
    · subst h0
      cases hh : hasP key s.D with
      | true =>
        have ht : tchB s 0 key = true := by unfold tchB; rw [hh]; rfl
        rw [plain true he ht]
        simp only [if_true]
        exact rldo_get_yes key val h (by omega) hk hc0 hB hh
      | false =>
        have ht : tchB s 0 key = false := by unfold tchB; rw [hh]; rfl
        rw [plain false he ht]
        exact rldo_get_no key val h (by omega) hk hc0 hB hh
    · have ht : tchB s op key = false := by unfold tchB; rw [decide_eq_false h24, decide_eq_false h0]; rfl
      rw [plain false he ht]
      by_cases h3 : op = 3
      · subst h3
        exact rldo_del key val h (by omega) hk hc0 hB
      · have e3 : (if false = true then forgetT key s.kt ++ [(⟨key, (s.c : Int) + 1⟩ : Kp)] else if op = 3 then forgetT key s.kt else s.kt) = s.kt := by rw [if_neg (by decide), if_neg h3]
        rw [e3]
        exact rldo_odd op ⟨h0, fun e => h24 (.inl e), h3, fun e => h24 (.inr e)⟩ key val h (by omega) hk hc0 hB
end
end Go.Proofs.Ytinoelooccmmnaa
