/-
  L14Order B13Same L14Any L14Plain L14Obj C15Doc C15DocM O22DA O22DB O22DC O22DD, joined.
-/
import Derived.Test.YtpbfgebecgikjaaL14Touch
import Derived.Test.YtpbfgebecgikjaaB13Alg
import Derived.Test.YtpbfgebecgikjaaL14DoB
import Derived.Test.YtpbfgebecgikjaaL14DoC
import Derived.Test.YtpbfgebecgikjaaL14DoD
import Derived.Test.YtpbfgebecgikjaaL14DoE
import Derived.Test.YtpbfgebecgikjaaL14Laws
import Derived.Test.YtpbfgebecgikjaaGObj
import Derived.Test.YtpbfgebecgikjaaW14Kit
import Derived.Test.YtpbfgebecgikjaaC15Plain
import Derived.Test.YtpbfgebecgikjaaC15Fam
import Derived.Test.YtpbfgebecgikjaaTk
import Derived.Test.YtpbfgebecgikjaaO22Kit
import Derived.Test.YtpbfgebecgikjaaP12Of
import Derived.Test.YtpbfgebecgikjaaO22New
namespace Go.Proofs.Ytpbfgebecgikjaa
open Go.RowKit
set_option linter.unusedVariables false
set_option linter.unusedSimpArgs false
set_option maxRecDepth 100000

/-- Touches rise. -/
def Ris (kt : List Kp) : Prop := kt.Pairwise (fun p q => p.t < q.t)
/-- What was touched behind a time, the last first. -/
def outT (kt : List Kp) (n : Nat) : List Kp := (kt.filter (fun p => decide ((n : Int) < p.t))).reverse
def atT (kt : List Kp) (n : Nat) : List Kp := kt.filter (fun p => decide (p.t = (n : Int)))
theorem out_step {kt : List Kp} (h : Ris kt) (n : Nat) : outT kt n = outT kt (n + 1) ++ atT kt (n + 1) := by
  have key : kt.filter (fun p => decide ((n : Int) < p.t)) = (atT kt (n + 1)).reverse ++ kt.filter (fun p => decide (((n + 1 : Nat) : Int) < p.t)) := by
    unfold atT
    induction kt with
    | nil => rfl
    | cons p l ih =>
      obtain ⟨hp, hl⟩ := List.pairwise_cons.1 h
      have ih := ih hl
      rcases Int.lt_trichotomy p.t ((n + 1 : Nat) : Int) with g | g | g
      · rw [List.filter_cons_of_neg (by simp; omega), List.filter_cons_of_neg (by simp; omega), List.filter_cons_of_neg (by simp; omega)]
        exact ih
      · have hall : ∀ q ∈ l, ((n + 1 : Nat) : Int) < q.t := fun q hq => by have := hp q hq; omega
        have e1 : l.filter (fun p => decide ((n : Int) < p.t)) = l := List.filter_eq_self.2 (fun q hq => by have := hall q hq; simp; omega)
        have e2 : l.filter (fun p => decide (p.t = ((n + 1 : Nat) : Int))) = [] := List.filter_eq_nil_iff.2 (fun q hq => by have := hall q hq; simp; omega)
        have e3 : l.filter (fun p => decide (((n + 1 : Nat) : Int) < p.t)) = l := List.filter_eq_self.2 (fun q hq => by have := hall q hq; simpa using this)
        rw [List.filter_cons_of_pos (by simp; omega), List.filter_cons_of_pos (by simpa using g), List.filter_cons_of_neg (by simp; omega), e1, e2, e3]
        rfl
      · have hall : ∀ q ∈ p :: l, ((n + 1 : Nat) : Int) < q.t := fun q hq => by
          rcases List.mem_cons.1 hq with e | e
          · rw [e]; exact g
          · have := hp q e; omega
        have e1 : (p :: l).filter (fun p => decide ((n : Int) < p.t)) = p :: l := List.filter_eq_self.2 (fun q hq => by have := hall q hq; simp; omega)
        have e2 : (p :: l).filter (fun p => decide (p.t = ((n + 1 : Nat) : Int))) = [] := List.filter_eq_nil_iff.2 (fun q hq => by have := hall q hq; simp; omega)
        have e3 : (p :: l).filter (fun p => decide (((n + 1 : Nat) : Int) < p.t)) = p :: l := List.filter_eq_self.2 (fun q hq => by have := hall q hq; simpa using this)
        rw [e1, e2, e3]
        rfl
  unfold outT
  rw [key, List.reverse_append, List.reverse_reverse]
theorem out_none {kt : List Kp} {n : Nat} (h : ∀ p ∈ kt, p.t ≤ n) : outT kt n = [] := by
  unfold outT
  rw [List.filter_eq_nil_iff.2 (fun q hq => by have := h q hq; simp; omega)]
  rfl
theorem out_all {kt : List Kp} (h : ∀ p ∈ kt, 1 ≤ p.t) : outT kt 0 = kt.reverse := by
  unfold outT
  rw [List.filter_eq_self.2 (fun q hq => by have := h q hq; simp; omega)]
theorem out_full {kt : List Kp} {n : Nat} (h : kt.length ≤ (outT kt n).length) : outT kt n = kt.reverse := by
  unfold outT at h ⊢
  rw [List.length_reverse] at h
  have h1 := List.length_filter_le (fun p : Kp => decide ((n : Int) < p.t)) kt
  have h2 : (kt.filter (fun p => decide ((n : Int) < p.t))).length = kt.length := by omega
  rw [List.filter_eq_self.2 (List.length_filter_eq_length_iff.1 h2)]
theorem out_le (kt : List Kp) (n : Nat) : (outT kt n).length ≤ kt.length := by
  unfold outT
  rw [List.length_reverse]
  exact List.length_filter_le _ _
theorem at_more {kt : List Kp} {n j : Nat} (hj : j < kt.length) : atT (kt.take (j + 1)) n = atT (kt.take j) n ++ (if (kt.getD j Kp.nil).t = (n : Int) then [kt.getD j Kp.nil] else []) := by
  unfold atT
  rw [take_moreK hj, List.filter_append]
  congr 1
  by_cases e : (kt.getD j Kp.nil).t = (n : Int)
  · rw [if_pos e, List.filter_cons_of_pos (by simpa using e)]
    rfl
  · rw [if_neg e, List.filter_cons_of_neg (by simpa using e)]
    rfl
theorem at_le (kt : List Kp) (n : Nat) : (atT kt n).length ≤ kt.length := List.length_filter_le _ _
section
variable {w : World} {B l b cap : Nat} {vd vk vw : Value} {D : List Pp} {kt : List Kp} {c : Nat}
end
end Go.Proofs.Ytpbfgebecgikjaa
namespace Go.Proofs.Ytpbfgebecgikjaa
set_option linter.unusedVariables false
set_option linter.unusedSimpArgs false

section
variable {key x : Int} {A R D : List Pp}
theorem pos_split {D : List Pp} (h : posP key D < D.length) : ∃ T U y, D = T ++ ⟨key, y⟩ :: U ∧ posP key D = T.length ∧ valP key D = y := by
  have hk := posP_at h
  refine ⟨D.take (posP key D), D.drop (posP key D + 1), (D.getD (posP key D) Pp.nil).v, ?_, by rw [List.length_take]; omega, rfl⟩
  have e : ∀ q : Pp, q.k = key → (⟨key, q.v⟩ : Pp) = q := fun q hq => by cases q; simp only at hq; rw [hq]
  rw [e _ hk, List.getD_eq_getElem?_getD, List.getElem?_eq_getElem h]
  simp
/-- The key isn't there. -/
theorem doc_no (hA : Lo key A) (hR : Hi key R) (hp : (A ++ R).Perm D) : hasP key D = false ∧ valP key D = 0 ∧ posP key D = D.length := by
  have hn : posP key D = D.length := posP_none (fun i hi => by
    have hm : D.getD i Pp.nil ∈ A ++ R := hp.mem_iff.2 (by rw [List.getD_eq_getElem?_getD, List.getElem?_eq_getElem hi]; exact List.getElem_mem hi)
    rcases List.mem_append.1 hm with g | g
    · have := hA _ g; omega
    · have := hR _ g; omega)
  refine ⟨?_, ?_, hn⟩
  · rw [hasP, hn]; simp
  · rw [valP, hn]; simp [Pp.nil]
/-- The key is there. -/
theorem doc_yes (hA : Lo key A) (hR : Hi key R) (hp : (A ++ ⟨key, x⟩ :: R).Perm D) : hasP key D = true ∧ valP key D = x ∧ (∀ y, (A ++ ⟨key, y⟩ :: R).Perm (D.set (posP key D) ⟨key, y⟩)) ∧ (A ++ R).Perm (D.eraseIdx (posP key D)) := by
  have hlt : posP key D < D.length := by
    rcases Nat.lt_or_ge (posP key D) D.length with g | g
    · exact g
    · exact absurd rfl (posP_no (key := key) (by omega) ⟨key, x⟩ (hp.mem_iff.1 (by simp)))
  obtain ⟨T, U, y, e1, e2, e3⟩ := pos_split hlt
  have hy : y = x := by
    have hm : (⟨key, y⟩ : Pp) ∈ A ++ ⟨key, x⟩ :: R := hp.mem_iff.2 (by rw [e1]; simp)
    rcases List.mem_append.1 hm with g | g
    · have := hA _ g
      simp at this
    · rcases List.mem_cons.1 g with g | g
      · injection g
      · have := hR _ g
        simp at this
  subst hy
  have hc : (A ++ R).Perm (T ++ U) := by
    have h0 : (A ++ (⟨key, y⟩ : Pp) :: R).Perm (T ++ ⟨key, y⟩ :: U) := by rw [← e1]; exact hp
    have h1 : ((⟨key, y⟩ : Pp) :: (A ++ R)).Perm (⟨key, y⟩ :: (T ++ U)) := (List.perm_middle.symm.trans h0).trans List.perm_middle
    exact h1.cons_inv
  refine ⟨by rw [hasP]; exact decide_eq_true hlt, e3, fun z => ?_, ?_⟩
  · rw [e2]
    have : D.set T.length ⟨key, z⟩ = T ++ ⟨key, z⟩ :: U := by
      rw [e1, List.set_append_right _ _ (Nat.le_refl _)]
      simp
    rw [this]
    exact (List.perm_middle.trans (List.Perm.cons _ hc)).trans List.perm_middle.symm
  · rw [e2]
    have : D.eraseIdx T.length = T ++ U := by
      rw [e1, List.eraseIdx_append_of_length_le (Nat.le_refl _)]
      simp
    rw [this]
    exact hc
end
/-- They answer alike, and hold the same pairs behind it. -/
theorem do_same {cap : Nat} {S D : List Pp} (hs : Srt S) (hp : S.Perm D) (op key val : Int) : (doS cap S op key val).1 = (doP cap D op key val).1 ∧ (doS cap S op key val).2.Perm (doP cap D op key val).2 := by
  have hl := hp.length_eq
  obtain ⟨A, R, hA, hR, _, hL⟩ := srt_part hs key
  rcases hL with rfl | ⟨x, rfl⟩
  · obtain ⟨e1, e2, e3⟩ := doc_no hA hR hp
    have hee : D.eraseIdx D.length = D := List.eraseIdx_of_length_le (Nat.le_refl _)
    have set : ∀ y z, (setS cap (A ++ R) ⟨key, y⟩ z) = if cap ≤ D.length then (⟨40, false, 0⟩, A ++ R) else (⟨0, false, z⟩, A ++ ⟨key, y⟩ :: R) := by
      intro y z
      by_cases hc : cap ≤ D.length
      · rw [if_pos hc, set_full hA hR _ _ (by omega)]
      · rw [if_neg hc, set_new hA hR _ _ (by omega)]
    have hmore : ∀ y, (A ++ ⟨key, y⟩ :: R).Perm (D ++ [⟨key, y⟩]) := fun y => (List.perm_middle.trans (List.Perm.cons _ hp)).trans (show ([(⟨key, y⟩ : Pp)] ++ D).Perm (D ++ [⟨key, y⟩]) from List.perm_append_comm)
    unfold doS doP
    rw [hit_no hA hR, had_no hA hR, drop_no hA hR, e1, e2, e3, hee, set, set]
    by_cases h0 : op = 0
    · rw [if_pos h0, if_pos h0]; exact ⟨rfl, hp⟩
    by_cases h1 : op = 1
    · rw [if_neg h0, if_pos h1, if_neg h0, if_pos h1]; exact ⟨rfl, hp⟩
    by_cases h2 : op = 2
    · rw [if_neg h0, if_neg h1, if_pos h2, if_neg h0, if_neg h1, if_pos (Or.inl h2)]
      by_cases hc : cap ≤ D.length
      · rw [if_pos hc, if_pos ⟨rfl, hc⟩]; exact ⟨rfl, hp⟩
      · rw [if_neg hc, if_neg (fun e => hc e.2), if_neg (by omega), if_neg (by decide)]; exact ⟨rfl, hmore _⟩
    by_cases h3 : op = 3
    · rw [if_neg h0, if_neg h1, if_neg h2, if_pos h3, if_neg h0, if_neg h1, if_neg (by omega), if_pos h3]; exact ⟨rfl, hp⟩
    by_cases h4 : op = 4
    · rw [if_neg h0, if_neg h1, if_neg h2, if_neg h3, if_pos h4, if_neg h0, if_neg h1, if_pos (Or.inr h4)]
      by_cases hc : cap ≤ D.length
      · rw [if_pos hc, if_pos ⟨rfl, hc⟩]; exact ⟨rfl, hp⟩
      · rw [if_neg hc, if_neg (fun e => hc e.2), if_pos h4, if_neg (by decide)]; exact ⟨rfl, hmore _⟩
    · rw [if_neg h0, if_neg h1, if_neg h2, if_neg h3, if_neg h4, if_neg h0, if_neg h1, if_neg (by omega), if_neg h3]; exact ⟨rfl, hp⟩
  · obtain ⟨e1, e2, e3, e4⟩ := doc_yes hA hR hp
    unfold doS doP
    rw [hit_yes hA hR, had_yes hA hR, drop_yes hA hR, e1, e2, set_yes hA hR, set_yes hA hR]
    by_cases h0 : op = 0
    · rw [if_pos h0, if_pos h0]; exact ⟨rfl, hp⟩
    by_cases h1 : op = 1
    · rw [if_neg h0, if_pos h1, if_neg h0, if_pos h1]; exact ⟨rfl, hp⟩
    by_cases h2 : op = 2
    · rw [if_neg h0, if_neg h1, if_pos h2, if_neg h0, if_neg h1, if_pos (Or.inl h2), if_neg (fun e => by cases e.1), if_neg (by omega), if_pos rfl]; exact ⟨rfl, e3 _⟩
    by_cases h3 : op = 3
    · rw [if_neg h0, if_neg h1, if_neg h2, if_pos h3, if_neg h0, if_neg h1, if_neg (by omega), if_pos h3]; exact ⟨rfl, e4⟩
    by_cases h4 : op = 4
    · rw [if_neg h0, if_neg h1, if_neg h2, if_neg h3, if_pos h4, if_neg h0, if_neg h1, if_pos (Or.inr h4), if_neg (fun e => by cases e.1), if_pos h4, if_pos rfl]; exact ⟨rfl, e3 _⟩
    · rw [if_neg h0, if_neg h1, if_neg h2, if_neg h3, if_neg h4, if_neg h0, if_neg h1, if_neg (by omega), if_neg h3]; exact ⟨rfl, hp⟩
end Go.Proofs.Ytpbfgebecgikjaa
namespace Go.Proofs.Ytpbfgebecgikjaa
open Go.RowKit
set_option linter.unusedVariables false
set_option linter.unusedSimpArgs false
set_option maxRecDepth 100000

/-- The document's LRU, plain: its book's list, its keys with their touches, its clock. -/
structure Lt where
  D : List Pp
  kt : List Kp
  c : Nat
/-- Is a key driven out. -/
def evB (cap : Nat) (s : Lt) (op key : Int) : Bool := decide (op = 2 ∨ op = 4) && !hasP key s.D && decide (s.D.length = cap)
/-- Is the key touched. -/
def tchB (s : Lt) (op key : Int) : Bool := decide (op = 2 ∨ op = 4) || (decide (op = 0) && hasP key s.D)
def oldT (s : Lt) : Int := (s.kt.getD 0 Kp.nil).k
/-- Behind what is driven out. -/
def outS (cap : Nat) (s : Lt) (op key : Int) : Lt := if evB cap s op key = true then ⟨s.D.eraseIdx (posP (oldT s) s.D), forgetT (oldT s) s.kt, s.c⟩ else s
def ktT (cap : Nat) (s : Lt) (op key : Int) : List Kp :=
  if tchB s op key = true then forgetT key (outS cap s op key).kt ++ [(⟨key, (s.c : Int) + 1⟩ : Kp)]
  else if op = 3 then forgetT key (outS cap s op key).kt
  else (outS cap s op key).kt
def doT (cap : Nat) (s : Lt) (op key val : Int) : Rq × Lt :=
  (⟨(doP cap (outS cap s op key).D op key val).1.E, (doP cap (outS cap s op key).D op key val).1.f, (doP cap (outS cap s op key).D op key val).1.v, evB cap s op key, if evB cap s op key = true then oldT s else 0, if evB cap s op key = true then valP (oldT s) s.D else 0⟩,
   ⟨(doP cap (outS cap s op key).D op key val).2, ktT cap s op key, if tchB s op key = true then s.c + 1 else s.c⟩)
section
variable {w : World} {B l b cap : Nat} {vd vk vw : Value} {s : Lt}
/-- The document's Do is doT. -/
theorem rldo_any (op key val : Int) (h : Rl w B l b cap vd vk vw s.D s.kt s.c) (hl : s.D.length ≤ cap) (hc16 : cap ≤ 16) (hk : s.kt.length ≤ 4000) (hc : s.c ≤ 4000) (hT : Ris s.kt) (hk0 : s.D.length = cap → 0 < s.kt.length) (hB : B ≤ w.heap.size) :
    Calls Try.prog 36 #[.pointer (some ⟨l, 0, none⟩), .int .i64 op, .int .u64 key, .int .u64 val] w fun e w' => e = .returned (resG (doT cap s op key val).1.E (doT cap s op key val).1.f (doT cap s op key val).1.v (doT cap s op key val).1.o (doT cap s op key val).1.k (doT cap s op key val).1.u) ∧ RlNext w B l b cap vd vk vw (doT cap s op key val).2.D (doT cap s op key val).2.kt (doT cap s op key val).2.c w' := by
  have hc0 : (0 : Int) ≤ (s.c : Int) ∧ (s.c : Int) ≤ 4000 := by omega
  have plain : ∀ (T : Bool), evB cap s op key = false → tchB s op key = T → doT cap s op key val = (⟨(doP cap s.D op key val).1.E, (doP cap s.D op key val).1.f, (doP cap s.D op key val).1.v, false, 0, 0⟩, ⟨(doP cap s.D op key val).2, if T = true then forgetT key s.kt ++ [(⟨key, (s.c : Int) + 1⟩ : Kp)] else if op = 3 then forgetT key s.kt else s.kt, if T = true then s.c + 1 else s.c⟩) := by
    intro T he ht
    unfold doT ktT outS
    rw [he, ht]
    rfl
  by_cases h24 : op = 2 ∨ op = 4
  · have ht : tchB s op key = true := by unfold tchB; rw [decide_eq_true h24]; rfl
    cases hh : hasP key s.D with
    | true =>
      have he : evB cap s op key = false := by unfold evB; rw [hh]; simp
      rw [plain true he ht]
      simp only [if_true]
      rcases h24 with rfl | rfl
      · exact rldo_put_has key val h (by omega) hk hc0 hB hh
      · exact rldo_add_has key val h (by omega) hk hc0 hB hh
    | false =>
      by_cases hf : s.D.length = cap
      · have he : evB cap s op key = true := by unfold evB; rw [hh, decide_eq_true h24, decide_eq_true hf]; rfl
        have hd : doT cap s op key val = (⟨(doP cap (s.D.eraseIdx (posP (oldT s) s.D)) op key val).1.E, (doP cap (s.D.eraseIdx (posP (oldT s) s.D)) op key val).1.f, (doP cap (s.D.eraseIdx (posP (oldT s) s.D)) op key val).1.v, true, oldT s, valP (oldT s) s.D⟩, ⟨(doP cap (s.D.eraseIdx (posP (oldT s) s.D)) op key val).2, forgetT key (forgetT (oldT s) s.kt) ++ [(⟨key, (s.c : Int) + 1⟩ : Kp)], s.c + 1⟩) := by
          unfold doT ktT outS
          rw [he, ht]
          rfl
        rw [hd]
        have htm : ∀ j, j < s.kt.length → (s.kt.getD 0 Kp.nil).t ≤ (s.kt.getD j Kp.nil).t := by
          intro j hj
          rcases Nat.eq_zero_or_pos j with g | g
          · rw [g]; exact Int.le_refl _
          · have := List.pairwise_iff_getElem.1 hT 0 j (by omega) hj g
            rw [List.getD_eq_getElem?_getD, List.getD_eq_getElem?_getD, List.getElem?_eq_getElem (by omega), List.getElem?_eq_getElem hj]
            exact Int.le_of_lt this
        rcases h24 with rfl | rfl
        · exact rldo_put_full key val h (by omega) hk hc0 hB hh hf (hk0 hf) htm rfl rfl rfl rfl rfl
        · exact rldo_add_full key val h (by omega) hk hc0 hB hh hf (hk0 hf) htm rfl rfl rfl rfl rfl
      · have he : evB cap s op key = false := by unfold evB; rw [decide_eq_false hf, Bool.and_false]
        rw [plain true he ht]
        simp only [if_true]
        rcases h24 with rfl | rfl
        · exact rldo_put_room key val h (by omega) hk hc0 hB hh (by omega)
        · exact rldo_add_room key val h (by omega) hk hc0 hB hh (by omega)
  · have he : evB cap s op key = false := by unfold evB; rw [decide_eq_false h24]; rfl
    by_cases h0 : op = 0
    · subst h0
      cases hh : hasP key s.D with
      | true =>
        have ht : tchB s 0 key = true := by unfold tchB; rw [hh]; rfl
        rw [plain true he ht]
        simp only [if_true]
        exact rldo_get_yes key val h (by omega) hk hc0 hB hh
      | false =>
        have ht : tchB s 0 key = false := by unfold tchB; rw [hh]; rfl
        rw [plain false he ht]
        exact rldo_get_no key val h (by omega) hk hc0 hB hh
    · have ht : tchB s op key = false := by unfold tchB; rw [decide_eq_false h24, decide_eq_false h0]; rfl
      rw [plain false he ht]
      by_cases h3 : op = 3
      · subst h3
        exact rldo_del key val h (by omega) hk hc0 hB
      · have e3 : (if false = true then forgetT key s.kt ++ [(⟨key, (s.c : Int) + 1⟩ : Kp)] else if op = 3 then forgetT key s.kt else s.kt) = s.kt := by rw [if_neg (by decide), if_neg h3]
        rw [e3]
        exact rldo_odd op ⟨h0, fun e => h24 (.inl e), h3, fun e => h24 (.inr e)⟩ key val h (by omega) hk hc0 hB
end
end Go.Proofs.Ytpbfgebecgikjaa
namespace Go.Proofs.Ytpbfgebecgikjaa
set_option linter.unusedVariables false
set_option linter.unusedSimpArgs false

theorem ris_forget {kt : List Kp} (h : Ris kt) (key : Int) : Ris (forgetT key kt) := List.Pairwise.sublist List.filter_sublist h
theorem ris_more {kt : List Kp} {c : Nat} (h : Ris kt) (hb : ∀ p ∈ kt, 1 ≤ p.t ∧ p.t ≤ c) (key : Int) : Ris (kt ++ [(⟨key, (c : Int) + 1⟩ : Kp)]) :=
  List.pairwise_append.2 ⟨h, List.pairwise_cons.2 ⟨by simp, List.Pairwise.nil⟩, fun a ha b hb' => by
    rw [List.mem_singleton] at hb'
    rw [hb']
    have := (hb a ha).2
    show a.t < (c : Int) + 1
    omega⟩
/-- Touches rise, and none is behind the clock. -/
structure InvK (s : Lt) : Prop where
  ris : Ris s.kt
  bnd : ∀ p ∈ s.kt, 1 ≤ p.t ∧ p.t ≤ s.c
theorem InvK.forget {s : Lt} (h : InvK s) (key : Int) (D : List Pp) : InvK ⟨D, forgetT key s.kt, s.c⟩ := ⟨ris_forget h.ris key, fun p hp => h.bnd p (List.mem_filter.1 hp).1⟩
theorem InvK.out {cap : Nat} {s : Lt} (h : InvK s) (op key : Int) : InvK (outS cap s op key) := by
  unfold outS
  split
  · exact h.forget _ _
  · exact h
theorem outS_c (cap : Nat) (s : Lt) (op key : Int) : (outS cap s op key).c = s.c := by
  unfold outS
  split <;> rfl
theorem InvK.do {cap : Nat} {s : Lt} (h : InvK s) (op key val : Int) : InvK (doT cap s op key val).2 := by
  have ho := h.out (cap := cap) op key
  have hc := outS_c cap s op key
  unfold doT ktT
  cases ht : tchB s op key with
  | true =>
    simp only [if_true]
    have hf := ho.forget key []
    refine ⟨?_, fun p hp => ?_⟩
    · have hb : ∀ p ∈ forgetT key (outS cap s op key).kt, 1 ≤ p.t ∧ p.t ≤ s.c := fun p hp => by rw [← hc]; exact hf.bnd p hp
      exact ris_more hf.ris hb key
    · rcases List.mem_append.1 hp with g | g
      · have h1 := hf.bnd p g
        rw [show (⟨[], forgetT key (outS cap s op key).kt, (outS cap s op key).c⟩ : Lt).c = s.c from hc] at h1
        show 1 ≤ p.t ∧ p.t ≤ ((s.c + 1 : Nat) : Int)
        omega
      · rw [List.mem_singleton] at g
        rw [g]
        show 1 ≤ (s.c : Int) + 1 ∧ (s.c : Int) + 1 ≤ ((s.c + 1 : Nat) : Int)
        omega
  | false =>
    simp only [Bool.false_eq_true, if_false]
    split
    · have hf := ho.forget key []
      refine ⟨hf.ris, fun p hp => ?_⟩
      have h1 := hf.bnd p hp
      rw [show (⟨[], forgetT key (outS cap s op key).kt, (outS cap s op key).c⟩ : Lt).c = s.c from hc] at h1
      exact h1
    · refine ⟨ho.ris, fun p hp => ?_⟩
      have h1 := ho.bnd p hp
      rw [hc] at h1
      exact h1
theorem doT_clock (cap : Nat) (s : Lt) (op key val : Int) : (doT cap s op key val).2.c ≤ s.c + 1 := by
  unfold doT
  simp only
  split <;> omega
/-- The keys of the document's LRU by recency. -/
def recT (kt : List Kp) : List Int := (kt.map Kp.k).reverse
theorem fgt_rec (key : Int) (kt : List Kp) : recT (forgetT key kt) = fgt key (recT kt) := by
  unfold recT fgt forgetT
  rw [List.filter_reverse, List.filter_map]
  rfl
theorem last_old (s : Lt) : lastR (recT s.kt) = oldT s := by
  unfold lastR recT oldT
  rw [List.reverse_reverse, List.getD_eq_getElem?_getD, List.getElem?_map, List.getD_eq_getElem?_getD]
  cases s.kt[0]? with
  | none => rfl
  | some p => rfl
/-- They answer alike. -/
theorem doA_same {cap : Nat} {S : List Pp} {s : Lt} (hs : Srt S) (hp : S.Perm s.D) (op key val : Int) : (doA cap S (recT s.kt) op key val).1 = (doT cap s op key val).1 ∧ (doA cap S (recT s.kt) op key val).2.1.Perm (doT cap s op key val).2.D ∧ (doA cap S (recT s.kt) op key val).2.2 = recT (doT cap s op key val).2.kt ∧ Srt (doA cap S (recT s.kt) op key val).2.1 := by
  have hhit : ∀ k, hitS k S = hasP k s.D := fun k => by
    have := (do_same (cap := cap) hs hp 1 k 0).1
    rw [do_has, doP1] at this
    injection this
  have hdel := fun k => do_same (cap := cap) hs hp 3 k 0
  have hhad : ∀ k, hadS k S = valP k s.D := fun k => by
    have := (hdel k).1
    rw [do_del, doP3] at this
    injection this
  have hdp : ∀ k, (dropS S k).Perm (s.D.eraseIdx (posP k s.D)) := fun k => by
    have := (hdel k).2
    rw [do_del, doP3] at this
    exact this
  have hev : evA cap S op key = evB cap s op key := by
    unfold evA evB
    rw [hhit, hp.length_eq]
  have htc : tchA S op key = tchB s op key := by
    unfold tchA tchB
    rw [hhit]
  have hout : (outA cap S (recT s.kt) op key).1.Perm (outS cap s op key).D ∧ Srt (outA cap S (recT s.kt) op key).1 ∧ (outA cap S (recT s.kt) op key).2 = recT (outS cap s op key).kt := by
    unfold outA outS
    rw [hev]
    split
    · rw [last_old]
      exact ⟨hdp _, srt_drop hs _, (fgt_rec _ _).symm⟩
    · exact ⟨hp, hs, rfl⟩
  obtain ⟨o1, o2, o3⟩ := hout
  have hd := do_same (cap := cap) o2 o1 op key val
  unfold doA doT
  refine ⟨?_, hd.2, ?_, srt_do o2 _ _ _⟩
  · simp only
    rw [hd.1, hev, last_old, hhad]
  · simp only
    unfold ordA ktT
    rw [htc, o3]
    split
    · unfold recT
      rw [List.map_append, List.reverse_append]
      show _ = key :: (List.map Kp.k (forgetT key (outS cap s op key).kt)).reverse
      rw [show (List.map Kp.k (forgetT key (outS cap s op key).kt)).reverse = recT (forgetT key (outS cap s op key).kt) from rfl, fgt_rec]
      rfl
    · split
      · rw [fgt_rec]
      · rfl
end Go.Proofs.Ytpbfgebecgikjaa
namespace Go.Proofs.Ytpbfgebecgikjaa
open Go.RowKit
set_option linter.unusedVariables false
set_option linter.unusedSimpArgs false
set_option maxRecDepth 100000

/-- The document's LRU. -/
def Ro (w : World) (B l cap : Nat) (s : Lt) (F : Ft) : Prop := ∃ b vd vk vw, Rl w B l b cap vd vk vw s.D s.kt s.c ∧ F = footR l b vd vk vw
section
variable {w w' : World} {B l cap : Nat} {s : Lt} {F G : Ft}
theorem Ro.lies (h : Ro w B l cap s F) : Lies w F := by
  obtain ⟨b, vd, vk, vw, h1, rfl⟩ := h
  exact fun k hk => h1.foot hk
theorem Ro.keeps (h : Ro w B l cap s F) (hc : Chg w w' G) (ha : Apt G F) : Ro w' B l cap s F := by
  obtain ⟨b, vd, vk, vw, h1, rfl⟩ := h
  exact ⟨b, vd, vk, vw, h1.chg hc (fun k hk e => ha k e hk), rfl⟩
theorem Ro.below (h : Ro w B l cap s F) (hb : Below w.heap.size w w') : Ro w' B l cap s F := by
  obtain ⟨b, vd, vk, vw, h1, rfl⟩ := h
  exact ⟨b, vd, vk, vw, h1.below hb, rfl⟩
theorem Ro.drewN (h : Ro w B l cap s F) (n : Nat) : Ro (w.drewN n) B l cap s F := h.below ⟨rfl, rfl, rfl, Nat.le_refl _, fun _ _ => rfl⟩
/-- What the document's LRU keeps. -/
structure InvR (cap : Nat) (s : Lt) (S : List Pp) : Prop where
  k : InvK s
  a : InvA cap S (recT s.kt)
  p : S.Perm s.D
theorem InvR.do {S : List Pp} (h : InvR cap s S) (op key val : Int) : InvR cap (doT cap s op key val).2 (doA cap S (recT s.kt) op key val).2.1 := by
  obtain ⟨e1, e2, e3, e4⟩ := doA_same (cap := cap) h.a.srt h.p op key val
  refine ⟨h.k.do op key val, ?_, e2⟩
  have := h.a.do op key val
  rw [e3] at this
  exact this
theorem Ro.do_any (op key val : Int) {S : List Pp} (h : Ro w B l cap s F) (hi : InvR cap s S) (hc16 : cap ≤ 16) (hc : s.c ≤ 4000) (hB : B ≤ w.heap.size) :
    Calls Try.prog 36 #[.pointer (some ⟨l, 0, none⟩), .int .i64 op, .int .u64 key, .int .u64 val] w fun e w' => e = .returned (resG (doT cap s op key val).1.E (doT cap s op key val).1.f (doT cap s op key val).1.v (doT cap s op key val).1.o (doT cap s op key val).1.k (doT cap s op key val).1.u) ∧ ∃ F', Ro w' B l cap (doT cap s op key val).2 F' ∧ Nx w w' F F' := by
  obtain ⟨b, vd, vk, vw, h1, rfl⟩ := h
  have hpl := hi.p.length_eq
  have hkl : s.kt.length = s.D.length := by
    have h9 := hi.a.keys.length_eq
    unfold recT at h9
    rw [List.length_reverse, List.length_map, List.length_map] at h9
    omega
  have hl := hi.a.len
  refine (rldo_any op key val h1 (by omega) hc16 (by omega) hc hi.k.ris (fun e => by have := hi.a.cap1; omega) hB).mono ?_
  rintro e w' ⟨rfl, vd', vk', vw', g1, g2, g3⟩
  exact ⟨rfl, _, ⟨b, vd', vk', vw', g1, rfl⟩, g2, g3⟩
theorem flat_rec (kt : List Kp) : flatG kC kt.reverse = flatG uC (recT kt) := by
  unfold recT flatG
  rw [← List.map_reverse, List.flatMap_map]
/-- The list of its book, by rising keys. -/
theorem Ro.book {S : List Pp} (h : Ro w B l cap s F) (hi : InvR cap s S) (hc16 : cap ≤ 16) : ∃ b a c, w.cell? ⟨l, 0, none⟩ = some (.pointer (some ⟨b, 0, none⟩)) ∧ w.cell? ⟨b, 1, none⟩ = some (.slice a s.D.length c) ∧
    Calls Try.prog 31 #[.pointer (some ⟨b, 0, none⟩)] w fun e w' => ∃ u, e = .returned u ∧ w'.ownsRow w.heap.size 80 2 u S.length (flatG ppC S) ∧ Below w.heap.size w w' := by
  obtain ⟨b, vd, vk, vw, h1, rfl⟩ := h
  obtain ⟨a, c, rfl⟩ := own_shape h1.bk.row
  have hpl := hi.p.length_eq
  have hl := hi.a.len
  exact ⟨b, a, c, h1.hp.cell (j := 0) rfl, h1.bk.hp.cell (j := 1) rfl, rpairs_any h1.bk (by omega) hi.p hi.a.srt⟩
end
end Go.Proofs.Ytpbfgebecgikjaa
namespace Go.Proofs.Ytpbfgebecgikjaa
open Go.RowKit
set_option linter.unusedVariables false
set_option linter.unusedSimpArgs false
set_option maxRecDepth 100000

/-- A call that lays an answer into its result's box behind a step of an object. -/
theorem res_end (P : World → Ft → Prop) (hk : ∀ {w w' : World} {F G : Ft}, P w F → Chg w w' G → Apt G F → P w' F) {w X w1 : World} {F F' : Ft} {cs : List Value} (hbX : Below w.heap.size w X) (hzX : X.heap.size = w.heap.size + 1) (hF : Lies w F) (Hr : Hp w1 w.heap.size 47 cs) (hl : cs.length = 6) (hP : P w1 F') (hn : Nx X w1 F F') {E x k u : Int} {f o : Bool} {fn : Func} {tmps : Array Value} {pt : Tmp} (hr : fn.results = #[.cell pt 47] := by rfl) (hp : tmps.getD pt undef = .pointer (some ⟨w.heap.size, 0, none⟩) := by rfl) :
    bodyPost Try.prog fn (fun e w' => e = .returned (resG E f x o k u) ∧ ∃ F', P w' F' ∧ Nx w w' F F') .ret ⟨tmps, []⟩ ((((((w1.setCell ⟨w.heap.size, 0, none⟩ (.int .i64 E)).setCell ⟨w.heap.size, 1, none⟩ (.bool f)).setCell ⟨w.heap.size, 2, none⟩ (.int .u64 x)).setCell ⟨w.heap.size, 3, none⟩ (.bool o)).setCell ⟨w.heap.size, 4, none⟩ (.int .u64 k)).setCell ⟨w.heap.size, 5, none⟩ (.int .u64 u)) := by
  obtain ⟨hs, hg⟩ := six_sets (E := E) (f := f) (v := x) (o := o) (k := k) (u := u) Hr hl
  have hc := Chg.of_grown (S := fun k => k = w.heap.size) hg rfl
  have hn0 := (Nx.below (F := F) hbX).trans hn
  have hnot : ¬ F' w.heap.size := fun e => by
    rcases hn.new _ e with g | g
    · have := hF _ g; omega
    · omega
  refine res_ret hr hp hs ⟨rfl, F', hk hP hc (fun k e hf => by subst e; exact hnot hf), ⟨hn0.chg.trans hc (fun k hk e => by omega), hn0.new⟩⟩
/-- The document's operation on a shard. -/
def doD (κ : Bool) (cap : Nat) (s : Lt) (op key val : Int) : Rq × Lt :=
  if κ = true then doT cap s op key val
  else (⟨(doP cap s.D op key val).1.E, (doP cap s.D op key val).1.f, (doP cap s.D op key val).1.v, false, 0, 0⟩, ⟨(doP cap s.D op key val).2, s.kt, s.c⟩)
/-- The document's shard and the plain one. -/
structure InvD (κ : Bool) (cap : Nat) (s : Lt) (t : Sr) : Prop where
  sh : InvSh κ cap t
  perm : t.1.Perm s.D
  lru : κ = true → InvR cap s t.1 ∧ t.2 = recT s.kt
theorem InvD.do {κ : Bool} {cap : Nat} {s : Lt} {t : Sr} (h : InvD κ cap s t) (op key val : Int) : (doSh κ cap t op key val).1 = (doD κ cap s op key val).1 ∧ InvD κ cap (doD κ cap s op key val).2 (doSh κ cap t op key val).2 := by
  have hs := h.sh.do op key val
  cases κ with
  | true =>
    obtain ⟨g1, g2⟩ := h.lru rfl
    obtain ⟨e1, e2, e3, e4⟩ := doA_same (cap := cap) g1.a.srt g1.p op key val
    have hd := g1.do op key val
    revert hs
    unfold doSh doD
    rw [if_pos rfl, if_pos rfl, g2]
    intro hs
    exact ⟨e1, hs, e2, fun _ => ⟨hd, e3⟩⟩
  | false =>
    have hd := do_same (cap := cap) h.sh.srt h.perm op key val
    revert hs
    unfold doSh doD
    rw [if_neg (by decide), if_neg (by decide)]
    intro hs
    refine ⟨?_, hs, hd.2, fun e => by cases e⟩
    simp only
    rw [hd.1]
theorem doD_c (κ : Bool) (cap : Nat) (s : Lt) (op key val : Int) : (doD κ cap s op key val).2.c ≤ s.c + 1 := by
  unfold doD
  cases κ with
  | true => rw [if_pos rfl]; unfold doT; simp only; split <;> omega
  | false => rw [if_neg (by decide)]; exact Nat.le_succ _
/-- The document's book as an object. -/
def Rbo (w : World) (B b cap : Nat) (D : List Pp) (F : Ft) : Prop := ∃ v, Rb w B b cap v D ∧ F = bkS b v
section
variable {w w' : World} {B b cap : Nat} {D : List Pp} {F G : Ft}
theorem Rbo.lies (h : Rbo w B b cap D F) : Lies w F := by
  obtain ⟨v, h1, rfl⟩ := h
  intro k hk
  rcases hk with e | e
  · rw [e]; exact h1.hp.lt
  · exact (h1.row.lt k e).2
theorem Rbo.keeps (h : Rbo w B b cap D F) (hc : Chg w w' G) (ha : Apt G F) : Rbo w' B b cap D F := by
  obtain ⟨v, h1, rfl⟩ := h
  exact ⟨v, h1.chg hc (fun e => ha b e (.inl rfl)) (fun k hk e => ha k e (.inr hk)), rfl⟩
theorem Rbo.other (h : Rbo w B b cap D F) {n : Nat} {t : TypeId} {cs : List Value} (hp : Hp w n t cs) (h2 : t ≠ 104) (h3 : t ≠ 80) : ¬ F n := by
  obtain ⟨v, g, rfl⟩ := h
  rintro (e | e)
  · exact hp_type hp g.hp h2 e
  · exact own_type10 g.row hp (fun e => h3 e.symm) e
theorem Rbo.do_any (op key val : Int) (h : Rbo w B b cap D F) (hl : D.length ≤ 1000) (hB : B ≤ w.heap.size) :
    Calls Try.prog 37 #[.pointer (some ⟨b, 0, none⟩), .int .i64 op, .int .u64 key, .int .u64 val] w fun e w' => e = .returned (resG (doP cap D op key val).1.E (doP cap D op key val).1.f (doP cap D op key val).1.v false 0 0) ∧ ∃ F', Rbo w' B b cap (doP cap D op key val).2 F' ∧ Nx w w' F F' := by
  obtain ⟨v, h1, rfl⟩ := h
  refine (rdo_any op key val h1 hl hB).mono ?_
  rintro e w' ⟨rfl, v', g1, g2, g3⟩
  refine ⟨rfl, _, ⟨v', g1, rfl⟩, g2, fun k hk => ?_⟩
  rcases hk with e | e
  · exact .inl (.inl e)
  · rcases g3 k e with q | q
    · exact .inl (.inr q)
    · exact .inr q
end
theorem Ro.otherC {w : World} {B l cap : Nat} {s : Lt} {F : Ft} (h : Ro w B l cap s F) {n : Nat} {t : TypeId} {cs : List Value} (hp : Hp w n t cs) (h1 : t ≠ 96) (h2 : t ≠ 104) (h3 : t ≠ 80) (h4 : t ≠ 41) (h5 : t ≠ 3) : ¬ F n := by
  obtain ⟨b, vd, vk, vw, g, rfl⟩ := h
  rintro (e | e | e | e | e)
  · exact hp_type hp g.hp h1 e
  · exact hp_type hp g.bk.hp h2 e
  · exact own_type10 g.bk.row hp (fun e => h3 e.symm) e
  · exact own_type10 g.ks hp (fun e => h4 e.symm) e
  · exact own_type10 g.ws hp (fun e => h5 e.symm) e
/-- The document's shard, at a block. -/
def Ds (w : World) (B p : Nat) (κ : Bool) (cap : Nat) (s : Lt) (F : Ft) : Prop :=
  (κ = false ∧ ∃ b G, Hp w p 93 [.pointer (some ⟨b, 0, none⟩), .pointer none] ∧ Rbo w B b cap s.D G ∧ F = fun k => k = p ∨ G k) ∨
  (κ = true ∧ ∃ l G, Hp w p 93 [.pointer none, .pointer (some ⟨l, 0, none⟩)] ∧ Ro w B l cap s G ∧ F = fun k => k = p ∨ G k)
section
variable {w w' : World} {B p cap : Nat} {κ : Bool} {s : Lt} {t : Sr} {F G : Ft}
theorem Ds.lies (h : Ds w B p κ cap s F) : Lies w F := by
  rcases h with ⟨_, b, G, hp, hb, rfl⟩ | ⟨_, l, G, hp, hb, rfl⟩
  · intro k hk
    rcases hk with e | e
    · rw [e]; exact hp.lt
    · exact hb.lies k e
  · intro k hk
    rcases hk with e | e
    · rw [e]; exact hp.lt
    · exact hb.lies k e
theorem Ds.keeps (h : Ds w B p κ cap s F) (hc : Chg w w' G) (ha : Apt G F) : Ds w' B p κ cap s F := by
  rcases h with ⟨e, b, H, hp, hb, rfl⟩ | ⟨e, l, H, hp, hb, rfl⟩
  · exact .inl ⟨e, b, H, hp.chg hc (fun g => ha p g (.inl rfl)), hb.keeps hc (fun k g1 g2 => ha k g1 (.inr g2)), rfl⟩
  · exact .inr ⟨e, l, H, hp.chg hc (fun g => ha p g (.inl rfl)), hb.keeps hc (fun k g1 g2 => ha k g1 (.inr g2)), rfl⟩
theorem Ds.below (h : Ds w B p κ cap s F) (hb : Below w.heap.size w w') : Ds w' B p κ cap s F := h.keeps (Chg.of_below (S := fun _ => False) hb) (fun _ e => e.elim)
set_option maxHeartbeats 4000000 in
theorem Ds.do_any (op key val : Int) (h : Ds w B p κ cap s F) (hi : InvD κ cap s t) (hc16 : cap ≤ 16) (hc : s.c ≤ 4000) (hB : B ≤ w.heap.size) :
    Calls Try.prog 29 #[.pointer (some ⟨p, 0, none⟩), .int .i64 op, .int .u64 key, .int .u64 val] w fun e w' => e = .returned (resG (doD κ cap s op key val).1.E (doD κ cap s op key val).1.f (doD κ cap s op key val).1.v (doD κ cap s op key val).1.o (doD κ cap s op key val).1.k (doD κ cap s op key val).1.u) ∧ ∃ F', Ds w' B p κ cap (doD κ cap s op key val).2 F' ∧ Nx w w' F F' := by
  obtain ⟨X, HX, HrX, hbX, hzX⟩ := boxRG w
  have hpl := hi.perm.length_eq
  have hln := hi.sh.len
  have HF := keepG h.lies
  rcases h with ⟨rfl, b, G, hp, hb, rfl⟩ | ⟨rfl, l, G, hp, hb, rfl⟩
  · obtain ⟨Q, HQ⟩ : ∃ Q, Hid (doP cap s.D op key val = Q) := ⟨_, rfl⟩
    have hd : doD false cap s op key val = (⟨Q.1.E, Q.1.f, Q.1.v, false, 0, 0⟩, ⟨Q.2, s.kt, s.c⟩) := by unfold doD; rw [if_neg (by decide), HQ.out]
    rw [hd]
    obtain ⟨⟨E, f, x⟩, D'⟩ := Q
    simp only
    have hlt := hp.lt
    have c0 := hp.cell (j := 0) rfl
    have c1 := hp.cell (j := 1) rfl
    have HO := keepG (hb.keeps (Chg.of_below (S := fun _ => False) hbX) (fun _ e => e.elim))
    have HP := keepG (hp.below hbX hlt)
    clear hb hp
    go_enter Try.func29, Try.ntmps29
    go_wp2_with (go_at_call 37; rw [HX.out]; go_must (refine (HO.out.do_any op key val (by omega) (by omega)).mono ?_); rintro e w1 ⟨rfl, G1, hb1, hn1⟩; go_must (rw [HQ.out] at hb1 ⊢; have HB1 := keepG hb1; have HN1 := keepG hn1; have Hr1 := keepG (HrX.out.chg hn1.chg (HO.out.other HrX.out (by decide) (by decide))); have HP1 := keepG (HP.out.chg hn1.chg (HO.out.other HP.out (by decide) (by decide))); have x0 := Hr1.out.cell (j := 0) rfl; have f0 := Hr1.out.frozen 0; have x1 := Hr1.out.cell (j := 1) rfl; have f1 := Hr1.out.frozen 1; have x2 := Hr1.out.cell (j := 2) rfl; have f2 := Hr1.out.frozen 2; have x3 := Hr1.out.cell (j := 3) rfl; have f3 := Hr1.out.frozen 3; have x4 := Hr1.out.cell (j := 4) rfl; have f4 := Hr1.out.frozen 4; have x5 := Hr1.out.cell (j := 5) rfl; have f5 := Hr1.out.frozen 5; clear hb1 hn1))
    exact res_end (fun w' F' => Ds w' B p false cap ⟨D', s.kt, s.c⟩ F') (fun h hc ha => h.keeps hc ha) hbX hzX HF.out Hr1.out rfl (.inl ⟨rfl, b, G1, HP1.out, HB1.out, rfl⟩) ⟨HN1.out.chg.mono (fun k e => .inr e), fun k hk => by
      rcases hk with e | e
      · exact .inl (.inl e)
      · rcases HN1.out.new k e with g | g
        · exact .inl (.inr g)
        · exact .inr g⟩
  · obtain ⟨Q, HQ⟩ : ∃ Q, Hid (doT cap s op key val = Q) := ⟨_, rfl⟩
    have hd : doD true cap s op key val = Q := by unfold doD; rw [if_pos rfl, HQ.out]
    rw [hd]
    obtain ⟨⟨E, f, x, o, k, u⟩, s'⟩ := Q
    simp only
    have hlt := hp.lt
    have c0 := hp.cell (j := 0) rfl
    have c1 := hp.cell (j := 1) rfl
    have HO := keepG (hb.keeps (Chg.of_below (S := fun _ => False) hbX) (fun _ e => e.elim))
    have HP := keepG (hp.below hbX hlt)
    have HIR := keepG (hi.lru rfl).1
    clear hb hp
    go_enter Try.func29, Try.ntmps29
    go_wp2_with (go_at_call 36; rw [HX.out]; go_must (refine (HO.out.do_any op key val HIR.out hc16 hc (by omega)).mono ?_); rintro e w1 ⟨rfl, G1, hb1, hn1⟩; go_must (rw [HQ.out] at hb1 ⊢; have HB1 := keepG hb1; have HN1 := keepG hn1; have Hr1 := keepG (HrX.out.chg hn1.chg (HO.out.otherC HrX.out (by decide) (by decide) (by decide) (by decide) (by decide))); have HP1 := keepG (HP.out.chg hn1.chg (HO.out.otherC HP.out (by decide) (by decide) (by decide) (by decide) (by decide))); have x0 := Hr1.out.cell (j := 0) rfl; have f0 := Hr1.out.frozen 0; have x1 := Hr1.out.cell (j := 1) rfl; have f1 := Hr1.out.frozen 1; have x2 := Hr1.out.cell (j := 2) rfl; have f2 := Hr1.out.frozen 2; have x3 := Hr1.out.cell (j := 3) rfl; have f3 := Hr1.out.frozen 3; have x4 := Hr1.out.cell (j := 4) rfl; have f4 := Hr1.out.frozen 4; have x5 := Hr1.out.cell (j := 5) rfl; have f5 := Hr1.out.frozen 5; clear hb1 hn1))
    exact res_end (fun w' F' => Ds w' B p true cap s' F') (fun h hc ha => h.keeps hc ha) hbX hzX HF.out Hr1.out rfl (.inr ⟨rfl, l, G1, HP1.out, HB1.out, rfl⟩) ⟨HN1.out.chg.mono (fun k e => .inr e), fun k hk => by
      rcases hk with e | e
      · exact .inl (.inl e)
      · rcases HN1.out.new k e with g | g
        · exact .inl (.inr g)
        · exact .inr g⟩
theorem Ds.pairs (h : Ds w B p κ cap s F) (hi : InvD κ cap s t) (hc16 : cap ≤ 16) :
    Calls Try.prog 20 #[.pointer (some ⟨p, 0, none⟩)] w fun e w' => ∃ u, e = .returned u ∧ w'.ownsRow w.heap.size 80 2 u t.1.length (flatG ppC t.1) ∧ Below w.heap.size w w' := by
  have hpl := hi.perm.length_eq
  have hln := hi.sh.len
  rcases h with ⟨rfl, b, G, hp, ⟨v, hb, rfl⟩, rfl⟩ | ⟨rfl, l, G, hp, hb, rfl⟩
  · have c0 := hp.cell (j := 0) rfl
    have c1 := hp.cell (j := 1) rfl
    go_enter Try.func20, Try.ntmps20
    go_wp2_with (go_at_call 31; go_must (refine (rpairs_any hb (by omega) hi.perm hi.sh.srt).mono ?_); rintro e w1 ⟨u, rfl, ho, hb1⟩)
    go_ret
    exact ⟨_, rfl, ho, hb1⟩
  · have c0 := hp.cell (j := 0) rfl
    have c1 := hp.cell (j := 1) rfl
    obtain ⟨bb, aa, cc, e0, e1, hC⟩ := hb.book (hi.lru rfl).1 hc16
    go_enter Try.func20, Try.ntmps20
    go_wp2_with (go_at_call 31; go_must (refine hC.mono ?_); rintro e w1 ⟨u, rfl, ho, hb1⟩)
    go_ret
    exact ⟨_, rfl, ho, hb1⟩
end
end Go.Proofs.Ytpbfgebecgikjaa
namespace Go.Proofs.Ytpbfgebecgikjaa
open Go.RowKit
set_option linter.unusedVariables false
set_option linter.unusedSimpArgs false
set_option maxRecDepth 100000

def Lt.nil : Lt := ⟨[], [], 0⟩
def kindI (κ : Bool) : Int := if κ = true then 1 else 0
abbrev defV (k c : Int) : Value := .agg #[.int .i64 k, .int .i64 c]
theorem Ds.other {w : World} {B p cap : Nat} {κ : Bool} {s : Lt} {F : Ft} (h : Ds w B p κ cap s F) {n : Nat} {t : TypeId} {cs : List Value} (hp : Hp w n t cs) (h0 : t ≠ 93) (h1 : t ≠ 96) (h2 : t ≠ 104) (h3 : t ≠ 80) (h4 : t ≠ 41) (h5 : t ≠ 3) : ¬ F n := by
  rcases h with ⟨rfl, b, G, hq, hb, rfl⟩ | ⟨rfl, l, G, hq, hb, rfl⟩
  · rintro (e | e)
    · exact hp_type hp hq h0 e
    · exact hb.other hp h2 h3 e
  · rintro (e | e)
    · exact hp_type hp hq h0 e
    · exact hb.otherC hp h1 h2 h3 h4 h5 e
theorem dmake_book (n : Nat) (h1 : 1 ≤ n) (h2 : n ≤ 16) (w : World) : Calls Try.prog 25 #[defV 0 n] w fun e w' => ∃ p F, e = .returned (.tuple #[.pointer (some ⟨p, 0, none⟩), .int .i64 0]) ∧ Ds w' w.heap.size p false n Lt.nil F ∧ Since w F ∧ Below w.heap.size w w' := by
  obtain ⟨X, HX, hbX, hpX⟩ : ∃ X, Hid (w.alloc (.cells #[.int .i64 0, .int .i64 n] 74) = X) ∧ Below w.heap.size w X ∧ Hp X w.heap.size 74 [.int .i64 0, .int .i64 n] := ⟨_, rfl, below_allocG _ _, Hp.new w [.int .i64 0, .int .i64 n] _⟩
  have hzX := hbX.size
  clear hpX
  go_enter Try.func25, Try.ntmps25
  go_wp2_with (go_at_call 34; rw [HX.out]; go_must (refine (rnew_ok n h1 h2 X).mono ?_); rintro e w1 ⟨rfl, hp1, hb1, hz1⟩; go_must (have HP1 := keepG hp1; have HZ1 := keepG hz1; clear hp1 hz1))
  go_ret2
  have hz := HZ1.out
  refine ⟨w1.heap.size, _, rfl, .inl ⟨rfl, X.heap.size, _, Hp.new w1 _ _, ⟨.slice none 0 0, ⟨HP1.out.alloc _, World.ownsRow_nil _ _ _ _⟩, rfl⟩, rfl⟩, fun k hk => ?_, (hbX.trans (hb1.mono hzX)).alloc (by omega) _⟩
  rcases hk with e | e | e
  · omega
  · omega
  · cases e
theorem dmake_lru (n : Nat) (h1 : 1 ≤ n) (h2 : n ≤ 16) (w : World) : Calls Try.prog 25 #[defV 1 n] w fun e w' => ∃ p F, e = .returned (.tuple #[.pointer (some ⟨p, 0, none⟩), .int .i64 0]) ∧ Ds w' w.heap.size p true n Lt.nil F ∧ Since w F ∧ Below w.heap.size w w' := by
  obtain ⟨X, HX, hbX, hpX⟩ : ∃ X, Hid (w.alloc (.cells #[.int .i64 1, .int .i64 n] 74) = X) ∧ Below w.heap.size w X ∧ Hp X w.heap.size 74 [.int .i64 1, .int .i64 n] := ⟨_, rfl, below_allocG _ _, Hp.new w [.int .i64 1, .int .i64 n] _⟩
  have hzX := hbX.size
  clear hpX
  go_enter Try.func25, Try.ntmps25
  go_wp2_with (go_at_call 35; rw [HX.out]; go_must (refine (rlnew_ok n h1 h2 X).mono ?_); rintro e w1 ⟨l, b, rfl, hl1, hb1', hR1, hb1⟩; go_must (have HR1 := keepG hR1; clear hR1))
  go_ret2
  have hz1 := hb1.size
  have hR : Rl w1 w.heap.size l b n (.slice none 0 0) (.slice none 0 0) (.slice none 0 0) [] [] 0 := ⟨HR1.out.hp, ⟨HR1.out.bk.hp, World.ownsRow_nil _ _ _ _⟩, World.ownsRow_nil _ _ _ _, World.ownsRow_nil _ _ _ _⟩
  refine ⟨w1.heap.size, _, rfl, .inr ⟨rfl, l, _, Hp.new w1 _ _, ⟨b, _, _, _, hR.below (below_allocG _ _), rfl⟩, rfl⟩, fun k hk => ?_, (hbX.trans (hb1.mono hzX)).alloc (by omega) _⟩
  rcases hk with e | e | e | e | e | e
  · omega
  · omega
  · omega
  · cases e
  · cases e
  · cases e
theorem dmake_ok (κ : Bool) (n : Nat) (h1 : 1 ≤ n) (h2 : n ≤ 16) (w : World) : Calls Try.prog 25 #[defV (kindI κ) n] w fun e w' => ∃ p F, e = .returned (.tuple #[.pointer (some ⟨p, 0, none⟩), .int .i64 0]) ∧ Ds w' w.heap.size p κ n Lt.nil F ∧ Since w F ∧ Below w.heap.size w w' := by
  cases κ with
  | true => exact dmake_lru n h1 h2 w
  | false => exact dmake_book n h1 h2 w
/-- Kinds and caps that are refused. -/
def defNo (k c : Int) : Prop := (k ≠ 0 ∧ k ≠ 1) ∨ c < 1 ∨ 16 < c
theorem dmake_no (k c : Int) (h : defNo k c) (w : World) : Calls Try.prog 25 #[defV k c] w fun e w' => e = .returned (.tuple #[.pointer none, .int .i64 2]) ∧ Below w.heap.size w w' := by
  obtain ⟨X, HX, hbX⟩ : ∃ X, Hid (w.alloc (.cells #[.int .i64 k, .int .i64 c] 74) = X) ∧ Below w.heap.size w X := ⟨_, rfl, below_allocG _ _⟩
  by_cases h0 : k = 0
  · subst h0
    have hc : c < 1 ∨ 16 < c := by rcases h with g | g; exact absurd rfl g.1; exact g
    go_enter Try.func25, Try.ntmps25
    go_wp2_with (go_at_call 34; rw [HX.out]; go_must (refine (rnew_no c hc X).mono ?_); rintro e w1 ⟨rfl, rfl⟩)
    go_ret2
    exact ⟨rfl, hbX⟩
  · by_cases h1 : k = 1
    · subst h1
      have hc : c < 1 ∨ 16 < c := by rcases h with g | g; exact absurd rfl g.2; exact g
      go_enter Try.func25, Try.ntmps25
      go_wp2_with (go_at_call 35; rw [HX.out]; go_must (refine (rlnew_no c hc X).mono ?_); rintro e w1 ⟨rfl, rfl⟩)
      go_ret2
      exact ⟨rfl, hbX⟩
    · have b0 : (k == 0) = false := by simpa using h0
      have b1 : (k == 1) = false := by simpa using h1
      clear h h0 h1
      go_enter Try.func25, Try.ntmps25
      go_wp2
      go_ret2
      exact ⟨rfl, below_allocG _ _⟩
/-- A pointer to a shard. -/
abbrev ptC (p : Nat) : List Value := [.pointer (some ⟨p, 0, none⟩)]
theorem ptC_len (p : Nat) : (ptC p).length = 1 := rfl
theorem ptC_one (p : Nat) : ∀ u ∈ ptC p, u.oneCell' = true := by intro u hu; simp at hu; subst hu; rfl
theorem infoDs : (Try.prog.info? 59).map (fun i => (i.zero, i.size, i.bytes)) = some (some (.pointer none), 1, 8) := by kernel_rfl
def footM (r : Nat) (rv : Value) (n : Nat) (F : Nat → Ft) : Ft := fun k => k = r ∨ rv.ownBlock = some k ∨ unF n F k
section
variable {w w' : World} {B r cap : Nat} {κ : Bool} {rv : Value} {ps : List Nat} {st : List Lt} {F : Nat → Ft}
end
end Go.Proofs.Ytpbfgebecgikjaa
namespace Go.Proofs.Ytpbfgebecgikjaa
open Go.RowKit
set_option linter.unusedVariables false
set_option linter.unusedSimpArgs false
set_option maxRecDepth 100000

def On.dk (o : On) (i : Nat) : Df := o.ds.getD i (false, 0)
def On.sk (o : On) (i : Nat) : Sr := o.st.getD i Sr.nil
/-- The document's owner, at a block: its maps, all requests, the shards. -/
structure Dw (w : World) (B b : Nat) (vm va : Value) (ps : List Nat) (S : List Lt) (F : Nat → Ft) (o : On) (old : List Rt) : Prop where
  hp : Hp w b 62 [.int .i64 o.sh, .int .i64 o.n, vm, va, .int .i64 old.length, .bool o.over]
  maps : w.ownsRow B 59 1 vm ps.length (flatG ptC ps)
  all : RoRt w B va (old ++ o.ln)
  lp : ps.length = o.st.length
  lS : S.length = o.st.length
  inv : ∀ i, i < ps.length → InvD (o.dk i).1 (o.dk i).2 (S.getD i Lt.nil) (o.sk i)
  fam : Fam (fun w i G => Ds w B (ps.getD i 0) (o.dk i).1 (o.dk i).2 (S.getD i Lt.nil) G) w ps.length F
  cnt : ∀ i, i < ps.length → (S.getD i Lt.nil).c ≤ old.length
def footW (b : Nat) (vm va : Value) (n : Nat) (F : Nat → Ft) : Ft := fun k => (k = b ∨ vm.ownBlock = some k) ∨ va.ownBlock = some k ∨ unF n F k
section
variable {w w' : World} {B b : Nat} {vm va : Value} {ps : List Nat} {S : List Lt} {F : Nat → Ft} {o o' : On} {old : List Rt}
theorem Dw.chg {G : Ft} (h : Dw w B b vm va ps S F o old) (hc : Chg w w' G) (ha : Apt G (footW b vm va ps.length F)) : Dw w' B b vm va ps S F o old :=
  ⟨h.hp.chg hc (fun e => ha b e (.inl (.inl rfl))), own_chg h.maps hc (fun k hk e => ha k e (.inl (.inr hk))), own_chg h.all hc (fun k hk e => ha k e (.inr (.inl hk))), h.lp, h.lS, h.inv, h.fam.keeps hc (fun j hj g => g.keeps hc (fun k e1 e2 => ha k e1 (.inr (.inr ⟨j, hj, e2⟩)))), h.cnt⟩
theorem Dw.below (h : Dw w B b vm va ps S F o old) (hb : Below w.heap.size w w') : Dw w' B b vm va ps S F o old := h.chg (Chg.of_below (S := fun _ => False) hb) (fun _ e => e.elim)
theorem Dw.lies (h : Dw w B b vm va ps S F o old) : Lies w (footW b vm va ps.length F) := by
  intro k hk
  rcases hk with (e | e) | e | ⟨i, hi, e⟩
  · rw [e]; exact h.hp.lt
  · exact (h.maps.lt k e).2
  · exact (h.all.lt k e).2
  · exact h.fam.li i hi k e
theorem Dw.low (h : Dw w B b vm va ps S F o old) : w.cell? ⟨b, 0, none⟩ = some (.int .i64 o.sh) ∧ w.cell? ⟨b, 1, none⟩ = some (.int .i64 o.n) ∧ w.cell? ⟨b, 2, none⟩ = some vm ∧ w.cell? ⟨b, 3, none⟩ = some va ∧ w.cell? ⟨b, 4, none⟩ = some (.int .i64 old.length) ∧ w.cell? ⟨b, 5, none⟩ = some (.bool o.over) :=
  ⟨h.hp.cell (j := 0) rfl, h.hp.cell (j := 1) rfl, h.hp.cell (j := 2) rfl, h.hp.cell (j := 3) rfl, h.hp.cell (j := 4) rfl, h.hp.cell (j := 5) rfl⟩
theorem Dw.nb (h : Dw w B b vm va ps S F o old) : ¬ unF ps.length F b := by
  rintro ⟨i, hi, e⟩
  exact (h.fam.ob i hi).other h.hp (by decide) (by decide) (by decide) (by decide) (by decide) (by decide) e
theorem Dw.nrow {e : TypeId} {z n : Nat} {u : Value} {xs : List Value} (h : Dw w B b vm va ps S F o old) (hr : w.ownsRow B e z u n xs) (h0 : e ≠ 93) (h1 : e ≠ 96) (h2 : e ≠ 104) (h3 : e ≠ 80) (h4 : e ≠ 41) (h5 : e ≠ 3) : ∀ k, u.ownBlock = some k → ¬ unF ps.length F k := by
  rintro k hk ⟨i, hi, e⟩
  obtain ⟨cs, hq⟩ := own_hpC hr hk
  exact (h.fam.ob i hi).other hq h0 h1 h2 h3 h4 h5 e
/-- The block written over in a field that no shard has. -/
theorem Dw.flag (h : Dw w B b vm va ps S F o old) {j : Nat} {u : Value} {o' : On} {va' : Value} {old' : List Rt} (hp : Hp (w.setCell ⟨b, j, none⟩ u) b 62 [.int .i64 o'.sh, .int .i64 o'.n, vm, va', .int .i64 old'.length, .bool o'.over]) (hd : o'.ds = o.ds) (hs : o'.st = o.st) (hall : RoRt w B va' (old' ++ o'.ln)) (hc : ∀ i, i < ps.length → (S.getD i Lt.nil).c ≤ old'.length) : Dw (w.setCell ⟨b, j, none⟩ u) B b vm va' ps S F o' old' ∧ Chg w (w.setCell ⟨b, j, none⟩ u) (fun k => k = b) := by
  have hcs := Chg.set w b j u
  have hdk : ∀ i, o'.dk i = o.dk i := fun i => by unfold On.dk; rw [hd]
  have hsk : ∀ i, o'.sk i = o.sk i := fun i => by unfold On.sk; rw [hs]
  refine ⟨⟨hp, own_chg h.maps hcs (fun k hk e => ?_), own_chg hall hcs (fun k hk e => ?_), by rw [hs]; exact h.lp, by rw [hs]; exact h.lS, fun i hi => by rw [hdk, hsk]; exact h.inv i hi, ?_, hc⟩, hcs⟩
  · subst e; exact own_type10 h.maps h.hp (by decide) hk
  · subst e; exact own_type10 hall h.hp (by decide) hk
  · have : (fun (w : World) i G => Ds w B (ps.getD i 0) (o'.dk i).1 (o'.dk i).2 (S.getD i Lt.nil) G) = (fun (w : World) i G => Ds w B (ps.getD i 0) (o.dk i).1 (o.dk i).2 (S.getD i Lt.nil) G) := by
      funext w i G
      rw [hdk]
    rw [this]
    exact h.fam.keeps hcs (fun j hj g => g.keeps hcs (fun k e1 e2 => by subst e1; exact h.nb ⟨j, hj, e2⟩))
theorem dend (h : Dw w B b vm va ps S F o old) (hl : (old ++ o.ln).length ≤ 1000000) {E : Int} (HQ : Hid (o.end = (E, o'))) : Calls Try.prog 17 #[.pointer (some ⟨b, 0, none⟩)] w fun e w' => e = .returned (.int .i64 E) ∧ Dw w' B b vm va ps S F o' old ∧ Chg w w' (fun k => k = b) := by
  obtain ⟨c0, c1, c2, c3, c4, c5⟩ := h.low
  have f5 := h.hp.frozen 5
  have HD := keepG h
  obtain ⟨a, cap, ev⟩ := own_shape h.all
  have hq := HQ.out
  unfold On.end at hq
  have hlen : (old ++ o.ln).length = old.length + o.ln.length := List.length_append
  clear h HQ
  subst ev
  obtain ⟨N, HN⟩ : ∃ N, Hid ((old ++ o.ln).length = N) := ⟨_, rfl⟩
  rw [HN.out] at c3
  by_cases hln : o.ln = []
  · rw [if_pos hln] at hq
    injection hq with e1 e2
    subst e1 e2
    have hlt : ¬ (old.length : Int) < N := by rw [← HN.out, hlen, hln]; simp
    have HF := keepG (HD.out.flag (j := 5) (u := .bool true) (o' := ⟨o.sh, o.n, o.ds, o.st, o.ln, true⟩) (va' := _) (old' := old) (HD.out.hp.set 5 (.bool true)) rfl rfl HD.out.all HD.out.cnt)
    have HB := keepG (HD.out.below (below_drG (Below.refl w.heap.size w)))
    clear hln hlen
    go_enter Try.func17, Try.ntmps17
    go_wp2
    refine wp_region_held_drew (S := fun w' => w'.cell? ⟨b, 3, none⟩ = some (.slice a N cap) ∧ w'.cell? ⟨b, 4, none⟩ = some (.int .i64 old.length)) (by kernel_rfl) ⟨c3, c4⟩ (fun hHeld => ?_)
    refine tkGo [0, 1, 2, 3, 4, 5, 6, 7, 8, 9] ?_
    repeat (refine tkOne (v := ?_) rfl (by kernel_rfl) (by kernel_rfl) (by kernel_rfl) (fun _ _ _ h => h) (by assumption) (by rfl) ?_ ?_; rotate_left; (intro wy hSw; (try dsimp only at hSw); go_simp; (first | done | with_reducible rfl)); try simp only [Act.put, List.getElem_toArray, List.getElem_cons_zero, List.getElem_cons_succ, List.setIfInBounds_toArray, List.set_cons_zero, List.set_cons_succ])
    refine tkEnd ?_
    refine wpAnyH_done (by kernel_rfl) ?_ _
    clear hHeld
    go_wp2
    go_ret
    exact ⟨rfl, HF.out.1.below (below_drG (Below.refl _ _)), HF.out.2.drewN 1⟩
  · rw [if_neg hln] at hq
    injection hq with e1 e2
    subst e1 e2
    have hlt : (old.length : Int) < N := by rw [← HN.out, hlen]; have := List.length_pos_iff.2 hln; omega
    clear hln hlen
    go_enter Try.func17, Try.ntmps17
    go_wp2
    refine wp_region_held_drew (S := fun w' => w'.cell? ⟨b, 3, none⟩ = some (.slice a N cap) ∧ w'.cell? ⟨b, 4, none⟩ = some (.int .i64 old.length)) (by kernel_rfl) ⟨c3, c4⟩ (fun hHeld => ?_)
    refine tkGo [0, 1, 2, 3, 4, 5, 6, 7, 8, 9] ?_
    repeat (refine tkOne (v := ?_) rfl (by kernel_rfl) (by kernel_rfl) (by kernel_rfl) (fun _ _ _ h => h) (by assumption) (by rfl) ?_ ?_; rotate_left; (intro wy hSw; (try dsimp only at hSw); go_simp; (first | done | with_reducible rfl)); try simp only [Act.put, List.getElem_toArray, List.getElem_cons_zero, List.getElem_cons_succ, List.setIfInBounds_toArray, List.set_cons_zero, List.set_cons_succ])
    refine tkEnd ?_
    refine wpAnyH_done (by kernel_rfl) ?_ _
    clear hHeld
    go_wp2
    go_ret
    exact ⟨rfl, HD.out.below (below_drG (Below.refl _ _)), (Chg.refl _ _).drewN 1⟩
end
end Go.Proofs.Ytpbfgebecgikjaa
namespace Go.Proofs.Ytpbfgebecgikjaa
open Go.RowKit
set_option linter.unusedVariables false
set_option linter.unusedSimpArgs false
set_option maxRecDepth 100000
theorem rp_cellsD {w : World} {n : Nat} {p : Ry} {u : Value} (h : Hp w n 50 (rpC p u)) : (w.cell? ⟨n, 0, none⟩ = some (.int .i64 p.q.f) ∧ w.cell? ⟨n, 1, none⟩ = some (.int .i64 p.q.t) ∧ w.cell? ⟨n, 2, none⟩ = some (.bool p.q.wk) ∧ w.cell? ⟨n, 3, none⟩ = some (.int .i64 p.q.m) ∧ w.cell? ⟨n, 4, none⟩ = some (.int .i64 p.q.op) ∧ w.cell? ⟨n, 5, none⟩ = some (.int .u64 p.q.k) ∧ w.cell? ⟨n, 6, none⟩ = some (.int .u64 p.q.v)) ∧ w.cell? ⟨n, 7, none⟩ = some (.int .i64 p.x.E) ∧ w.cell? ⟨n, 8, none⟩ = some (.bool p.x.f) ∧ w.cell? ⟨n, 9, none⟩ = some (.int .u64 p.x.v) ∧ w.cell? ⟨n, 10, none⟩ = some (.bool p.x.o) ∧ w.cell? ⟨n, 11, none⟩ = some (.int .u64 p.x.k) ∧ w.cell? ⟨n, 12, none⟩ = some (.int .u64 p.x.u) ∧ w.cell? ⟨n, 13, none⟩ = some u :=
  ⟨⟨h.cell (j := 0) rfl, h.cell (j := 1) rfl, h.cell (j := 2) rfl, h.cell (j := 3) rfl, h.cell (j := 4) rfl, h.cell (j := 5) rfl, h.cell (j := 6) rfl⟩, h.cell (j := 7) rfl, h.cell (j := 8) rfl, h.cell (j := 9) rfl, h.cell (j := 10) rfl, h.cell (j := 11) rfl, h.cell (j := 12) rfl, h.cell (j := 13) rfl⟩
theorem hp_fr {w : World} {n : Nat} {t : TypeId} {cs : List Value} (h : Hp w n t cs) : (w.frozen? ⟨n, 0, none⟩ = false ∧ w.frozen? ⟨n, 1, none⟩ = false ∧ w.frozen? ⟨n, 2, none⟩ = false ∧ w.frozen? ⟨n, 3, none⟩ = false ∧ w.frozen? ⟨n, 4, none⟩ = false ∧ w.frozen? ⟨n, 5, none⟩ = false ∧ w.frozen? ⟨n, 6, none⟩ = false) ∧ w.frozen? ⟨n, 7, none⟩ = false ∧ w.frozen? ⟨n, 8, none⟩ = false ∧ w.frozen? ⟨n, 9, none⟩ = false ∧ w.frozen? ⟨n, 10, none⟩ = false ∧ w.frozen? ⟨n, 11, none⟩ = false ∧ w.frozen? ⟨n, 12, none⟩ = false ∧ w.frozen? ⟨n, 13, none⟩ = false :=
  ⟨⟨h.frozen 0, h.frozen 1, h.frozen 2, h.frozen 3, h.frozen 4, h.frozen 5, h.frozen 6⟩, h.frozen 7, h.frozen 8, h.frozen 9, h.frozen 10, h.frozen 11, h.frozen 12, h.frozen 13⟩
section
variable {w w' : World} {B b : Nat} {vm va : Value} {ps : List Nat} {S : List Lt} {F : Nat → Ft} {o o' : On} {old : List Rt}
/-- One shard goes a step. -/
theorem Dw.go (h : Dw w B b vm va ps S F o old) {k : Nat} (hk : k < ps.length) {s' : Lt} {t' : Sr} {G : Ft} (hs : Ds w' B (ps.getD k 0) (o.dk k).1 (o.dk k).2 s' G) (hn : Nx w w' (F k) G) (hi : InvD (o.dk k).1 (o.dk k).2 s' t') (hc : s'.c ≤ old.length) : Dw w' B b vm va ps (S.set k s') (upd F k G) ⟨o.sh, o.n, o.ds, o.st.set k t', o.ln, o.over⟩ old ∧ Nx w w' (footW b vm va ps.length F) (footW b vm va ps.length (upd F k G)) := by
  have hob := h.fam.ob k hk
  have n1 : ¬ F k b := fun e => h.nb ⟨k, hk, e⟩
  have n2 : ∀ j, vm.ownBlock = some j → ¬ F k j := fun j hj e => h.nrow h.maps (by decide) (by decide) (by decide) (by decide) (by decide) (by decide) j hj ⟨k, hk, e⟩
  have n3 : ∀ j, va.ownBlock = some j → ¬ F k j := fun j hj e => h.nrow h.all (by decide) (by decide) (by decide) (by decide) (by decide) (by decide) j hj ⟨k, hk, e⟩
  have hf := Nx.fam (n := ps.length) hk hn
  have hkS : k < S.length := by rw [h.lS, ← h.lp]; exact hk
  have hkt : k < o.st.length := by rw [← h.lp]; exact hk
  refine ⟨⟨h.hp.chg hn.chg n1, own_chg h.maps hn.chg n2, own_chg h.all hn.chg n3, by simp [h.lp], by simp [h.lS], fun i hi' => ?_, h.fam.step hk hn hs.lies ?_ (fun j hj hne g ha => ?_), fun i hi' => ?_⟩, hn.chg.mono (fun j e => .inr (.inr ⟨k, hk, e⟩)), fun j hj => ?_⟩
  · show InvD (o.dk i).1 (o.dk i).2 ((S.set k s').getD i Lt.nil) ((o.st.set k t').getD i Sr.nil)
    by_cases e : k = i
    · subst e
      rw [getD_set_same hkS, getD_set_same hkt]
      exact hi
    · rw [getD_set_other e, getD_set_other e]
      exact h.inv i hi'
  · show Ds w' B (ps.getD k 0) (o.dk k).1 (o.dk k).2 ((S.set k s').getD k Lt.nil) G
    rw [getD_set_same hkS]
    exact hs
  · show Ds w' B (ps.getD j 0) (o.dk j).1 (o.dk j).2 ((S.set k s').getD j Lt.nil) (F j)
    rw [getD_set_other (fun e => hne e.symm)]
    exact g.keeps hn.chg ha
  · by_cases e : k = i
    · subst e
      rw [getD_set_same hkS]
      exact hc
    · rw [getD_set_other e]
      exact h.cnt i hi'
  · rcases hj with e | e | e
    · exact .inl (.inl e)
    · exact .inl (.inr (.inl e))
    · rcases hf.new j e with g | g
      · exact .inl (.inr (.inr g))
      · exact .inr g
/-- The first of the line is done. -/
theorem Dw.did (h : Dw w B b vm va ps S F o old) {q : Rt} {r : List Rt} (hl : o.ln = q :: r) : Dw (w.setCell ⟨b, 4, none⟩ (.int .i64 ((old.length : Int) + 1))) B b vm va ps S F (o.line r) (old ++ [q]) ∧ Chg w (w.setCell ⟨b, 4, none⟩ (.int .i64 ((old.length : Int) + 1))) (fun k => k = b) := by
  refine h.flag (o' := o.line r) (va' := va) (old' := old ++ [q]) ?_ rfl rfl ?_ (fun i hi => Nat.le_trans (h.cnt i hi) (by simp))
  · have := h.hp.set 4 (.int .i64 ((old.length : Int) + 1))
    have e : ((old ++ [q]).length : Int) = (old.length : Int) + 1 := by simp
    rw [e]
    exact this
  · have e : old ++ [q] ++ (o.line r).ln = old ++ o.ln := by rw [hl]; simp [On.line]
    rw [e]
    exact h.all
set_option maxHeartbeats 6400000 in
theorem dstep_none (h : Dw w B b vm va ps S F o old) (hl : o.ln = []) (hz : old.length ≤ 1000000) : Calls Try.prog 14 #[.pointer (some ⟨b, 0, none⟩)] w fun e w' => e = .returned (.tuple #[rpV Ry.nil (.slice none 0 0), .bool false]) ∧ Dw w' B b vm va ps S F o old ∧ Below w.heap.size w w' := by
  obtain ⟨X, HX, HPX, HBX⟩ : ∃ X, Hid (w.alloc (.cells #[.int .i64 0, .int .i64 0, .bool false, .int .i64 0, .int .i64 0, .int .u64 0, .int .u64 0, .int .i64 0, .bool false, .int .u64 0, .bool false, .int .u64 0, .int .u64 0, .slice none 0 0] 50) = X) ∧ Hid (Hp X w.heap.size 50 (rpC Ry.nil (.slice none 0 0))) ∧ Hid (Below w.heap.size w X) := ⟨_, rfl, Hp.new w (rpC Ry.nil (.slice none 0 0)) _, below_allocG _ _⟩
  have HD := keepG (h.below HBX.out)
  have HDW := keepG h
  obtain ⟨c0, c1, c2, c3, c4, c5⟩ := HD.out.low
  obtain ⟨a, cap, ev⟩ := own_shape h.all
  subst ev
  have hlen : (old ++ o.ln).length = old.length := by rw [hl]; simp
  rw [hlen] at c3
  obtain ⟨nx, HNX⟩ : ∃ nx, Hid (w.heap.size = nx) := ⟨_, rfl⟩
  have HPN := HPX
  rw [HNX.out] at HPN
  obtain ⟨⟨x0, x1, x2, x3, x4, x5, x6⟩, x7, x8, x9, x10, x11, x12, x13⟩ := rp_cellsD HPN.out
  obtain ⟨⟨y0, y1, y2, y3, y4, y5, y6⟩, y7, y8, y9, y10, y11, y12, y13⟩ := hp_fr HPN.out
  have hoo : ((old.length : Int) == old.length) = true := by simp
  have hnx : w.heap.size ≤ nx := Nat.le_of_eq HNX.out
  clear h c0 c1 c2 c5 hl
  go_enter Try.func14, Try.ntmps14
  go_wp2_with (rw [HX.out, HNX.out])
  refine wp_region_held_drew (S := fun w' => w'.cell? ⟨b, 3, none⟩ = some (.slice a old.length cap) ∧ w'.cell? ⟨b, 4, none⟩ = some (.int .i64 old.length)) (by kernel_rfl) ⟨c3, c4⟩ (fun hHeld => ?_)
  refine tkGo [0, 1, 2, 3, 4, 5, 6, 7, 8, 9] ?_
  repeat (refine tkOne (v := ?_) rfl (by kernel_rfl) (by kernel_rfl) (by kernel_rfl) (fun _ _ _ h => h) (by assumption) (by rfl) ?_ ?_; rotate_left; (intro wy hSw; (try dsimp only at hSw); go_simp; (first | done | with_reducible rfl)); try simp only [Act.put, List.getElem_toArray, List.getElem_cons_zero, List.getElem_cons_succ, List.setIfInBounds_toArray, List.set_cons_zero, List.set_cons_succ])
  refine tkEnd ?_
  refine wpAnyH_done (by kernel_rfl) ?_ _
  clear hHeld
  go_wp2
  exact rp_ret rfl rfl rfl (Hp.drew (HPN.out.sets (rpC Ry.nil (.slice none 0 0)) 0)) ⟨rfl, (HD.out.chg (Chg.sets X nx 0 (rpC Ry.nil (.slice none 0 0))) (fun k e1 e2 => by have := HDW.out.lies k e2; have e3 : k = nx := e1; omega)).below (below_drG (Below.refl _ _)), below_drG (HBX.out.trans (grown_to_below (grown_sets nx (rpC Ry.nil (.slice none 0 0)) X 0) hnx HBX.out.size))⟩
set_option maxHeartbeats 12800000 in
theorem dstep_some (h : Dw w B b vm va ps S F o old) (hk : o.Ok) (hB : B ≤ w.heap.size) (hz : (old ++ o.ln).length ≤ 1000000) (hc : old.length ≤ 3000) {q : Rt} {r : List Rt} (hl : o.ln = q :: r) : Calls Try.prog 14 #[.pointer (some ⟨b, 0, none⟩)] w fun e w' => ∃ u, e = .returned (.tuple #[rpV (o.serve q r).1 u, .bool true]) ∧ ∃ S' F', Dw w' B b vm va ps S' F' (o.serve q r).2 (old ++ [q]) ∧ Nx w w' (footW b vm va ps.length F) (footW b vm va ps.length F') ∧ RoPp w' w.heap.size u (o.serve q r).1.ps := by
  obtain ⟨X, HX, HPX, HBX, HZX⟩ : ∃ X, Hid (w.alloc (.cells #[.int .i64 0, .int .i64 0, .bool false, .int .i64 0, .int .i64 0, .int .u64 0, .int .u64 0, .int .i64 0, .bool false, .int .u64 0, .bool false, .int .u64 0, .int .u64 0, .slice none 0 0] 50) = X) ∧ Hid (Hp X w.heap.size 50 (rpC Ry.nil (.slice none 0 0))) ∧ Hid (Below w.heap.size w X) ∧ Hid (X.heap.size = w.heap.size + 1) := ⟨_, rfl, Hp.new w (rpC Ry.nil (.slice none 0 0)) _, below_allocG _ _, by show _ = _; simp⟩
  obtain ⟨nx, HNX⟩ : ∃ nx, Hid (w.heap.size = nx) := ⟨_, rfl⟩
  rw [HNX.out] at HPX
  have HDW := keepG h
  have HD := keepG (h.below HBX.out)
  obtain ⟨X1, HX1, HD1, HP1, HB1, HZ1⟩ : ∃ X1, Hid (X.drew = X1) ∧ Hid (Dw X1 B b vm va ps S F o old) ∧ Hid (Hp X1 nx 50 (rpC Ry.nil (.slice none 0 0))) ∧ Hid (Below w.heap.size w X1) ∧ Hid (X1.heap.size = w.heap.size + 1) := ⟨_, rfl, HD.out.below (below_drG (Below.refl X.heap.size X)), HPX.out.drew, below_drG HBX.out, HZX.out⟩
  obtain ⟨a, cap, ev⟩ := own_shape h.all
  subst ev
  have hlen : (old ++ o.ln).length = old.length + (r.length + 1) := by rw [hl]; simp
  obtain ⟨p, off, ev, hat⟩ := rtAt HD1.out.all.sees (j := old.length) (by omega)
  subst ev
  have hget : (old ++ o.ln).getD old.length Rt.nil = q := by rw [hl]; simp
  obtain ⟨d0, d1, d2, d3, d4, d5, d6⟩ := hat old.length (by omega) q hget
  have htk := hk.line q (by rw [hl]; simp)
  obtain ⟨k, hqm, hks⟩ := On.hasM_nat (On.takes_m htk)
  have hkp : k < ps.length := by rw [h.lp]; exact hks
  have hcap := (hk.inv k (by rw [← hk.len]; exact hks)).2
  have HINV := keepG (h.inv k hkp)
  have HCNT := keepG (h.cnt k hkp)
  obtain ⟨tf, tt, wk, tm, top, tk, tz⟩ := q
  simp only at hqm d0 d1 d2 d3 d4 d5 d6
  subst hqm
  obtain ⟨N, HN⟩ : ∃ N, Hid ((old ++ o.ln).length = N) := ⟨_, rfl⟩
  have hoN : ((old.length : Int) == N) = false := by have := HN.out; simp; omega
  have hoNI : (old.length : Int) < N := by have := HN.out; omega
  obtain ⟨c0, c1, c2, c3, c4, c5⟩ := HD.out.low
  obtain ⟨e0, e1, e2, e3, e4, e5⟩ := HD1.out.low
  rw [HN.out] at c3 e3
  obtain ⟨xm, cm, evm⟩ := own_shape h.maps
  have HL := keepG hl
  have HKP := keepG hkp
  have HCAP : Hid ((o.dk k).2 ≤ 16) := hcap
  have HHB := keepG hB
  have HHC := keepG hc
  clear h hk hat hget htk hks hkp hcap hl hB c0 c1 c2 c5 e0 e1 e2 e5 hlen
  obtain ⟨nq, HNQ⟩ : ∃ nq, Hid (X1.heap.size = nq) := ⟨_, rfl⟩
  have hqge : nx < nq := by have := HNQ.out; have := HZ1.out; have := HNX.out; omega
  obtain ⟨Y, HY, HPY, HPQ, HDY, HBY⟩ : ∃ Y, Hid ((X1.alloc (.cells #[.int .i64 0, .int .i64 0, .bool false, .int .i64 0, .int .i64 0, .int .u64 0, .int .u64 0] 45)).drew = Y) ∧ Hid (Hp Y nx 50 (rpC Ry.nil (.slice none 0 0))) ∧ Hid (Hp Y nq 45 (rtC Rt.nil)) ∧ Hid (Dw Y B b vm (.slice (some ⟨p, off, none⟩) (old ++ o.ln).length cap) ps S F o old) ∧ Hid (Below X1.heap.size X1 Y) := ⟨_, rfl, (HP1.out.alloc _).drew, by rw [← HNQ.out]; exact (Hp.new X1 (rtC Rt.nil) _).drew, HD1.out.below (below_drG (below_allocG X1 _)), below_drG (below_allocG X1 _)⟩
  have HROW : Hid (∀ wx, Below X1.heap.size X1 wx → wx.cell? ⟨b, 3, none⟩ = some (.slice (some ⟨p, off, none⟩) N cap) ∧ wx.cell? ⟨b, 4, none⟩ = some (.int .i64 old.length) ∧ wx.cell? ⟨p, off + old.length * 7, none⟩ = some (.int .i64 tf) ∧ wx.cell? ⟨p, off + old.length * 7 + 1, none⟩ = some (.int .i64 tt) ∧ wx.cell? ⟨p, off + old.length * 7 + 2, none⟩ = some (.bool wk) ∧ wx.cell? ⟨p, off + old.length * 7 + 3, none⟩ = some (.int .i64 k) ∧ wx.cell? ⟨p, off + old.length * 7 + 4, none⟩ = some (.int .i64 top) ∧ wx.cell? ⟨p, off + old.length * 7 + 5, none⟩ = some (.int .u64 tk) ∧ wx.cell? ⟨p, off + old.length * 7 + 6, none⟩ = some (.int .u64 tz)) := by
    intro wx hb
    have hd := HD1.out.below hb
    obtain ⟨_, _, _, g3, g4, _⟩ := hd.low
    rw [HN.out] at g3
    obtain ⟨p', off', ev, hat⟩ := rtAt hd.all.sees (j := old.length) (by have := HN.out; omega)
    have ev := Option.some.inj ev
    injection ev with ev1 ev2 _
    subst ev1 ev2
    exact ⟨g3, g4, hat old.length (by have := HN.out; omega) (⟨tf, tt, wk, (k : Int), top, tk, tz⟩ : Rt) (by rw [HL.out]; simp)⟩
  obtain ⟨z0, z1, z2, z3, z4, z5, z6⟩ : Y.cell? ⟨nq, 0, none⟩ = some (.int .i64 0) ∧ Y.cell? ⟨nq, 1, none⟩ = some (.int .i64 0) ∧ Y.cell? ⟨nq, 2, none⟩ = some (.bool false) ∧ Y.cell? ⟨nq, 3, none⟩ = some (.int .i64 0) ∧ Y.cell? ⟨nq, 4, none⟩ = some (.int .i64 0) ∧ Y.cell? ⟨nq, 5, none⟩ = some (.int .u64 0) ∧ Y.cell? ⟨nq, 6, none⟩ = some (.int .u64 0) := ⟨HPQ.out.cell (j := 0) rfl, HPQ.out.cell (j := 1) rfl, HPQ.out.cell (j := 2) rfl, HPQ.out.cell (j := 3) rfl, HPQ.out.cell (j := 4) rfl, HPQ.out.cell (j := 5) rfl, HPQ.out.cell (j := 6) rfl⟩
  obtain ⟨⟨y0, y1, y2, y3, y4, y5, y6⟩, -⟩ := hp_fr HPQ.out
  obtain ⟨Z, HZ, HPZ, HQZ, HDZ, HBZ⟩ : ∃ Z, Hid ((((((((Y.setCell ⟨nq, 0, none⟩ (.int .i64 tf)).setCell ⟨nq, 1, none⟩ (.int .i64 tt)).setCell ⟨nq, 2, none⟩ (.bool wk)).setCell ⟨nq, 3, none⟩ (.int .i64 k)).setCell ⟨nq, 4, none⟩ (.int .i64 top)).setCell ⟨nq, 5, none⟩ (.int .u64 tk)).setCell ⟨nq, 6, none⟩ (.int .u64 tz)) = Z) ∧ Hid (Hp Z nx 50 (rpC Ry.nil (.slice none 0 0))) ∧ Hid (Hp Z nq 45 (rtC (⟨tf, tt, wk, (k : Int), top, tk, tz⟩ : Rt))) ∧ Hid (Dw Z B b vm (.slice (some ⟨p, off, none⟩) (old ++ o.ln).length cap) ps S F o old) ∧ Hid (Below X1.heap.size X1 Z) := ⟨_, rfl, HPY.out.fars (show nx ≠ nq by omega) (rtC (⟨tf, tt, wk, (k : Int), top, tk, tz⟩ : Rt)) 0, HPQ.out.sets (rtC (⟨tf, tt, wk, (k : Int), top, tk, tz⟩ : Rt)) 0, HDY.out.chg (Chg.sets Y nq 0 (rtC (⟨tf, tt, wk, (k : Int), top, tk, tz⟩ : Rt))) (fun j e1 e2 => by have := HDW.out.lies j e2; have e3 : j = nq := e1; have := HNX.out; omega), HBY.out.trans (grown_to_below (grown_sets nq (rtC (⟨tf, tt, wk, (k : Int), top, tk, tz⟩ : Rt)) Y 0) (Nat.le_of_eq HNQ.out) HBY.out.size)⟩
  have w4 : Z.cell? ⟨b, 4, none⟩ = some (.int .i64 old.length) := (HROW.out Z HBZ.out).2.1
  have wf4 := HDZ.out.hp.frozen 4
  have hw1 : IntKind.i64.wrap ((old.length : Int) + 1) = (old.length : Int) + 1 := by rw [IntKind.wrap_i64]; have := HHC.out; omega
  obtain ⟨Z4, HZ4, HD4, HP4, HQ4, HC4⟩ : ∃ Z4, Hid ((Z.setCell ⟨b, 4, none⟩ (.int .i64 ((old.length : Int) + 1))) = Z4) ∧ Hid (Dw Z4 B b vm (.slice (some ⟨p, off, none⟩) (old ++ o.ln).length cap) ps S F (o.line r) (old ++ [(⟨tf, tt, wk, (k : Int), top, tk, tz⟩ : Rt)])) ∧ Hid (Hp Z4 nx 50 (rpC Ry.nil (.slice none 0 0))) ∧ Hid (Hp Z4 nq 45 (rtC (⟨tf, tt, wk, (k : Int), top, tk, tz⟩ : Rt))) ∧ Hid (Chg w Z4 (fun j => j = b)) := by
    have hb := HDW.out.hp.lt
    have hxx := HNX.out
    obtain ⟨g1, g2⟩ := HDZ.out.did HL.out
    exact ⟨_, rfl, g1, HPZ.out.far (by omega), HQZ.out.far (by omega), (Chg.of_below (HB1.out.trans (HBZ.out.mono HB1.out.size))).trans g2 (fun _ _ e => e)⟩
  obtain ⟨-, -, v2, -, -, -⟩ := HD4.out.low
  subst evm
  obtain ⟨pm, om, hxm, hcell⟩ : ∃ pm om, xm = some ⟨pm, om, none⟩ ∧ Z4.cell? ⟨pm, om + k, none⟩ = some (.pointer (some ⟨ps.getD k 0, 0, none⟩)) := by
    obtain ⟨a', cap', ev, _, _, _, hat⟩ := own_seesG ptC_len 0 HD4.out.maps
    simp only [Value.slice.injEq] at ev
    obtain ⟨rfl, _, rfl⟩ := ev
    obtain ⟨p', off', ev, _, hc'⟩ := hat (fun e => by have := HKP.out; rw [e] at this; simp at this)
    have := hc' k HKP.out 0 (by omega)
    rw [Nat.mul_one, Nat.add_zero] at this
    exact ⟨p', off', ev, this⟩
  subst hxm
  obtain ⟨n0, n1, n2, n3, n4, n5, n6⟩ : Z4.cell? ⟨nq, 0, none⟩ = some (.int .i64 tf) ∧ Z4.cell? ⟨nq, 1, none⟩ = some (.int .i64 tt) ∧ Z4.cell? ⟨nq, 2, none⟩ = some (.bool wk) ∧ Z4.cell? ⟨nq, 3, none⟩ = some (.int .i64 k) ∧ Z4.cell? ⟨nq, 4, none⟩ = some (.int .i64 top) ∧ Z4.cell? ⟨nq, 5, none⟩ = some (.int .u64 tk) ∧ Z4.cell? ⟨nq, 6, none⟩ = some (.int .u64 tz) := ⟨HQ4.out.cell (j := 0) rfl, HQ4.out.cell (j := 1) rfl, HQ4.out.cell (j := 2) rfl, HQ4.out.cell (j := 3) rfl, HQ4.out.cell (j := 4) rfl, HQ4.out.cell (j := 5) rfl, HQ4.out.cell (j := 6) rfl⟩
  have hkI : (k : Int) < ps.length := by have := HKP.out; omega
  go_enter Try.func14, Try.ntmps14
  go_wp2_with (rw [HX.out, HNX.out])
  refine wp_region_held_drew (S := fun w' => w'.cell? ⟨b, 3, none⟩ = some (.slice (some ⟨p, off, none⟩) N cap) ∧ w'.cell? ⟨b, 4, none⟩ = some (.int .i64 old.length)) (by kernel_rfl) ⟨c3, c4⟩ (fun hHeld => ?_)
  refine tkGo [0, 1, 2, 3, 4, 5, 6, 7, 8, 9] ?_
  repeat (refine tkOne (v := ?_) rfl (by kernel_rfl) (by kernel_rfl) (by kernel_rfl) (fun _ _ _ h => h) (by assumption) (by rfl) ?_ ?_; rotate_left; (intro wy hSw; (try dsimp only at hSw); go_simp; (first | done | with_reducible rfl)); try simp only [Act.put, List.getElem_toArray, List.getElem_cons_zero, List.getElem_cons_succ, List.setIfInBounds_toArray, List.set_cons_zero, List.set_cons_succ])
  refine tkEnd ?_
  refine wpAnyH_done (by kernel_rfl) ?_ _
  clear hHeld
  rw [HX1.out]
  go_wp2
  refine wp_region_held_drew (S := fun w' => w'.cell? ⟨b, 3, none⟩ = some (.slice (some ⟨p, off, none⟩) N cap) ∧ w'.cell? ⟨b, 4, none⟩ = some (.int .i64 old.length) ∧ w'.cell? ⟨p, off + old.length * 7, none⟩ = some (.int .i64 tf) ∧ w'.cell? ⟨p, off + old.length * 7 + 1, none⟩ = some (.int .i64 tt) ∧ w'.cell? ⟨p, off + old.length * 7 + 2, none⟩ = some (.bool wk) ∧ w'.cell? ⟨p, off + old.length * 7 + 3, none⟩ = some (.int .i64 k) ∧ w'.cell? ⟨p, off + old.length * 7 + 4, none⟩ = some (.int .i64 top) ∧ w'.cell? ⟨p, off + old.length * 7 + 5, none⟩ = some (.int .u64 tk) ∧ w'.cell? ⟨p, off + old.length * 7 + 6, none⟩ = some (.int .u64 tz)) (by kernel_rfl) (HROW.out X1 (Below.refl _ _)) (fun hHeld => ?_)
  refine tkGo [0, 1, 2, 3, 4, 5, 6, 7, 8, 9] ?_
  repeat (refine tkOne (v := ?_) rfl (by kernel_rfl) (by kernel_rfl) (by kernel_rfl) (fun _ _ _ h => h) (by assumption) (by rfl) ?_ ?_; rotate_left; (intro wy hSw; (try dsimp only at hSw); go_simp; (first | done | with_reducible rfl)); try simp only [Act.put, List.getElem_toArray, List.getElem_cons_zero, List.getElem_cons_succ, List.setIfInBounds_toArray, List.set_cons_zero, List.set_cons_succ])
  refine tkEnd ?_
  refine wpAnyH_ready (rs := [10]) (by kernel_rfl) (by simp) ?_
  refine AllReadyH.cons rfl (fun KK hK => ?_) AllReadyH.nil
  rw [if_pos (by rfl)]
  go_simp
  rw [HY.out]
  refine hK.out _ _ (HROW.out Y HBY.out) (fun hHeld => ?_)
  clear hK KK
  try simp only [Act.put, List.getElem_toArray, List.getElem_cons_zero, List.getElem_cons_succ, List.setIfInBounds_toArray, List.set_cons_zero, List.set_cons_succ]
  rw [HNQ.out]
  refine wpAnyH_ready (rs := [11]) (by kernel_rfl) (by simp) ?_
  refine AllReadyH.cons rfl (fun KK hK => ?_) AllReadyH.nil
  rw [if_pos (by rfl)]
  go_simp
  rw [HZ.out]
  refine hK.out _ _ (HROW.out Z HBZ.out) (fun hHeld => ?_)
  clear hK KK
  try simp only [Act.put, List.getElem_toArray, List.getElem_cons_zero, List.getElem_cons_succ, List.setIfInBounds_toArray, List.set_cons_zero, List.set_cons_succ]
  refine wpAnyH_done (by kernel_rfl) ?_ _
  clear hHeld
  go_wp2_with (rw [HZ4.out])
  refine wp_region_held_drew (S := fun w' => w'.cell? ⟨b, 2, none⟩ = some (.slice (some ⟨pm, om, none⟩) ps.length cm) ∧ w'.cell? ⟨nq, 3, none⟩ = some (.int .i64 k) ∧ w'.cell? ⟨pm, om + k, none⟩ = some (.pointer (some ⟨ps.getD k 0, 0, none⟩))) (by kernel_rfl) ⟨v2, n3, hcell⟩ (fun hHeld => ?_)
  refine tkGo [0, 1, 2, 3, 4, 5, 6, 7, 8, 9] ?_
  repeat (refine tkOne (v := ?_) rfl (by kernel_rfl) (by kernel_rfl) (by kernel_rfl) (fun _ _ _ h => h) (by assumption) (by rfl) ?_ ?_; rotate_left; (intro wy hSw; (try dsimp only at hSw); go_simp; (first | done | with_reducible rfl)); try simp only [Act.put, List.getElem_toArray, List.getElem_cons_zero, List.getElem_cons_succ, List.setIfInBounds_toArray, List.set_cons_zero, List.set_cons_succ])
  refine tkEnd ?_
  refine wpAnyH_done (by kernel_rfl) ?_ _
  clear hHeld
  obtain ⟨Z5, HZ5, HD5, HP5, HQ5, HC5⟩ : ∃ Z5, Hid (Z4.drew = Z5) ∧ Hid (Dw Z5 B b (.slice (some ⟨pm, om, none⟩) ps.length cm) (.slice (some ⟨p, off, none⟩) (old ++ o.ln).length cap) ps S F (o.line r) (old ++ [(⟨tf, tt, wk, (k : Int), top, tk, tz⟩ : Rt)])) ∧ Hid (Hp Z5 nx 50 (rpC Ry.nil (.slice none 0 0))) ∧ Hid (Hp Z5 nq 45 (rtC (⟨tf, tt, wk, (k : Int), top, tk, tz⟩ : Rt))) ∧ Hid (Chg w Z5 (fun j => j = b)) := ⟨_, rfl, HD4.out.below (below_drG (Below.refl Z4.heap.size Z4)), HP4.out.drew, HQ4.out.drew, HC4.out.drewN 1⟩
  rw [HZ5.out]
  have HQC : Hid (∀ wx : World, Hp wx nq 45 (rtC (⟨tf, tt, wk, (k : Int), top, tk, tz⟩ : Rt)) → wx.cell? ⟨nq, 0, none⟩ = some (.int .i64 tf) ∧ wx.cell? ⟨nq, 1, none⟩ = some (.int .i64 tt) ∧ wx.cell? ⟨nq, 2, none⟩ = some (.bool wk) ∧ wx.cell? ⟨nq, 3, none⟩ = some (.int .i64 k) ∧ wx.cell? ⟨nq, 4, none⟩ = some (.int .i64 top) ∧ wx.cell? ⟨nq, 5, none⟩ = some (.int .u64 tk) ∧ wx.cell? ⟨nq, 6, none⟩ = some (.int .u64 tz)) := fun wx h => ⟨h.cell (j := 0) rfl, h.cell (j := 1) rfl, h.cell (j := 2) rfl, h.cell (j := 3) rfl, h.cell (j := 4) rfl, h.cell (j := 5) rfl, h.cell (j := 6) rfl⟩
  obtain ⟨m0, m1, m2, m3, m4, m5, m6⟩ := HQC.out Z5 HQ5.out
  have HD6 := keepG (HD5.out.below (below_drG (Below.refl Z5.heap.size Z5)))
  have HSZ : Hid (w.heap.size ≤ Z5.drew.heap.size) := HC5.out.size
  have HFN : Hid (∀ j, F k j → j < w.heap.size) := HDW.out.fam.li k HKP.out
  have HWX := keepG HNX.out
  clear n0 n1 n2 n3 n4 n5 n6 v2 hcell
  cases wk with
  | true =>
    have HSV : Hid (o.serve (⟨tf, tt, true, (k : Int), top, tk, tz⟩ : Rt) r = ((⟨(⟨tf, tt, true, (k : Int), top, tk, tz⟩ : Rt), Rq.none, (o.sk k).1⟩ : Ry), o.line r)) := by show _ = _; unfold On.serve; rw [if_pos rfl]; rfl
    have HCP := keepG (Ds.pairs (HD6.out.fam.ob k HKP.out) (t := o.sk k) HINV.out HCAP.out)
    go_wp2
    refine wp_region_held_drew (S := fun w' => w'.cell? ⟨nq, 0, none⟩ = some (.int .i64 tf) ∧ w'.cell? ⟨nq, 1, none⟩ = some (.int .i64 tt) ∧ w'.cell? ⟨nq, 2, none⟩ = some (.bool true) ∧ w'.cell? ⟨nq, 3, none⟩ = some (.int .i64 k) ∧ w'.cell? ⟨nq, 4, none⟩ = some (.int .i64 top) ∧ w'.cell? ⟨nq, 5, none⟩ = some (.int .u64 tk) ∧ w'.cell? ⟨nq, 6, none⟩ = some (.int .u64 tz)) (by kernel_rfl) ⟨m0, m1, m2, m3, m4, m5, m6⟩ (fun hHeld => ?_)
    refine tkGo [0, 1, 2, 3, 4, 5, 6] ?_
    repeat (refine tkOne (v := ?_) rfl (by kernel_rfl) (by kernel_rfl) (by kernel_rfl) (fun _ _ _ h => h) (by assumption) (by rfl) ?_ ?_; rotate_left; (intro wy hSw; (try dsimp only at hSw); go_simp; (first | done | with_reducible rfl)); try simp only [Act.put, List.getElem_toArray, List.getElem_cons_zero, List.getElem_cons_succ, List.setIfInBounds_toArray, List.set_cons_zero, List.set_cons_succ])
    refine tkEnd ?_
    refine wpAnyH_ready (rs := [7]) (by kernel_rfl) (by simp) ?_
    refine AllReadyH.cons rfl (fun KK hK => ?_) AllReadyH.nil
    rw [if_pos (by rfl)]
    go_simp
    go_at_call 20
    refine HCP.out.mono ?_
    rintro e w6 ⟨u, rfl, hr6, hb6⟩
    obtain ⟨ua, uc, ev⟩ := own_shape hr6
    subst ev
    have HP6 := keepG (Hp.below (w := Z5.drew) HP5.out.drew hb6 HP5.out.drew.lt)
    have HQ6 := keepG (Hp.below (w := Z5.drew) HQ5.out.drew hb6 HQ5.out.drew.lt)
    have HD7 := keepG (HD6.out.below hb6)
    have HR6 := keepG hr6
    have HC6 : Hid (Chg w w6 (fun j => j = b)) := HC5.out.trans (Chg.of_below (show Below Z5.heap.size Z5 w6 from below_undrG hb6)) (fun _ _ e => e)
    clear hr6 hb6
    go_simp
    refine hK.out _ _ (HQC.out w6 HQ6.out) (fun hHeld => ?_)
    clear hK KK
    try simp only [Act.put, List.getElem_toArray, List.getElem_cons_zero, List.getElem_cons_succ, List.setIfInBounds_toArray, List.set_cons_zero, List.set_cons_succ]
    refine tkGo [8] ?_
    repeat (refine tkOne (v := ?_) rfl (by kernel_rfl) (by kernel_rfl) (by kernel_rfl) (fun _ _ _ h => h) (by assumption) (by rfl) ?_ ?_; rotate_left; (intro wy hSw; (try dsimp only at hSw); go_simp; (first | done | with_reducible rfl)); try simp only [Act.put, List.getElem_toArray, List.getElem_cons_zero, List.getElem_cons_succ, List.setIfInBounds_toArray, List.set_cons_zero, List.set_cons_succ])
    refine tkEnd ?_
    obtain ⟨⟨x0, x1, x2, x3, x4, x5, x6⟩, x7, x8, x9, x10, x11, x12, x13⟩ := rp_cellsD HP6.out
    obtain ⟨⟨y0, y1, y2, y3, y4, y5, y6⟩, y7, y8, y9, y10, y11, y12, y13⟩ := hp_fr HP6.out
    obtain ⟨W7, HW7, HP7, HQ7, HC7⟩ : ∃ W7, Hid (((((((((((((((w6.setCell ⟨nx, 0, none⟩ (.int .i64 tf)).setCell ⟨nx, 1, none⟩ (.int .i64 tt)).setCell ⟨nx, 2, none⟩ (.bool true)).setCell ⟨nx, 3, none⟩ (.int .i64 k)).setCell ⟨nx, 4, none⟩ (.int .i64 top)).setCell ⟨nx, 5, none⟩ (.int .u64 tk)).setCell ⟨nx, 6, none⟩ (.int .u64 tz)).setCell ⟨nx, 7, none⟩ (.int .i64 0)).setCell ⟨nx, 8, none⟩ (.bool false)).setCell ⟨nx, 9, none⟩ (.int .u64 0)).setCell ⟨nx, 10, none⟩ (.bool false)).setCell ⟨nx, 11, none⟩ (.int .u64 0)).setCell ⟨nx, 12, none⟩ (.int .u64 0)).setCell ⟨nx, 13, none⟩ (.slice ua (o.sk k).1.length uc)) = W7) ∧ Hid (Hp W7 nx 50 (rpC (⟨(⟨tf, tt, true, (k : Int), top, tk, tz⟩ : Rt), Rq.none, (o.sk k).1⟩ : Ry) (.slice ua (o.sk k).1.length uc))) ∧ Hid (Hp W7 nq 45 (rtC (⟨tf, tt, true, (k : Int), top, tk, tz⟩ : Rt))) ∧ Hid (Chg w6 W7 (fun j => j = nx)) := ⟨_, rfl, HP6.out.sets (rpC (⟨(⟨tf, tt, true, (k : Int), top, tk, tz⟩ : Rt), Rq.none, (o.sk k).1⟩ : Ry) (.slice ua (o.sk k).1.length uc)) 0, HQ6.out.fars (show nq ≠ nx by omega) (rpC (⟨(⟨tf, tt, true, (k : Int), top, tk, tz⟩ : Rt), Rq.none, (o.sk k).1⟩ : Ry) (.slice ua (o.sk k).1.length uc)) 0, Chg.sets w6 nx 0 (rpC (⟨(⟨tf, tt, true, (k : Int), top, tk, tz⟩ : Rt), Rq.none, (o.sk k).1⟩ : Ry) (.slice ua (o.sk k).1.length uc))⟩
    refine wpAnyH_ready (rs := [9]) (by kernel_rfl) (by simp) ?_
    refine AllReadyH.cons rfl (fun KK hK => ?_) AllReadyH.nil
    rw [if_pos (by rfl)]
    go_simp
    rw [HW7.out]
    refine hK.out _ _ (HQC.out W7 HQ7.out) (fun hHeld => ?_)
    clear hK KK
    try simp only [Act.put, List.getElem_toArray, List.getElem_cons_zero, List.getElem_cons_succ, List.setIfInBounds_toArray, List.set_cons_zero, List.set_cons_succ]
    refine tkGo [10] ?_
    repeat (refine tkOne (v := ?_) rfl (by kernel_rfl) (by kernel_rfl) (by kernel_rfl) (fun _ _ _ h => h) (by assumption) (by rfl) ?_ ?_; rotate_left; (intro wy hSw; (try dsimp only at hSw); go_simp; (first | done | with_reducible rfl)); try simp only [Act.put, List.getElem_toArray, List.getElem_cons_zero, List.getElem_cons_succ, List.setIfInBounds_toArray, List.set_cons_zero, List.set_cons_succ])
    refine tkEnd ?_
    refine wpAnyH_done (by kernel_rfl) ?_ _
    clear hHeld
    go_wp2
    have HFT : Hid (∀ j, footW b (.slice (some ⟨pm, om, none⟩) ps.length cm) (.slice (some ⟨p, off, none⟩) (old ++ o.ln).length cap) ps.length F j → j < w.heap.size) := HDW.out.lies
    refine rp_ret rfl rfl rfl HP7.out ⟨_, by rw [HSV.out], S, F, ?_, ⟨?_, fun j hj => .inl hj⟩, ?_⟩
    · rw [HSV.out]
      exact HD7.out.chg HC7.out (fun j e1 e2 => by have := HFT.out j e2; have e3 : j = nx := e1; have := HWX.out; omega)
    · exact (HC6.out.mono (T := footW b (.slice (some ⟨pm, om, none⟩) ps.length cm) (.slice (some ⟨p, off, none⟩) (old ++ o.ln).length cap) ps.length F) (fun j e => .inl (.inl e))).trans HC7.out (fun j h1 e => by have e3 : j = nx := e; have := HWX.out; omega)
    · rw [HSV.out]
      exact own_lowG (own_chg HR6.out HC7.out (fun j hj e => by have := (HR6.out.lt j hj).1; have e3 : j = nx := e; have h5 : nx < Z5.heap.size := HP5.out.lt; have h6 : Z5.drew.heap.size = Z5.heap.size := rfl; omega)) HSZ.out
  | false =>
    obtain ⟨x, s5, HDD⟩ : ∃ x s5, Hid (doD (o.dk k).1 (o.dk k).2 (S.getD k Lt.nil) top tk tz = (x, s5)) := ⟨_, _, rfl⟩
    obtain ⟨hd1, hd2⟩ := HINV.out.do top tk tz
    have hdc := doD_c (o.dk k).1 (o.dk k).2 (S.getD k Lt.nil) top tk tz
    rw [HDD.out] at hd1 hd2 hdc
    obtain ⟨xE, xf, xv, xo, xk, xu⟩ := x
    simp only at hd1 hd2 hdc
    obtain ⟨t5, HT5⟩ : ∃ t5, Hid ((doSh (o.dk k).1 (o.dk k).2 (o.sk k) top tk tz).2 = t5) := ⟨_, rfl⟩
    rw [HT5.out] at hd2
    have HI5 := keepG hd2
    have HC9 : Hid (s5.c ≤ (old ++ [(⟨tf, tt, false, (k : Int), top, tk, tz⟩ : Rt)]).length) := by show _ ≤ _; have := HCNT.out; simp; omega
    have HSV : Hid (o.serve (⟨tf, tt, false, (k : Int), top, tk, tz⟩ : Rt) r = ((⟨(⟨tf, tt, false, (k : Int), top, tk, tz⟩ : Rt), ⟨xE, xf, xv, xo, xk, xu⟩, []⟩ : Ry), (⟨o.sh, o.n, o.ds, o.st.set k t5, r, o.over⟩ : On))) := by
      show _ = _
      have h1 : (doSh (o.df (k : Int)).1 (o.df (k : Int)).2 (o.sr (k : Int)) top tk tz).1 = ⟨xE, xf, xv, xo, xk, xu⟩ := hd1
      have h2 : (doSh (o.df (k : Int)).1 (o.df (k : Int)).2 (o.sr (k : Int)) top tk tz).2 = t5 := HT5.out
      unfold On.serve
      simp only [Bool.false_eq_true, if_false, h1, h2]
      rfl
    have hcd := Ds.do_any top tk tz (HD6.out.fam.ob k HKP.out) (t := o.sk k) HINV.out HCAP.out (by have := HCNT.out; have := HHC.out; omega) (Nat.le_trans HHB.out HSZ.out)
    have hcd2 : Calls Try.prog 29 #[.pointer (some ⟨ps.getD k 0, 0, none⟩), .int .i64 top, .int .u64 tk, .int .u64 tz] Z5.drew fun e w' => e = .returned (resG (doD (o.dk k).1 (o.dk k).2 (S.getD k Lt.nil) top tk tz).1.E (doD (o.dk k).1 (o.dk k).2 (S.getD k Lt.nil) top tk tz).1.f (doD (o.dk k).1 (o.dk k).2 (S.getD k Lt.nil) top tk tz).1.v (doD (o.dk k).1 (o.dk k).2 (S.getD k Lt.nil) top tk tz).1.o (doD (o.dk k).1 (o.dk k).2 (S.getD k Lt.nil) top tk tz).1.k (doD (o.dk k).1 (o.dk k).2 (S.getD k Lt.nil) top tk tz).1.u) ∧ ∃ F', Ds w' B (ps.getD k 0) (o.dk k).1 (o.dk k).2 (doD (o.dk k).1 (o.dk k).2 (S.getD k Lt.nil) top tk tz).2 F' ∧ Nx Z5.drew w' (F k) F' := hcd
    rw [HDD.out] at hcd2
    have HCD := keepG hcd2
    simp only at HCD
    clear hcd hcd2 hd1 hd2 hdc
    go_wp2
    refine wp_region_held_drew (S := fun w' => w'.cell? ⟨nq, 0, none⟩ = some (.int .i64 tf) ∧ w'.cell? ⟨nq, 1, none⟩ = some (.int .i64 tt) ∧ w'.cell? ⟨nq, 2, none⟩ = some (.bool false) ∧ w'.cell? ⟨nq, 3, none⟩ = some (.int .i64 k) ∧ w'.cell? ⟨nq, 4, none⟩ = some (.int .i64 top) ∧ w'.cell? ⟨nq, 5, none⟩ = some (.int .u64 tk) ∧ w'.cell? ⟨nq, 6, none⟩ = some (.int .u64 tz)) (by kernel_rfl) ⟨m0, m1, m2, m3, m4, m5, m6⟩ (fun hHeld => ?_)
    refine tkGo [0, 1, 2, 3, 4, 5, 6, 7, 8, 9, 10, 11, 12, 13, 14, 15] ?_
    repeat (refine tkOne (v := ?_) rfl (by kernel_rfl) (by kernel_rfl) (by kernel_rfl) (fun _ _ _ h => h) (by assumption) (by rfl) ?_ ?_; rotate_left; (intro wy hSw; (try dsimp only at hSw); go_simp; (first | done | with_reducible rfl)); try simp only [Act.put, List.getElem_toArray, List.getElem_cons_zero, List.getElem_cons_succ, List.setIfInBounds_toArray, List.set_cons_zero, List.set_cons_succ])
    refine tkEnd ?_
    refine wpAnyH_ready (rs := [16]) (by kernel_rfl) (by simp) ?_
    refine AllReadyH.cons rfl (fun KK hK => ?_) AllReadyH.nil
    rw [if_pos (by rfl)]
    go_simp
    go_at_call 29
    refine HCD.out.mono ?_
    rintro e w6 ⟨rfl, F5, hS5, hn5⟩
    have HP6 := keepG (Hp.chg (w := Z5.drew) HP5.out.drew hn5.chg (fun e => by have := HFN.out _ e; have := HWX.out; omega))
    have HQ6 := keepG (Hp.chg (w := Z5.drew) HQ5.out.drew hn5.chg (fun e => by have := HFN.out _ e; have := HWX.out; omega))
    have HGO := keepG (HD6.out.go HKP.out hS5 hn5 (t' := t5) HI5.out HC9.out)
    have HN5 := keepG hn5.chg
    clear hS5 hn5
    dsimp only [resG]
    go_simp
    refine hK.out _ _ (HQC.out w6 HQ6.out) (fun hHeld => ?_)
    clear hK KK
    try simp only [Act.put, List.getElem_toArray, List.getElem_cons_zero, List.getElem_cons_succ, List.setIfInBounds_toArray, List.set_cons_zero, List.set_cons_succ]
    refine tkGo [17] ?_
    repeat (refine tkOne (v := ?_) rfl (by kernel_rfl) (by kernel_rfl) (by kernel_rfl) (fun _ _ _ h => h) (by assumption) (by rfl) ?_ ?_; rotate_left; (intro wy hSw; (try dsimp only at hSw); go_simp; (first | done | with_reducible rfl)); try simp only [Act.put, List.getElem_toArray, List.getElem_cons_zero, List.getElem_cons_succ, List.setIfInBounds_toArray, List.set_cons_zero, List.set_cons_succ])
    refine tkEnd ?_
    obtain ⟨⟨x0, x1, x2, x3, x4, x5, x6⟩, x7, x8, x9, x10, x11, x12, x13⟩ := rp_cellsD HP6.out
    obtain ⟨⟨y0, y1, y2, y3, y4, y5, y6⟩, y7, y8, y9, y10, y11, y12, y13⟩ := hp_fr HP6.out
    obtain ⟨W7, HW7, HP7, HQ7, HC7⟩ : ∃ W7, Hid (((((((((((((((w6.setCell ⟨nx, 0, none⟩ (.int .i64 tf)).setCell ⟨nx, 1, none⟩ (.int .i64 tt)).setCell ⟨nx, 2, none⟩ (.bool false)).setCell ⟨nx, 3, none⟩ (.int .i64 k)).setCell ⟨nx, 4, none⟩ (.int .i64 top)).setCell ⟨nx, 5, none⟩ (.int .u64 tk)).setCell ⟨nx, 6, none⟩ (.int .u64 tz)).setCell ⟨nx, 7, none⟩ (.int .i64 xE)).setCell ⟨nx, 8, none⟩ (.bool xf)).setCell ⟨nx, 9, none⟩ (.int .u64 xv)).setCell ⟨nx, 10, none⟩ (.bool xo)).setCell ⟨nx, 11, none⟩ (.int .u64 xk)).setCell ⟨nx, 12, none⟩ (.int .u64 xu)).setCell ⟨nx, 13, none⟩ (.slice none 0 0)) = W7) ∧ Hid (Hp W7 nx 50 (rpC (⟨(⟨tf, tt, false, (k : Int), top, tk, tz⟩ : Rt), ⟨xE, xf, xv, xo, xk, xu⟩, []⟩ : Ry) (.slice none 0 0))) ∧ Hid (Hp W7 nq 45 (rtC (⟨tf, tt, false, (k : Int), top, tk, tz⟩ : Rt))) ∧ Hid (Chg w6 W7 (fun j => j = nx)) := ⟨_, rfl, HP6.out.sets (rpC (⟨(⟨tf, tt, false, (k : Int), top, tk, tz⟩ : Rt), ⟨xE, xf, xv, xo, xk, xu⟩, []⟩ : Ry) (.slice none 0 0)) 0, HQ6.out.fars (show nq ≠ nx by omega) (rpC (⟨(⟨tf, tt, false, (k : Int), top, tk, tz⟩ : Rt), ⟨xE, xf, xv, xo, xk, xu⟩, []⟩ : Ry) (.slice none 0 0)) 0, Chg.sets w6 nx 0 (rpC (⟨(⟨tf, tt, false, (k : Int), top, tk, tz⟩ : Rt), ⟨xE, xf, xv, xo, xk, xu⟩, []⟩ : Ry) (.slice none 0 0))⟩
    refine wpAnyH_ready (rs := [18]) (by kernel_rfl) (by simp) ?_
    refine AllReadyH.cons rfl (fun KK hK => ?_) AllReadyH.nil
    rw [if_pos (by rfl)]
    go_simp
    rw [HW7.out]
    refine hK.out _ _ (HQC.out W7 HQ7.out) (fun hHeld => ?_)
    clear hK KK
    try simp only [Act.put, List.getElem_toArray, List.getElem_cons_zero, List.getElem_cons_succ, List.setIfInBounds_toArray, List.set_cons_zero, List.set_cons_succ]
    refine tkGo [19] ?_
    repeat (refine tkOne (v := ?_) rfl (by kernel_rfl) (by kernel_rfl) (by kernel_rfl) (fun _ _ _ h => h) (by assumption) (by rfl) ?_ ?_; rotate_left; (intro wy hSw; (try dsimp only at hSw); go_simp; (first | done | with_reducible rfl)); try simp only [Act.put, List.getElem_toArray, List.getElem_cons_zero, List.getElem_cons_succ, List.setIfInBounds_toArray, List.set_cons_zero, List.set_cons_succ])
    refine tkEnd ?_
    refine wpAnyH_done (by kernel_rfl) ?_ _
    clear hHeld
    go_wp2
    have HFT : Hid (∀ j, footW b (.slice (some ⟨pm, om, none⟩) ps.length cm) (.slice (some ⟨p, off, none⟩) (old ++ o.ln).length cap) ps.length F j → j < w.heap.size) := HDW.out.lies
    have HFT5 : Hid (∀ j, footW b (.slice (some ⟨pm, om, none⟩) ps.length cm) (.slice (some ⟨p, off, none⟩) (old ++ o.ln).length cap) ps.length (upd F k F5) j → footW b (.slice (some ⟨pm, om, none⟩) ps.length cm) (.slice (some ⟨p, off, none⟩) (old ++ o.ln).length cap) ps.length F j ∨ Z5.drew.heap.size ≤ j) := HGO.out.2.new
    refine rp_ret rfl rfl rfl HP7.out ⟨_, by rw [HSV.out], S.set k s5, upd F k F5, ?_, ⟨?_, fun j hj => ?_⟩, ?_⟩
    · rw [HSV.out]
      refine HGO.out.1.chg HC7.out (fun j e1 e2 => ?_)
      have e3 : j = nx := e1
      have h5 : nx < Z5.heap.size := HP5.out.lt
      have h6 : Z5.drew.heap.size = Z5.heap.size := rfl
      rcases HFT5.out j e2 with g | g
      · have := HFT.out j g; have := HWX.out; omega
      · omega
    · exact (((HC5.out.drewN 1).mono (T := footW b (.slice (some ⟨pm, om, none⟩) ps.length cm) (.slice (some ⟨p, off, none⟩) (old ++ o.ln).length cap) ps.length F) (fun j e => .inl (.inl e))).trans (HN5.out.mono (T := footW b (.slice (some ⟨pm, om, none⟩) ps.length cm) (.slice (some ⟨p, off, none⟩) (old ++ o.ln).length cap) ps.length F) (fun j e => .inr (.inr ⟨k, HKP.out, e⟩))) (fun _ _ e => e)).trans HC7.out (fun j h1 e => by have e3 : j = nx := e; have := HWX.out; omega)
    · rcases HFT5.out j hj with g | g
      · exact .inl g
      · exact .inr (Nat.le_trans HSZ.out g)
    · rw [HSV.out]
      exact World.ownsRow_nil _ _ _ _
end
end Go.Proofs.Ytpbfgebecgikjaa
namespace Go.Proofs.Ytpbfgebecgikjaa
open Go.RowKit
set_option linter.unusedVariables false
set_option linter.unusedSimpArgs false
set_option maxRecDepth 100000
section
variable {w w' w2 : World} {B b : Nat} {vm va va2 : Value} {ps : List Nat} {S : List Lt} {F : Nat → Ft} {o o' : On} {old l : List Rt}
/-- The line grew, and is put into its place. -/
theorem Dw.put (h : Dw w B b vm va ps S F o old) (hc : Chg w w2 (fun k => va.ownBlock = some k)) (hall : RoRt w2 B va2 (old ++ l)) (hnew : va2.ownBlock = va.ownBlock ∨ ∃ k, va2.ownBlock = some k ∧ w.heap.size ≤ k) : Dw (w2.setCell ⟨b, 3, none⟩ va2) B b vm va2 ps S F (o.line l) old ∧ Nx w (w2.setCell ⟨b, 3, none⟩ va2) (footW b vm va ps.length F) (footW b vm va2 ps.length F) := by
  have n0 : ¬ va.ownBlock = some b := own_type10 h.all h.hp (by decide)
  have hb2 : Hp w2 b 62 [.int .i64 o.sh, .int .i64 o.n, vm, va, .int .i64 old.length, .bool o.over] := h.hp.chg hc n0
  have hm2 : w2.ownsRow B 59 1 vm ps.length (flatG ptC ps) := own_chg h.maps hc (fun k hk e => own_twoG h.maps h.all (by decide) k hk e)
  have hcs := Chg.set w2 b 3 va2
  have hf2 : Fam (fun w i G => Ds w B (ps.getD i 0) (o.dk i).1 (o.dk i).2 (S.getD i Lt.nil) G) w2 ps.length F := h.fam.keeps hc (fun j hj g => g.keeps hc (fun k e1 e2 => h.nrow h.all (by decide) (by decide) (by decide) (by decide) (by decide) (by decide) k e1 ⟨j, hj, e2⟩))
  refine ⟨⟨hb2.set 3 va2, own_chg hm2 hcs (fun k hk e => ?_), own_chg hall hcs (fun k hk e => ?_), h.lp, h.lS, h.inv, hf2.keeps hcs (fun j hj g => g.keeps hcs (fun k e1 e2 => by subst e1; exact h.nb ⟨j, hj, e2⟩)), h.cnt⟩, ?_, ?_⟩
  · subst e; exact own_type10 hm2 hb2 (by decide) hk
  · subst e; exact own_type10 hall hb2 (by decide) hk
  · exact (hc.mono (T := footW b vm va ps.length F) (fun k e => .inr (.inl e))).trans hcs (fun k _ e => .inl (.inl e))
  · rintro k (e | e | e)
    · exact .inl (.inl e)
    · rcases hnew with g | ⟨j, g1, g2⟩
      · exact .inl (.inr (.inl (by rw [← g]; exact e)))
      · rw [g1] at e
        exact .inr (by have := Option.some.inj e; omega)
    · exact .inl (.inr (.inr e))
set_option maxHeartbeats 12800000 in
theorem dsend (h : Dw w B b vm va ps S F o old) (hn : 1 ≤ o.n ∧ o.n ≤ 4) (hB : B ≤ w.heap.size) {qv : Value} {qs : List Rt} (hz : ((old ++ o.ln).length + qs.length) * 56 ≤ 140737488355328) (hs : SeesG rtC 7 Rt.nil w qv qs) (hwf : ∀ q ∈ qs, q.wf) {E : Int} (HQ : Hid (o.send qs = (E, o'))) : Calls Try.prog 11 #[.pointer (some ⟨b, 0, none⟩), qv] w fun e w' => e = .returned (.int .i64 E) ∧ ∃ va', Dw w' B b vm va' ps S F o' old ∧ Nx w w' (footW b vm va ps.length F) (footW b vm va' ps.length F) := by
  obtain ⟨c0, c1, c2, c3, c4, c5⟩ := h.low
  have HD := keepG h
  have HQV := keepG (fun (wx : World) (hb : Below w.heap.size w wx) => hs.below hb (Nat.le_refl _))
  have HWF := keepG hwf
  have hq := HQ.out
  unfold On.send at hq
  obtain ⟨qa, qc, ev, hql, hqm⟩ := hs.shape
  subst ev
  obtain ⟨xm, cm, evm⟩ := own_shape h.maps
  subst evm
  obtain ⟨aa, ac, eva⟩ := own_shape h.all
  obtain ⟨N, HN⟩ : ∃ N, Hid ((old ++ o.ln).length = N) := ⟨_, rfl⟩
  rw [HN.out] at eva
  subst eva
  obtain ⟨i0, hi0, hz0, hzs, hzb⟩ := info_parts infoRt
  have HZ := keepG hz
  have HHB := keepG hB
  have hlp := h.lp
  have HLP := keepG hlp
  clear h hs hwf HQ hB hz hlp
  go_enter Try.func11, Try.ntmps11
  cases hov : o.over with
  | true =>
    rw [hov] at c5
    rw [if_pos hov] at hq
    injection hq with e1 e2
    subst e1 e2
    clear hov
    go_wp2
    go_ret
    exact ⟨rfl, _, HD.out, Nx.refl _ _⟩
  | false =>
    rw [hov] at c5
    rw [if_neg (by rw [hov]; decide)] at hq
    have HQ2 := keepG hq
    clear hq hov
    go_wp2
    go_loopw [5] (fun i wr => ∃ j : Nat, j ≤ qs.length ∧ i = .int .i64 j ∧ Hid ((qs.take j).all o.takes = true ∧ Below w.heap.size w wr)) (fun i _ => qs.length - (intOf i).toNat)
    case atStart => exact ⟨0, by omega, rfl, rfl, Below.refl _ _⟩
    case round =>
      obtain ⟨j, hj, rfl, HI⟩ := hrel
      rename World => wr
      by_cases hlt : j < qs.length
      · have hltI : (j : Int) < qs.length := by omega
        obtain ⟨p, off, ev, hat⟩ := rtAt (HQV.out wr HI.out.2) hlt
        subst ev
        obtain ⟨q, HQ⟩ : ∃ q, Hid (qs.getD j Rt.nil = q) := ⟨_, rfl⟩
        have hmem := getD_memR2 qs j hlt
        have hqw := HWF.out _ hmem
        have hta := all_takeR (p := o.takes) hlt
        rw [HQ.out] at hmem hqw hta
        rw [HI.out.1, Bool.true_and] at hta
        obtain ⟨tf, tt, wk, tm, top, tk, tz⟩ := q
        have HROW : Hid (∀ wx, Below wr.heap.size wr wx → wx.cell? ⟨p, off + j * 7 + 2, none⟩ = some (.bool wk) ∧ wx.cell? ⟨b, 0, none⟩ = some (.int .i64 o.sh) ∧ wx.cell? ⟨b, 1, none⟩ = some (.int .i64 o.n) ∧ wx.cell? ⟨b, 2, none⟩ = some (.slice xm ps.length cm)) := by
          intro wx hb
          have hb2 := HI.out.2.trans (hb.mono HI.out.2.size)
          obtain ⟨p', off', ev, hat'⟩ := rtAt (HQV.out wx hb2) hlt
          have ev := Option.some.inj ev
          injection ev with ev1 ev2 _
          subst ev1 ev2
          obtain ⟨g0, g1, g2, _⟩ := (HD.out.below hb2).low
          exact ⟨(hat' j hlt _ HQ.out).2.2.1, g0, g1, g2⟩
        obtain ⟨d0, d1, d2, d3, d4, d5, d6⟩ := hat j hlt _ HQ.out
        simp only at d0 d1 d2 d3 d4 d5 d6 hqw
        have HNO : Hid (o.takes ⟨tf, tt, wk, tm, top, tk, tz⟩ = false → E = 2 ∧ o = o') := by
          intro hf
          have hall : qs.all o.takes = false := by
            cases he : qs.all o.takes with
            | false => rfl
            | true => rw [List.all_eq_true.1 he _ hmem] at hf; cases hf
          have hq2 := HQ2.out
          rw [if_neg (by rw [hall]; decide)] at hq2
          injection hq2 with e1 e2
          exact ⟨e1.symm, e2⟩
        have HTA := keepG hta
        have HQW := keepG hqw
        obtain ⟨W1, HW1, HP1, HB1⟩ : ∃ W1, Hid (wr.alloc (.cells #[.int .i64 tm, .int .i64 top, .int .u64 tk, .int .u64 tz] 43) = W1) ∧ Hid (Hp W1 wr.heap.size 43 [.int .i64 tm, .int .i64 top, .int .u64 tk, .int .u64 tz]) ∧ Hid (Below wr.heap.size wr W1) := ⟨_, rfl, Hp.new wr _ _, below_allocG _ _⟩
        obtain ⟨nI, HNI⟩ : ∃ nI, Hid (wr.heap.size = nI) := ⟨_, rfl⟩
        rw [HNI.out] at HP1
        have b0 : W1.cell? ⟨nI, 0, none⟩ = some (.int .i64 tm) := HP1.out.cell (j := 0) rfl
        have b1 : W1.cell? ⟨nI, 1, none⟩ = some (.int .i64 top) := HP1.out.cell (j := 1) rfl
        have b2 : W1.cell? ⟨nI, 2, none⟩ = some (.int .u64 tk) := HP1.out.cell (j := 2) rfl
        obtain ⟨r2, r0, r1, rm⟩ := HROW.out W1 HB1.out
        have HBA : Hid (Below w.heap.size w W1) := HI.out.2.trans (HB1.out.mono HI.out.2.size)
        clear hat hmem hta hqw
        by_cases hm0 : tm < 0
        · have hm0d : decide (tm < 0) = true := by simpa using hm0
          have hno : o.takes ⟨tf, tt, wk, tm, top, tk, tz⟩ = false := by have h8 : ¬ 0 ≤ tm := (by omega); simp [On.takes, On.hasM, h8]
          obtain ⟨e1, e2⟩ := HNO.out hno
          subst e1 e2
          go_wp2_with (rw [HW1.out, HNI.out])
          refine wp_region_held_drew (S := fun w' => w'.cell? ⟨nI, 0, none⟩ = some (.int .i64 tm)) (by kernel_rfl) b0 (fun hHeld => ?_)
          refine tkGo [0, 1, 2, 3] ?_
          repeat (refine tkOne (v := ?_) rfl (by kernel_rfl) (by kernel_rfl) (by kernel_rfl) (fun _ _ _ h => h) (by assumption) (by rfl) ?_ ?_; rotate_left; (intro wy hSw; (try dsimp only at hSw); go_simp; (first | done | with_reducible rfl)); try simp only [Act.put, List.getElem_toArray, List.getElem_cons_zero, List.getElem_cons_succ, List.setIfInBounds_toArray, List.set_cons_zero, List.set_cons_succ])
          refine tkEnd ?_
          refine wpAnyH_take (i := 4) (v := undef) rfl (by kernel_rfl) (by kernel_rfl) (by kernel_rfl) (fun _ _ _ h => h) (Or.inr ⟨by rfl, rfl⟩) (by assumption) ?_
          try simp only [Act.put, List.getElem_toArray, List.getElem_cons_zero, List.getElem_cons_succ, List.setIfInBounds_toArray, List.set_cons_zero, List.set_cons_succ]
          refine wpAnyH_take (i := 5) (v := undef) rfl (by kernel_rfl) (by kernel_rfl) (by kernel_rfl) (fun _ _ _ h => h) (Or.inr ⟨by rfl, rfl⟩) (by assumption) ?_
          try simp only [Act.put, List.getElem_toArray, List.getElem_cons_zero, List.getElem_cons_succ, List.setIfInBounds_toArray, List.set_cons_zero, List.set_cons_succ]
          refine wpAnyH_take (i := 6) (v := undef) rfl (by kernel_rfl) (by kernel_rfl) (by kernel_rfl) (fun _ _ _ h => h) (Or.inr ⟨by rfl, rfl⟩) (by assumption) ?_
          try simp only [Act.put, List.getElem_toArray, List.getElem_cons_zero, List.getElem_cons_succ, List.setIfInBounds_toArray, List.set_cons_zero, List.set_cons_succ]
          refine wpAnyH_take (i := 7) (v := undef) rfl (by kernel_rfl) (by kernel_rfl) (by kernel_rfl) (fun _ _ _ h => h) (Or.inr ⟨by rfl, rfl⟩) (by assumption) ?_
          try simp only [Act.put, List.getElem_toArray, List.getElem_cons_zero, List.getElem_cons_succ, List.setIfInBounds_toArray, List.set_cons_zero, List.set_cons_succ]
          refine wpAnyH_take (i := 8) (v := undef) rfl (by kernel_rfl) (by kernel_rfl) (by kernel_rfl) (fun _ _ _ h => h) (Or.inr ⟨by rfl, rfl⟩) (by assumption) ?_
          try simp only [Act.put, List.getElem_toArray, List.getElem_cons_zero, List.getElem_cons_succ, List.setIfInBounds_toArray, List.set_cons_zero, List.set_cons_succ]
          refine wpAnyH_take (i := 9) (v := undef) rfl (by kernel_rfl) (by kernel_rfl) (by kernel_rfl) (fun _ _ _ h => h) (Or.inr ⟨by rfl, rfl⟩) (by assumption) ?_
          try simp only [Act.put, List.getElem_toArray, List.getElem_cons_zero, List.getElem_cons_succ, List.setIfInBounds_toArray, List.set_cons_zero, List.set_cons_succ]
          refine wpAnyH_take (i := 10) (v := undef) rfl (by kernel_rfl) (by kernel_rfl) (by kernel_rfl) (fun _ _ _ h => h) (Or.inr ⟨by rfl, rfl⟩) (by assumption) ?_
          try simp only [Act.put, List.getElem_toArray, List.getElem_cons_zero, List.getElem_cons_succ, List.setIfInBounds_toArray, List.set_cons_zero, List.set_cons_succ]
          refine wpAnyH_take (i := 11) (v := undef) rfl (by kernel_rfl) (by kernel_rfl) (by kernel_rfl) (fun _ _ _ h => h) (Or.inr ⟨by rfl, rfl⟩) (by assumption) ?_
          try simp only [Act.put, List.getElem_toArray, List.getElem_cons_zero, List.getElem_cons_succ, List.setIfInBounds_toArray, List.set_cons_zero, List.set_cons_succ]
          refine tkGo [12] ?_
          repeat (refine tkOne (v := ?_) rfl (by kernel_rfl) (by kernel_rfl) (by kernel_rfl) (fun _ _ _ h => h) (by assumption) (by rfl) ?_ ?_; rotate_left; (intro wy hSw; (try dsimp only at hSw); go_simp; (first | done | with_reducible rfl)); try simp only [Act.put, List.getElem_toArray, List.getElem_cons_zero, List.getElem_cons_succ, List.setIfInBounds_toArray, List.set_cons_zero, List.set_cons_succ])
          refine tkEnd ?_
          refine wpAnyH_done (by kernel_rfl) ?_ _
          clear hHeld
          go_wp2
          go_ret
          exact ⟨rfl, _, HD.out.below (below_drG HBA.out), Nx.below (below_drG HBA.out)⟩
        · have hm0d : decide (tm < 0) = false := by simpa using hm0
          by_cases hml : (ps.length : Int) ≤ tm
          · have hmld : decide ((ps.length : Int) ≤ tm) = true := by simpa using hml
            have hno : o.takes ⟨tf, tt, wk, tm, top, tk, tz⟩ = false := by have h0 := HLP.out; have h9 : ¬ tm < (o.st.length : Int) := (by omega); simp [On.takes, On.hasM, h9]
            obtain ⟨e1, e2⟩ := HNO.out hno
            subst e1 e2
            go_wp2_with (rw [HW1.out, HNI.out])
            refine wp_region_held_drew (S := fun w' => w'.cell? ⟨nI, 0, none⟩ = some (.int .i64 tm) ∧ w'.cell? ⟨b, 2, none⟩ = some (.slice xm ps.length cm)) (by kernel_rfl) ⟨b0, rm⟩ (fun hHeld => ?_)
            refine tkGo [0, 1, 2, 3, 4, 5, 6, 7, 8, 9, 10, 11, 12] ?_
            repeat (refine tkOne (v := ?_) rfl (by kernel_rfl) (by kernel_rfl) (by kernel_rfl) (fun _ _ _ h => h) (by assumption) (by rfl) ?_ ?_; rotate_left; (intro wy hSw; (try dsimp only at hSw); go_simp; (first | done | with_reducible rfl)); try simp only [Act.put, List.getElem_toArray, List.getElem_cons_zero, List.getElem_cons_succ, List.setIfInBounds_toArray, List.set_cons_zero, List.set_cons_succ])
            refine tkEnd ?_
            refine wpAnyH_done (by kernel_rfl) ?_ _
            clear hHeld
            go_wp2
            go_ret
            exact ⟨rfl, _, HD.out.below (below_drG HBA.out), Nx.below (below_drG HBA.out)⟩
          · have hmld : decide ((ps.length : Int) ≤ tm) = false := by simpa using hml
            have HHM : Hid (o.hasM tm = true) := by
              show _ = _
              simp only [On.hasM, Bool.and_eq_true, decide_eq_true_eq]
              have := HLP.out
              omega
            go_wp2_with (rw [HW1.out, HNI.out])
            refine wp_region_held_drew (S := fun w' => w'.cell? ⟨nI, 0, none⟩ = some (.int .i64 tm) ∧ w'.cell? ⟨b, 2, none⟩ = some (.slice xm ps.length cm)) (by kernel_rfl) ⟨b0, rm⟩ (fun hHeld => ?_)
            refine tkGo [0, 1, 2, 3, 4, 5, 6, 7, 8, 9, 10, 11, 12] ?_
            repeat (refine tkOne (v := ?_) rfl (by kernel_rfl) (by kernel_rfl) (by kernel_rfl) (fun _ _ _ h => h) (by assumption) (by rfl) ?_ ?_; rotate_left; (intro wy hSw; (try dsimp only at hSw); go_simp; (first | done | with_reducible rfl)); try simp only [Act.put, List.getElem_toArray, List.getElem_cons_zero, List.getElem_cons_succ, List.setIfInBounds_toArray, List.set_cons_zero, List.set_cons_succ])
            refine tkEnd ?_
            refine wpAnyH_done (by kernel_rfl) ?_ _
            clear hHeld
            obtain ⟨W2, HW2, HB2⟩ : ∃ W2, Hid (W1.drew = W2) ∧ Hid (Below w.heap.size w W2) := ⟨_, rfl, below_drG HBA.out⟩
            have q2 : W2.cell? ⟨p, off + j * 7 + 2, none⟩ = some (.bool wk) := by rw [← HW2.out]; exact r2
            have q0 : W2.cell? ⟨b, 0, none⟩ = some (.int .i64 o.sh) := by rw [← HW2.out]; exact r0
            have q1 : W2.cell? ⟨b, 1, none⟩ = some (.int .i64 o.n) := by rw [← HW2.out]; exact r1
            have k1 : W2.cell? ⟨nI, 1, none⟩ = some (.int .i64 top) := by rw [← HW2.out]; exact b1
            have k2 : W2.cell? ⟨nI, 2, none⟩ = some (.int .u64 tk) := by rw [← HW2.out]; exact b2
            rw [HW2.out]
            clear b0 b1 b2 r2 r0 r1 rm
            cases wk with
            | true =>
              have HTK : Hid ((qs.take (j + 1)).all o.takes = true) := by show _ = _; rw [HTA.out]; simp [On.takes, HHM.out]
              go_wp2_with (refine wp_region_held_drew (S := fun w' => w'.cell? ⟨p, off + j * 7 + 2, none⟩ = some (.bool true) ∧ w'.cell? ⟨nI, 1, none⟩ = some (.int .i64 top) ∧ w'.cell? ⟨nI, 2, none⟩ = some (.int .u64 tk) ∧ w'.cell? ⟨b, 1, none⟩ = some (.int .i64 o.n) ∧ w'.cell? ⟨b, 0, none⟩ = some (.int .i64 o.sh)) (by kernel_rfl) ⟨q2, k1, k2, q1, q0⟩ (fun hHeld => ?_))
              refine tkGo [0, 1, 2, 3, 4, 5, 6] ?_
              repeat (refine tkOne (v := ?_) rfl (by kernel_rfl) (by kernel_rfl) (by kernel_rfl) (fun _ _ _ h => h) (by assumption) (by rfl) ?_ ?_; rotate_left; (intro wy hSw; (try dsimp only at hSw); go_simp; (first | done | with_reducible rfl)); try simp only [Act.put, List.getElem_toArray, List.getElem_cons_zero, List.getElem_cons_succ, List.setIfInBounds_toArray, List.set_cons_zero, List.set_cons_succ])
              refine tkEnd ?_
              refine wpAnyH_take (i := 7) (v := undef) rfl (by kernel_rfl) (by kernel_rfl) (by kernel_rfl) (fun _ _ _ h => h) (Or.inr ⟨by rfl, rfl⟩) (by assumption) ?_
              try simp only [Act.put, List.getElem_toArray, List.getElem_cons_zero, List.getElem_cons_succ, List.setIfInBounds_toArray, List.set_cons_zero, List.set_cons_succ]
              refine wpAnyH_take (i := 8) (v := undef) rfl (by kernel_rfl) (by kernel_rfl) (by kernel_rfl) (fun _ _ _ h => h) (Or.inr ⟨by rfl, rfl⟩) (by assumption) ?_
              try simp only [Act.put, List.getElem_toArray, List.getElem_cons_zero, List.getElem_cons_succ, List.setIfInBounds_toArray, List.set_cons_zero, List.set_cons_succ]
              refine wpAnyH_take (i := 9) (v := undef) rfl (by kernel_rfl) (by kernel_rfl) (by kernel_rfl) (fun _ _ _ h => h) (Or.inr ⟨by rfl, rfl⟩) (by assumption) ?_
              try simp only [Act.put, List.getElem_toArray, List.getElem_cons_zero, List.getElem_cons_succ, List.setIfInBounds_toArray, List.set_cons_zero, List.set_cons_succ]
              refine wpAnyH_take (i := 10) (v := undef) rfl (by kernel_rfl) (by kernel_rfl) (by kernel_rfl) (fun _ _ _ h => h) (Or.inr ⟨by rfl, rfl⟩) (by assumption) ?_
              try simp only [Act.put, List.getElem_toArray, List.getElem_cons_zero, List.getElem_cons_succ, List.setIfInBounds_toArray, List.set_cons_zero, List.set_cons_succ]
              refine wpAnyH_take (i := 11) (v := undef) rfl (by kernel_rfl) (by kernel_rfl) (by kernel_rfl) (fun _ _ _ h => h) (Or.inr ⟨by rfl, rfl⟩) (by assumption) ?_
              try simp only [Act.put, List.getElem_toArray, List.getElem_cons_zero, List.getElem_cons_succ, List.setIfInBounds_toArray, List.set_cons_zero, List.set_cons_succ]
              refine wpAnyH_take (i := 12) (v := undef) rfl (by kernel_rfl) (by kernel_rfl) (by kernel_rfl) (fun _ _ _ h => h) (Or.inr ⟨by rfl, rfl⟩) (by assumption) ?_
              try simp only [Act.put, List.getElem_toArray, List.getElem_cons_zero, List.getElem_cons_succ, List.setIfInBounds_toArray, List.set_cons_zero, List.set_cons_succ]
              refine wpAnyH_take (i := 13) (v := undef) rfl (by kernel_rfl) (by kernel_rfl) (by kernel_rfl) (fun _ _ _ h => h) (Or.inr ⟨by rfl, rfl⟩) (by assumption) ?_
              try simp only [Act.put, List.getElem_toArray, List.getElem_cons_zero, List.getElem_cons_succ, List.setIfInBounds_toArray, List.set_cons_zero, List.set_cons_succ]
              refine wpAnyH_take (i := 14) (v := undef) rfl (by kernel_rfl) (by kernel_rfl) (by kernel_rfl) (fun _ _ _ h => h) (Or.inr ⟨by rfl, rfl⟩) (by assumption) ?_
              try simp only [Act.put, List.getElem_toArray, List.getElem_cons_zero, List.getElem_cons_succ, List.setIfInBounds_toArray, List.set_cons_zero, List.set_cons_succ]
              refine wpAnyH_take (i := 15) (v := undef) rfl (by kernel_rfl) (by kernel_rfl) (by kernel_rfl) (fun _ _ _ h => h) (Or.inr ⟨by rfl, rfl⟩) (by assumption) ?_
              try simp only [Act.put, List.getElem_toArray, List.getElem_cons_zero, List.getElem_cons_succ, List.setIfInBounds_toArray, List.set_cons_zero, List.set_cons_succ]
              refine wpAnyH_take (i := 16) (v := undef) rfl (by kernel_rfl) (by kernel_rfl) (by kernel_rfl) (fun _ _ _ h => h) (Or.inr ⟨by rfl, rfl⟩) (by assumption) ?_
              try simp only [Act.put, List.getElem_toArray, List.getElem_cons_zero, List.getElem_cons_succ, List.setIfInBounds_toArray, List.set_cons_zero, List.set_cons_succ]
              refine wpAnyH_take (i := 17) (v := undef) rfl (by kernel_rfl) (by kernel_rfl) (by kernel_rfl) (fun _ _ _ h => h) (Or.inr ⟨by rfl, rfl⟩) (by assumption) ?_
              try simp only [Act.put, List.getElem_toArray, List.getElem_cons_zero, List.getElem_cons_succ, List.setIfInBounds_toArray, List.set_cons_zero, List.set_cons_succ]
              refine wpAnyH_take (i := 18) (v := undef) rfl (by kernel_rfl) (by kernel_rfl) (by kernel_rfl) (fun _ _ _ h => h) (Or.inr ⟨by rfl, rfl⟩) (by assumption) ?_
              try simp only [Act.put, List.getElem_toArray, List.getElem_cons_zero, List.getElem_cons_succ, List.setIfInBounds_toArray, List.set_cons_zero, List.set_cons_succ]
              refine wpAnyH_take (i := 19) (v := undef) rfl (by kernel_rfl) (by kernel_rfl) (by kernel_rfl) (fun _ _ _ h => h) (Or.inr ⟨by rfl, rfl⟩) (by assumption) ?_
              try simp only [Act.put, List.getElem_toArray, List.getElem_cons_zero, List.getElem_cons_succ, List.setIfInBounds_toArray, List.set_cons_zero, List.set_cons_succ]
              refine wpAnyH_take (i := 20) (v := undef) rfl (by kernel_rfl) (by kernel_rfl) (by kernel_rfl) (fun _ _ _ h => h) (Or.inr ⟨by rfl, rfl⟩) (by assumption) ?_
              try simp only [Act.put, List.getElem_toArray, List.getElem_cons_zero, List.getElem_cons_succ, List.setIfInBounds_toArray, List.set_cons_zero, List.set_cons_succ]
              refine wpAnyH_take (i := 21) (v := undef) rfl (by kernel_rfl) (by kernel_rfl) (by kernel_rfl) (fun _ _ _ h => h) (Or.inr ⟨by rfl, rfl⟩) (by assumption) ?_
              try simp only [Act.put, List.getElem_toArray, List.getElem_cons_zero, List.getElem_cons_succ, List.setIfInBounds_toArray, List.set_cons_zero, List.set_cons_succ]
              refine wpAnyH_take (i := 22) (v := undef) rfl (by kernel_rfl) (by kernel_rfl) (by kernel_rfl) (fun _ _ _ h => h) (Or.inr ⟨by rfl, rfl⟩) (by assumption) ?_
              try simp only [Act.put, List.getElem_toArray, List.getElem_cons_zero, List.getElem_cons_succ, List.setIfInBounds_toArray, List.set_cons_zero, List.set_cons_succ]
              refine wpAnyH_take (i := 23) (v := undef) rfl (by kernel_rfl) (by kernel_rfl) (by kernel_rfl) (fun _ _ _ h => h) (Or.inr ⟨by rfl, rfl⟩) (by assumption) ?_
              try simp only [Act.put, List.getElem_toArray, List.getElem_cons_zero, List.getElem_cons_succ, List.setIfInBounds_toArray, List.set_cons_zero, List.set_cons_succ]
              refine wpAnyH_take (i := 24) (v := undef) rfl (by kernel_rfl) (by kernel_rfl) (by kernel_rfl) (fun _ _ _ h => h) (Or.inr ⟨by rfl, rfl⟩) (by assumption) ?_
              try simp only [Act.put, List.getElem_toArray, List.getElem_cons_zero, List.getElem_cons_succ, List.setIfInBounds_toArray, List.set_cons_zero, List.set_cons_succ]
              refine wpAnyH_take (i := 25) (v := undef) rfl (by kernel_rfl) (by kernel_rfl) (by kernel_rfl) (fun _ _ _ h => h) (Or.inr ⟨by rfl, rfl⟩) (by assumption) ?_
              try simp only [Act.put, List.getElem_toArray, List.getElem_cons_zero, List.getElem_cons_succ, List.setIfInBounds_toArray, List.set_cons_zero, List.set_cons_succ]
              refine wpAnyH_take (i := 26) (v := undef) rfl (by kernel_rfl) (by kernel_rfl) (by kernel_rfl) (fun _ _ _ h => h) (Or.inr ⟨by rfl, rfl⟩) (by assumption) ?_
              try simp only [Act.put, List.getElem_toArray, List.getElem_cons_zero, List.getElem_cons_succ, List.setIfInBounds_toArray, List.set_cons_zero, List.set_cons_succ]
              refine wpAnyH_take (i := 27) (v := undef) rfl (by kernel_rfl) (by kernel_rfl) (by kernel_rfl) (fun _ _ _ h => h) (Or.inr ⟨by rfl, rfl⟩) (by assumption) ?_
              try simp only [Act.put, List.getElem_toArray, List.getElem_cons_zero, List.getElem_cons_succ, List.setIfInBounds_toArray, List.set_cons_zero, List.set_cons_succ]
              refine wpAnyH_take (i := 28) (v := undef) rfl (by kernel_rfl) (by kernel_rfl) (by kernel_rfl) (fun _ _ _ h => h) (Or.inr ⟨by rfl, rfl⟩) (by assumption) ?_
              try simp only [Act.put, List.getElem_toArray, List.getElem_cons_zero, List.getElem_cons_succ, List.setIfInBounds_toArray, List.set_cons_zero, List.set_cons_succ]
              refine tkGo [29] ?_
              repeat (refine tkOne (v := ?_) rfl (by kernel_rfl) (by kernel_rfl) (by kernel_rfl) (fun _ _ _ h => h) (by assumption) (by rfl) ?_ ?_; rotate_left; (intro wy hSw; (try dsimp only at hSw); go_simp; (first | done | with_reducible rfl)); try simp only [Act.put, List.getElem_toArray, List.getElem_cons_zero, List.getElem_cons_succ, List.setIfInBounds_toArray, List.set_cons_zero, List.set_cons_succ])
              refine tkEnd ?_
              refine wpAnyH_done (by kernel_rfl) ?_ _
              clear hHeld
              go_wp2
              go_roundw
              case rel => exact ⟨j + 1, by omega, by go_num, HTK.out, below_drG HB2.out⟩
              case measure => simp [intOf]; omega
            | false =>
              by_cases ho0 : top < 0
              · have ho0d : decide (top < 0) = true := by simpa using ho0
                have hno : o.takes ⟨tf, tt, false, tm, top, tk, tz⟩ = false := by have h8 : ¬ 0 ≤ top := (by omega); simp [On.takes, On.here, h8]
                obtain ⟨e1, e2⟩ := HNO.out hno
                subst e1 e2
                go_wp2_with (refine wp_region_held_drew (S := fun w' => w'.cell? ⟨p, off + j * 7 + 2, none⟩ = some (.bool false) ∧ w'.cell? ⟨nI, 1, none⟩ = some (.int .i64 top) ∧ w'.cell? ⟨nI, 2, none⟩ = some (.int .u64 tk) ∧ w'.cell? ⟨b, 1, none⟩ = some (.int .i64 o.n) ∧ w'.cell? ⟨b, 0, none⟩ = some (.int .i64 o.sh)) (by kernel_rfl) ⟨q2, k1, k2, q1, q0⟩ (fun hHeld => ?_))
                refine tkGo [0, 1, 2, 3, 4, 5, 6, 7, 8, 9, 10] ?_
                repeat (refine tkOne (v := ?_) rfl (by kernel_rfl) (by kernel_rfl) (by kernel_rfl) (fun _ _ _ h => h) (by assumption) (by rfl) ?_ ?_; rotate_left; (intro wy hSw; (try dsimp only at hSw); go_simp; (first | done | with_reducible rfl)); try simp only [Act.put, List.getElem_toArray, List.getElem_cons_zero, List.getElem_cons_succ, List.setIfInBounds_toArray, List.set_cons_zero, List.set_cons_succ])
                refine tkEnd ?_
                refine wpAnyH_take (i := 11) (v := undef) rfl (by kernel_rfl) (by kernel_rfl) (by kernel_rfl) (fun _ _ _ h => h) (Or.inr ⟨by rfl, rfl⟩) (by assumption) ?_
                try simp only [Act.put, List.getElem_toArray, List.getElem_cons_zero, List.getElem_cons_succ, List.setIfInBounds_toArray, List.set_cons_zero, List.set_cons_succ]
                refine wpAnyH_take (i := 12) (v := undef) rfl (by kernel_rfl) (by kernel_rfl) (by kernel_rfl) (fun _ _ _ h => h) (Or.inr ⟨by rfl, rfl⟩) (by assumption) ?_
                try simp only [Act.put, List.getElem_toArray, List.getElem_cons_zero, List.getElem_cons_succ, List.setIfInBounds_toArray, List.set_cons_zero, List.set_cons_succ]
                refine wpAnyH_take (i := 13) (v := undef) rfl (by kernel_rfl) (by kernel_rfl) (by kernel_rfl) (fun _ _ _ h => h) (Or.inr ⟨by rfl, rfl⟩) (by assumption) ?_
                try simp only [Act.put, List.getElem_toArray, List.getElem_cons_zero, List.getElem_cons_succ, List.setIfInBounds_toArray, List.set_cons_zero, List.set_cons_succ]
                refine tkGo [14, 15] ?_
                repeat (refine tkOne (v := ?_) rfl (by kernel_rfl) (by kernel_rfl) (by kernel_rfl) (fun _ _ _ h => h) (by assumption) (by rfl) ?_ ?_; rotate_left; (intro wy hSw; (try dsimp only at hSw); go_simp; (first | done | with_reducible rfl)); try simp only [Act.put, List.getElem_toArray, List.getElem_cons_zero, List.getElem_cons_succ, List.setIfInBounds_toArray, List.set_cons_zero, List.set_cons_succ])
                refine tkEnd ?_
                refine wpAnyH_take (i := 16) (v := undef) rfl (by kernel_rfl) (by kernel_rfl) (by kernel_rfl) (fun _ _ _ h => h) (Or.inr ⟨by rfl, rfl⟩) (by assumption) ?_
                try simp only [Act.put, List.getElem_toArray, List.getElem_cons_zero, List.getElem_cons_succ, List.setIfInBounds_toArray, List.set_cons_zero, List.set_cons_succ]
                refine wpAnyH_take (i := 17) (v := undef) rfl (by kernel_rfl) (by kernel_rfl) (by kernel_rfl) (fun _ _ _ h => h) (Or.inr ⟨by rfl, rfl⟩) (by assumption) ?_
                try simp only [Act.put, List.getElem_toArray, List.getElem_cons_zero, List.getElem_cons_succ, List.setIfInBounds_toArray, List.set_cons_zero, List.set_cons_succ]
                refine wpAnyH_take (i := 18) (v := undef) rfl (by kernel_rfl) (by kernel_rfl) (by kernel_rfl) (fun _ _ _ h => h) (Or.inr ⟨by rfl, rfl⟩) (by assumption) ?_
                try simp only [Act.put, List.getElem_toArray, List.getElem_cons_zero, List.getElem_cons_succ, List.setIfInBounds_toArray, List.set_cons_zero, List.set_cons_succ]
                refine wpAnyH_take (i := 19) (v := undef) rfl (by kernel_rfl) (by kernel_rfl) (by kernel_rfl) (fun _ _ _ h => h) (Or.inr ⟨by rfl, rfl⟩) (by assumption) ?_
                try simp only [Act.put, List.getElem_toArray, List.getElem_cons_zero, List.getElem_cons_succ, List.setIfInBounds_toArray, List.set_cons_zero, List.set_cons_succ]
                refine wpAnyH_take (i := 20) (v := undef) rfl (by kernel_rfl) (by kernel_rfl) (by kernel_rfl) (fun _ _ _ h => h) (Or.inr ⟨by rfl, rfl⟩) (by assumption) ?_
                try simp only [Act.put, List.getElem_toArray, List.getElem_cons_zero, List.getElem_cons_succ, List.setIfInBounds_toArray, List.set_cons_zero, List.set_cons_succ]
                refine wpAnyH_take (i := 21) (v := undef) rfl (by kernel_rfl) (by kernel_rfl) (by kernel_rfl) (fun _ _ _ h => h) (Or.inr ⟨by rfl, rfl⟩) (by assumption) ?_
                try simp only [Act.put, List.getElem_toArray, List.getElem_cons_zero, List.getElem_cons_succ, List.setIfInBounds_toArray, List.set_cons_zero, List.set_cons_succ]
                refine wpAnyH_take (i := 22) (v := undef) rfl (by kernel_rfl) (by kernel_rfl) (by kernel_rfl) (fun _ _ _ h => h) (Or.inr ⟨by rfl, rfl⟩) (by assumption) ?_
                try simp only [Act.put, List.getElem_toArray, List.getElem_cons_zero, List.getElem_cons_succ, List.setIfInBounds_toArray, List.set_cons_zero, List.set_cons_succ]
                refine wpAnyH_take (i := 23) (v := undef) rfl (by kernel_rfl) (by kernel_rfl) (by kernel_rfl) (fun _ _ _ h => h) (Or.inr ⟨by rfl, rfl⟩) (by assumption) ?_
                try simp only [Act.put, List.getElem_toArray, List.getElem_cons_zero, List.getElem_cons_succ, List.setIfInBounds_toArray, List.set_cons_zero, List.set_cons_succ]
                refine wpAnyH_take (i := 24) (v := undef) rfl (by kernel_rfl) (by kernel_rfl) (by kernel_rfl) (fun _ _ _ h => h) (Or.inr ⟨by rfl, rfl⟩) (by assumption) ?_
                try simp only [Act.put, List.getElem_toArray, List.getElem_cons_zero, List.getElem_cons_succ, List.setIfInBounds_toArray, List.set_cons_zero, List.set_cons_succ]
                refine wpAnyH_take (i := 25) (v := undef) rfl (by kernel_rfl) (by kernel_rfl) (by kernel_rfl) (fun _ _ _ h => h) (Or.inr ⟨by rfl, rfl⟩) (by assumption) ?_
                try simp only [Act.put, List.getElem_toArray, List.getElem_cons_zero, List.getElem_cons_succ, List.setIfInBounds_toArray, List.set_cons_zero, List.set_cons_succ]
                refine wpAnyH_take (i := 26) (v := undef) rfl (by kernel_rfl) (by kernel_rfl) (by kernel_rfl) (fun _ _ _ h => h) (Or.inr ⟨by rfl, rfl⟩) (by assumption) ?_
                try simp only [Act.put, List.getElem_toArray, List.getElem_cons_zero, List.getElem_cons_succ, List.setIfInBounds_toArray, List.set_cons_zero, List.set_cons_succ]
                refine wpAnyH_take (i := 27) (v := undef) rfl (by kernel_rfl) (by kernel_rfl) (by kernel_rfl) (fun _ _ _ h => h) (Or.inr ⟨by rfl, rfl⟩) (by assumption) ?_
                try simp only [Act.put, List.getElem_toArray, List.getElem_cons_zero, List.getElem_cons_succ, List.setIfInBounds_toArray, List.set_cons_zero, List.set_cons_succ]
                refine tkGo [28, 29] ?_
                repeat (refine tkOne (v := ?_) rfl (by kernel_rfl) (by kernel_rfl) (by kernel_rfl) (fun _ _ _ h => h) (by assumption) (by rfl) ?_ ?_; rotate_left; (intro wy hSw; (try dsimp only at hSw); go_simp; (first | done | with_reducible rfl)); try simp only [Act.put, List.getElem_toArray, List.getElem_cons_zero, List.getElem_cons_succ, List.setIfInBounds_toArray, List.set_cons_zero, List.set_cons_succ])
                refine tkEnd ?_
                refine wpAnyH_done (by kernel_rfl) ?_ _
                clear hHeld
                go_wp2
                go_ret
                exact ⟨rfl, _, HD.out.below (below_drG HB2.out), Nx.below (below_drG HB2.out)⟩
              · have ho0d : decide (top < 0) = false := by simpa using ho0
                by_cases ho4 : 4 < top
                · have ho4d : decide (4 < top) = true := by simpa using ho4
                  have hno : o.takes ⟨tf, tt, false, tm, top, tk, tz⟩ = false := by have h9 : ¬ top ≤ 4 := (by omega); simp [On.takes, On.here, h9]
                  obtain ⟨e1, e2⟩ := HNO.out hno
                  subst e1 e2
                  go_wp2_with (refine wp_region_held_drew (S := fun w' => w'.cell? ⟨p, off + j * 7 + 2, none⟩ = some (.bool false) ∧ w'.cell? ⟨nI, 1, none⟩ = some (.int .i64 top) ∧ w'.cell? ⟨nI, 2, none⟩ = some (.int .u64 tk) ∧ w'.cell? ⟨b, 1, none⟩ = some (.int .i64 o.n) ∧ w'.cell? ⟨b, 0, none⟩ = some (.int .i64 o.sh)) (by kernel_rfl) ⟨q2, k1, k2, q1, q0⟩ (fun hHeld => ?_))
                  refine tkGo [0, 1, 2, 3, 4, 5, 6, 7, 8, 9, 10, 11, 12, 13, 14, 15] ?_
                  repeat (refine tkOne (v := ?_) rfl (by kernel_rfl) (by kernel_rfl) (by kernel_rfl) (fun _ _ _ h => h) (by assumption) (by rfl) ?_ ?_; rotate_left; (intro wy hSw; (try dsimp only at hSw); go_simp; (first | done | with_reducible rfl)); try simp only [Act.put, List.getElem_toArray, List.getElem_cons_zero, List.getElem_cons_succ, List.setIfInBounds_toArray, List.set_cons_zero, List.set_cons_succ])
                  refine tkEnd ?_
                  refine wpAnyH_take (i := 16) (v := undef) rfl (by kernel_rfl) (by kernel_rfl) (by kernel_rfl) (fun _ _ _ h => h) (Or.inr ⟨by rfl, rfl⟩) (by assumption) ?_
                  try simp only [Act.put, List.getElem_toArray, List.getElem_cons_zero, List.getElem_cons_succ, List.setIfInBounds_toArray, List.set_cons_zero, List.set_cons_succ]
                  refine wpAnyH_take (i := 17) (v := undef) rfl (by kernel_rfl) (by kernel_rfl) (by kernel_rfl) (fun _ _ _ h => h) (Or.inr ⟨by rfl, rfl⟩) (by assumption) ?_
                  try simp only [Act.put, List.getElem_toArray, List.getElem_cons_zero, List.getElem_cons_succ, List.setIfInBounds_toArray, List.set_cons_zero, List.set_cons_succ]
                  refine wpAnyH_take (i := 18) (v := undef) rfl (by kernel_rfl) (by kernel_rfl) (by kernel_rfl) (fun _ _ _ h => h) (Or.inr ⟨by rfl, rfl⟩) (by assumption) ?_
                  try simp only [Act.put, List.getElem_toArray, List.getElem_cons_zero, List.getElem_cons_succ, List.setIfInBounds_toArray, List.set_cons_zero, List.set_cons_succ]
                  refine wpAnyH_take (i := 19) (v := undef) rfl (by kernel_rfl) (by kernel_rfl) (by kernel_rfl) (fun _ _ _ h => h) (Or.inr ⟨by rfl, rfl⟩) (by assumption) ?_
                  try simp only [Act.put, List.getElem_toArray, List.getElem_cons_zero, List.getElem_cons_succ, List.setIfInBounds_toArray, List.set_cons_zero, List.set_cons_succ]
                  refine wpAnyH_take (i := 20) (v := undef) rfl (by kernel_rfl) (by kernel_rfl) (by kernel_rfl) (fun _ _ _ h => h) (Or.inr ⟨by rfl, rfl⟩) (by assumption) ?_
                  try simp only [Act.put, List.getElem_toArray, List.getElem_cons_zero, List.getElem_cons_succ, List.setIfInBounds_toArray, List.set_cons_zero, List.set_cons_succ]
                  refine wpAnyH_take (i := 21) (v := undef) rfl (by kernel_rfl) (by kernel_rfl) (by kernel_rfl) (fun _ _ _ h => h) (Or.inr ⟨by rfl, rfl⟩) (by assumption) ?_
                  try simp only [Act.put, List.getElem_toArray, List.getElem_cons_zero, List.getElem_cons_succ, List.setIfInBounds_toArray, List.set_cons_zero, List.set_cons_succ]
                  refine wpAnyH_take (i := 22) (v := undef) rfl (by kernel_rfl) (by kernel_rfl) (by kernel_rfl) (fun _ _ _ h => h) (Or.inr ⟨by rfl, rfl⟩) (by assumption) ?_
                  try simp only [Act.put, List.getElem_toArray, List.getElem_cons_zero, List.getElem_cons_succ, List.setIfInBounds_toArray, List.set_cons_zero, List.set_cons_succ]
                  refine wpAnyH_take (i := 23) (v := undef) rfl (by kernel_rfl) (by kernel_rfl) (by kernel_rfl) (fun _ _ _ h => h) (Or.inr ⟨by rfl, rfl⟩) (by assumption) ?_
                  try simp only [Act.put, List.getElem_toArray, List.getElem_cons_zero, List.getElem_cons_succ, List.setIfInBounds_toArray, List.set_cons_zero, List.set_cons_succ]
                  refine wpAnyH_take (i := 24) (v := undef) rfl (by kernel_rfl) (by kernel_rfl) (by kernel_rfl) (fun _ _ _ h => h) (Or.inr ⟨by rfl, rfl⟩) (by assumption) ?_
                  try simp only [Act.put, List.getElem_toArray, List.getElem_cons_zero, List.getElem_cons_succ, List.setIfInBounds_toArray, List.set_cons_zero, List.set_cons_succ]
                  refine wpAnyH_take (i := 25) (v := undef) rfl (by kernel_rfl) (by kernel_rfl) (by kernel_rfl) (fun _ _ _ h => h) (Or.inr ⟨by rfl, rfl⟩) (by assumption) ?_
                  try simp only [Act.put, List.getElem_toArray, List.getElem_cons_zero, List.getElem_cons_succ, List.setIfInBounds_toArray, List.set_cons_zero, List.set_cons_succ]
                  refine wpAnyH_take (i := 26) (v := undef) rfl (by kernel_rfl) (by kernel_rfl) (by kernel_rfl) (fun _ _ _ h => h) (Or.inr ⟨by rfl, rfl⟩) (by assumption) ?_
                  try simp only [Act.put, List.getElem_toArray, List.getElem_cons_zero, List.getElem_cons_succ, List.setIfInBounds_toArray, List.set_cons_zero, List.set_cons_succ]
                  refine wpAnyH_take (i := 27) (v := undef) rfl (by kernel_rfl) (by kernel_rfl) (by kernel_rfl) (fun _ _ _ h => h) (Or.inr ⟨by rfl, rfl⟩) (by assumption) ?_
                  try simp only [Act.put, List.getElem_toArray, List.getElem_cons_zero, List.getElem_cons_succ, List.setIfInBounds_toArray, List.set_cons_zero, List.set_cons_succ]
                  refine tkGo [28, 29] ?_
                  repeat (refine tkOne (v := ?_) rfl (by kernel_rfl) (by kernel_rfl) (by kernel_rfl) (fun _ _ _ h => h) (by assumption) (by rfl) ?_ ?_; rotate_left; (intro wy hSw; (try dsimp only at hSw); go_simp; (first | done | with_reducible rfl)); try simp only [Act.put, List.getElem_toArray, List.getElem_cons_zero, List.getElem_cons_succ, List.setIfInBounds_toArray, List.set_cons_zero, List.set_cons_succ])
                  refine tkEnd ?_
                  refine wpAnyH_done (by kernel_rfl) ?_ _
                  clear hHeld
                  go_wp2
                  go_ret
                  exact ⟨rfl, _, HD.out.below (below_drG HB2.out), Nx.below (below_drG HB2.out)⟩
                · have ho4d : decide (4 < top) = false := by simpa using ho4
                  have h9 : 0 ≤ top ∧ top ≤ 4 := by omega
                  by_cases hof : ofL tk o.n = o.sh
                  · have hofb : ((o.sh : Int) != o.sh) = false := by simp
                    have HTK : Hid ((qs.take (j + 1)).all o.takes = true) := by show _ = _; rw [HTA.out]; simp [On.takes, On.here, HHM.out, h9.1, h9.2, hof]
                    go_wp2_with (refine wp_region_held_drew (S := fun w' => w'.cell? ⟨p, off + j * 7 + 2, none⟩ = some (.bool false) ∧ w'.cell? ⟨nI, 1, none⟩ = some (.int .i64 top) ∧ w'.cell? ⟨nI, 2, none⟩ = some (.int .u64 tk) ∧ w'.cell? ⟨b, 1, none⟩ = some (.int .i64 o.n) ∧ w'.cell? ⟨b, 0, none⟩ = some (.int .i64 o.sh)) (by kernel_rfl) ⟨q2, k1, k2, q1, q0⟩ (fun hHeld => ?_))
                    refine tkGo [0, 1, 2, 3, 4, 5, 6, 7, 8, 9, 10, 11, 12, 13, 14, 15, 16, 17, 18, 19, 20, 21, 23, 24, 25, 26] ?_
                    repeat (refine tkOne (v := ?_) rfl (by kernel_rfl) (by kernel_rfl) (by kernel_rfl) (fun _ _ _ h => h) (by assumption) (by rfl) ?_ ?_; rotate_left; (intro wy hSw; (try dsimp only at hSw); go_simp; (first | done | with_reducible rfl)); try simp only [Act.put, List.getElem_toArray, List.getElem_cons_zero, List.getElem_cons_succ, List.setIfInBounds_toArray, List.set_cons_zero, List.set_cons_succ])
                    refine tkEnd ?_
                    refine wpAnyH_ready (rs := [22]) (by kernel_rfl) (by simp) ?_
                    refine AllReadyH.cons rfl (fun KK hK => ?_) AllReadyH.nil
                    rw [if_pos (by rfl)]
                    go_simp
                    go_at_call 27
                    refine (rof_any tk o.n W2.drew HQW.out (by omega)).mono ?_
                    rintro e w4 ⟨rfl, rfl⟩
                    rw [hof]
                    go_simp
                    refine hK.out _ _ ⟨q2, k1, k2, q1, q0⟩ (fun hHeld => ?_)
                    clear hK KK
                    try simp only [Act.put, List.getElem_toArray, List.getElem_cons_zero, List.getElem_cons_succ, List.setIfInBounds_toArray, List.set_cons_zero, List.set_cons_succ]
                    refine tkGo [27, 28, 29] ?_
                    repeat (refine tkOne (v := ?_) rfl (by kernel_rfl) (by kernel_rfl) (by kernel_rfl) (fun _ _ _ h => h) (by assumption) (by rfl) ?_ ?_; rotate_left; (intro wy hSw; (try dsimp only at hSw); go_simp; (first | done | with_reducible rfl)); try simp only [Act.put, List.getElem_toArray, List.getElem_cons_zero, List.getElem_cons_succ, List.setIfInBounds_toArray, List.set_cons_zero, List.set_cons_succ])
                    refine tkEnd ?_
                    refine wpAnyH_done (by kernel_rfl) ?_ _
                    clear hHeld
                    go_wp2
                    go_roundw
                    case rel => exact ⟨j + 1, by omega, by go_num, HTK.out, below_drG HB2.out⟩
                    case measure => simp [intOf]; omega
                  · obtain ⟨y, HY⟩ : ∃ y, Hid (ofL tk o.n = y) := ⟨_, rfl⟩
                    have hofb : (y != (o.sh : Int)) = true := by have := HY.out; simp; omega
                    have hno : o.takes ⟨tf, tt, false, tm, top, tk, tz⟩ = false := by simp [On.takes, On.here, hof]
                    obtain ⟨e1, e2⟩ := HNO.out hno
                    subst e1 e2
                    go_wp2_with (refine wp_region_held_drew (S := fun w' => w'.cell? ⟨p, off + j * 7 + 2, none⟩ = some (.bool false) ∧ w'.cell? ⟨nI, 1, none⟩ = some (.int .i64 top) ∧ w'.cell? ⟨nI, 2, none⟩ = some (.int .u64 tk) ∧ w'.cell? ⟨b, 1, none⟩ = some (.int .i64 o.n) ∧ w'.cell? ⟨b, 0, none⟩ = some (.int .i64 o.sh)) (by kernel_rfl) ⟨q2, k1, k2, q1, q0⟩ (fun hHeld => ?_))
                    refine tkGo [0, 1, 2, 3, 4, 5, 6, 7, 8, 9, 10, 11, 12, 13, 14, 15, 16, 17, 18, 19, 20, 21, 23, 24, 25, 26] ?_
                    repeat (refine tkOne (v := ?_) rfl (by kernel_rfl) (by kernel_rfl) (by kernel_rfl) (fun _ _ _ h => h) (by assumption) (by rfl) ?_ ?_; rotate_left; (intro wy hSw; (try dsimp only at hSw); go_simp; (first | done | with_reducible rfl)); try simp only [Act.put, List.getElem_toArray, List.getElem_cons_zero, List.getElem_cons_succ, List.setIfInBounds_toArray, List.set_cons_zero, List.set_cons_succ])
                    refine tkEnd ?_
                    refine wpAnyH_ready (rs := [22]) (by kernel_rfl) (by simp) ?_
                    refine AllReadyH.cons rfl (fun KK hK => ?_) AllReadyH.nil
                    rw [if_pos (by rfl)]
                    go_simp
                    go_at_call 27
                    refine (rof_any tk o.n W2.drew HQW.out (by omega)).mono ?_
                    rintro e w4 ⟨rfl, rfl⟩
                    rw [HY.out]
                    go_simp
                    refine hK.out _ _ ⟨q2, k1, k2, q1, q0⟩ (fun hHeld => ?_)
                    clear hK KK
                    try simp only [Act.put, List.getElem_toArray, List.getElem_cons_zero, List.getElem_cons_succ, List.setIfInBounds_toArray, List.set_cons_zero, List.set_cons_succ]
                    refine tkGo [27, 28, 29] ?_
                    repeat (refine tkOne (v := ?_) rfl (by kernel_rfl) (by kernel_rfl) (by kernel_rfl) (fun _ _ _ h => h) (by assumption) (by rfl) ?_ ?_; rotate_left; (intro wy hSw; (try dsimp only at hSw); go_simp; (first | done | with_reducible rfl)); try simp only [Act.put, List.getElem_toArray, List.getElem_cons_zero, List.getElem_cons_succ, List.setIfInBounds_toArray, List.set_cons_zero, List.set_cons_succ])
                    refine tkEnd ?_
                    refine wpAnyH_done (by kernel_rfl) ?_ _
                    clear hHeld
                    go_wp2
                    go_ret
                    exact ⟨rfl, _, HD.out.below (below_drG HB2.out), Nx.below (below_drG HB2.out)⟩
      · have hltI : ¬ (j : Int) < qs.length := by omega
        have hall : qs.all o.takes = true := by
          have := HI.out.1
          rw [List.take_of_length_le (by omega)] at this
          exact this
        have hq2 := HQ2.out
        rw [if_pos hall] at hq2
        injection hq2 with e1 e2
        subst e1
        have HE := keepG e2
        have HDr := keepG (HD.out.below HI.out.2)
        obtain ⟨g0, g1, g2, g3, g4, g5⟩ := HDr.out.low
        have f3 := HDr.out.hp.frozen 3
        have hBr : B ≤ wr.heap.size := Nat.le_trans HHB.out HI.out.2.size
        obtain ⟨v3, w3, hr3, ho3, hg3, hnb⟩ := run_append_seesG (f := rtC) (d := Rt.nil) (P := Try.prog) wr B 34 34 45 i0 _ 7 56 Try.underlying34 hi0 hz0 hzs hzb rfl (by decide) (.slice aa N ac) (old ++ o.ln).length (flatG rtC (old ++ o.ln)) HDr.out.all rtC_len (HQV.out wr HI.out.2) (rt_flat qs) (by have := HZ.out; unfold maxLen; omega) (by have := HZ.out; omega) hBr
        have hall2 : RoRt w3 B v3 (old ++ (o.ln ++ qs)) := by
          unfold RoRt
          rw [← List.append_assoc, List.length_append, flatG_app]
          exact ho3
        have hc3 : Chg wr w3 (fun k => (Value.slice aa N ac).ownBlock = some k) := Chg.of_grown' hg3 (fun k e => e)
        have HP := keepG (HDr.out.put hc3 hall2 (hnb.elim .inl (fun e => .inr ⟨_, e, Nat.le_refl _⟩)))
        have HPC : Hid (Hp w3 b 62 [.int .i64 o.sh, .int .i64 o.n, .slice xm ps.length cm, .slice aa N ac, .int .i64 old.length, .bool o.over]) := HDr.out.hp.chg hc3 (own_type10 HDr.out.all HDr.out.hp (by decide))
        have z3 : w3.cell? ⟨b, 3, none⟩ = some (.slice aa N ac) := HPC.out.cell (j := 3) rfl
        have y3 := HPC.out.frozen 3
        have HR3 := keepG hr3
        obtain ⟨ba, bc, ev⟩ := own_shape hall2
        obtain ⟨N2, HN2⟩ : ∃ N2, Hid ((old ++ (o.ln ++ qs)).length = N2) := ⟨_, rfl⟩
        rw [HN2.out] at ev
        subst ev
        clear hr3 ho3 hg3 hnb hall2 hc3 e2 hall g0 g1 g2 g4 g5
        go_wp2_with (at_builtin; go_must (refine wpList_appG _ rfl (.tmp 69) (.tmp 70) 34 34 rfl _ _ rfl rfl HR3.out ?_))
        go_ret
        rw [← HE.out]
        exact ⟨rfl, _, HP.out.1, ((Nx.below HI.out.2).trans HP.out.2)⟩
end
end Go.Proofs.Ytpbfgebecgikjaa
namespace Go.Proofs.Ytpbfgebecgikjaa
open Go.RowKit
set_option linter.unusedVariables false
set_option linter.unusedSimpArgs false
set_option maxRecDepth 100000
abbrev dfD (e : Int × Int) : List Value := [.int .i64 e.1, .int .i64 e.2]
theorem dfDAt {w : World} {a : Option Addr} {n cap : Nat} {l : List (Int × Int)} (h : SeesG dfD 2 (0, 0) w (.slice a n cap) l) {j : Nat} (hj : j < l.length) : ∃ p off, a = some ⟨p, off, none⟩ ∧ w.cell? ⟨p, off + j * 2, none⟩ = some (.int .i64 (l.getD j (0, 0)).1) ∧ w.cell? ⟨p, off + j * 2 + 1, none⟩ = some (.int .i64 (l.getD j (0, 0)).2) := by
  obtain ⟨a', cap', ev, _, _, _, hat⟩ := h
  simp only [Value.slice.injEq] at ev
  obtain ⟨rfl, _, rfl⟩ := ev
  obtain ⟨p, off, rfl, _, hc⟩ := hat (fun e => by rw [e] at hj; simp at hj)
  exact ⟨p, off, rfl, hc j hj 0 (by omega), hc j hj 1 (by omega)⟩
theorem Ds.lowD {w : World} {B B' p cap : Nat} {κ : Bool} {s : Lt} {F : Ft} (h : Ds w B p κ cap s F) (hB : B' ≤ B) : Ds w B' p κ cap s F := by
  rcases h with ⟨e, b, G, hp, ⟨v, hb, hG⟩, hF⟩ | ⟨e, l, G, hp, ⟨b, vd, vk, vw, hb, hG⟩, hF⟩
  · exact .inl ⟨e, b, G, hp, ⟨v, ⟨hb.hp, own_lowG hb.row hB⟩, hG⟩, hF⟩
  · exact .inr ⟨e, l, G, hp, ⟨b, vd, vk, vw, ⟨hb.hp, ⟨hb.bk.hp, own_lowG hb.bk.row hB⟩, own_lowG hb.ks hB, own_lowG hb.ws hB⟩, hG⟩, hF⟩
theorem InvD.newD {κ : Bool} {cap : Nat} (h : 1 ≤ cap) : InvD κ cap Lt.nil Sr.nil := ⟨InvSh.new h, List.Perm.refl _, fun _ => ⟨⟨⟨List.Pairwise.nil, fun p hp => by cases hp⟩, ⟨List.Pairwise.nil, List.Perm.refl _, by simp [Sr.nil], h⟩, List.Perm.refl _⟩, rfl⟩⟩
theorem replD (n i : Nat) : (List.replicate n Lt.nil).getD i Lt.nil = Lt.nil := by
  rw [List.getD_eq_getElem?_getD, List.getElem?_replicate]
  split <;> rfl
/-- The document's owner in the making: so many shards. -/
structure Dn (w0 w : World) (b : Nat) (vm : Value) (ps : List Nat) (ds : List Df) (F : Nat → Ft) (s n : Int) : Prop where
  hp : Hp w b 62 [.int .i64 s, .int .i64 n, vm, .slice none 0 0, .int .i64 0, .bool false]
  maps : w.ownsRow w0.heap.size 59 1 vm ps.length (flatG ptC ps)
  fam : Fam (fun w i G => Ds w w0.heap.size (ps.getD i 0) (ds.getD i (false, 0)).1 (ds.getD i (false, 0)).2 Lt.nil G) w ps.length F
  since : ∀ i, i < ps.length → Since w0 (F i)
  be : Below w0.heap.size w0 w
  here : w0.heap.size ≤ b
section
variable {w0 w w1 w2 : World} {b : Nat} {vm vm2 : Value} {ps : List Nat} {ds : List Df} {F : Nat → Ft} {s n : Int}
theorem Dn.below (h : Dn w0 w b vm ps ds F s n) (hb : Below w.heap.size w w1) : Dn w0 w1 b vm ps ds F s n :=
  ⟨h.hp.below hb h.hp.lt, own_below h.maps hb (Nat.le_refl _), h.fam.keeps (Chg.of_below (S := fun _ => False) hb) (fun j hj g => g.below hb), h.since, h.be.trans (hb.mono h.be.size), h.here⟩
theorem Dn.nb (h : Dn w0 w b vm ps ds F s n) : ¬ unF ps.length F b := by
  rintro ⟨i, hi, e⟩
  exact (h.fam.ob i hi).other h.hp (by decide) (by decide) (by decide) (by decide) (by decide) (by decide) e
theorem Dn.nrow (h : Dn w0 w b vm ps ds F s n) : ∀ k, vm.ownBlock = some k → ¬ unF ps.length F k := by
  rintro k hk ⟨i, hi, e⟩
  obtain ⟨cs, hq⟩ := own_hpC h.maps hk
  exact (h.fam.ob i hi).other hq (by decide) (by decide) (by decide) (by decide) (by decide) (by decide) e
/-- One more shard: made, laid at the row's end, the row put into its place. -/
theorem Dn.more (h : Dn w0 w b vm ps ds F s n) {p : Nat} {G : Ft} {o : Obj} (hb : Below w.heap.size w w1) (hs : Ds w1 w.heap.size p (ds.getD ps.length (false, 0)).1 (ds.getD ps.length (false, 0)).2 Lt.nil G) (hG : Since w G) (hown : w2.ownsRow w0.heap.size 59 1 vm2 (ps.length + 1) (flatG ptC ps ++ ptC p)) (hgr : (w1.alloc o).grownBy w2 vm.ownBlock) : Dn w0 (w2.setCell ⟨b, 2, none⟩ vm2) b vm2 (ps ++ [p]) ds (upd F ps.length G) s n := by
  have hc1 : Chg w1 w2 (fun k => vm.ownBlock = some k) := chg_append hgr
  have hbz := h.hp.lt
  have n0 : ¬ vm.ownBlock = some b := own_type10 h.maps h.hp (by decide)
  have hp1 : Hp w2 b 62 [.int .i64 s, .int .i64 n, vm, .slice none 0 0, .int .i64 0, .bool false] := (h.hp.below hb h.hp.lt).chg hc1 n0
  have hcs := Chg.set w2 b 2 vm2
  have hl : (ps ++ [p]).length = ps.length + 1 := by simp
  have hmG : Apt (fun k => vm.ownBlock = some k) G := fun k e1 e2 => by have := (h.maps.lt k e1).2; have := hG k e2; omega
  have hbG : ¬ G b := fun e => by have := hG b e; omega
  have hc : Chg w (w2.setCell ⟨b, 2, none⟩ vm2) (fun k => k = b ∨ vm.ownBlock = some k) := ((Chg.of_below hb).trans (hc1.mono (fun k e => .inr e)) (fun _ _ e => e)).trans (hcs.mono (fun k e => .inl e)) (fun _ _ e => e)
  have hgo : ∀ j, j < ps.length → Apt (fun k => k = b ∨ vm.ownBlock = some k) (F j) := fun j hj k e1 e2 => by
    rcases e1 with e | e
    · subst e; exact h.nb ⟨j, hj, e2⟩
    · exact h.nrow k e ⟨j, hj, e2⟩
  have hG2 : Ds (w2.setCell ⟨b, 2, none⟩ vm2) w0.heap.size p (ds.getD ps.length (false, 0)).1 (ds.getD ps.length (false, 0)).2 Lt.nil G := ((hs.lowD h.be.size).keeps hc1 hmG).keeps hcs (fun k e1 e2 => by have e3 : k = b := e1; subst e3; exact hbG e2)
  refine ⟨hp1.set 2 vm2, ?_, ?_, fun i hi => ?_, ?_, h.here⟩
  · rw [hl, flatG_more]
    exact own_chg hown hcs (fun k hk e => by subst e; exact own_type10 hown hp1 (by decide) hk)
  · rw [hl]
    refine Fam.more (P := fun w i G => Ds w w0.heap.size (ps.getD i 0) (ds.getD i (false, 0)).1 (ds.getD i (false, 0)).2 Lt.nil G) h.fam hc.size hG hG2.lies ?_ (fun j hj hd => ?_)
    · show Ds _ w0.heap.size ((ps ++ [p]).getD ps.length 0) _ _ Lt.nil G
      rw [show (ps ++ [p]).getD ps.length 0 = p by simp]
      exact hG2
    · show Ds _ w0.heap.size ((ps ++ [p]).getD j 0) _ _ Lt.nil (F j)
      rw [show (ps ++ [p]).getD j 0 = ps.getD j 0 by simp [List.getElem?_append_left hj]]
      exact hd.keeps hc (hgo j hj)
  · by_cases e : i = ps.length
    · subst e
      rw [upd_same]
      exact fun k hk => Nat.le_trans h.be.size (hG k hk)
    · rw [upd_other F G e]
      exact h.since i (by omega)
  · exact h.be.trans (hc.below (fun k e => by rcases e with e | e; exact (show k = b from e) ▸ h.here; exact (h.maps.lt k e).1) h.be.size)
end
set_option maxHeartbeats 6400000 in
theorem dnew_no (sh n : Int) {v : Value} {es : List (Int × Int)} (w : World) (hs : SeesG dfD 2 (0, 0) w v es) (HN : Hid (newO sh n es = none)) : Calls Try.prog 9 #[.int .i64 sh, .int .i64 n, v] w fun e w' => e = .returned (.tuple #[.pointer none, .int .i64 2]) ∧ Below w.heap.size w w' := by
  have HSB := keepG (fun (wr : World) (hb : Below w.heap.size w wr) => hs.below hb (Nat.le_refl _))
  obtain ⟨a, cap, ev, hlc, hmx⟩ := hs.shape
  subst ev
  obtain ⟨i0, hi0, hz0, hzs, hzb⟩ := info_parts infoDs
  have hn := HN.out
  unfold newO at hn
  clear hs
  go_enter Try.func9, Try.ntmps9
  by_cases hbad : n < 1 ∨ 4 < n ∨ sh < 0 ∨ n ≤ sh ∨ 4 < es.length
  · have h5 : n < 1 ∨ (¬ n < 1 ∧ 4 < n) ∨ (¬ n < 1 ∧ ¬ 4 < n ∧ sh < 0) ∨ (¬ n < 1 ∧ ¬ 4 < n ∧ ¬ sh < 0 ∧ n ≤ sh) ∨ (¬ n < 1 ∧ ¬ 4 < n ∧ ¬ sh < 0 ∧ ¬ n ≤ sh ∧ (4 : Int) < es.length) := by omega
    clear hbad hn HN
    rcases h5 with h | ⟨h1, h⟩ | ⟨h1, h2, h⟩ | ⟨h1, h2, h3, h⟩ | ⟨h1, h2, h3, h4, h⟩
    all_goals
      go_wp2
      go_ret2
      exact ⟨rfl, Below.refl _ _⟩
  · rw [if_neg hbad] at hn
    have hes : es.length ≤ 4 := by omega
    have g1 : ¬ n < 1 := by omega
    have g2 : ¬ 4 < n := by omega
    have g3 : ¬ sh < 0 := by omega
    have g4 : ¬ n ≤ sh := by omega
    have g5 : ¬ (4 : Int) < es.length := by omega
    obtain ⟨X, HX, HDX⟩ : ∃ X, Hid (w.alloc (.cells #[.int .i64 sh, .int .i64 n, .slice none 0 0, .slice none 0 0, .int .i64 0, .bool false] 62) = X) ∧ Hid (∀ ds, Dn w X w.heap.size (.slice none 0 0) [] ds (fun _ _ => False) sh n) := ⟨_, rfl, fun ds => ⟨Hp.new w _ _, World.ownsRow_nil _ _ _ _, Fam.nil, fun i hi => by simp at hi, below_allocG _ _, Nat.le_refl _⟩⟩
    obtain ⟨nb, HNB⟩ : ∃ nb, Hid (w.heap.size = nb) := ⟨_, rfl⟩
    rw [HNB.out] at HDX
    have hnone : allDf es = none := by
      cases h : allDf es with
      | none => rfl
      | some d => rw [h] at hn; cases hn
    obtain ⟨ib, hib, hbad1, hgood⟩ := allDf_none hnone
    have HBAD := keepG (mkDf_none hbad1)
    obtain ⟨DS, hDS⟩ : ∃ DS : List Df, ∀ j, j < ib → mkDf (es.getD j (0, 0)) = some (DS.getD j (false, 0)) := ⟨(List.range ib).map (fun j => (mkDf (es.getD j (0, 0))).getD (false, 0)), fun j hj => by
      obtain ⟨d, hd⟩ := hgood j hj
      have e : ((List.range ib).map (fun j => (mkDf (es.getD j (0, 0))).getD (false, 0))).getD j (false, 0) = (mkDf (es.getD j (0, 0))).getD (false, 0) := by rw [List.getD_eq_getElem?_getD, List.getElem?_map, List.getElem?_range hj]; rfl
      rw [e, hd]; rfl⟩
    have HDS := keepG hDS
    have HGD := keepG hgood
    clear hbad hn HN hnone hbad1 hgood
    go_wp2_with (rw [HX.out, HNB.out])
    go_loopw [9] (fun i wr => ∃ (j : Nat) (vm : Value) (ps : List Nat) (F : Nat → Ft), j ≤ ib ∧ i = .int .i64 j ∧ ps.length = j ∧ Hid (Dn w wr nb vm ps DS F sh n)) (fun i _ => es.length - (intOf i).toNat)
    case atStart => exact ⟨0, _, [], _, by omega, rfl, rfl, HDX.out _⟩
    case round =>
      clear HDX
      obtain ⟨j, vm, ps, F, hj, rfl, hpl, HD⟩ := hrel
      rename World => wr
      have hlt : j < es.length := by omega
      have hltI : (j : Int) < es.length := by omega
      obtain ⟨p, off, ev, d0, d1⟩ := dfDAt (HSB.out wr HD.out.be) hlt
      subst ev
      by_cases hji : j = ib
      · subst hji
        have HNO := keepG (dmake_no (es.getD j (0, 0)).1 (es.getD j (0, 0)).2 HBAD.out wr)
        generalize (es.getD j (0, 0)).1 = kk at *
        generalize (es.getD j (0, 0)).2 = cc at *
        go_wp2_with (go_at_call 25; go_must (refine HNO.out.mono ?_); rintro e w1 ⟨rfl, hb1⟩; go_must (have HB1 := keepG (HD.out.be.trans (hb1.mono HD.out.be.size)); clear hb1))
        go_ret2
        exact ⟨rfl, HB1.out⟩
      · have hd := HDS.out j (by omega)
        obtain ⟨d, HDJ⟩ : ∃ d, Hid (DS.getD j (false, 0) = d) := ⟨_, rfl⟩
        rw [HDJ.out] at hd
        obtain ⟨e1, e2, e3, e4⟩ := mkDf_some hd
        rw [e1] at d0
        rw [e2] at d1
        obtain ⟨kk, HKK⟩ : ∃ kk : Int, Hid ((if d.1 = true then (1 : Int) else 0) = kk) := ⟨_, rfl⟩
        have HMK := keepG (dmake_ok d.1 d.2 e3 e4 wr)
        unfold kindI at HMK
        rw [HKK.out] at HMK d0
        have HDP : Hid (DS.getD ps.length (false, 0) = d) := by show _ = _; rw [hpl]; exact HDJ.out
        obtain ⟨pa, pc, ev⟩ := own_shape HD.out.maps
        subst ev
        have m2 : wr.cell? ⟨nb, 2, none⟩ = some (.slice pa ps.length pc) := HD.out.hp.cell (j := 2) rfl
        have hpb : ps.length ≤ 4 := by omega
        have HPL := keepG hpl
        clear hpl
        go_wp2_with (first
          | (go_at_call 25; go_must (refine HMK.out.mono ?_); rintro e w1 ⟨q, G, rfl, hS, hG, hb1⟩; go_must (have HS1 := keepG hS; have HG1 := keepG hG; have HB1 := keepG hb1; have HD1 := keepG (HD.out.below hb1); have n2 : w1.cell? ⟨nb, 2, none⟩ = some (.slice pa ps.length pc) := (HD1.out.hp.cell (j := 2) rfl); clear hS hG hb1))
          | (at_builtin; go_must (refine wpList_append_own_at _ rfl (.tmp 56) (.tmp 58) 60 rfl w.heap.size 59 i0 _ 1 8 Try.underlying60 hi0 hz0 hzs hzb rfl (by decide) (.slice pa ps.length pc) ps.length (flatG ptC ps) rfl (HD1.out.maps.alloc _) ⟨_, 0, none⟩ 1 1 (ptC q) rfl rfl (cells_new _ (ptC q) _ _ rfl) (ptC_one q) (by unfold maxLen; omega) (by omega) (by have := HD1.out.be.size; simp; omega) ?_); intro v4 w4 hown hgr _ hnew; go_must (have HM4 := keepG (HD.out.more (w2 := w4) (vm2 := v4) (ds := DS) HB1.out (by rw [HDP.out]; exact HS1.out) HG1.out hown hgr); have HP4 : Hid (Hp w4 nb 62 [.int .i64 sh, .int .i64 n, .slice pa ps.length pc, .slice none 0 0, .int .i64 0, .bool false]) := HD1.out.hp.chg (chg_append hgr) (own_type10 HD1.out.maps HD1.out.hp (by decide)); have z2 : w4.cell? ⟨nb, 2, none⟩ = some (.slice pa ps.length pc) := HP4.out.cell (j := 2) rfl; have zf := HP4.out.frozen 2; obtain ⟨va4, vc4, ev⟩ := own_shape hown; subst ev; clear hown hgr hnew)))
        go_roundw
        case rel => exact ⟨j + 1, _, ps ++ [q], _, by omega, by go_num, by rw [List.length_append, HPL.out]; rfl, HM4.out⟩
        case measure => simp [intOf]; omega
set_option maxHeartbeats 6400000 in
theorem dnew_ok (sh n : Int) {v : Value} {es : List (Int × Int)} {o : On} (w : World) (hs : SeesG dfD 2 (0, 0) w v es) (HN : Hid (newO sh n es = some o)) : Calls Try.prog 9 #[.int .i64 sh, .int .i64 n, v] w fun e w' => ∃ b vm ps S F, e = .returned (.tuple #[.pointer (some ⟨b, 0, none⟩), .int .i64 0]) ∧ Dw w' w.heap.size b vm (.slice none 0 0) ps S F o [] ∧ Since w (footW b vm (.slice none 0 0) ps.length F) ∧ Below w.heap.size w w' := by
  have HSB := keepG (fun (wr : World) (hb : Below w.heap.size w wr) => hs.below hb (Nat.le_refl _))
  obtain ⟨a, cap, ev, hlc, hmx⟩ := hs.shape
  subst ev
  obtain ⟨i0, hi0, hz0, hzs, hzb⟩ := info_parts infoDs
  obtain ⟨h1, h2, h3, DS, h4, rfl, hok⟩ := newO_some HN.out
  obtain ⟨l1, l2⟩ := allDf_some h4
  have HDS := keepG l2
  have HL1 := keepG l1
  have g1 : ¬ n < 1 := by omega
  have g2 : ¬ 4 < n := by omega
  have g3 : ¬ sh < 0 := by omega
  have g4 : ¬ n ≤ sh := by omega
  have g5 : ¬ (4 : Int) < es.length := by omega
  obtain ⟨X, HX, HDX⟩ : ∃ X, Hid (w.alloc (.cells #[.int .i64 sh, .int .i64 n, .slice none 0 0, .slice none 0 0, .int .i64 0, .bool false] 62) = X) ∧ Hid (∀ ds, Dn w X w.heap.size (.slice none 0 0) [] ds (fun _ _ => False) sh n) := ⟨_, rfl, fun ds => ⟨Hp.new w _ _, World.ownsRow_nil _ _ _ _, Fam.nil, fun i hi => by simp at hi, below_allocG _ _, Nat.le_refl _⟩⟩
  obtain ⟨nb, HNB⟩ : ∃ nb, Hid (w.heap.size = nb) := ⟨_, rfl⟩
  rw [HNB.out] at HDX
  clear hs HN h4 l1 l2
  go_enter Try.func9, Try.ntmps9
  go_wp2_with (rw [HX.out, HNB.out])
  go_loopw [9] (fun i wr => ∃ (j : Nat) (vm : Value) (ps : List Nat) (F : Nat → Ft), j ≤ es.length ∧ i = .int .i64 j ∧ ps.length = j ∧ Hid (Dn w wr nb vm ps DS F sh n)) (fun i _ => es.length - (intOf i).toNat)
  case atStart => exact ⟨0, _, [], _, by omega, rfl, rfl, HDX.out _⟩
  case round =>
    clear HDX
    obtain ⟨j, vm, ps, F, hj, rfl, hpl, HD⟩ := hrel
    rename World => wr
    by_cases hlt : j < es.length
    · have hltI : (j : Int) < es.length := by omega
      obtain ⟨p, off, ev, d0, d1⟩ := dfDAt (HSB.out wr HD.out.be) hlt
      subst ev
      have hd := HDS.out j hlt
      obtain ⟨d, HDJ⟩ : ∃ d, Hid (DS.getD j (false, 0) = d) := ⟨_, rfl⟩
      rw [HDJ.out] at hd
      obtain ⟨e1, e2, e3, e4⟩ := mkDf_some hd
      rw [e1] at d0
      rw [e2] at d1
      obtain ⟨kk, HKK⟩ : ∃ kk : Int, Hid ((if d.1 = true then (1 : Int) else 0) = kk) := ⟨_, rfl⟩
      have HMK := keepG (dmake_ok d.1 d.2 e3 e4 wr)
      unfold kindI at HMK
      rw [HKK.out] at HMK d0
      have HDP : Hid (DS.getD ps.length (false, 0) = d) := by show _ = _; rw [hpl]; exact HDJ.out
      obtain ⟨pa, pc, ev⟩ := own_shape HD.out.maps
      subst ev
      have m2 : wr.cell? ⟨nb, 2, none⟩ = some (.slice pa ps.length pc) := HD.out.hp.cell (j := 2) rfl
      have hpb : ps.length ≤ 4 := by omega
      have HPL := keepG hpl
      clear hpl
      go_wp2_with (first
        | (go_at_call 25; go_must (refine HMK.out.mono ?_); rintro e w1 ⟨q, G, rfl, hS, hG, hb1⟩; go_must (have HS1 := keepG hS; have HG1 := keepG hG; have HB1 := keepG hb1; have HD1 := keepG (HD.out.below hb1); have n2 : w1.cell? ⟨nb, 2, none⟩ = some (.slice pa ps.length pc) := (HD1.out.hp.cell (j := 2) rfl); clear hS hG hb1))
        | (at_builtin; go_must (refine wpList_append_own_at _ rfl (.tmp 56) (.tmp 58) 60 rfl w.heap.size 59 i0 _ 1 8 Try.underlying60 hi0 hz0 hzs hzb rfl (by decide) (.slice pa ps.length pc) ps.length (flatG ptC ps) rfl (HD1.out.maps.alloc _) ⟨_, 0, none⟩ 1 1 (ptC q) rfl rfl (cells_new _ (ptC q) _ _ rfl) (ptC_one q) (by unfold maxLen; omega) (by omega) (by have := HD1.out.be.size; simp; omega) ?_); intro v4 w4 hown hgr _ hnew; go_must (have HM4 := keepG (HD.out.more (w2 := w4) (vm2 := v4) (ds := DS) HB1.out (by rw [HDP.out]; exact HS1.out) HG1.out hown hgr); have HP4 : Hid (Hp w4 nb 62 [.int .i64 sh, .int .i64 n, .slice pa ps.length pc, .slice none 0 0, .int .i64 0, .bool false]) := HD1.out.hp.chg (chg_append hgr) (own_type10 HD1.out.maps HD1.out.hp (by decide)); have z2 : w4.cell? ⟨nb, 2, none⟩ = some (.slice pa ps.length pc) := HP4.out.cell (j := 2) rfl; have zf := HP4.out.frozen 2; obtain ⟨va4, vc4, ev⟩ := own_shape hown; subst ev; clear hown hgr hnew)))
      go_roundw
      case rel => exact ⟨j + 1, _, ps ++ [q], _, by omega, by go_num, by rw [List.length_append, HPL.out]; rfl, HM4.out⟩
      case measure => simp [intOf]; omega
    · have hltI : ¬ (j : Int) < es.length := by omega
      obtain rfl : j = es.length := by omega
      have HPL := keepG hpl
      clear hpl
      go_wp2
      go_ret2
      have hpd : ps.length = DS.length := HPL.out.trans HL1.out.symm
      have hok' := hok
      refine ⟨nb, rfl, vm, ps, List.replicate ps.length Lt.nil, F, ⟨?_, HD.out.maps, World.ownsRow_nil _ _ _ _, ?_, ?_, ?_, ?_, ?_⟩, ?_, HD.out.be⟩
      · have e1 : ((On.new sh.toNat n.toNat DS).sh : Int) = sh := by show ((sh.toNat : Nat) : Int) = sh; omega
        have e2 : ((On.new sh.toNat n.toNat DS).n : Int) = n := by show ((n.toNat : Nat) : Int) = n; omega
        rw [e1, e2]
        exact HD.out.hp
      · show ps.length = (List.replicate DS.length Sr.nil).length
        simp [hpd]
      · show (List.replicate ps.length Lt.nil).length = (List.replicate DS.length Sr.nil).length
        simp [hpd]
      · intro i hi
        have hi2 : i < DS.length := by omega
        have hi3 := (mkDf_some (HDS.out i (by have := HL1.out; omega))).2.2.1
        have e2 : (On.new sh.toNat n.toNat DS).sk i = Sr.nil := by
          show (List.replicate DS.length Sr.nil).getD i Sr.nil = _
          rw [List.getD_eq_getElem?_getD, List.getElem?_replicate]
          split <;> rfl
        rw [replD, e2]
        exact InvD.newD hi3
      · have : (fun (w1 : World) i G => Ds w1 w.heap.size (ps.getD i 0) ((On.new sh.toNat n.toNat DS).dk i).1 ((On.new sh.toNat n.toNat DS).dk i).2 ((List.replicate ps.length Lt.nil).getD i Lt.nil) G) = (fun (w1 : World) i G => Ds w1 w.heap.size (ps.getD i 0) (DS.getD i (false, 0)).1 (DS.getD i (false, 0)).2 Lt.nil G) := by
          funext w1 i G
          rw [replD]
          rfl
        rw [this]
        exact HD.out.fam
      · intro i hi
        rw [replD]
        exact Nat.zero_le _
      · rintro k ((e | e) | e | ⟨i, hi, e⟩)
        · rw [e]; exact Nat.le_of_eq HNB.out
        · exact (HD.out.maps.lt k e).1
        · cases e
        · exact HD.out.since i hi k e
end Go.Proofs.Ytpbfgebecgikjaa
