
/-
  The plain LRU and the document's, side by side. No Go text in sight.
-/
import Derived.Test.YtinoelooccmmnaaL14Any
import Derived.Test.YtinoelooccmmnaaL14Laws
namespace Go.Proofs.Ytinoelooccmmnaa
set_option linter.unusedVariables false
set_option linter.unusedSimpArgs false

theorem ris_forget {kt : List Kp} (h : Ris kt) (key : Int) : Ris (forgetT key kt) := List.Pairwise.sublist List.filter_sublist h
theorem ris_more {kt : List Kp} {c : Nat} (h : Ris kt) (hb : ∀ p ∈ kt, 1 ≤ p.t ∧ p.t ≤ c) (key : Int) : Ris (kt ++ [(⟨key, (c : Int) + 1⟩ : Kp)]) :=
  List.pairwise_append.2 ⟨h, List.pairwise_cons.2 ⟨by simp, List.Pairwise.nil⟩, fun a ha b hb' => by
    rw [List.mem_singleton] at hb'
    rw [hb']
    have := (hb a ha).2
    show a.t < (c : Int) + 1
    omega⟩
/-- Touches rise, and none is behind the clock. -/
structure InvK (s : Lt) : Prop where
  ris : Ris s.kt
  bnd : ∀ p ∈ s.kt, 1 ≤ p.t ∧ p.t ≤ s.c
theorem InvK.forget {s : Lt} (h : InvK s) (key : Int) (D : List Pp) : InvK ⟨D, forgetT key s.kt, s.c⟩ := ⟨ris_forget h.ris key, fun p hp => h.bnd p (List.mem_filter.1 hp).1⟩
theorem InvK.out {cap : Nat} {s : Lt} (h : InvK s) (op key : Int) : InvK (outS cap s op key) := by
  unfold outS
  split
  · exact h.forget _ _
  · exact h
theorem outS_c (cap : Nat) (s : Lt) (op key : Int) : (outS cap s op key).c = s.c := by
  unfold outS
  split <;> rfl
theorem InvK.do {cap : Nat} {s : Lt} (h : InvK s) (op key val : Int) : InvK (doT cap s op key val).2 := by
  have ho := h.out (cap := cap) op key
  have hc := outS_c cap s op key
  unfold doT ktT
  cases ht : tchB s op key with
  | true =>
    simp only [if_true]
    have hf := ho.forget key []
    refine ⟨?_, fun p hp => ?_⟩
    · have hb : ∀ p ∈ forgetT key (outS cap s op key).kt, 1 ≤ p.t ∧ p.t ≤ s.c := fun p hp => by rw [← hc]; exact hf.bnd p hp
      exact ris_more hf.ris hb key
    · rcases List.mem_append.1 hp with g | g
      · have h1 := hf.bnd p g
        rw [show (⟨[], forgetT key (outS cap s op key).kt, (outS cap s op key).c⟩ : Lt).c = s.c from hc] at h1
        show 1 ≤ p.t ∧ p.t ≤ ((s.c + 1 : Nat) : Int)
        omega
      · rw [List.mem_singleton] at g
        rw [g]
        show 1 ≤ (s.c : Int) + 1 ∧ (s.c : Int) + 1 ≤ ((s.c + 1 : Nat) : Int)
        omega
  | false =>
    simp only [Bool.false_eq_true, if_false]
    split
    · have hf := ho.forget key []
      refine ⟨hf.ris, fun p hp => ?_⟩
      have h1 := hf.bnd p hp
      rw [show (⟨[], forgetT key (outS cap s op key).kt, (outS cap s op key).c⟩ : Lt).c = s.c from hc] at h1
      exact h1
    · refine ⟨ho.ris, fun p hp => ?_⟩
      have h1 := ho.bnd p hp
      rw [hc] at h1
      exact h1
theorem doT_clock (cap : Nat) (s : Lt) (op key val : Int) : (doT cap s op key val).2.c ≤ s.c + 1 := by
  unfold doT
  simp only
  split <;> omega
/-- The keys of the document's LRU by recency. -/
def recT (kt : List Kp) : List Int := (kt.map Kp.k).reverse
theorem fgt_rec (key : Int) (kt : List Kp) : recT (forgetT key kt) = fgt key (recT kt) := by
  unfold recT fgt forgetT
  rw [List.filter_reverse, List.filter_map]
  rfl
theorem last_old (s : Lt) : lastR (recT s.kt) = oldT s := by
  unfold lastR recT oldT
  rw [List.reverse_reverse, List.getD_eq_getElem?_getD, List.getElem?_map, List.getD_eq_getElem?_getD]
  cases s.kt[0]? with
  | none => rfl
  | some p => rfl
/-- They answer alike. -/
theorem doA_same {cap : Nat} {S : List Pp} {s : Lt} (hs : Srt S) (hp : S.Perm s.D) (op key val : Int) : (doA cap S (recT s.kt) op key val).1 = (doT cap s op key val).1 ∧ (doA cap S (recT s.kt) op key val).2.1.Perm (doT cap s op key val).2.D ∧ (doA cap S (recT s.kt) op key val).2.2 = recT (doT cap s op key val).2.kt ∧ Srt (doA cap S (recT s.kt) op key val).2.1 := by
  have hhit : ∀ k, hitS k S = hasP k s.D := fun k => by
    have := (do_same (cap := cap) hs hp 1 k 0).1
    rw [do_has, doP1] at this
    injection this
  have hdel := fun k => do_same (cap := cap) hs hp 3 k 0
  have hhad : ∀ k, hadS k S = valP k s.D := fun k => by
    have := (hdel k).1
    rw [do_del, doP3] at this
    injection this
  have hdp : ∀ k, (dropS S k).Perm (s.D.eraseIdx (posP k s.D)) := fun k => by
    have := (hdel k).2
    rw [do_del, doP3] at this
    exact this
  have hev : evA cap S op key = evB cap s op key := by
    unfold evA evB
    rw [hhit, hp.length_eq]
  have htc : tchA S op key = tchB s op key := by
    unfold tchA tchB
    rw [hhit]
  have hout : (outA cap S (recT s.kt) op key).1.Perm (outS cap s op key).D ∧ Srt (outA cap S (recT s.kt) op key).1 ∧ (outA cap S (recT s.kt) op key).2 = recT (outS cap s op key).kt := by
    unfold outA outS
    rw [hev]
    split
    · rw [last_old]
      exact ⟨hdp _, srt_drop hs _, (fgt_rec _ _).symm⟩
    · exact ⟨hp, hs, rfl⟩
  obtain ⟨o1, o2, o3⟩ := hout
  have hd := do_same (cap := cap) o2 o1 op key val
  unfold doA doT
  refine ⟨?_, hd.2, ?_, srt_do o2 _ _ _⟩
  · simp only
    rw [hd.1, hev, last_old, hhad]
  · simp only
    unfold ordA ktT
    rw [htc, o3]
    split
    · unfold recT
      rw [List.map_append, List.reverse_append]
      show _ = key :: (List.map Kp.k (forgetT key (outS cap s op key).kt)).reverse
      rw [show (List.map Kp.k (forgetT key (outS cap s op key).kt)).reverse = recT (forgetT key (outS cap s op key).kt) from rfl, fgt_rec]
      rfl
    · split
      · rw [fgt_rec]
      · rfl
end Go.Proofs.Ytinoelooccmmnaa
