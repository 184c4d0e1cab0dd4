
/-
  Fairness, plain: who stays ready through as many fair turns as there are tasks is picked in one of them. No Go text in sight.
-/
import Derived.Test.YtnjmajcjdkceoaaK21Plain
namespace Go.Proofs.Ytnjmajcjdkceoaa
set_option linter.unusedVariables false
set_option linter.unusedSimpArgs false
theorem snocK {α : Type} {p : List α → Prop} (h0 : p []) (h1 : ∀ l a, p l → p (l ++ [a])) : ∀ l, p l := by
  intro l
  have : ∀ m : List α, p m.reverse := by
    intro m
    induction m with
    | nil => exact h0
    | cons a m ih => rw [List.reverse_cons]; exact h1 _ _ ih
  have h := this l.reverse
  rwa [List.reverse_reverse] at h
theorem lastP_out (s : List Int) (x : Int) : ∀ q, x ∉ q → lastP (s ++ q) x = lastP s x := by
  refine snocK ?_ ?_
  · intro _; simp
  · intro l a ih h
    rw [← List.append_assoc, lastP_more, if_neg (fun e => h (by simp [e])), ih (fun e => h (by simp [e]))]
theorem lastP_in (s : List Int) (x : Int) : ∀ q, x ∈ q → s.length < lastP (s ++ q) x := by
  refine snocK ?_ ?_
  · intro h; cases h
  · intro l a ih h
    rw [← List.append_assoc, lastP_more]
    by_cases e : a = x
    · rw [if_pos e]; simp; omega
    · rw [if_neg e]
      refine ih ?_
      simp only [List.mem_append, List.mem_singleton] at h
      rcases h with h | h
      · exact h
      · exact absurd h.symm e
theorem nodupK : ∀ (n : Nat) (l : List Int), l.Nodup → (∀ x ∈ l, 0 ≤ x ∧ x < n) → l.length ≤ n := by
  intro n
  induction n with
  | zero =>
    intro l _ h
    cases l with
    | nil => simp
    | cons x l => have := h x (by simp); omega
  | succ n ih =>
    intro l hn h
    have h1 := ih (l.erase (n : Int)) (hn.erase _) (fun x hx => by
      have h2 := (hn.mem_erase_iff).1 hx
      have := h x h2.2
      have := h2.1
      omega)
    by_cases hm : (n : Int) ∈ l
    · have := List.length_erase_of_mem hm
      omega
    · have : l.erase (n : Int) = l := List.erase_of_not_mem hm
      rw [this] at h1
      omega
/-- A task stays ready; it was picked (fd), or so many others were, each once. -/
structure Win (K : Kn) (x : Int) (i : Nat) (fd : Bool) : Prop where
  has : K.has x = true
  md : K.md x = 1
  seen : fd = true ∨ ∃ s q, K.p = s ++ q ∧ q.length = i ∧ q.Nodup ∧ x ∉ q
theorem Win.ready {K : Kn} {x : Int} {i : Nat} {fd : Bool} (h : Win K x i fd) : x ∈ K.inM 1 := Kn.mem_inM.2 ⟨h.has, h.md⟩
theorem Win.fair {K : Kn} {x : Int} {i : Nat} {fd : Bool} (h : Win K x i fd) : ∃ t, K.fair = (t, true, ⟨K.m, K.p ++ [t]⟩) ∧ t ∈ K.inM 1 ∧ K.has t = true ∧ Win ⟨K.m, K.p ++ [t]⟩ x (i + 1) (fd || (t == x)) := by
  have hr := h.ready
  have hne : K.inM 1 ≠ [] := fun e => by rw [e] at hr; cases hr
  refine ⟨best (lastP K.p) (K.inM 1), by unfold Kn.fair; rw [if_neg hne], best_mem _ hne, (Kn.mem_inM.1 (best_mem _ hne)).1, h.has, h.md, ?_⟩
  have hle := best_le (lastP K.p) hr
  generalize best (lastP K.p) (K.inM 1) = t at hle
  rcases h.seen with e | ⟨s, q, e1, e2, e3, e4⟩
  · left; rw [e]; rfl
  · by_cases e : t = x
    · left; simp [e]
    · right
      refine ⟨s, q ++ [t], by show K.p ++ [t] = _; rw [e1, List.append_assoc], by simp [e2], ?_, ?_⟩
      · rw [List.nodup_append]
        refine ⟨e3, by simp, fun a ha b hb => ?_⟩
        have hb : b = t := List.mem_singleton.1 hb
        subst hb
        rintro rfl
        have h1 := lastP_in s a q ha
        rw [e1, lastP_out s x q e4] at hle
        have h2 := lastP_le s x
        omega
      · simp only [List.mem_append, List.mem_singleton]
        rintro (g | g)
        · exact e4 g
        · exact e g.symm
theorem Win.turn {K K' : Kn} {x : Int} {i : Nat} {fd : Bool} (h : Win K x i fd) {v E : Int} {xs : List Int} (hx : x ∉ xs) (hq : K.turn v xs = (E, K')) : Win K' x i fd := by
  obtain ⟨n, rfl, hn⟩ := Kn.has_nat h.has
  have hl := Kn.turn_len hq
  unfold Kn.turn at hq
  split at hq
  · injection hq with _ e; rw [← e]; exact h
  · rename_i h1
    split at hq
    · injection hq with _ e; rw [← e]; exact h
    · injection hq with _ e
      subst e
      have hall : ∀ y ∈ xs, K.has y = true := by simpa using h1
      refine ⟨Kn.has_of (by simpa [putM_len] using hn), ?_, h.seen⟩
      rw [Kn.md_nat]
      show (putM K.m v xs).getD n 0 = 1
      rw [putM_far v n xs K.m (fun y hy => ?_), ← Kn.md_nat, h.md]
      obtain ⟨k, rfl, _⟩ := Kn.has_nat (hall y hy)
      exact ⟨by omega, fun e => hx (by rw [← e]; exact hy)⟩
theorem Win.end {K : Kn} (hk : K.Ok) {x : Int} {fd : Bool} (h : Win K x K.m.length fd) : fd = true := by
  rcases h.seen with e | ⟨s, q, e1, e2, e3, e4⟩
  · exact e
  · exfalso
    obtain ⟨n, rfl, hn⟩ := Kn.has_nat h.has
    have := nodupK K.m.length ((n : Int) :: q) (List.nodup_cons.2 ⟨e4, e3⟩) (fun y hy => by
      rcases List.mem_cons.1 hy with g | g
      · rw [g]; omega
      · exact hk.pick y (by rw [e1]; simp [g]))
    simp at this
    omega
/-- What Wake of one task comes to. -/
theorem wake_cases {K K' : Kn} {x E : Int} (hq : K.turn 1 [x] = (E, K')) : (E = 2 ∧ K.has x = false ∧ K' = K) ∨ (E = 43 ∧ x ∈ K.inM 2 ∧ K' = K) ∨ (E = 0 ∧ Win K' x 0 false ∧ K'.p = K.p) := by
  have h0 := hq
  unfold Kn.turn at hq
  split at hq
  · rename_i h1
    injection hq with e1 e2
    exact .inl ⟨e1.symm, by simpa using h1, e2.symm⟩
  · rename_i h1
    have hh : K.has x = true := by simpa using h1
    split at hq
    · rename_i h2
      injection hq with e1 e2
      exact .inr (.inl ⟨e1.symm, Kn.mem_inM.2 ⟨hh, by simpa using h2⟩, e2.symm⟩)
    · injection hq with e1 e2
      refine .inr (.inr ⟨e1.symm, ?_, by rw [← e2]⟩)
      subst e2
      obtain ⟨n, rfl, hn⟩ := Kn.has_nat hh
      refine ⟨Kn.has_of (by simpa [putM_len] using hn), ?_, .inr ⟨K.p, [], by simp, rfl, List.nodup_nil, by simp⟩⟩
      rw [Kn.md_nat]
      exact putM_near 1 n [(n : Int)] K.m hn (.inl (by simp)) (fun y hy => by simp at hy; omega)
end Go.Proofs.Ytnjmajcjdkceoaa
