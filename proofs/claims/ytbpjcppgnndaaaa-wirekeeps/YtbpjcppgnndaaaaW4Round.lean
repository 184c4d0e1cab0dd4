/-
  The plain mathematics of there and back: what the bytes of a module tell, what is taken is a module's bytes, no beginning is taken. No Go text in sight.
-/
import Derived.Test.YtbpjcppgnndaaaaW4Plain
namespace Go.Proofs.Ytbpjcppgnndaaaa
open Go.RowKit
set_option linter.unusedVariables false

def Bytes (ys : List Int) : Prop := ∀ x ∈ ys, 0 ≤ x ∧ x ≤ 255
theorem Bytes.drop {ys : List Int} (h : Bytes ys) (p : Nat) : Bytes (ys.drop p) := fun x hx => h x (List.mem_of_mem_drop hx)
theorem Bytes.take {ys : List Int} (h : Bytes ys) (p : Nat) : Bytes (ys.take p) := fun x hx => h x (List.mem_of_mem_take hx)
/-- What layer 1 tells: an error, or a number whose encoding stands at the front. -/
theorem get_two {ys : List Int} (h : Bytes ys) : (∃ e : Int, (e = 10 ∨ e = 12) ∧ getL 0 0 ys = (0, 0, e)) ∨ ∃ (n : Int) (j : Nat), getL 0 0 ys = (n, (j : Int), 0) ∧ 0 ≤ n ∧ n < 18446744073709551616 ∧ 1 ≤ j ∧ j ≤ ys.length ∧ enc n = ys.take j := by
  rcases getL_tells ys 0 0 (by omega) (by omega) (by simp) h with (h' | h') | ⟨n, j, h', h1, h2, h3, h4, h5⟩
  · exact .inl ⟨10, .inl rfl, h'⟩
  · exact .inl ⟨12, .inr rfl, h'⟩
  · exact .inr ⟨n, j, h', h1, h2, by omega, by omega, enc_back h h'⟩
/-- A number is read by its own bytes alone. -/
theorem get_take {ys : List Int} (h : Bytes ys) {n : Int} {j : Nat} (hg : getL 0 0 ys = (n, (j : Int), 0)) (h0 : 0 ≤ n) (h1 : n < 18446744073709551616) (hj : j ≤ ys.length) (he : enc n = ys.take j) (m : Nat) :
    (j ≤ m → getL 0 0 (ys.take m) = (n, (j : Int), 0)) ∧ (m < j → getL 0 0 (ys.take m) = (0, 0, 10)) := by
  have hl : (enc n).length = j := by rw [he]; simp; omega
  refine ⟨fun hm => ?_, fun hm => ?_⟩
  · have e : ys.take m = enc n ++ (ys.take m).drop j := by
      rw [he]
      have : ys.take j = (ys.take m).take j := by rw [List.take_take, Nat.min_eq_left hm]
      rw [this, List.take_append_drop]
    rw [e, getL_enc h0 h1, hl]
  · have e : ys.take m = (enc n).take m := by rw [he, List.take_take, Nat.min_eq_left (by omega)]
    rw [e]
    exact getL_begin h0 m (by omega)

/-! ### A field of a list, and the ways to read on -/
/-- Reading on: where it ends well, its bytes are E's; cut short, ErrShort. -/
structure Good {α : Type} (F : List Int → Nat → Rd α) (E : α → List Int) (P : α → Prop) : Prop where
  back : ∀ (ys : List Int) (p p' : Nat) (a : α), Bytes ys → p ≤ ys.length → F ys p = .ok (a, p') → p ≤ p' ∧ p' ≤ ys.length ∧ ys.drop p = E a ++ ys.drop p' ∧ P a
  short : ∀ (ys : List Int) (k p p' : Nat) (a : α), Bytes ys → p ≤ k → k ≤ ys.length → F ys p = .ok (a, p') → (p' ≤ k → F (ys.take k) p = .ok (a, p')) ∧ (k < p' → ∃ q : Nat, F (ys.take k) p = .error ((q : Int), 10) ∧ q ≤ k)
  bad : ∀ (ys : List Int) (p : Nat) (q e : Int), Bytes ys → p ≤ ys.length → F ys p = .error (q, e) → 0 ≤ q ∧ q ≤ ys.length ∧ e ≠ 0
theorem Good.then' {α β : Type} {F : List Int → Nat → Rd α} {G : α → List Int → Nat → Rd β} {E : α → List Int} {E' : α → β → List Int} {P : α → Prop} {Q : α → β → Prop} {E2 : β → List Int} {Q2 : β → Prop} (h : Good F E P) (k : ∀ a, P a → Good (G a) (E' a) (Q a)) (hE : ∀ a b, P a → Q a b → E2 b = E a ++ E' a b ∧ Q2 b) : Good (fun ys p => (F ys p).then' fun a p => G a ys p) E2 Q2 := by
  refine ⟨?_, ?_, ?_⟩
  · intro ys p p' b hy hp hf
    cases h1 : F ys p with
    | error x => rw [h1] at hf; cases hf
    | ok y =>
      obtain ⟨a, p1⟩ := y
      rw [h1] at hf
      have hf : G a ys p1 = .ok (b, p') := hf
      obtain ⟨a1, a2, a3, a4⟩ := h.back ys p p1 a hy hp h1
      obtain ⟨b1, b2, b3, b4⟩ := (k a a4).back ys p1 p' b hy a2 hf
      have hh := hE a b a4 b4
      exact ⟨by omega, b2, by rw [a3, b3, hh.1, List.append_assoc], hh.2⟩
  · intro ys m p p' b hy hp hm hf
    cases h1 : F ys p with
    | error x => rw [h1] at hf; cases hf
    | ok y =>
      obtain ⟨a, p1⟩ := y
      rw [h1] at hf
      have hf : G a ys p1 = .ok (b, p') := hf
      obtain ⟨a1, a2, a3, a4⟩ := h.back ys p p1 a hy (by omega) h1
      obtain ⟨b1, b2, b3, b4⟩ := (k a a4).back ys p1 p' b hy a2 hf
      have s1 := h.short ys m p p1 a hy hp hm h1
      by_cases hp1 : p1 ≤ m
      · have s2 := (k a a4).short ys m p1 p' b hy hp1 hm hf
        have e1 := s1.1 hp1
        refine ⟨fun hh => ?_, fun hh => ?_⟩
        · show (F (ys.take m) p).then' _ = _
          rw [e1]; exact s2.1 hh
        · obtain ⟨q, hq, hqm⟩ := s2.2 hh
          refine ⟨q, ?_, hqm⟩
          show (F (ys.take m) p).then' _ = _
          rw [e1]; exact hq
      · obtain ⟨q, hq, hqm⟩ := s1.2 (by omega)
        refine ⟨fun hh => absurd hh (by omega), fun _ => ⟨q, ?_, hqm⟩⟩
        show (F (ys.take m) p).then' _ = _
        rw [hq]; rfl
  · intro ys p q e hy hp hf
    cases h1 : F ys p with
    | error x =>
      rw [h1] at hf
      have hf : (.error x : Rd β) = .error (q, e) := hf
      injection hf with hf
      subst hf
      exact h.bad ys p q e hy hp h1
    | ok y =>
      obtain ⟨a, p1⟩ := y
      rw [h1] at hf
      have hf : G a ys p1 = .error (q, e) := hf
      obtain ⟨a1, a2, a3, a4⟩ := h.back ys p p1 a hy hp h1
      exact (k a a4).bad ys p1 q e hy a2 hf
theorem take_drop' (ys : List Int) (k p : Nat) : (ys.take k).drop p = (ys.drop p).take (k - p) := by rw [List.drop_take]
theorem numR_good (most above : Int) (hab : above ≠ 0) : Good (fun ys p => numR ys most above p) enc (fun n => 0 ≤ n ∧ n ≤ most ∧ n < 18446744073709551616) := by
  refine ⟨?_, ?_, ?_⟩
  · intro ys p p' a hy hp hf
    rcases get_two (hy.drop p) with ⟨e, he, hg⟩ | ⟨n, j, hg, h0, h1, hj1, hj, he⟩
    · exfalso
      simp only [numR] at hf
      rw [hg, if_pos (by simp; omega)] at hf
      cases hf
    · simp only [numR] at hf
      rw [hg, if_neg (by simp)] at hf
      by_cases hm : most < n
      · rw [if_pos hm] at hf; cases hf
      · rw [if_neg hm] at hf
        injection hf with hf
        injection hf with h2 h3
        subst h2 h3
        rw [List.length_drop] at hj
        simp only [Int.toNat_natCast]
        refine ⟨by omega, by omega, ?_, h0, by simpa using hm, h1⟩
        rw [he, ← List.drop_drop, List.take_append_drop]
  · intro ys k p p' a hy hp hk hf
    rcases get_two (hy.drop p) with ⟨e, he, hg⟩ | ⟨n, j, hg, h0, h1, hj1, hj, he⟩
    · exfalso
      simp only [numR] at hf
      rw [hg, if_pos (by simp; omega)] at hf
      cases hf
    · simp only [numR] at hf
      rw [hg, if_neg (by simp)] at hf
      by_cases hm : most < n
      · rw [if_pos hm] at hf; cases hf
      · rw [if_neg hm] at hf
        injection hf with hf
        injection hf with h2 h3
        subst h2 h3
        simp only [Int.toNat_natCast]
        have ht := get_take (hy.drop p) hg h0 h1 hj he (k - p)
        refine ⟨fun hh => ?_, fun hh => ⟨p, ?_, hp⟩⟩
        · rw [numR, take_drop', ht.1 (by omega), if_neg (by simp), if_neg hm]
          simp
        · rw [numR, take_drop', ht.2 (by omega), if_pos (by simp)]
  · intro ys p q e hy hp hf
    rcases get_two (hy.drop p) with ⟨e', he, hg⟩ | ⟨n, j, hg, h0, h1, hj1, hj, he⟩
    · simp only [numR] at hf
      rw [hg, if_pos (by simp; omega)] at hf
      injection hf with hf
      injection hf with h2 h3
      subst h2 h3
      exact ⟨by omega, by omega, by simp; omega⟩
    · simp only [numR] at hf
      rw [hg, if_neg (by simp)] at hf
      by_cases hm : most < n
      · rw [if_pos hm] at hf
        injection hf with hf
        injection hf with h2 h3
        subst h2 h3
        exact ⟨by omega, by omega, hab⟩
      · rw [if_neg hm] at hf; cases hf
theorem sgnR_good : Good sgnR (fun n => enc (foldI n)) (fun n => -9223372036854775808 ≤ n ∧ n ≤ 9223372036854775807) := by
  have key : ∀ u : Int, 0 ≤ u → u < 18446744073709551616 → -9223372036854775808 ≤ unfoldI u ∧ unfoldI u ≤ 9223372036854775807 := fun u h h' => by unfold unfoldI; split <;> omega
  refine ⟨?_, ?_, ?_⟩
  · intro ys p p' a hy hp hf
    rcases get_two (hy.drop p) with ⟨e, he, hg⟩ | ⟨n, j, hg, h0, h1, hj1, hj, he⟩
    · exfalso
      rw [sgnR, hg, if_pos (by simp; omega)] at hf
      cases hf
    · rw [sgnR, hg, if_neg (by simp)] at hf
      injection hf with hf
      injection hf with h2 h3
      subst h2 h3
      rw [List.length_drop] at hj
      simp only [Int.toNat_natCast]
      refine ⟨by omega, by omega, ?_, key n h0 h1⟩
      rw [fold_unfold n h0, he, ← List.drop_drop, List.take_append_drop]
  · intro ys k p p' a hy hp hk hf
    rcases get_two (hy.drop p) with ⟨e, he, hg⟩ | ⟨n, j, hg, h0, h1, hj1, hj, he⟩
    · exfalso
      rw [sgnR, hg, if_pos (by simp; omega)] at hf
      cases hf
    · rw [sgnR, hg, if_neg (by simp)] at hf
      injection hf with hf
      injection hf with h2 h3
      subst h2 h3
      simp only [Int.toNat_natCast]
      have ht := get_take (hy.drop p) hg h0 h1 hj he (k - p)
      refine ⟨fun hh => ?_, fun hh => ⟨p, ?_, hp⟩⟩
      · rw [sgnR, take_drop', ht.1 (by omega), if_neg (by simp)]
        simp
      · rw [sgnR, take_drop', ht.2 (by omega), if_pos (by simp)]
  · intro ys p q e hy hp hf
    rcases get_two (hy.drop p) with ⟨e', he, hg⟩ | ⟨n, j, hg, h0, h1, hj1, hj, he⟩
    · rw [sgnR, hg, if_pos (by simp; omega)] at hf
      injection hf with hf
      injection hf with h2 h3
      subst h2 h3
      exact ⟨by omega, by omega, by simp; omega⟩
    · rw [sgnR, hg, if_neg (by simp)] at hf; cases hf
/-- Nothing is read; it is told, or an error at a place ahead of here. -/
theorem good_pure {α : Type} (b : Bool) (a : α) (p0 : Nat) (P : α → Prop) (hb : b = true → P a) : Good (fun ys p => if b = true then (.ok (a, p) : Rd α) else .error (((min p0 ys.length : Nat) : Int), 12)) (fun _ => []) P := by
  cases b with
  | true =>
    refine ⟨?_, ?_, ?_⟩
    · intro ys p p' c hy hp hf
      injection hf with hf
      injection hf with h2 h3
      subst h2 h3
      exact ⟨Nat.le_refl _, hp, rfl, hb rfl⟩
    · intro ys k p p' c hy hp hk hf
      injection hf with hf
      injection hf with h2 h3
      subst h2 h3
      exact ⟨fun _ => rfl, fun hh => absurd hh (by omega)⟩
    · intro ys p q e hy hp hf
      cases hf
  | false =>
    refine ⟨?_, ?_, ?_⟩
    · intro ys p p' c hy hp hf
      cases hf
    · intro ys k p p' c hy hp hk hf
      cases hf
    · intro ys p q e hy hp hf
      injection hf with hf
      injection hf with h2 h3
      subst h2 h3
      exact ⟨by omega, by omega, by omega⟩
end Go.Proofs.Ytbpjcppgnndaaaa
