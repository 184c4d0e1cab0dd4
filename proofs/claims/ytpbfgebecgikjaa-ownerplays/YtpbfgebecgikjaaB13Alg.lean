
/-
  Books by rising keys: what an operation does, told by what stands below the key and above it. No Go text in sight.
-/
import Derived.Test.YtpbfgebecgikjaaB13Sort
namespace Go.Proofs.Ytpbfgebecgikjaa
set_option linter.unusedVariables false
set_option linter.unusedSimpArgs false

def Srt (L : List Pp) : Prop := L.Pairwise (fun p q => p.k < q.k)
/-- All below a key, all above it. -/
def Lo (key : Int) (A : List Pp) : Prop := ∀ a ∈ A, a.k < key
def Hi (key : Int) (D : List Pp) : Prop := ∀ d ∈ D, key < d.k
theorem findS_app {key : Int} {A D : List Pp} (hA : Lo key A) (hD : ∀ d ∈ D, key ≤ d.k) : findS key (A ++ D) = A.length := by
  induction A with
  | nil =>
    cases D with
    | nil => rfl
    | cons d l => rw [List.nil_append, findS, if_pos (hD d (by simp))]; rfl
  | cons a l ih =>
    rw [List.cons_append, findS, if_neg (by have := hA a (by simp); omega), ih (fun x hx => hA x (by simp [hx]))]
    rfl
/-- A book, parted at a key. -/
theorem srt_part {L : List Pp} (h : Srt L) (key : Int) : ∃ A D, Lo key A ∧ Hi key D ∧ Srt (A ++ D) ∧ (L = A ++ D ∨ ∃ x, L = A ++ ⟨key, x⟩ :: D) := by
  induction L with
  | nil => exact ⟨[], [], by simp [Lo], by simp [Hi], List.Pairwise.nil, .inl rfl⟩
  | cons p l ih =>
    obtain ⟨hp, hl⟩ := List.pairwise_cons.1 h
    by_cases h1 : p.k < key
    · obtain ⟨A, D, hA, hD, hs, hL⟩ := ih hl
      refine ⟨p :: A, D, ?_, hD, ?_, ?_⟩
      · intro a ha
        rcases List.mem_cons.1 ha with g | g
        · rw [g]; exact h1
        · exact hA a g
      · refine List.pairwise_cons.2 ⟨?_, hs⟩
        intro q hq
        apply hp
        rcases hL with g | ⟨x, g⟩
        · rw [g]; exact hq
        · rw [g]
          rcases List.mem_append.1 hq with g2 | g2
          · simp [g2]
          · simp [g2]
      · rcases hL with g | ⟨x, g⟩
        · exact .inl (by rw [g]; rfl)
        · exact .inr ⟨x, by rw [g]; rfl⟩
    · by_cases h2 : p.k = key
      · refine ⟨[], l, by simp [Lo], ?_, hl, .inr ⟨p.v, by rw [← h2]; rfl⟩⟩
        intro d hd
        have := hp d hd
        omega
      · refine ⟨[], p :: l, by simp [Lo], ?_, h, .inl rfl⟩
        intro d hd
        rcases List.mem_cons.1 hd with g | g
        · rw [g]; omega
        · have := hp d g
          omega
section
variable {key x : Int} {A D : List Pp}
theorem Hi.le (hD : Hi key D) : ∀ d ∈ (⟨key, x⟩ : Pp) :: D, key ≤ d.k := by
  intro d hd
  rcases List.mem_cons.1 hd with g | g
  · rw [g]; exact Int.le_refl _
  · have := hD d g; omega
theorem Hi.le' (hD : Hi key D) : ∀ d ∈ D, key ≤ d.k := fun d hd => by have := hD d hd; omega
theorem mid_get (A D : List Pp) (p : Pp) : (A ++ p :: D).getD A.length Pp.nil = p := by simp
theorem hit_yes (hA : Lo key A) (hD : Hi key D) : hitS key (A ++ ⟨key, x⟩ :: D) = true := by
  rw [hitS, findS_app hA hD.le, mid_get]
  simp
theorem had_yes (hA : Lo key A) (hD : Hi key D) : hadS key (A ++ ⟨key, x⟩ :: D) = x := by
  rw [hadS, if_pos (hit_yes hA hD), findS_app hA hD.le, mid_get]
theorem hit_no (hA : Lo key A) (hD : Hi key D) : hitS key (A ++ D) = false := by
  rw [hitS, findS_app hA hD.le']
  cases D with
  | nil => simp
  | cons d l =>
    rw [mid_get]
    have := hD d (by simp)
    rw [decide_eq_false (p := d.k = key) (by omega), Bool.and_false]
theorem had_no (hA : Lo key A) (hD : Hi key D) : hadS key (A ++ D) = 0 := by
  rw [hadS, if_neg (by rw [hit_no hA hD]; decide)]
theorem drop_yes (hA : Lo key A) (hD : Hi key D) : dropS (A ++ ⟨key, x⟩ :: D) key = A ++ D := by
  rw [dropS, if_pos (hit_yes hA hD), findS_app hA hD.le]
  rw [List.eraseIdx_append_of_length_le (Nat.le_refl _)]
  simp
theorem drop_no (hA : Lo key A) (hD : Hi key D) : dropS (A ++ D) key = A ++ D := by
  rw [dropS, if_neg (by rw [hit_no hA hD]; decide)]
theorem set_yes (hA : Lo key A) (hD : Hi key D) (cap : Nat) (y val : Int) : setS cap (A ++ ⟨key, x⟩ :: D) ⟨key, y⟩ val = (⟨0, true, val⟩, A ++ ⟨key, y⟩ :: D) := by
  rw [setS, if_pos (hit_yes hA hD), findS_app hA hD.le]
  rw [List.set_append_right _ _ (Nat.le_refl _)]
  simp
theorem set_full (hA : Lo key A) (hD : Hi key D) {cap : Nat} (y val : Int) (hc : cap ≤ (A ++ D).length) : setS cap (A ++ D) ⟨key, y⟩ val = (⟨40, false, 0⟩, A ++ D) := by
  rw [setS, if_neg (by rw [hit_no hA hD]; decide), if_pos hc]
theorem set_new (hA : Lo key A) (hD : Hi key D) {cap : Nat} (y val : Int) (hc : (A ++ D).length < cap) : setS cap (A ++ D) ⟨key, y⟩ val = (⟨0, false, val⟩, A ++ ⟨key, y⟩ :: D) := by
  rw [setS, if_neg (by rw [hit_no hA hD]; decide), if_neg (by omega), findS_app hA hD.le', insL]
  simp
theorem srt_mid (hA : Lo key A) (hD : Hi key D) (hs : Srt (A ++ D)) (y : Int) : Srt (A ++ ⟨key, y⟩ :: D) := by
  obtain ⟨h1, h2, h3⟩ := List.pairwise_append.1 hs
  refine List.pairwise_append.2 ⟨h1, List.pairwise_cons.2 ⟨fun d hd => hD d hd, h2⟩, ?_⟩
  intro a ha d hd
  rcases List.mem_cons.1 hd with g | g
  · rw [g]; exact hA a ha
  · exact h3 a ha d g
theorem srt_out (hs : Srt (A ++ ⟨key, x⟩ :: D)) : Srt (A ++ D) := by
  obtain ⟨h1, h2, h3⟩ := List.pairwise_append.1 hs
  exact List.pairwise_append.2 ⟨h1, (List.pairwise_cons.1 h2).2, fun a ha d hd => h3 a ha d (by simp [hd])⟩
theorem filter_out (hA : Lo key A) (hD : Hi key D) : (A ++ D).filter (fun p => decide (p.k ≠ key)) = A ++ D := by
  apply List.filter_eq_self.2
  intro p hp
  rcases List.mem_append.1 hp with g | g
  · have := hA p g
    simp; omega
  · have := hD p g
    simp; omega
theorem filter_mid (hA : Lo key A) (hD : Hi key D) : (A ++ ⟨key, x⟩ :: D).filter (fun p => decide (p.k ≠ key)) = A ++ D := by
  rw [List.filter_append, List.filter_cons_of_neg (by simp), ← List.filter_append, filter_out hA hD]
end
theorem srt_set {cap : Nat} {L : List Pp} (h : Srt L) (key y val : Int) : Srt (setS cap L ⟨key, y⟩ val).2 := by
  obtain ⟨A, D, hA, hD, hs, hL⟩ := srt_part h key
  rcases hL with rfl | ⟨x, rfl⟩
  · by_cases hc : cap ≤ (A ++ D).length
    · rw [set_full hA hD y val hc]; exact hs
    · rw [set_new hA hD y val (by omega)]; exact srt_mid hA hD hs y
  · rw [set_yes hA hD]; exact srt_mid hA hD hs y
theorem srt_drop {L : List Pp} (h : Srt L) (key : Int) : Srt (dropS L key) := by
  obtain ⟨A, D, hA, hD, hs, hL⟩ := srt_part h key
  rcases hL with rfl | ⟨x, rfl⟩
  · rw [drop_no hA hD]; exact hs
  · rw [drop_yes hA hD]; exact hs
theorem srt_do {cap : Nat} {L : List Pp} (h : Srt L) (op key val : Int) : Srt (doS cap L op key val).2 := by
  unfold doS
  repeat' split
  all_goals first | exact h | exact srt_set h _ _ _ | exact srt_drop h _
theorem do_get (cap : Nat) (L : List Pp) (key val : Int) : doS cap L 0 key val = (⟨0, hitS key L, hadS key L⟩, L) := by unfold doS; rw [if_pos rfl]
theorem do_has (cap : Nat) (L : List Pp) (key val : Int) : doS cap L 1 key val = (⟨0, hitS key L, 0⟩, L) := by unfold doS; rw [if_neg (by decide), if_pos rfl]
theorem do_put (cap : Nat) (L : List Pp) (key val : Int) : doS cap L 2 key val = setS cap L ⟨key, val⟩ (hadS key L) := by unfold doS; rw [if_neg (by decide), if_neg (by decide), if_pos rfl]
theorem do_del (cap : Nat) (L : List Pp) (key val : Int) : doS cap L 3 key val = (⟨0, hitS key L, hadS key L⟩, dropS L key) := by unfold doS; rw [if_neg (by decide), if_neg (by decide), if_neg (by decide), if_pos rfl]
theorem do_add (cap : Nat) (L : List Pp) (key val : Int) : doS cap L 4 key val = setS cap L ⟨key, (hadS key L + val) % 18446744073709551616⟩ ((hadS key L + val) % 18446744073709551616) := by unfold doS; rw [if_neg (by decide), if_neg (by decide), if_neg (by decide), if_neg (by decide), if_pos rfl]
/-- A key that isn't there, and no room. -/
theorem law_full {cap : Nat} {L : List Pp} {key : Int} (hs : Srt L) (hl : L.length ≤ cap) (val : Int) (hE : (doS cap L 2 key val).1.E = 40) : hitS key L = false ∧ cap = L.length ∧ doS cap L 2 key val = (⟨40, false, 0⟩, L) := by
  obtain ⟨A, D, hA, hD, hs, hL⟩ := srt_part hs key
  rw [do_put] at hE ⊢
  rcases hL with rfl | ⟨x, rfl⟩
  · by_cases hc : cap ≤ (A ++ D).length
    · rw [set_full hA hD _ _ hc]
      exact ⟨hit_no hA hD, by omega, rfl⟩
    · rw [set_new hA hD _ _ (by omega)] at hE
      cases hE
  · rw [set_yes hA hD] at hE
    cases hE
/-- There is room, or the key is there. -/
theorem law_room {cap : Nat} {L : List Pp} {key val s : Int} (hs : Srt L) (hE : (doS cap L 2 key val).1.E ≠ 40) (hsum : (val + 3) % 18446744073709551616 = s) : ∃ f x L1 L2 L3, doS cap L 0 key 0 = (⟨0, f, x⟩, L) ∧ doS cap L 2 key val = (⟨0, f, x⟩, L1) ∧ doS cap L1 0 key 1 = (⟨0, true, val⟩, L1) ∧ doS cap L1 1 key 1 = (⟨0, true, 0⟩, L1) ∧ doS cap L1 4 key 3 = (⟨0, true, s⟩, L2) ∧ doS cap L2 3 key 9 = (⟨0, true, s⟩, L3) ∧ doS cap L3 3 key 9 = (⟨0, false, 0⟩, L3) ∧ L.filter (fun p => decide (p.k ≠ key)) = L3 := by
  obtain ⟨A, D, hA, hD, hs, hL⟩ := srt_part hs key
  have key1 : ∀ (f : Bool) (x : Int), doS cap L 0 key 0 = (⟨0, f, x⟩, L) → doS cap L 2 key val = (⟨0, f, x⟩, A ++ ⟨key, val⟩ :: D) → L.filter (fun p => decide (p.k ≠ key)) = A ++ D → ∃ f x L1 L2 L3, doS cap L 0 key 0 = (⟨0, f, x⟩, L) ∧ doS cap L 2 key val = (⟨0, f, x⟩, L1) ∧ doS cap L1 0 key 1 = (⟨0, true, val⟩, L1) ∧ doS cap L1 1 key 1 = (⟨0, true, 0⟩, L1) ∧ doS cap L1 4 key 3 = (⟨0, true, s⟩, L2) ∧ doS cap L2 3 key 9 = (⟨0, true, s⟩, L3) ∧ doS cap L3 3 key 9 = (⟨0, false, 0⟩, L3) ∧ L.filter (fun p => decide (p.k ≠ key)) = L3 := by
    intro f x g1 g2 g3
    refine ⟨f, x, _, A ++ ⟨key, s⟩ :: D, A ++ D, g1, g2, ?_, ?_, ?_, ?_, ?_, g3⟩
    · rw [do_get, hit_yes hA hD, had_yes hA hD]
    · rw [do_has, hit_yes hA hD]
    · rw [do_add, had_yes hA hD, hsum, set_yes hA hD]
    · rw [do_del, hit_yes hA hD, had_yes hA hD, drop_yes hA hD]
    · rw [do_del, hit_no hA hD, had_no hA hD, drop_no hA hD]
  rcases hL with rfl | ⟨x, rfl⟩
  · rw [do_put] at hE
    by_cases hc : cap ≤ (A ++ D).length
    · rw [set_full hA hD _ _ hc] at hE
      exact absurd rfl hE
    · refine key1 false 0 ?_ ?_ (filter_out hA hD)
      · rw [do_get, hit_no hA hD, had_no hA hD]
      · rw [do_put, had_no hA hD, set_new hA hD _ _ (by omega)]
  · refine key1 true x ?_ ?_ (filter_mid hA hD)
    · rw [do_get, hit_yes hA hD, had_yes hA hD]
    · rw [do_put, had_yes hA hD, set_yes hA hD]
end Go.Proofs.Ytpbfgebecgikjaa
