/-
  What the project's number, register, part.word and partsOf do. Conditions: the listed variables read as they are laid; the fields are numbers of their kinds; the part is one of the five.
-/
import Derived.Test.YteccmagbebghaaaDoorL3Std
import Derived.Test.YteccmagbebghaaaDoorR3Line
namespace Go.Proofs.YteccmagbebghaaaDoor
open Go.RowKit
set_option linter.unusedVariables false
set_option linter.unusedSimpArgs false
set_option maxRecDepth 100000

theorem lnumber_any (n : Int) (w : World) (h : Laid w) (hn : i64R n) : Calls Tryd.prog 51 #[.int .i64 n] w fun e w' => e = .returned (.string (str (numL n))) ∧ Below w.heap.size w w' := by
  have H : Hid (Laid w) := h
  clear h
  go_enter Tryd.func51, Tryd.ntmps51
  go_wp2_with (go_at_call 57; go_must (refine (format_any n _ H.out hn).mono ?_); rintro e w1 ⟨rfl, hb1⟩)
  go_ret
  exact ⟨rfl, hb1⟩
theorem lnumber_let (n : Int) (w : World) (h : Laid w) (hn : i64R n) : Calls Tryd.prog 51 #[.int .i64 n] w fun e w' => (∃ l, e = .returned (.string (str l)) ∧ Hid (l = numL n) ∧ l.length ≤ 21) ∧ Below w.heap.size w w' :=
  (lnumber_any n w h hn).mono fun e w' ⟨he, hb⟩ => ⟨⟨_, he, rfl, numL_len n⟩, hb⟩
theorem lregister_any (n : Int) (w : World) (h : Laid w) (hn : i64R n) : Calls Tryd.prog 50 #[.int .i64 n] w fun e w' => e = .returned (.string (str (rL n))) ∧ Below w.heap.size w w' := by
  have H : Hid (Laid w) := h
  clear h
  go_enter Tryd.func50, Tryd.ntmps50
  go_wp2_with (go_at_call 51; go_must (refine (lnumber_let n _ H.out hn).mono ?_); rintro e w1 ⟨⟨l, rfl, HL, hl⟩, hb1⟩; have hs : ¬ 9223372036854775807 < 1 + l.length := by omega)
  go_ret
  refine ⟨retstr ?_, hb1⟩
  rw [rL, ← HL.out]
  exact str_app [114] l
theorem word_0 (op d a b imm : Int) (w : World) (h : Laid w) (hd : i64R d) : Calls Tryd.prog 31 #[.int .i64 0, instV op d a b imm] w fun e w' => e = .returned (.string (str (rL d))) ∧ Below w.heap.size w w' := by
  have H : Hid (Laid w) := h
  clear h
  go_enter Tryd.func31, Tryd.ntmps31
  go_wp2_with (go_at_call 50; go_must (refine (lregister_any d _ (laid_keeps _ _ H.out ((Below.refl _ _).alloc (Nat.le_refl _) _)) hd).mono ?_); rintro e w1 ⟨rfl, hb1⟩)
  go_ret
  exact ⟨rfl, box_below hb1⟩
theorem word_1 (op d a b imm : Int) (w : World) (h : Laid w) (ha : i64R a) : Calls Tryd.prog 31 #[.int .i64 1, instV op d a b imm] w fun e w' => e = .returned (.string (str (rL a))) ∧ Below w.heap.size w w' := by
  have H : Hid (Laid w) := h
  clear h
  go_enter Tryd.func31, Tryd.ntmps31
  go_wp2_with (go_at_call 50; go_must (refine (lregister_any a _ (laid_keeps _ _ H.out ((Below.refl _ _).alloc (Nat.le_refl _) _)) ha).mono ?_); rintro e w1 ⟨rfl, hb1⟩)
  go_ret
  exact ⟨rfl, box_below hb1⟩
theorem word_2r (op d a b imm : Int) (w : World) (h : Laid w) (hb : i64R b) (h8 : (b == 8) = false) : Calls Tryd.prog 31 #[.int .i64 2, instV op d a b imm] w fun e w' => e = .returned (.string (str (rL b))) ∧ Below w.heap.size w w' := by
  have H : Hid (Laid w) := h
  clear h
  go_enter Tryd.func31, Tryd.ntmps31
  go_wp2_with (go_at_call 50; go_must (refine (lregister_any b _ (laid_keeps _ _ H.out ((Below.refl _ _).alloc (Nat.le_refl _) _)) hb).mono ?_); rintro e w1 ⟨rfl, hb1⟩)
  go_ret
  exact ⟨rfl, box_below hb1⟩
theorem word_2n (op d a imm : Int) (w : World) (h : Laid w) (hi : i64R imm) : Calls Tryd.prog 31 #[.int .i64 2, instV op d a 8 imm] w fun e w' => e = .returned (.string (str (numL imm))) ∧ Below w.heap.size w w' := by
  have H : Hid (Laid w) := h
  clear h
  go_enter Tryd.func31, Tryd.ntmps31
  go_wp2_with (go_at_call 51; go_must (refine (lnumber_any imm _ (laid_keeps _ _ H.out ((Below.refl _ _).alloc (Nat.le_refl _) _)) hi).mono ?_); rintro e w1 ⟨rfl, hb1⟩)
  go_ret
  exact ⟨rfl, box_below hb1⟩
theorem word_3 (op d a b imm : Int) (w : World) (h : Laid w) (hd : i64R d) : Calls Tryd.prog 31 #[.int .i64 3, instV op d a b imm] w fun e w' => e = .returned (.string (str (numL d))) ∧ Below w.heap.size w w' := by
  have H : Hid (Laid w) := h
  clear h
  go_enter Tryd.func31, Tryd.ntmps31
  go_wp2_with (go_at_call 51; go_must (refine (lnumber_any d _ (laid_keeps _ _ H.out ((Below.refl _ _).alloc (Nat.le_refl _) _)) hd).mono ?_); rintro e w1 ⟨rfl, hb1⟩)
  go_ret
  exact ⟨rfl, box_below hb1⟩
theorem word_4 (op d a b imm : Int) (w : World) (h : Laid w) (hi : i64R imm) : Calls Tryd.prog 31 #[.int .i64 4, instV op d a b imm] w fun e w' => e = .returned (.string (str (numL imm))) ∧ Below w.heap.size w w' := by
  have H : Hid (Laid w) := h
  clear h
  go_enter Tryd.func31, Tryd.ntmps31
  go_wp2_with (go_at_call 51; go_must (refine (lnumber_any imm _ (laid_keeps _ _ H.out ((Below.refl _ _).alloc (Nat.le_refl _) _)) hi).mono ?_); rintro e w1 ⟨rfl, hb1⟩)
  go_ret
  exact ⟨rfl, box_below hb1⟩
theorem word_any (p : Int) (op d a b imm : Int) (w : World) (h : Laid w) (hp : 0 ≤ p ∧ p ≤ 4) (hd : i64R d) (ha : i64R a) (hb : i64R b) (hi : i64R imm) : Calls Tryd.prog 31 #[.int .i64 p, instV op d a b imm] w fun e w' => (∃ l, e = .returned (.string (str l)) ∧ Hid (l = wordL p ⟨op, d, a, b, imm⟩) ∧ l.length ≤ 22) ∧ Below w.heap.size w w' := by
  have fin : ∀ l, l = wordL p ⟨op, d, a, b, imm⟩ → Calls Tryd.prog 31 #[.int .i64 p, instV op d a b imm] w (fun e w' => e = .returned (.string (str l)) ∧ Below w.heap.size w w') → Calls Tryd.prog 31 #[.int .i64 p, instV op d a b imm] w fun e w' => (∃ l, e = .returned (.string (str l)) ∧ Hid (l = wordL p ⟨op, d, a, b, imm⟩) ∧ l.length ≤ 22) ∧ Below w.heap.size w w' := fun l hl c =>
    c.mono fun e w' ⟨he, hbe⟩ => ⟨⟨l, he, hl, by rw [hl]; exact wordL_len _ _⟩, hbe⟩
  have : p = 0 ∨ p = 1 ∨ p = 2 ∨ p = 3 ∨ p = 4 := by omega
  rcases this with rfl | rfl | rfl | rfl | rfl
  · exact fin _ (by simp [wordL]) (word_0 op d a b imm w h hd)
  · exact fin _ (by simp [wordL]) (word_1 op d a b imm w h ha)
  · by_cases h8 : b = 8
    · subst h8
      exact fin _ (by simp [wordL]) (word_2n op d a imm w h hi)
    · exact fin _ (by simp [wordL, h8]) (word_2r op d a b imm w h hb (by simp [h8]))
  · exact fin _ (by simp [wordL]) (word_3 op d a b imm w h hd)
  · exact fin _ (by simp [wordL]) (word_4 op d a b imm w h hi)

/-- A row of parts. -/
abbrev partO (ps : List Int) : Obj := .cells (ps.map (Value.int .i64)).toArray 68
theorem parts_any (op : Int) (w : World) (n : Nat) (hn : n = (partsL op).length) : Calls Tryd.prog 30 #[.int .i64 op] w fun e w' => e = .returned (.slice (some ⟨w.heap.size, 0, none⟩) n n) ∧ w' = w.alloc (partO (partsL op)) := by
  subst hn
  have : (op = 0 ∨ op = 11) ∨ op = 12 ∨ (op = 13 ∨ op = 14) ∨ op = 15 ∨ (op = 16 ∨ op = 17 ∨ op = 18 ∨ op = 19) ∨ op = 20 ∨ op = 21 ∨ op = 22 ∨ (op ≠ 0 ∧ op ≠ 11 ∧ op ≠ 12 ∧ op ≠ 13 ∧ op ≠ 14 ∧ op ≠ 15 ∧ op ≠ 16 ∧ op ≠ 17 ∧ op ≠ 18 ∧ op ≠ 19 ∧ op ≠ 20 ∧ op ≠ 21 ∧ op ≠ 22) := by omega
  rcases this with (rfl | rfl) | rfl | (rfl | rfl) | rfl | (rfl | rfl | rfl | rfl) | rfl | rfl | rfl | ⟨n0, n11, n12, n13, n14, n15, n16, n17, n18, n19, n20, n21, n22⟩
  case inr.inr.inr.inr.inr.inr.inr.inr =>
    have e0 : (op == 0) = false := by simp [n0]
    have e11 : (op == 11) = false := by simp [n11]
    have e12 : (op == 12) = false := by simp [n12]
    have e13 : (op == 13) = false := by simp [n13]
    have e14 : (op == 14) = false := by simp [n14]
    have e15 : (op == 15) = false := by simp [n15]
    have e16 : (op == 16) = false := by simp [n16]
    have e17 : (op == 17) = false := by simp [n17]
    have e18 : (op == 18) = false := by simp [n18]
    have e19 : (op == 19) = false := by simp [n19]
    have e20 : (op == 20) = false := by simp [n20]
    have e21 : (op == 21) = false := by simp [n21]
    have e22 : (op == 22) = false := by simp [n22]
    have HP : Hid (partsL op = [0, 1, 2]) := by show _ = _; simp [partsL, n0, n11, n12, n13, n14, n15, n16, n17, n18, n19, n20, n21, n22]
    clear n0 n11 n12 n13 n14 n15 n16 n17 n18 n19 n20 n21 n22
    go_enter Tryd.func30, Tryd.ntmps30
    go_wp2
    go_ret
    rw [HP.out]
    exact ⟨rfl, rfl⟩
  all_goals
    go_enter Tryd.func30, Tryd.ntmps30
    go_wp2
    go_ret
    exact ⟨rfl, rfl⟩
end Go.Proofs.YteccmagbebghaaaDoor
