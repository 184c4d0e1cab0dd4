/-
  What the project's part.take does: a word's number into the field that the part tells, or false. Conditions: the listed variables read as they are laid; the instruction lies in a box of its own; the part is one of the five.
-/
import Derived.Test.YteccmagbebghaaaDoorL3Line
namespace Go.Proofs.YteccmagbebghaaaDoor
open Go.RowKit
set_option linter.unusedVariables false
set_option linter.unusedSimpArgs false
set_option maxRecDepth 100000

theorem parse_ok1 (l : List UInt8) (n : Int) (w : World) (h : Laid w) (hl : l.length ≤ 140737488355328) (hp : Lib.parseIntB 64 l = .ok n) : Calls Tryd.prog 56 #[.string (str l), .int .i64 10, .int .i64 64] w fun e w' => e = .returned (.tuple #[.int .i64 n, .nilIface]) ∧ Below w.heap.size w w' := by
  refine (parse_any l w h hl).mono ?_
  rintro e w' ⟨⟨m, v, he, ⟨h1, h2⟩ | ⟨h1, _⟩⟩, hb⟩
  · rw [hp] at h1
    injection h1 with h1
    subst h1 h2
    exact ⟨he, hb⟩
  · exact absurd hp (h1 n)
theorem parse_bad1 (l : List UInt8) (w : World) (h : Laid w) (hl : l.length ≤ 140737488355328) (hp : ∀ n, Lib.parseIntB 64 l ≠ .ok n) : Calls Tryd.prog 56 #[.string (str l), .int .i64 10, .int .i64 64] w fun e w' => (∃ n tp p, e = .returned (.tuple #[.int .i64 n, .iface tp p])) ∧ Below w.heap.size w w' := by
  refine (parse_any l w h hl).mono ?_
  rintro e w' ⟨⟨m, v, he, ⟨h1, h2⟩ | ⟨_, tp, p, h2⟩⟩, hb⟩
  · exact absurd h1 (hp m)
  · subst h2
    exact ⟨⟨m, tp, p, he⟩, hb⟩
theorem trim_len (l : List UInt8) : (Lib.trimPrefix l [114]).length ≤ l.length := by unfold Lib.trimPrefix; split <;> simp
theorem set_box {w : World} {b j : Nat} {cs : Array Value} {T : TypeId} (h : w.heap[b]? = some (.cells cs T (0, 0))) (v : Value) : (w.setCell ⟨b, j, none⟩ v).heap[b]? = some (.cells (cs.setIfInBounds j v) T (0, 0)) := by
  simp [World.setCell, Array.getElem?_modify, h]
theorem grown_below {w w1 : World} {b : Nat} (h : Below w.heap.size w w1) : w.grownBy w1 (some b) := ⟨h.os, h.tape, h.output, h.size, fun k hk _ => h.block k hk⟩
theorem grown_set {w w1 : World} {b j : Nat} (h : w.grownBy w1 (some b)) (v : Value) : w.grownBy (w1.setCell ⟨b, j, none⟩ v) (some b) :=
  ⟨h.os, h.tape, h.output, by simpa [World.setCell] using h.size, fun k hk hne => (Below.heap_setCell w1 _ _ k (fun e => hne (by simp [e]))).trans (h.block k hk hne)⟩

theorem take_bad (p : Int) (l : List UInt8) (b : Nat) (w : World) (h : Laid w) (hl : l.length ≤ 140737488355328) (hp : ∀ n, Lib.parseIntB 64 (Lib.trimPrefix l [114]) ≠ .ok n) : Calls Tryd.prog 43 #[.int .i64 p, .string (str l), .pointer (some ⟨b, 0, none⟩)] w fun e w' => e = .returned (.bool false) ∧ w.grownBy w' (some b) := by
  have H : Hid (Laid w) := h
  have HP : Hid (∀ n, Lib.parseIntB 64 (Lib.trimPrefix l [114]) ≠ .ok n) := hp
  have hl2 : (Lib.trimPrefix l [114]).length ≤ 140737488355328 := Nat.le_trans (trim_len l) hl
  clear h hp
  go_enter Tryd.func43, Tryd.ntmps43
  go_wp2_with (first
    | (go_at_call 55; go_must (refine (pre_any l 114 _).mono ?_); rintro e w1 ⟨rfl, rfl⟩)
    | (go_at_call 56; go_must (refine (parse_bad1 (Lib.trimPrefix l [114]) _ H.out hl2 HP.out).mono ?_); rintro e w1 ⟨⟨n, tp, pv, rfl⟩, hb1⟩))
  go_ret
  exact ⟨rfl, grown_below hb1⟩
/-- The walks that store. -/
theorem take_D (p : Int) (hp : p = 0 ∨ p = 3) (l : List UInt8) (n : Int) (nb : Nat) (op d a b imm : Int) (w : World) (h : Laid w) (hl : l.length ≤ 140737488355328) (hpn : Lib.parseIntB 64 (Lib.trimPrefix l [114]) = .ok n) (hbx : w.heap[nb]? = some (instO op d a b imm)) : Calls Tryd.prog 43 #[.int .i64 p, .string (str l), .pointer (some ⟨nb, 0, none⟩)] w fun e w' => e = .returned (.bool true) ∧ w'.heap[nb]? = some (instO op n a b imm) ∧ w.grownBy w' (some nb) := by
  have H : Hid (Laid w) := h
  have HP : Hid (Lib.parseIntB 64 (Lib.trimPrefix l [114]) = .ok n) := hpn
  have hl2 : (Lib.trimPrefix l [114]).length ≤ 140737488355328 := Nat.le_trans (trim_len l) hl
  have hbs := parse_wf hpn
  clear h hpn
  rcases hp with rfl | rfl
  all_goals
    go_enter Tryd.func43, Tryd.ntmps43
    go_wp2_with (first
      | (go_at_call 55; go_must (refine (pre_any l 114 _).mono ?_); rintro e w1 ⟨rfl, rfl⟩)
      | (go_at_call 56; go_must (refine (parse_ok1 (Lib.trimPrefix l [114]) n _ H.out hl2 HP.out).mono ?_); rintro e w1 ⟨rfl, hb1⟩; go_must (have hbx1 := heap_below hb1 (Nat.le_refl _) hbx; obtain ⟨c0, c1, c2, c3, c4⟩ := box_cells hbx1; have f1 := Lib.frozen_of_heap hbx1 1)))
    go_ret
    exact ⟨rfl, set_box hbx1 _, grown_set (grown_below hb1) _⟩
theorem take_A (l : List UInt8) (n : Int) (nb : Nat) (op d a b imm : Int) (w : World) (h : Laid w) (hl : l.length ≤ 140737488355328) (hpn : Lib.parseIntB 64 (Lib.trimPrefix l [114]) = .ok n) (hbx : w.heap[nb]? = some (instO op d a b imm)) : Calls Tryd.prog 43 #[.int .i64 1, .string (str l), .pointer (some ⟨nb, 0, none⟩)] w fun e w' => e = .returned (.bool true) ∧ w'.heap[nb]? = some (instO op d n b imm) ∧ w.grownBy w' (some nb) := by
  have H : Hid (Laid w) := h
  have HP : Hid (Lib.parseIntB 64 (Lib.trimPrefix l [114]) = .ok n) := hpn
  have hl2 : (Lib.trimPrefix l [114]).length ≤ 140737488355328 := Nat.le_trans (trim_len l) hl
  have hbs := parse_wf hpn
  clear h hpn
  go_enter Tryd.func43, Tryd.ntmps43
  go_wp2_with (first
      | (go_at_call 55; go_must (refine (pre_any l 114 _).mono ?_); rintro e w1 ⟨rfl, rfl⟩)
      | (go_at_call 56; go_must (refine (parse_ok1 (Lib.trimPrefix l [114]) n _ H.out hl2 HP.out).mono ?_); rintro e w1 ⟨rfl, hb1⟩; go_must (have hbx1 := heap_below hb1 (Nat.le_refl _) hbx; obtain ⟨c0, c1, c2, c3, c4⟩ := box_cells hbx1; have f1 := Lib.frozen_of_heap hbx1 2)))
  go_ret
  exact ⟨rfl, set_box hbx1 _, grown_set (grown_below hb1) _⟩
theorem take_Br (l : List UInt8) (n : Int) (nb : Nat) (op d a b imm : Int) (w : World) (h : Laid w) (hl : l.length ≤ 140737488355328) (hpn : Lib.parseIntB 64 (Lib.trimPrefix l [114]) = .ok n) (hr : Lib.hasPrefix l [114] = true) (hbx : w.heap[nb]? = some (instO op d a b imm)) : Calls Tryd.prog 43 #[.int .i64 2, .string (str l), .pointer (some ⟨nb, 0, none⟩)] w fun e w' => e = .returned (.bool true) ∧ w'.heap[nb]? = some (instO op d a n imm) ∧ w.grownBy w' (some nb) := by
  have H : Hid (Laid w) := h
  have HP : Hid (Lib.parseIntB 64 (Lib.trimPrefix l [114]) = .ok n) := hpn
  have hl2 : (Lib.trimPrefix l [114]).length ≤ 140737488355328 := Nat.le_trans (trim_len l) hl
  have hbs := parse_wf hpn
  clear h hpn
  go_enter Tryd.func43, Tryd.ntmps43
  go_wp2_with (first
      | (go_at_call 55; go_must (refine (pre_any l 114 _).mono ?_); rintro e w1 ⟨rfl, rfl⟩; rw [hr])
      | (go_at_call 56; go_must (refine (parse_ok1 (Lib.trimPrefix l [114]) n _ H.out hl2 HP.out).mono ?_); rintro e w1 ⟨rfl, hb1⟩; go_must (have hbx1 := heap_below hb1 (Nat.le_refl _) hbx; obtain ⟨c0, c1, c2, c3, c4⟩ := box_cells hbx1; have f1 := Lib.frozen_of_heap hbx1 3)))
  go_ret
  exact ⟨rfl, set_box hbx1 _, grown_set (grown_below hb1) _⟩
theorem take_Bn (l : List UInt8) (n : Int) (nb : Nat) (op d a b imm : Int) (w : World) (h : Laid w) (hl : l.length ≤ 140737488355328) (hpn : Lib.parseIntB 64 (Lib.trimPrefix l [114]) = .ok n) (hr : Lib.hasPrefix l [114] = false) (hbx : w.heap[nb]? = some (instO op d a b imm)) : Calls Tryd.prog 43 #[.int .i64 2, .string (str l), .pointer (some ⟨nb, 0, none⟩)] w fun e w' => e = .returned (.bool true) ∧ w'.heap[nb]? = some (instO op d a 8 n) ∧ w.grownBy w' (some nb) := by
  have H : Hid (Laid w) := h
  have HP : Hid (Lib.parseIntB 64 (Lib.trimPrefix l [114]) = .ok n) := hpn
  have hl2 : (Lib.trimPrefix l [114]).length ≤ 140737488355328 := Nat.le_trans (trim_len l) hl
  have hbs := parse_wf hpn
  clear h hpn
  go_enter Tryd.func43, Tryd.ntmps43
  go_wp2_with (first
      | (go_at_call 55; go_must (refine (pre_any l 114 _).mono ?_); rintro e w1 ⟨rfl, rfl⟩; rw [hr])
      | (go_at_call 56; go_must (refine (parse_ok1 (Lib.trimPrefix l [114]) n _ H.out hl2 HP.out).mono ?_); rintro e w1 ⟨rfl, hb1⟩; go_must (have hbx1 := heap_below hb1 (Nat.le_refl _) hbx; obtain ⟨c0, c1, c2, c3, c4⟩ := box_cells hbx1; have f1 := Lib.frozen_of_heap hbx1 3; have f2 := Lib.frozen_of_heap hbx1 4)))
  go_ret
  exact ⟨rfl, set_box (set_box hbx1 _) _, grown_set (grown_set (grown_below hb1) _) _⟩
theorem take_I (l : List UInt8) (n : Int) (nb : Nat) (op d a b imm : Int) (w : World) (h : Laid w) (hl : l.length ≤ 140737488355328) (hpn : Lib.parseIntB 64 (Lib.trimPrefix l [114]) = .ok n) (hbx : w.heap[nb]? = some (instO op d a b imm)) : Calls Tryd.prog 43 #[.int .i64 4, .string (str l), .pointer (some ⟨nb, 0, none⟩)] w fun e w' => e = .returned (.bool true) ∧ w'.heap[nb]? = some (instO op d a b n) ∧ w.grownBy w' (some nb) := by
  have H : Hid (Laid w) := h
  have HP : Hid (Lib.parseIntB 64 (Lib.trimPrefix l [114]) = .ok n) := hpn
  have hl2 : (Lib.trimPrefix l [114]).length ≤ 140737488355328 := Nat.le_trans (trim_len l) hl
  have hbs := parse_wf hpn
  clear h hpn
  go_enter Tryd.func43, Tryd.ntmps43
  go_wp2_with (first
      | (go_at_call 55; go_must (refine (pre_any l 114 _).mono ?_); rintro e w1 ⟨rfl, rfl⟩)
      | (go_at_call 56; go_must (refine (parse_ok1 (Lib.trimPrefix l [114]) n _ H.out hl2 HP.out).mono ?_); rintro e w1 ⟨rfl, hb1⟩; go_must (have hbx1 := heap_below hb1 (Nat.le_refl _) hbx; obtain ⟨c0, c1, c2, c3, c4⟩ := box_cells hbx1; have f1 := Lib.frozen_of_heap hbx1 4)))
  go_ret
  exact ⟨rfl, set_box hbx1 _, grown_set (grown_below hb1) _⟩
abbrev In.box (i : In) : Obj := instO i.op i.d i.a i.b i.imm
theorem take_some (p : Int) (l : List UInt8) (nb : Nat) (i j : In) (w : World) (h : Laid w) (hp : 0 ≤ p ∧ p ≤ 4) (hl : l.length ≤ 140737488355328) (hbx : w.heap[nb]? = some i.box) (ht : takeL p l i = some j) : Calls Tryd.prog 43 #[.int .i64 p, .string (str l), .pointer (some ⟨nb, 0, none⟩)] w fun e w' => e = .returned (.bool true) ∧ w'.heap[nb]? = some j.box ∧ w.grownBy w' (some nb) := by
  unfold takeL at ht
  split at ht
  · rename_i n hn
    injection ht with ht
    subst ht
    obtain ⟨op, d, a, b, imm⟩ := i
    have : p = 0 ∨ p = 1 ∨ p = 2 ∨ p = 3 ∨ p = 4 := by omega
    rcases this with rfl | rfl | rfl | rfl | rfl
    · exact take_D 0 (.inl rfl) l n nb op d a b imm w h hl hn hbx
    · exact take_A l n nb op d a b imm w h hl hn hbx
    · cases hr : Lib.hasPrefix l [114]
      · exact take_Bn l n nb op d a b imm w h hl hn hr hbx
      · exact take_Br l n nb op d a b imm w h hl hn hr hbx
    · exact take_D 3 (.inr rfl) l n nb op d a b imm w h hl hn hbx
    · exact take_I l n nb op d a b imm w h hl hn hbx
  · cases ht
  · cases ht
theorem take_none (p : Int) (l : List UInt8) (nb : Nat) (i : In) (w : World) (h : Laid w) (hl : l.length ≤ 140737488355328) (ht : takeL p l i = none) : Calls Tryd.prog 43 #[.int .i64 p, .string (str l), .pointer (some ⟨nb, 0, none⟩)] w fun e w' => e = .returned (.bool false) ∧ w.grownBy w' (some nb) := by
  refine take_bad p l nb w h hl fun n hn => ?_
  unfold takeL at ht
  rw [hn] at ht
  cases ht
end Go.Proofs.YteccmagbebghaaaDoor
