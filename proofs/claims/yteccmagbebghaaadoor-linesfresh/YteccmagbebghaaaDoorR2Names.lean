/-
  What the document's names, Name and Find do: the operations' names by number, and the number of a name. Condition: a name's length fits.
-/
import Derived.Test.YteccmagbebghaaaDoorRows
import Derived.Test.YteccmagbebghaaaDoorR2Plain
import Derived.WalkSpells
import Derived.OpenShut
import Derived.Below
import Derived.Laws.Strings
import Derived.WideShapes
namespace Go.Proofs.YteccmagbebghaaaDoor
open Go.RowKit
set_option linter.unusedVariables false

/-- The operations' names. -/
def nameL : List ByteArray := [⟨#[115, 101, 116]⟩, ⟨#[97, 100, 100]⟩, ⟨#[115, 117, 98]⟩, ⟨#[109, 117, 108]⟩, ⟨#[100, 105, 118]⟩, ⟨#[114, 101, 109]⟩, ⟨#[97, 110, 100]⟩, ⟨#[111, 114]⟩, ⟨#[120, 111, 114]⟩, ⟨#[115, 104, 108]⟩, ⟨#[115, 104, 114]⟩, ⟨#[108, 111, 97, 100]⟩, ⟨#[115, 116, 111, 114, 101]⟩, ⟨#[102, 105, 101, 108, 100]⟩, ⟨#[109, 97, 112]⟩, ⟨#[106, 117, 109, 112]⟩, ⟨#[106, 101, 113]⟩, ⟨#[106, 110, 101]⟩, ⟨#[106, 108, 116]⟩, ⟨#[106, 103, 101]⟩, ⟨#[108, 111, 111, 112]⟩, ⟨#[99, 97, 108, 108]⟩, ⟨#[101, 120, 105, 116]⟩]
def nameS (i : Nat) : ByteArray := nameL.getD i ⟨#[]⟩

set_option maxRecDepth 100000 in
theorem names_any (w : World) : Calls Tryd.prog 53 #[] w fun e w' => e = .returned (.slice (some ⟨w.heap.size, 0, none⟩) 23 23) ∧ (∀ i, i < 23 → w'.cell? ⟨w.heap.size, i, none⟩ = some (.string (nameS i))) ∧ Below w.heap.size w w' ∧ w.heap.size < w'.heap.size := by
  go_enter Tryd.func53, Tryd.ntmps53
  go_wp2
  go_ret
  refine ⟨rfl, fun i hi => ?_, (Below.refl _ _).alloc (Nat.le_refl _) _, by simp⟩
  rw [World.cell?_alloc_at _ _ _ _ rfl]
  obtain h | h | h | h | h | h | h | h | h | h | h | h | h | h | h | h | h | h | h | h | h | h | h : i = 0 ∨ i = 1 ∨ i = 2 ∨ i = 3 ∨ i = 4 ∨ i = 5 ∨ i = 6 ∨ i = 7 ∨ i = 8 ∨ i = 9 ∨ i = 10 ∨ i = 11 ∨ i = 12 ∨ i = 13 ∨ i = 14 ∨ i = 15 ∨ i = 16 ∨ i = 17 ∨ i = 18 ∨ i = 19 ∨ i = 20 ∨ i = 21 ∨ i = 22 := by omega
  all_goals (subst h; rfl)

/-- The name of a number. -/
def nameF (op : Int) : ByteArray := if 0 ≤ op ∧ op < 23 then nameS op.toNat else ⟨#[]⟩
theorem rets {a b : ByteArray} (h : a = b) : Ending.returned (.string a) = .returned (.string b) := by rw [h]

theorem name_any (op : Int) (w : World) : Calls Tryd.prog 37 #[.int .i64 op] w fun e w' => e = .returned (.string (nameF op)) ∧ Below w.heap.size w w' := by
  by_cases h0 : 0 ≤ op
  · by_cases h1 : op < 23
    · obtain ⟨i, rfl⟩ := Int.eq_ofNat_of_zero_le h0
      have hi : i < 23 := by omega
      have HE : Hid (nameF (i : Int) = nameS i) := by show _ = _; unfold nameF; rw [if_pos ⟨h0, h1⟩]; rfl
      go_enter Tryd.func37, Tryd.ntmps37
      go_wp2_with (go_at_call 53; go_must (refine (names_any _).mono ?_); rintro e w1 ⟨rfl, hc, hB, _⟩; have hci := hc i hi; clear hc)
      go_ret
      exact ⟨rets HE.out.symm, hB⟩
    · have HE : Hid (nameF op = ⟨#[]⟩) := by show _ = _; unfold nameF; rw [if_neg (by omega)]
      go_enter Tryd.func37, Tryd.ntmps37
      go_wp2_with (go_at_call 53; go_must (refine (names_any _).mono ?_); rintro e w1 ⟨rfl, hc, hB, _⟩; clear hc)
      go_ret
      exact ⟨rets HE.out.symm, hB⟩
  · have HE : Hid (nameF op = ⟨#[]⟩) := by show _ = _; unfold nameF; rw [if_neg (by omega)]
    go_enter Tryd.func37, Tryd.ntmps37
    go_wp2_with (go_at_call 53; go_must (refine (names_any _).mono ?_); rintro e w1 ⟨rfl, hc, hB, _⟩; clear hc)
    go_ret
    exact ⟨rets HE.out.symm, hB⟩

theorem str_ne {t s : ByteArray} (h : t ≠ s) : (t.toList == s.toList) = false := by
  rw [beq_eq_false_iff_ne]
  intro e
  rw [ByteArray.toList_eq, ByteArray.toList_eq] at e
  exact h (Go.WideShapes.bytes_inj e)
/-- The first number from i on whose name it is. -/
def findF (s : ByteArray) : Nat → Nat → Int × Bool
  | 0, _ => (0, false)
  | f + 1, i => if nameS i = s then ((i : Int), true) else findF s f (i + 1)
def findL (s : ByteArray) : Int × Bool := findF s 23 0

set_option maxHeartbeats 800000 in
theorem find_any (s : ByteArray) (w : World) : Calls Tryd.prog 45 #[.string s] w fun e w' => e = .returned (.tuple #[.int .i64 (findL s).1, .bool (findL s).2]) ∧ Below w.heap.size w w' := by
  go_enter Tryd.func45, Tryd.ntmps45
  go_wp2_with (go_at_call 53; go_must (refine (names_any _).mono ?_); rintro e w1 ⟨rfl, hc, hB, _⟩; have HC : Hid (∀ i, i < 23 → w1.cell? ⟨w.heap.size, i, none⟩ = some (.string (nameS i))) := hc; clear hc)
  go_loop [5] (fun i => ∃ k : Nat, k ≤ 23 ∧ i = .int .i64 k ∧ findL s = findF s (23 - k) k) (fun i => 23 - (intOf i).toNat)
  case atStart => exact ⟨0, by omega, rfl, rfl⟩
  case round =>
    obtain ⟨k, hk, rfl, hf⟩ := hrel
    have HF : Hid (findL s = findF s (23 - k) k) := hf
    clear hf
    by_cases hlt : k < 23
    · obtain ⟨t, hct, HT⟩ : ∃ t, w1.cell? ⟨w.heap.size, k, none⟩ = some (.string t) ∧ Hid (t = nameS k) := ⟨_, HC.out k hlt, rfl⟩
      have HS : Hid (findL s = if t = s then ((k : Int), true) else findF s (23 - (k + 1)) (k + 1)) := by
        show _ = _
        rw [HF.out, HT.out]
        have e : 23 - k = (23 - (k + 1)) + 1 := by omega
        rw [e]; rfl
      by_cases hts : t = s
      · have hb : (t.toList == s.toList) = true := by rw [hts]; simp
        have HE : Hid (findL s = ((k : Int), true)) := by show _ = _; rw [HS.out, if_pos hts]
        clear hts
        go_wp2
        go_ret2
        exact ⟨by rw [HE.out]; rfl, hB⟩
      · have hb : (t.toList == s.toList) = false := str_ne hts
        have HE : Hid (findL s = findF s (23 - (k + 1)) (k + 1)) := by show _ = _; rw [HS.out, if_neg hts]
        clear hts
        go_wp2
        go_round
        case rel => exact ⟨k + 1, by omega, by go_num, HE.out⟩
        case measure => simp [intOf]; omega
    · obtain rfl : k = 23 := by omega
      have HE : Hid (findL s = (0, false)) := by show _ = _; rw [HF.out]; rfl
      go_wp2
      go_ret2
      exact ⟨by rw [HE.out]; rfl, hB⟩
end Go.Proofs.YteccmagbebghaaaDoor
