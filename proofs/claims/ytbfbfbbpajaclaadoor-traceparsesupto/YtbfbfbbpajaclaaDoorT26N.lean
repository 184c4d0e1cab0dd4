
/-
  What the landed Name, lettersOf and find do: a mark's name, its letters, the first mark of a name. No condition.
-/
import Derived.Test.YtbfbfbbpajaclaaDoorR26D
import Derived.Test.YtbfbfbbpajaclaaDoorX26Rd
namespace Go.Proofs.YtbfbfbbpajaclaaDoor
open Go.RowKit
set_option linter.unusedVariables false
set_option linter.unusedSimpArgs false
set_option maxRecDepth 100000
/-- The letters of a mark's line, but those of an eviction. -/
def ltE (m : Int) : List UInt8 := if 1 ≤ m ∧ m ≤ 17 then fldL m false else []
theorem mark_cases (m : Int) : (∃ k : Fin 17, m = (k.val : Int) + 1) ∨ (¬ (1 ≤ m ∧ m ≤ 17) ∧ (m == 1) = false ∧ (m == 2) = false ∧ (m == 3) = false ∧ (m == 4) = false ∧ (m == 5) = false ∧ (m == 6) = false ∧ (m == 7) = false ∧ (m == 8) = false ∧ (m == 9) = false ∧ (m == 10) = false ∧ (m == 11) = false ∧ (m == 12) = false ∧ (m == 13) = false ∧ (m == 14) = false ∧ (m == 15) = false ∧ (m == 16) = false ∧ (m == 17) = false) := by
  by_cases h : 1 ≤ m ∧ m ≤ 17
  · exact .inl ⟨⟨(m - 1).toNat, by omega⟩, by simp; omega⟩
  · refine .inr ⟨h, ?_⟩
    refine ⟨?_, ?_, ?_, ?_, ?_, ?_, ?_, ?_, ?_, ?_, ?_, ?_, ?_, ?_, ?_, ?_, ?_⟩ <;> (simp; omega)
set_option maxHeartbeats 6400000 in
theorem lname26 (m : Int) (w : World) : Calls Tryd.prog 9 #[.int .i64 m] w fun e w' => e = .returned (.string (str (nmE m))) ∧ w = w' := by
  rcases mark_cases m with ⟨k, rfl⟩ | ⟨h, e1, e2, e3, e4, e5, e6, e7, e8, e9, e10, e11, e12, e13, e14, e15, e16, e17⟩
  · rcases k with ⟨k, hk⟩
    have : k = 0 ∨ k = 1 ∨ k = 2 ∨ k = 3 ∨ k = 4 ∨ k = 5 ∨ k = 6 ∨ k = 7 ∨ k = 8 ∨ k = 9 ∨ k = 10 ∨ k = 11 ∨ k = 12 ∨ k = 13 ∨ k = 14 ∨ k = 15 ∨ k = 16 := by omega
    rcases this with rfl | rfl | rfl | rfl | rfl | rfl | rfl | rfl | rfl | rfl | rfl | rfl | rfl | rfl | rfl | rfl | rfl
    all_goals
      go_enter Tryd.func9, Tryd.ntmps9
      go_wp2
      go_ret
      exact ⟨rfl, rfl⟩
  · have HE : Hid (nmE m = []) := by show _ = _; unfold nmE; rw [if_neg h]
    clear h
    go_enter Tryd.func9, Tryd.ntmps9
    go_wp2
    go_ret
    exact ⟨rets (by rw [HE.out]), rfl⟩
set_option maxHeartbeats 6400000 in
theorem lof26 (m : Int) (w : World) : Calls Tryd.prog 54 #[.int .i64 m] w fun e w' => e = .returned (.string (str (ltE m))) ∧ w = w' := by
  rcases mark_cases m with ⟨k, rfl⟩ | ⟨h, e1, e2, e3, e4, e5, e6, e7, e8, e9, e10, e11, e12, e13, e14, e15, e16, e17⟩
  · rcases k with ⟨k, hk⟩
    have : k = 0 ∨ k = 1 ∨ k = 2 ∨ k = 3 ∨ k = 4 ∨ k = 5 ∨ k = 6 ∨ k = 7 ∨ k = 8 ∨ k = 9 ∨ k = 10 ∨ k = 11 ∨ k = 12 ∨ k = 13 ∨ k = 14 ∨ k = 15 ∨ k = 16 := by omega
    rcases this with rfl | rfl | rfl | rfl | rfl | rfl | rfl | rfl | rfl | rfl | rfl | rfl | rfl | rfl | rfl | rfl | rfl
    all_goals
      go_enter Tryd.func54, Tryd.ntmps54
      go_wp2
      go_ret
      exact ⟨rfl, rfl⟩
  · have HE : Hid (ltE m = []) := by show _ = _; unfold ltE; rw [if_neg h]
    clear h
    go_enter Tryd.func54, Tryd.ntmps54
    go_wp2
    go_ret
    exact ⟨rets (by rw [HE.out]), rfl⟩
theorem reti26 {a b : Int} (h : a = b) : Ending.returned (.int .i64 a) = .returned (.int .i64 b) := by rw [h]
/-- The first mark of a name, 0 if there is none. -/
def findE (n0 : List UInt8) : Int := match markF n0 1 17 with | none => 0 | some m => (m : Int)
set_option maxHeartbeats 1600000 in
theorem lfind26 (n0 : List UInt8) (w : World) : Calls Tryd.prog 47 #[.string (str n0)] w fun e w' => e = .returned (.int .i64 (findE n0)) ∧ w = w' := by
  go_enter Tryd.func47, Tryd.ntmps47
  go_wp2
  go_loop [3] (fun i => ∃ k : Nat, 1 ≤ k ∧ k ≤ 18 ∧ i = .int .i64 k ∧ Hid (markF n0 1 17 = markF n0 k (18 - k))) (fun i => 18 - (intOf i).toNat)
  case atStart => exact ⟨1, by omega, by omega, rfl, rfl⟩
  case round =>
    obtain ⟨k, hk1, hk, rfl, HG⟩ := hrel
    by_cases hlt : k < 18
    · have hltI : (k : Int) < 18 := by omega
      have HM : Hid (markF n0 1 17 = if nmE k = n0 then some k else markF n0 (k + 1) (18 - (k + 1))) := by
        show _ = _
        rw [HG.out, show 18 - k = (18 - (k + 1)) + 1 by omega]
        rfl
      by_cases he : nmE k = n0
      · have HE : Hid (findE n0 = k) := by show _ = _; unfold findE; rw [HM.out, if_pos he]
        have hq : (nmE k == n0) = true := by rw [he]; simp
        clear he HM HG
        go_wp2_with (go_at_call 9; go_must (refine (lname26 k _).mono ?_); rintro e1 w1 ⟨rfl, rfl⟩)
        go_ret
        exact ⟨reti26 HE.out.symm, rfl⟩
      · have HN : Hid (markF n0 1 17 = markF n0 (k + 1) (18 - (k + 1))) := by show _ = _; rw [HM.out, if_neg he]
        have hq : (nmE k == n0) = false := by simp [he]
        clear he HM HG
        go_wp2_with (go_at_call 9; go_must (refine (lname26 k _).mono ?_); rintro e1 w1 ⟨rfl, rfl⟩)
        go_roundw
        case rel => exact ⟨k + 1, by omega, by omega, by go_num, HN.out⟩
        case measure => simp [intOf]; omega
    · obtain rfl : k = 18 := by omega
      have HE : Hid (findE n0 = 0) := by show _ = _; unfold findE; rw [HG.out]; rfl
      go_wp2
      go_ret
      exact ⟨reti26 HE.out.symm, rfl⟩
end Go.Proofs.YtbfbfbbpajaclaaDoor
