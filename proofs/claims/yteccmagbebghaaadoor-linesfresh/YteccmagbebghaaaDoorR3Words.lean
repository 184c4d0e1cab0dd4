/-
  What the document's value does: a word's number, and whether it has one. Condition: the word is no greater than a string may be.
-/
import Derived.Test.YteccmagbebghaaaDoorR3Back
import Derived.Handy
namespace Go.Proofs.YteccmagbebghaaaDoor
open Go.RowKit
set_option linter.unusedVariables false

theorem ret2ibv {a a' : Int} {b b' : Bool} (h1 : a = a') (h2 : b = b') : Ending.returned (.tuple #[.int .i64 a, .bool b]) = .returned (.tuple #[.int .i64 a', .bool b']) := by rw [h1, h2]
theorem goL_bd : ∀ (l : List UInt8) (f : Bool) (U : Int) (N : Nat), (0 ≤ U ∧ U < 18446744073709551616) → ∀ x, goL f U N l = some x → 0 ≤ x.1 ∧ x.1 < 18446744073709551616
  | [], f, U, N, h, x, hx => by simp [goL] at hx; subst hx; exact h
  | c :: r, f, U, N, h, x, hx => by
    unfold goL at hx
    split at hx
    · exact goL_bd r false U N h x hx
    · split at hx
      · cases hx
      · exact goL_bd r false _ _ (by go_arith) x hx

set_option maxHeartbeats 1600000 in
theorem value_any (l : List UInt8) (w : World) (hl : l.length ≤ 9223372036854775807) : Calls Tryd.prog 46 #[.string (str l)] w fun e w' => e = .returned (.tuple #[.int .i64 (valueL l).1, .bool (valueL l).2]) ∧ w = w' := by
  go_enter Tryd.func46, Tryd.ntmps46
  go_wp2_with fail
  go_loop [4, 5, 6] (fun u n i => ∃ (k N : Nat) (U : Int), k ≤ l.length ∧ N ≤ k ∧ 0 ≤ U ∧ U < 18446744073709551616 ∧ i = .int .i64 k ∧ u = .int .u64 U ∧ n = .int .i64 N ∧ goL true 0 0 l = goL (decide (k = 0)) U N (l.drop k)) (fun _ _ i => l.length - (intOf i).toNat)
  case atStart => exact ⟨0, 0, 0, by omega, by omega, by omega, by omega, rfl, rfl, rfl, rfl⟩
  case round =>
    obtain ⟨k, N, U, hk, hN, hU0, hU1, rfl, rfl, rfl, hg⟩ := hrel
    have HG : Hid (goL true 0 0 l = goL (decide (k = 0)) U N (l.drop k)) := hg
    clear hg
    by_cases hlt : k < l.length
    · obtain ⟨c, hc, HD⟩ : ∃ c, (str l)[k]'(hlt) = c ∧ Hid (l.drop k = c :: l.drop (k + 1)) := ⟨_, rfl, by show _ = _; rw [List.drop_eq_getElem_cons hlt]; rfl⟩
      have hb : c.toNat < 256 := UInt8.toNat_lt c
      have HS : Hid (goL true 0 0 l = goL (decide (k = 0)) U N (c :: l.drop (k + 1))) := by show _ = _; rw [HG.out, HD.out]
      clear HG HD
      by_cases h45 : c.toNat = 45
      · have t45 : ((c.toNat : Int) == 45) = true := by simp; omega
        by_cases hk0 : k = 0
        · subst hk0
          have HE : Hid (goL true 0 0 l = goL (decide (0 + 1 = 0)) U N (l.drop (0 + 1))) := by
            show _ = _; rw [HS.out]; simp only [goL]; rw [if_pos ⟨h45, by simp⟩]; rfl
          clear h45
          go_wp2_with fail
          go_round
          case rel => exact ⟨1, N, U, by omega, by omega, hU0, hU1, rfl, rfl, rfl, HE.out⟩
          case measure => simp [intOf]; omega
        · have tk : ((k : Int) == 0) = false := by simp; omega
          have HE : Hid (valueL l = (0, false)) := by
            show _ = _; unfold valueL; rw [HS.out]; simp only [goL]; rw [if_neg (by simp [hk0]), if_pos (by omega)]
          have t48 : decide ((c.toNat : Int) < 48) = true := by simp; omega
          clear h45
          go_wp2_with fail
          go_ret2
          exact ⟨ret2ibv (by rw [HE.out]) (by rw [HE.out]), rfl⟩
      · have t45 : ((c.toNat : Int) == 45) = false := by simp; omega
        by_cases h48 : c.toNat < 48
        · have t48 : decide ((c.toNat : Int) < 48) = true := by simp; omega
          have HE : Hid (valueL l = (0, false)) := by
            show _ = _; unfold valueL; rw [HS.out]; simp only [goL]; rw [if_neg (fun x => h45 x.1), if_pos (by omega)]
          clear h45 h48
          go_wp2_with fail
          go_ret2
          exact ⟨ret2ibv (by rw [HE.out]) (by rw [HE.out]), rfl⟩
        · have t48 : decide ((c.toNat : Int) < 48) = false := by simp; omega
          by_cases h57 : 57 < c.toNat
          · have t57 : decide ((57 : Int) < (c.toNat : Int)) = true := by simp; omega
            have HE : Hid (valueL l = (0, false)) := by
              show _ = _; unfold valueL; rw [HS.out]; simp only [goL]; rw [if_neg (fun x => h45 x.1), if_pos (by omega)]
            clear h45 h48 h57
            go_wp2_with fail
            go_ret2
            exact ⟨ret2ibv (by rw [HE.out]) (by rw [HE.out]), rfl⟩
          · have t57 : decide ((57 : Int) < (c.toNat : Int)) = false := by simp; omega
            have HE : Hid (goL true 0 0 l = goL (decide (k + 1 = 0)) (IntKind.u64.wrap (IntKind.u64.wrap (10 * U) + ((c.toNat : Int) - 48))) (N + 1) (l.drop (k + 1))) := by
              show _ = _; rw [HS.out]; simp only [goL]; rw [if_neg (fun x => h45 x.1), if_neg (by omega)]; rfl
            clear h45
            go_wp2_with fail
            go_round
            case rel => exact ⟨k + 1, N + 1, _, by omega, by omega, by go_arith, by go_arith, by go_num, rfl, by go_num, HE.out⟩
            case measure => simp [intOf]; omega
    · obtain rfl : k = l.length := by omega
      have HE : Hid (goL true 0 0 l = some (U, N)) := by show _ = _; rw [HG.out, List.drop_length]; rfl
      clear HG
      by_cases hN0 : N = 0
      · subst hN0
        have HV : Hid (valueL l = (0, false)) := by show _ = _; unfold valueL; rw [HE.out]; rfl
        go_wp2_with fail
        go_ret2
        exact ⟨ret2ibv (by rw [HV.out]) (by rw [HV.out]), rfl⟩
      · have tN : ((N : Int) == 0) = false := by simp; omega
        have hpos : 0 < l.length := by omega
        obtain ⟨c, hc, HD⟩ : ∃ c, (str l)[0]'(hpos) = c ∧ Hid (l.headD 0 = c) := ⟨_, rfl, by show _ = _; cases l with | nil => simp at hpos | cons c r => rfl⟩
        by_cases h45 : c.toNat = 45
        · have t45 : ((c.toNat : Int) == 45) = true := by simp; omega
          have HV : Hid (valueL l = (wrap64 (IntKind.u64.wrap (-U)), true)) := by show _ = _; unfold valueL; rw [HE.out]; simp only []; rw [if_neg hN0, if_pos (by rw [HD.out]; exact h45)]
          clear h45
          go_wp2_with fail
          go_ret2
          exact ⟨ret2ibv (by rw [HV.out]) (by rw [HV.out]), rfl⟩
        · have t45 : ((c.toNat : Int) == 45) = false := by simp; omega
          have HV : Hid (valueL l = (wrap64 U, true)) := by show _ = _; unfold valueL; rw [HE.out]; simp only []; rw [if_neg hN0, if_neg (by rw [HD.out]; exact h45)]
          clear h45
          go_wp2_with fail
          go_ret2
          exact ⟨ret2ibv (by rw [HV.out]) (by rw [HV.out]), rfl⟩
end Go.Proofs.YteccmagbebghaaaDoor
