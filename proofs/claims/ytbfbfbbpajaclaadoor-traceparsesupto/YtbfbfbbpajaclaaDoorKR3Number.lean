
/-
  What the document's Number does: the number in decimal digits. Condition: the number is of its kind.
-/
import Derived.Test.YtbfbfbbpajaclaaDoorKR3Plain
import Derived.Handy
namespace Go.Proofs.YtbfbfbbpajaclaaDoor
open Go.RowKit
set_option linter.unusedVariables false

theorem digit_at (k : Nat) (h : k < 10) : (⟨#[48, 49, 50, 51, 52, 53, 54, 55, 56, 57]⟩ : ByteArray).extract k (k + 1) = str [dig k] := by
  have hc : k = 0 ∨ k = 1 ∨ k = 2 ∨ k = 3 ∨ k = 4 ∨ k = 5 ∨ k = 6 ∨ k = 7 ∨ k = 8 ∨ k = 9 := by omega
  rcases hc with rfl | rfl | rfl | rfl | rfl | rfl | rfl | rfl | rfl | rfl <;> rfl

set_option maxHeartbeats 800000 in
theorem number_any_l (n : Int) (w : World) (hn : -9223372036854775808 ≤ n ∧ n ≤ 9223372036854775807) : Calls Tryd.prog 43 #[.int .i64 n] w fun e w' => e = .returned (.string (str (numL n))) ∧ w = w' := by
  by_cases h0 : n < 0
  · have HN : Hid (numL n = 45 :: digF 20 (-n).toNat) := by show _ = _; unfold numL; rw [if_pos h0]
    go_enter Tryd.func43, Tryd.ntmps43
    go_wp2_with fail
    go_loop [3, 4] (fun u s => ∃ (f U : Nat) (acc : List UInt8), u = .int .u64 (U : Int) ∧ s = .string (str acc) ∧ U < 10 ^ (f + 1) ∧ acc.length + f < 20 ∧ U < 18446744073709551616 ∧ digF 20 (-n).toNat = digF (f + 1) U ++ acc) (fun u _ => (intOf u).toNat)
    case atStart => exact ⟨19, (-n).toNat, [], by rw [show (IntKind.u64.wrap (-IntKind.u64.wrap n)) = (((-n).toNat : Nat) : Int) by go_arith], rfl, by omega, by simp, by omega, by simp⟩
    case round =>
      obtain ⟨f, U, acc, rfl, rfl, hU, hf, hU64, hT⟩ := hrel
      have HT : Hid (digF 20 (-n).toNat = digF (f + 1) U ++ acc) := hT
      have hal : acc.length < 20 := by omega
      have hd := digit_at (U % 10) (by omega)
      clear hT
      by_cases hq : U / 10 = 0
      · have h10 : (((U : Nat) : Int) / 10 == 0) = true := by simp; omega
        have HE : Hid (digF 20 (-n).toNat = dig (U % 10) :: acc) := by show _ = _; rw [HT.out, digF_last hq]; rfl
        clear hq
        go_wp2_with fail
        go_ret
        exact ⟨rets (by rw [str_app, str_app, HN.out, HE.out]; rfl), rfl⟩
      · have h10 : (((U : Nat) : Int) / 10 == 0) = false := by simp; omega
        have hpos : 10 ≤ U := by omega
        cases f with
        | zero => exfalso; omega
        | succ f =>
          have HE : Hid (digF 20 (-n).toNat = digF (f + 1) (U / 10) ++ (dig (U % 10) :: acc)) := by show _ = _; rw [HT.out, digF_more hq, List.append_assoc]; rfl
          clear hq
          go_wp2_with fail
          go_round
          case rel => exact ⟨f, U / 10, dig (U % 10) :: acc, by simp, by rw [str_app]; rfl, by rw [Nat.pow_succ] at hU; omega, by simp; omega, by omega, HE.out⟩
          case measure => simp [intOf]; omega
  · have HN : Hid (numL n = digF 20 n.toNat) := by show _ = _; unfold numL; rw [if_neg h0]
    go_enter Tryd.func43, Tryd.ntmps43
    go_wp2_with fail
    go_loop [3, 4] (fun u s => ∃ (f U : Nat) (acc : List UInt8), u = .int .u64 (U : Int) ∧ s = .string (str acc) ∧ U < 10 ^ (f + 1) ∧ acc.length + f < 20 ∧ U < 18446744073709551616 ∧ digF 20 n.toNat = digF (f + 1) U ++ acc) (fun u _ => (intOf u).toNat)
    case atStart => exact ⟨19, n.toNat, [], by congr 1; omega, rfl, by omega, by simp, by omega, by simp⟩
    case round =>
      obtain ⟨f, U, acc, rfl, rfl, hU, hf, hU64, hT⟩ := hrel
      have HT : Hid (digF 20 n.toNat = digF (f + 1) U ++ acc) := hT
      have hal : acc.length < 20 := by omega
      have hd := digit_at (U % 10) (by omega)
      clear hT
      by_cases hq : U / 10 = 0
      · have h10 : (((U : Nat) : Int) / 10 == 0) = true := by simp; omega
        have HE : Hid (digF 20 n.toNat = dig (U % 10) :: acc) := by show _ = _; rw [HT.out, digF_last hq]; rfl
        clear hq
        go_wp2_with fail
        go_ret
        exact ⟨rets (by rw [str_app, HN.out, HE.out]; rfl), rfl⟩
      · have h10 : (((U : Nat) : Int) / 10 == 0) = false := by simp; omega
        have hpos : 10 ≤ U := by omega
        cases f with
        | zero => exfalso; omega
        | succ f =>
          have HE : Hid (digF 20 n.toNat = digF (f + 1) (U / 10) ++ (dig (U % 10) :: acc)) := by show _ = _; rw [HT.out, digF_more hq, List.append_assoc]; rfl
          clear hq
          go_wp2_with fail
          go_round
          case rel => exact ⟨f, U / 10, dig (U % 10) :: acc, by simp, by rw [str_app]; rfl, by rw [Nat.pow_succ] at hU; omega, by simp; omega, by omega, HE.out⟩
          case measure => simp [intOf]; omega
end Go.Proofs.YtbfbfbbpajaclaaDoor
