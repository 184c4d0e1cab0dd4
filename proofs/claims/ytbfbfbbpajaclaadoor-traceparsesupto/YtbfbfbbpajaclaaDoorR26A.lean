
/-
  What the document's small functions of layer 26 do: a mark's name, its letters, an entry's fields, digits. Condition: bytes and numbers are of their kinds.
-/
import Derived.Test.YtbfbfbbpajaclaaDoorX26Plain
import Derived.Test.YtbfbfbbpajaclaaDoorKR3Number
import Derived.Test.YtbfbfbbpajaclaaDoorKR3Cut
import Derived.Test.YtbfbfbbpajaclaaDoorKGx
namespace Go.Proofs.YtbfbfbbpajaclaaDoor
open Go.RowKit
set_option linter.unusedVariables false
set_option linter.unusedSimpArgs false
set_option maxRecDepth 100000
theorem enC_len (e : En) : (enC e).length = 22 := rfl
/-- The box of an entry. -/
theorem box_en (w : World) (e : En) : ∃ X, Hid (w.alloc (.cells (enC e).toArray 36) = X) ∧ Hid (Hp X w.heap.size 36 (enC e)) ∧ Hid (Below w.heap.size w X) := ⟨_, rfl, Hp.new w _ _, below_allocG _ _⟩
theorem digF_fuel : ∀ (f n : Nat), n < 10 ^ (f + 1) → digF (f + 2) n = digF (f + 1) n
  | 0, n, h => by
    have h0 : n / 10 = 0 := by omega
    rw [digF_last h0, digF_last h0]
  | f + 1, n, h => by
    by_cases h0 : n / 10 = 0
    · rw [digF_last h0, digF_last h0]
    · rw [digF_more h0, digF_more h0, digF_fuel f (n / 10) (by rw [Nat.pow_succ] at h; omega)]
set_option maxHeartbeats 1600000 in
theorem digits26 : ∀ (n : Nat) (w : World), n < 18446744073709551616 → Calls Tryd.prog 42 #[.int .u64 n] w fun e w' => e = .returned (.string (str (digF 20 n))) ∧ w = w' := by
  intro n
  induction n using Nat.strongRecOn with
  | _ n ih =>
    intro w hn
    by_cases h10 : n < 10
    · have h10I : (n : Int) < 10 := by omega
      have hd := digit_at n h10
      have HE : Hid (digF 20 n = [dig n]) := by show _ = _; rw [digF_last (by omega), Nat.mod_eq_of_lt h10]
      clear ih
      go_enter Tryd.func42, Tryd.ntmps42
      go_wp2_with fail
      go_ret
      exact ⟨rets (by rw [HE.out]), rfl⟩
    · have h10I : ¬ (n : Int) < 10 := by omega
      have H1 : Hid (Calls Tryd.prog 42 #[.int .u64 ((n : Int) / 10)] w fun e w' => e = .returned (.string (str (digF 20 (n / 10)))) ∧ w = w') := by
        have h := ih (n / 10) (by omega) w (by omega)
        rw [show ((n / 10 : Nat) : Int) = (n : Int) / 10 by omega] at h
        exact h
      have H2 : Hid (Calls Tryd.prog 42 #[.int .u64 ((n : Int) % 10)] w fun e w' => e = .returned (.string (str (digF 20 (n % 10)))) ∧ w = w') := by
        have h := ih (n % 10) (by omega) w (by omega)
        rw [show ((n % 10 : Nat) : Int) = (n : Int) % 10 by omega] at h
        exact h
      have HE : Hid (digF 20 n = digF 20 (n / 10) ++ digF 20 (n % 10)) := by
        show _ = _
        rw [digF_more (by omega), digF_last (u := n % 10) (by omega), Nat.mod_mod, digF_fuel 18 (n / 10) (by omega)]
      have hl1 := digF_len 20 (n / 10)
      have hl2 := digF_len 20 (n % 10)
      clear ih
      go_enter Tryd.func42, Tryd.ntmps42
      go_wp2_with (first
        | (go_at_call 42; (have hq := H1; clear hq); go_must (refine H1.out.mono ?_); rintro e1 w1 ⟨rfl, rfl⟩; go_must (clear H1))
        | (go_at_call 42; go_must (refine H2.out.mono ?_); rintro e1 w1 ⟨rfl, rfl⟩))
      go_ret
      exact ⟨rets (by rw [HE.out, str_app]), rfl⟩
theorem retb26 {a b : Bool} (h : a = b) : Ending.returned (.bool a) = .returned (.bool b) := by rw [h]
set_option maxHeartbeats 1600000 in
theorem has26 (f : List UInt8) (c : UInt8) (w : World) (hf : f.length ≤ 1000) : Calls Tryd.prog 22 #[.string (str f), .int .u8 c.toNat] w fun e w' => e = .returned (.bool (inL26 f c)) ∧ w = w' := by
  have hb : c.toNat < 256 := UInt8.toNat_lt c
  go_enter Tryd.func22, Tryd.ntmps22
  go_wp2_with fail
  go_loop [5] (fun i => ∃ k : Nat, k ≤ f.length ∧ i = .int .i64 k ∧ Hid (inL26 f c = inL26 (f.drop k) c)) (fun i => f.length - (intOf i).toNat)
  case atStart => exact ⟨0, by omega, rfl, rfl⟩
  case round =>
    obtain ⟨k, hk, rfl, HG⟩ := hrel
    by_cases hlt : k < f.length
    · obtain ⟨d, hd, HD⟩ : ∃ d, (str f)[k]'(hlt) = d ∧ Hid (f.drop k = d :: f.drop (k + 1)) := ⟨_, rfl, by show _ = _; rw [List.drop_eq_getElem_cons hlt]; rfl⟩
      have hdb : d.toNat < 256 := UInt8.toNat_lt d
      by_cases he : d = c
      · have t : ((d.toNat : Int) == (c.toNat : Int)) = true := by rw [he]; simp
        have HE : Hid (inL26 f c = true) := by show _ = _; rw [HG.out, HD.out, he]; unfold inL26; rw [List.contains_cons]; simp
        go_wp2_with fail
        go_ret
        exact ⟨retb26 HE.out.symm, rfl⟩
      · have t : ((d.toNat : Int) == (c.toNat : Int)) = false := by
          simp
          intro e
          exact he (UInt8.toNat_inj.1 (by omega))
        have HE : Hid (inL26 f c = inL26 (f.drop (k + 1)) c) := by
          show _ = _
          rw [HG.out, HD.out]; unfold inL26; rw [List.contains_cons, beq_eq_false_iff_ne.2 (fun e => he e.symm), Bool.false_or]
        go_wp2_with fail
        go_round
        case rel => exact ⟨k + 1, by omega, by go_num, HE.out⟩
        case measure => simp [intOf]; omega
    · obtain rfl : k = f.length := by omega
      have HE : Hid (inL26 f c = false) := by show _ = _; rw [HG.out, List.drop_length]; rfl
      go_wp2_with fail
      go_ret
      exact ⟨retb26 HE.out.symm, rfl⟩
theorem nm_at {k : Nat} (h : k < 18) : (nmT.map (fun l => Value.string (str l)))[k]? = some (.string (str (nmT.getD k []))) := by
  have hl : k < nmT.length := h
  rw [List.getElem?_map, List.getD_eq_getElem?_getD, List.getElem?_eq_getElem hl]
  rfl
set_option maxHeartbeats 1600000 in
theorem rname26 (m : Int) (w : World) : Calls Tryd.prog 10 #[.int .i64 m] w fun e w' => e = .returned (.string (str (nmE m))) ∧ Below w.heap.size w w' := by
  obtain ⟨X, HX, HP, HB⟩ : ∃ X, Hid (w.alloc (.cells (nmT.map (fun l => Value.string (str l))).toArray 9) = X) ∧ Hid (Hp X w.heap.size 9 (nmT.map (fun l => Value.string (str l)))) ∧ Hid (Below w.heap.size w X) := ⟨_, rfl, Hp.new w _ _, below_allocG _ _⟩
  have HX2 := keepG (show w.alloc (.cells #[.string ⟨#[]⟩, .string ⟨#[99, 97, 108, 108]⟩, .string ⟨#[114, 101, 116, 117, 114, 110]⟩, .string ⟨#[97, 112, 112, 108, 121]⟩, .string ⟨#[97, 99, 99, 101, 112, 116]⟩, .string ⟨#[116, 97, 107, 101]⟩, .string ⟨#[101, 110, 116, 101, 114]⟩, .string ⟨#[114, 97, 110]⟩, .string ⟨#[110, 111, 116, 101]⟩, .string ⟨#[100, 111, 110, 101]⟩, .string ⟨#[100, 114, 111, 112]⟩, .string ⟨#[112, 117, 98, 108, 105, 115, 104]⟩, .string ⟨#[108, 111, 97, 100, 101, 100]⟩, .string ⟨#[114, 101, 116, 105, 114, 101, 100]⟩, .string ⟨#[99, 108, 111, 115, 101, 100]⟩, .string ⟨#[101, 110, 100]⟩, .string ⟨#[97, 115, 107]⟩, .string ⟨#[98, 97, 99, 107]⟩] 9) = X from HX.out)
  by_cases h1 : m < 1
  · have HE : Hid (nmE m = []) := by show _ = _; unfold nmE; rw [if_neg (by omega)]
    go_enter Tryd.func10, Tryd.ntmps10
    go_wp2_with (rw [HX2.out])
    go_ret
    exact ⟨rets (by rw [HE.out]), HB.out⟩
  · by_cases h2 : m > 17
    · have HE : Hid (nmE m = []) := by show _ = _; unfold nmE; rw [if_neg (by omega)]
      go_enter Tryd.func10, Tryd.ntmps10
      go_wp2_with (rw [HX2.out])
      go_ret
      exact ⟨rets (by rw [HE.out]), HB.out⟩
    · obtain ⟨k, rfl⟩ : ∃ k : Nat, m = k := ⟨m.toNat, by omega⟩
      have hk : k < 18 := by omega
      have hc := HP.out.cell (j := k) (nm_at hk)
      have HE : Hid (nmE k = nmT.getD k []) := by show _ = _; unfold nmE; rw [if_pos (by omega)]; rfl
      rw [← HE.out] at hc
      have hk0 : (0 : Int) ≤ k := by omega
      have hkI : (k : Int) < 18 := by omega
      go_enter Tryd.func10, Tryd.ntmps10
      go_wp2_with (rw [HX2.out])
      go_ret
      exact ⟨rfl, HB.out⟩
end Go.Proofs.YtbfbfbbpajaclaaDoor
