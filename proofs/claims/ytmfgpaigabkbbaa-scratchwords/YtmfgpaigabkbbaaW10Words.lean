
/-
  ScratchWords, walked: the answer is true. No condition.
-/
import Derived.Test.YtmfgpaigabkbbaaS10Awake
namespace Go.Proofs.Ytmfgpaigabkbbaa
open Go.RowKit
set_option linter.unusedVariables false
set_option linter.unusedSimpArgs false
set_option maxRecDepth 100000

def storeW (ws : List Int) (a n : Int) : List Int := if inB a then ws.set a.toNat n else ws
theorem storeW_len {ws : List Int} (a n : Int) (h : ws.length = 16) : (storeW ws a n).length = 16 := by
  unfold storeW; split <;> simp [h]
theorem storeW_at {ws : List Int} (a n : Int) (h : ws.length = 16) {k : Nat} (hk : k < 16) : (storeW ws a n).getD k 0 = if (k : Int) = a then n else ws.getD k 0 := by
  unfold storeW
  cases hi : inB a with
  | true =>
    obtain ⟨h0, h1⟩ : 0 ≤ a ∧ a < 16 := of_decide_eq_true hi
    simp only [if_true]
    rw [getD_set _ _ _ (by omega)]
    by_cases hka : (k : Int) = a
    · rw [if_pos (by omega), if_pos hka]
    · rw [if_neg (by omega), if_neg hka]
  | false =>
    have hn : ¬ (0 ≤ a ∧ a < 16) := of_decide_eq_false hi
    simp only [Bool.false_eq_true, if_false]
    rw [if_neg (by omega)]
theorem nought_at (k : Nat) : nought.getD k 0 = 0 := by
  by_cases h : k < 16
  · exact (by decide : ∀ k : Fin 16, nought.getD k 0 = 0) ⟨k, h⟩
  · rw [List.getD_eq_getElem?_getD, List.getElem?_eq_none (by show 16 ≤ k; omega)]; rfl
theorem inB_nat {k : Nat} (h : k < 16) : inB (k : Int) = true := decide_eq_true ⟨by omega, by omega⟩
theorem r567 {k : Nat} (h : k < 16) : (raiseL nought [5, 6, 7]).getD k 0 = if k < 3 then 5 + (k : Int) else 0 := by
  have : ∀ k : Fin 16, (raiseL nought [5, 6, 7]).getD k 0 = if k.1 < 3 then 5 + (k.1 : Int) else 0 := by decide
  exact this ⟨k, h⟩
theorem sees567 (w : World) (T : TypeId) (b : Nat) (hb : b < w.heap.size) : ∀ w', (w.alloc (.cells #[.int .u64 5, .int .u64 6, .int .u64 7] T)).grownBy w' (some b) → Sees .u64 w' (.slice (some ⟨w.heap.size, 0, none⟩) 3 3) [5, 6, 7] :=
  fun w' hg => (Sees.lit w .u64 T [5, 6, 7] _ 3 rfl rfl (by decide) (by decide)).grown hg (by omega)
theorem words_plain {Z U V : List Int} {a o n m : Int} (HZ : Hid (nought = Z)) (HU : Hid ((if inB a then Z.set a.toNat n else Z) = U)) (HV : Hid ((if inB o then U.set o.toNat m else U) = V)) : Hid (∀ k : Nat, k < 16 → V.getD k 0 = if (k : Int) = o then m else if (k : Int) = a then n else 0) := fun k hk => by
  have h0 := HZ.out
  have h1 : storeW Z a n = U := HU.out
  have h2 : storeW U o m = V := HV.out
  subst h0
  subst h1
  subst h2
  rw [storeW_at _ _ (storeW_len _ _ rfl) hk, storeW_at _ _ rfl hk, nought_at]
theorem words_plain2 {Z C : List Int} (HZ : Hid (nought = Z)) (HC : Hid (raiseL Z [5, 6, 7] = C)) : Hid (∀ k : Nat, k < 16 → C.getD k 0 = if k < 3 then 5 + (k : Int) else 0) := fun k hk => by rw [← HC.out, ← HZ.out, r567 hk]
set_option maxHeartbeats 3200000 in
theorem words_any (a o n : Int) (w : World) (ha : -9223372036854775808 ≤ a ∧ a ≤ 9223372036854775807) (ho : -9223372036854775808 ≤ o ∧ o ≤ 9223372036854775807) (hn : 0 ≤ n ∧ n ≤ 18446744073709551615) :
    Calls Try.prog 4 #[.int .i64 a, .int .i64 o, .int .u64 n] w fun e w' => e = .returned (.bool true) ∧ Below w.heap.size w w' := by
  obtain ⟨Z, HZ⟩ : ∃ Z, Hid (nought = Z) := ⟨_, rfl⟩
  obtain ⟨C, HC⟩ : ∃ C, Hid (raiseL Z [5, 6, 7] = C) := ⟨_, rfl⟩
  obtain ⟨U, HU⟩ : ∃ U, Hid ((if inB a then Z.set a.toNat n else Z) = U) := ⟨_, rfl⟩
  obtain ⟨r, HR⟩ : ∃ r, Hid ((if inB a then 0 else 35 : Int) = r) := ⟨_, rfl⟩
  obtain ⟨s, HS⟩ : ∃ s, Hid ((if inB o then 0 else 35 : Int) = s) := ⟨_, rfl⟩
  have hsg : IntKind.u64.signed = false := rfl
  obtain ⟨m, hm⟩ : ∃ m, bits .xor .u64 IntKind.u64.max n = m := ⟨_, rfl⟩
  obtain ⟨V, HV⟩ : ∃ V, Hid ((if inB o then U.set o.toNat m else U) = V) := ⟨_, rfl⟩
  go_enter Try.func4, Try.ntmps4
  go_wp2_with (first
    | (go_at_call 7; go_must (refine (awake_any _).mono ?_); rintro e w1 ⟨rfl, hb1⟩; have HB1 : Hid (Below w.heap.size w w1) := hb1; have hz1 := hb1.size; clear hb1)
    | (go_at_call 8; go_must (refine (new_as HZ _).mono ?_); rintro e w2 ⟨rfl, hs2, hz2', hb2⟩; have HS2 : Hid (Sc w2 w1.heap.size Z Z) := hs2; have HB2 : Hid (Below w.heap.size w w2) := HB1.out.trans (hb2.mono hz1); have hz2 : w1.heap.size < w2.heap.size := (by omega); clear hs2 hz2' hb2 HB1)
    | (go_at_call 13; go_must (refine (raise_any _ (HS2.out.alloc _) (sees567 _ _ _ hz2)).mono ?_); rintro e w3 ⟨rfl, hs3, hg3, hz3'⟩; rw [HC.out] at hs3; have HS3 : Hid (Sc w3 w1.heap.size Z C) := hs3; have HB3 : Hid (Below w.heap.size w w3) := own_grown (HB2.out.trans ((below_alloc _ _).mono HB2.out.size)) hg3 hz1; clear hs3 hg3 HS2 HB2 hz3')
    | (go_at_call 14; have hq := HB3; clear hq; go_must (refine (store_as HU HR _ HS3.out).mono ?_); rintro e w4 ⟨rfl, hs4, hg4, hz4'⟩; have HS4 : Hid (Sc w4 w1.heap.size U C) := hs4; have HB4 : Hid (Below w.heap.size w w4) := own_grown HB3.out hg4 hz1; clear hs4 hg4 HS3 HB3 hz4')
    | (go_at_call 14; have hq := HB4; clear hq; go_must (refine (store_as HV HS _ HS4.out).mono ?_); rintro e w5 ⟨rfl, hs5, hg5, hz5'⟩; have HS5 : Hid (Sc w5 w1.heap.size V C) := hs5; have HB5 : Hid (Below w.heap.size w w5) := own_grown HB4.out hg5 hz1; clear hs5 hg5 HS4 HB4 hz5'))
  clear hm hsg
  have HVA := words_plain HZ HU HV
  have HCA := words_plain2 HZ HC
  go_loopw [11] (fun i wr => ∃ k : Nat, k ≤ 16 ∧ i = .int .i64 k ∧ w5 = wr) (fun i _ => 16 - (intOf i).toNat)
  case atStart => exact ⟨0, by omega, rfl, rfl⟩
  case round =>
    obtain ⟨k, hk, rfl, rfl⟩ := hrel
    by_cases hlt : k < 16
    · have hkI : (k : Int) < 16 := by omega
      have HE : Hid ((if inB (k : Int) then 0 else 35 : Int) = 0) := by rw [inB_nat hlt]; rfl
      have HX : Hid ((if inB (k : Int) then V.getD (k : Int).toNat 0 else 0) = if (k : Int) = o then m else if (k : Int) = a then n else 0) := by rw [inB_nat hlt, Int.toNat_natCast]; exact HVA.out k hlt
      by_cases hka : (k : Int) = a
      · have hr : r = 0 := by rw [← HR.out, ← hka, inB_nat hlt]; rfl
        subst hr
        by_cases hko : (k : Int) = o
        · have hs : s = 0 := by rw [← HS.out, ← hko, inB_nat hlt]; rfl
          subst hs
          rw [if_pos hko] at HX
          subst hko
          subst hka
          go_wp2_with (go_at_call 15; go_must (refine (load_as HX HE _ HS5.out).mono ?_); rintro e w' ⟨rfl, hw'⟩; go_must (subst hw'))
          go_roundw
          case rel => exact ⟨k + 1, by omega, by go_num, trivial⟩
          case measure => simp [intOf]; omega
        · rw [if_neg hko, if_pos hka] at HX
          subst hka
          go_wp2_with (go_at_call 15; go_must (refine (load_as HX HE _ HS5.out).mono ?_); rintro e w' ⟨rfl, hw'⟩; go_must (subst hw'))
          go_roundw
          case rel => exact ⟨k + 1, by omega, by go_num, trivial⟩
          case measure => simp [intOf]; omega
      · by_cases hko : (k : Int) = o
        · have hs : s = 0 := by rw [← HS.out, ← hko, inB_nat hlt]; rfl
          subst hs
          rw [if_pos hko] at HX
          subst hko
          go_wp2_with (go_at_call 15; go_must (refine (load_as HX HE _ HS5.out).mono ?_); rintro e w' ⟨rfl, hw'⟩; go_must (subst hw'))
          go_roundw
          case rel => exact ⟨k + 1, by omega, by go_num, trivial⟩
          case measure => simp [intOf]; omega
        · rw [if_neg hko, if_neg hka] at HX
          go_wp2_with (go_at_call 15; go_must (refine (load_as HX HE _ HS5.out).mono ?_); rintro e w' ⟨rfl, hw'⟩; go_must (subst hw'))
          go_roundw
          case rel => exact ⟨k + 1, by omega, by go_num, trivial⟩
          case measure => simp [intOf]; omega
    · have hkn : ¬ (k : Int) < 16 := by omega
      clear hlt
      go_wp2_with (go_at_call 16; go_must (refine (wipe_any _ HS5.out).mono ?_); rintro e w6 ⟨rfl, hs6, hg6⟩; rw [HZ.out] at hs6; have HS6 : Hid (Sc w6 w1.heap.size Z C) := hs6; have HB6 : Hid (Below w.heap.size w w6) := own_grown HB5.out hg6 hz1; clear hs6 hg6 HS5 HB5)
      go_loopw [15] (fun i wr => ∃ k : Nat, k ≤ 16 ∧ i = .int .i64 k ∧ w6 = wr) (fun i _ => 16 - (intOf i).toNat)
      case atStart => exact ⟨0, by omega, rfl, rfl⟩
      case round =>
        obtain ⟨j, hj, rfl, rfl⟩ := hrel
        by_cases hlt : j < 16
        · have hjI : (j : Int) < 16 := by omega
          have HE : Hid ((if inB (j : Int) then 0 else 35 : Int) = 0) := by rw [inB_nat hlt]; rfl
          have HX : Hid ((if inB (j : Int) then Z.getD (j : Int).toNat 0 else 0) = 0) := by rw [inB_nat hlt, Int.toNat_natCast, ← HZ.out]; exact nought_at j
          have HY : Hid ((if inB (j : Int) then C.getD (j : Int).toNat 0 else 0) = if j < 3 then 5 + (j : Int) else 0) := by rw [inB_nat hlt, Int.toNat_natCast]; exact HCA.out j hlt
          by_cases h3 : j < 3
          · rw [if_pos h3] at HY
            have h3I : (j : Int) < 3 := by omega
            have h2I : ¬ (2 : Int) < j := by omega
            go_wp2_with (first
              | (go_at_call 15; go_must (refine (load_as HX HE _ HS6.out).mono ?_); rintro e w' ⟨rfl, hw'⟩; go_must (subst hw'))
              | (go_at_call 17; go_must (refine (count_as HY HE _ HS6.out).mono ?_); rintro e w' ⟨rfl, hw'⟩; go_must (subst hw')))
            go_roundw
            case rel => exact ⟨j + 1, by omega, by go_num, trivial⟩
            case measure => simp [intOf]; omega
          · rw [if_neg h3] at HY
            have h3I : ¬ (j : Int) < 3 := by omega
            have h2I : (2 : Int) < j := by omega
            go_wp2_with (first
              | (go_at_call 15; go_must (refine (load_as HX HE _ HS6.out).mono ?_); rintro e w' ⟨rfl, hw'⟩; go_must (subst hw'))
              | (go_at_call 17; go_must (refine (count_as HY HE _ HS6.out).mono ?_); rintro e w' ⟨rfl, hw'⟩; go_must (subst hw')))
            go_roundw
            case rel => exact ⟨j + 1, by omega, by go_num, trivial⟩
            case measure => simp [intOf]; omega
        · have hjn : ¬ (j : Int) < 16 := by omega
          clear hlt
          cases hi : inB a with
          | true =>
            obtain ⟨h0, h1⟩ : 0 ≤ a ∧ a < 16 := of_decide_eq_true hi
            have hr : r = 0 := by rw [← HR.out, hi]; rfl
            subst hr
            go_wp2
            go_ret
            exact ⟨rfl, HB6.out⟩
          | false =>
            have h0 : ¬ (0 ≤ a ∧ a < 16) := of_decide_eq_false hi
            have hr : r = 35 := by rw [← HR.out, hi]; rfl
            subst hr
            by_cases h1 : 0 ≤ a
            · have h2 : ¬ a < 16 := by omega
              go_wp2
              go_ret
              exact ⟨rfl, HB6.out⟩
            · go_wp2
              go_ret
              exact ⟨rfl, HB6.out⟩
end Go.Proofs.Ytmfgpaigabkbbaa
