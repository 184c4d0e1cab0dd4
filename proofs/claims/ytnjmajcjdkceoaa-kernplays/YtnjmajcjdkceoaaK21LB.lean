
/-
  The landed kern of layer 21: turnInto, Set. Condition: it lies where the pointer says; what is handed in lies elsewhere.
-/
import Derived.Test.YtnjmajcjdkceoaaK21LA
namespace Go.Proofs.Ytnjmajcjdkceoaa
open Go.RowKit
set_option linter.unusedVariables false
set_option linter.unusedSimpArgs false
set_option maxRecDepth 100000
section
variable {w w' : World} {b g : Nat} {K K' : Kn}
set_option maxHeartbeats 6400000 in
theorem lmturn (h : Lm w b g K) (md : Int) {u : Value} {xs : List Int} (hs : Sees .i64 w u xs) (hap : xs ≠ [] → ∀ j, u.ownBlock = some j → ¬ ftL b g j) {E : Int} (HQ : Hid (K.turn md xs = (E, K'))) : Calls Try.prog 24 #[.pointer (some ⟨b, 0, none⟩), .int .i64 md, u] w fun e w' => e = .returned (.int .i64 E) ∧ Lm w' b g K' ∧ Chg w w' (ftL b g) := by
  have HH := keepG h
  have HS := keepG (fun (wr : World) (hc : Chg w wr (ftL b g)) => hs.chgK hc hap)
  have HAP := keepG hap
  obtain ⟨a, cap, rfl, hlc, hmx, _⟩ := hs
  unfold maxLen at hmx
  have hq := HQ.out
  unfold Kn.turn at hq
  have HQ2 := keepG hq
  clear h HQ hq hap
  go_enter Try.func24, Try.ntmps24
  go_wp2
  go_loopw [15] (fun i wr => ∃ j : Nat, j ≤ xs.length ∧ i = .int .i64 j ∧ Hid ((xs.take j).all K.has = true) ∧ w = wr) (fun i _ => xs.length - (intOf i).toNat)
  case atStart => exact ⟨0, by omega, rfl, rfl, rfl⟩
  case round =>
    obtain ⟨j, hj, rfl, HA, rfl⟩ := hrel
    by_cases hlt : j < xs.length
    · have hltI : (j : Int) < xs.length := by omega
      obtain ⟨p, off, rfl, hp, hat⟩ := (HS.out w (Chg.refl _ _)).atK hlt
      have d0 := hat j hlt
      have ht := all_takeK (p := K.has) hlt
      obtain ⟨x, HX⟩ : ∃ x, Hid (xs.getD j 0 = x) := ⟨_, rfl⟩
      rw [HX.out] at d0 ht
      rw [HA.out, Bool.true_and] at ht
      have HT := keepG ht
      clear ht hat
      cases hh : K.has x with
      | false =>
        have hf : xs.all K.has = false := all_noK (j := j + 1) (by rw [HT.out]; exact hh)
        have hq := HQ2.out
        rw [if_pos hf] at hq
        injection hq with e1 e2
        subst e1 e2
        have HR := keepG hh
        clear HQ2 hf hh HT
        go_wp2_with (go_at_call 27; go_must (refine (lmhas HH.out x HR).mono ?_); rintro e w1 ⟨rfl, rfl⟩)
        go_ret
        exact ⟨rfl, HH.out, Chg.refl _ _⟩
      | true =>
        have HR := keepG hh
        rw [hh] at HT
        clear hh
        go_wp2_with (go_at_call 27; go_must (refine (lmhas HH.out x HR).mono ?_); rintro e w1 ⟨rfl, rfl⟩)
        go_roundw
        case rel => exact ⟨j + 1, by omega, by go_num, HT.out, by first | rfl | trivial⟩
        case measure => simp [intOf]; omega
    · have hltI : ¬ (j : Int) < xs.length := by omega
      have hf : xs.all K.has = true := by
        have := HA.out
        rw [List.take_of_length_le (by omega)] at this
        exact this
      have HON := keepG (show ∀ x ∈ xs, K.has x = true by simpa using hf)
      have hq := HQ2.out
      rw [if_neg (by rw [hf]; decide)] at hq
      have HQ3 := keepG hq
      clear HQ2 hf hq HA
      go_wp2
      go_loopw [26] (fun i wq => ∃ q : Nat, q ≤ xs.length ∧ i = .int .i64 q ∧ Hid ((xs.take q).all (fun x => K.md x != 2) = true) ∧ w = wq) (fun i _ => xs.length - (intOf i).toNat)
      case atStart => exact ⟨0, by omega, rfl, rfl, rfl⟩
      case round =>
        obtain ⟨q, hq, rfl, HA, rfl⟩ := hrel
        by_cases hqt : q < xs.length
        · have hqtI : (q : Int) < xs.length := by omega
          obtain ⟨p, off, rfl, hp, hat⟩ := (HS.out w (Chg.refl _ _)).atK hqt
          have d0 := hat q hqt
          obtain ⟨c0, c1⟩ := HH.out.low
          have ht := all_takeK (p := fun x => K.md x != 2) hqt
          have hmem := getD_mem xs q hqt
          obtain ⟨x, HX⟩ : ∃ x, Hid (xs.getD q 0 = x) := ⟨_, rfl⟩
          rw [HX.out] at d0 ht hmem
          rw [HA.out, Bool.true_and] at ht
          obtain ⟨k, rfl, hk⟩ := Kn.has_nat (HON.out _ hmem)
          have ck := (HH.out.at hk).1
          rw [← Kn.md_nat] at ck
          obtain ⟨y, HY⟩ : ∃ y, Hid (K.md k = y) := ⟨_, rfl⟩
          rw [HY.out] at ck ht
          have HT := keepG ht
          have hkI : (k : Int) < K.m.length := by omega
          clear ht hat hmem
          by_cases hy : y = 2
          · subst hy
            have hf : xs.all (fun x => K.md x != 2) = false := all_noK (j := q + 1) (by rw [HT.out]; rfl)
            have hq2 := HQ3.out
            rw [if_pos hf] at hq2
            injection hq2 with e1 e2
            subst e1 e2
            clear HQ3 hf
            go_wp2
            go_ret
            exact ⟨rfl, HH.out, Chg.refl _ _⟩
          · have hyb : (y == 2) = false := by simpa using hy
            go_wp2
            go_roundw
            case rel => exact ⟨q + 1, by omega, by go_num, by show _ = _; rw [HT.out]; simpa using hy, by first | rfl | trivial⟩
            case measure => simp [intOf]; omega
        · have hqtI : ¬ (q : Int) < xs.length := by omega
          have hf : xs.all (fun x => K.md x != 2) = true := by
            have := HA.out
            rw [List.take_of_length_le (by omega)] at this
            exact this
          have hq2 := HQ3.out
          rw [if_neg (by rw [hf]; decide)] at hq2
          injection hq2 with e1 e2
          subst e1 e2
          clear HQ3 hf HA
          go_wp2
          go_loopw [42] (fun i wz => ∃ z : Nat, z ≤ xs.length ∧ i = .int .i64 z ∧ Hid (Lm wz b g ⟨putM K.m md (xs.take z), K.p⟩) ∧ Hid (Chg w wz (ftL b g))) (fun i _ => xs.length - (intOf i).toNat)
          case atStart => exact ⟨0, by omega, rfl, HH.out, Chg.refl _ _⟩
          case round =>
            obtain ⟨z, hz, rfl, HD, HC⟩ := hrel
            rename World => wz
            by_cases hzt : z < xs.length
            · have hztI : (z : Int) < xs.length := by omega
              obtain ⟨p, off, ev, hp, hat⟩ := (HS.out wz HC.out).atK hzt
              subst ev
              have d0 := hat z hzt
              have hT := take_at xs z hzt
              have hmem := getD_mem xs z hzt
              obtain ⟨x, HX⟩ : ∃ x, Hid (xs.getD z 0 = x) := ⟨_, rfl⟩
              rw [HX.out] at d0 hmem hT
              obtain ⟨k, rfl, hk⟩ := Kn.has_nat (HON.out _ hmem)
              have hlen := putM_len md (xs.take z) K.m
              obtain ⟨c0, c1⟩ := HD.out.low
              simp only [hlen] at c1
              have hkq : k < (putM K.m md (xs.take z)).length := by rw [hlen]; exact hk
              have ck := (HD.out.at (k := k) hkq).1
              have fk := HD.out.row.frozen (k * 2)
              have hkI : (k : Int) < K.m.length := by omega
              have HD2 := keepG (HD.out.put hkq md)
              have HC2 := keepG (HC.out.trans (Chg.set wz g (k * 2) (.int .i64 md)) (fun _ _ e => .inr e))
              have HT : Hid (putM K.m md (xs.take (z + 1)) = (putM K.m md (xs.take z)).set k md) := by
                show _ = _
                rw [hT, putM_app]
                rfl
              clear hat hmem hT hlen
              generalize (putM K.m md (xs.take z)).getD k 0 = y0 at ck
              go_wp2
              go_roundw
              case rel => exact ⟨z + 1, by omega, by go_num, by rw [HT.out]; exact HD2.out, HC2.out⟩
              case measure => simp [intOf]; omega
            · have hztI : ¬ (z : Int) < xs.length := by omega
              have HD2 := HD.out
              rw [List.take_of_length_le (by omega)] at HD2
              have HD3 := keepG HD2
              clear HD2 HD
              go_wp2
              go_ret
              exact ⟨rfl, HD3.out, HC.out⟩
set_option maxHeartbeats 3200000 in
theorem lmset (h : Lm w b g K) (hk : K.Ok) {u : Value} {rs : List Bool} (hs : SeesG bK 1 false w u rs) (hap : rs ≠ [] → ∀ j, u.ownBlock = some j → ¬ ftL b g j) {E : Int} (HQ : Hid (K.set rs = (E, K'))) : Calls Try.prog 13 #[.pointer (some ⟨b, 0, none⟩), u] w fun e w' => e = .returned (.int .i64 E) ∧ Lm w' b g K' ∧ Chg w w' (ftL b g) := by
  have HD0 := keepG h
  have HS0 := keepG hs
  obtain ⟨a, cap, rfl, hlc, hmx⟩ := hs.shape
  obtain ⟨c0, c1⟩ := h.low
  have hq := HQ.out
  unfold Kn.set at hq
  have hl := hk.len.2
  clear h HQ hs
  by_cases hrl : rs.length = K.m.length
  · rw [if_pos hrl] at hq
    injection hq with e1 e2
    subst e1 e2
    have hrb : ((rs.length : Int) != K.m.length) = false := by simp [hrl]
    have HRL := keepG hrl
    have hne : rs ≠ [] := fun e => by rw [e] at hrl; have := hk.len.1; simp at hrl; omega
    have HS := keepG (fun (wr : World) (hc : Chg w wr (ftL b g)) => HS0.out.chg hc (hap hne))
    have hl2 : rs.length ≤ 64 := by omega
    clear hrl hap
    go_enter Try.func13, Try.ntmps13
    go_wp2
    go_loopw [17] (fun i wr => ∃ j : Nat, j ≤ rs.length ∧ i = .int .i64 j ∧ Hid (Lm wr b g ⟨setJ K.m rs j, K.p⟩) ∧ Hid (Chg w wr (ftL b g))) (fun i _ => rs.length - (intOf i).toNat)
    case atStart => exact ⟨0, by omega, rfl, HD0.out, Chg.refl _ _⟩
    case round =>
      obtain ⟨j, hj, rfl, HD, HC⟩ := hrel
      rename World => wr
      have hlen := setJ_len K.m rs j
      by_cases hlt : j < rs.length
      · have hltI : (j : Int) < rs.length := by omega
        have hjm : j < K.m.length := by have := HRL.out; omega
        have hjmI : (j : Int) < K.m.length := by omega
        have hjq : j < (setJ K.m rs j).length := by omega
        obtain ⟨p, off, ev, hp, hat⟩ := (HS.out wr HC.out).atB hlt
        subst ev
        have d0 := hat j hlt
        obtain ⟨q0, q1⟩ := HD.out.low
        simp only [hlen] at q1
        have ck := (HD.out.at (k := j) hjq).1
        have fk := HD.out.row.frozen (j * 2)
        obtain ⟨y, HY⟩ : ∃ y, Hid ((setJ K.m rs j).getD j 0 = y) := ⟨_, rfl⟩
        obtain ⟨r, HR⟩ : ∃ r, Hid (rs.getD j false = r) := ⟨_, rfl⟩
        simp only [HY.out] at ck
        rw [HR.out] at d0
        have HT : Hid (setJ K.m rs (j + 1) = (setJ K.m rs j).set j (setO y r)) := by show _ = _; rw [← HY.out, ← HR.out]; rfl
        clear hat hlen
        by_cases hy : y = 2
        · subst hy
          have HD2 : Hid (Lm wr b g ⟨setJ K.m rs (j + 1), K.p⟩) := by
            have h2 : (setJ K.m rs j).set j (setO 2 r) = setJ K.m rs j := by
              have e : setO 2 r = (setJ K.m rs j).getD j 0 := by rw [HY.out]; rfl
              have e2 : (setJ K.m rs j).getD j 0 = (setJ K.m rs j)[j] := by simp [List.getD, hjq]
              rw [e, e2, List.set_getElem_self]
            rw [HT.out, h2]
            exact HD.out
          clear HT HY HD
          go_wp2
          go_roundw
          case rel => exact ⟨j + 1, by omega, by go_num, HD2.out, HC.out⟩
          case measure => simp [intOf]; omega
        · have hyb : (y == 2) = false := by simpa using hy
          cases r with
          | false =>
            have HD2 : Hid (Lm (wr.setCell ⟨g, j * 2, none⟩ (.int .i64 0)) b g ⟨setJ K.m rs (j + 1), K.p⟩) := by
              have : setO y false = 0 := by unfold setO; rw [if_neg hy]; rfl
              rw [HT.out, this]
              exact HD.out.put hjq 0
            have HC2 := keepG (HC.out.trans (Chg.set wr g (j * 2) (.int .i64 0)) (fun _ _ e => .inr e))
            clear HT HY HD
            go_wp2
            go_roundw
            case rel => exact ⟨j + 1, by omega, by go_num, HD2.out, HC2.out⟩
            case measure => simp [intOf]; omega
          | true =>
            have HD2 : Hid (Lm (wr.setCell ⟨g, j * 2, none⟩ (.int .i64 1)) b g ⟨setJ K.m rs (j + 1), K.p⟩) := by
              have : setO y true = 1 := by unfold setO; rw [if_neg hy]; rfl
              rw [HT.out, this]
              exact HD.out.put hjq 1
            have HC2 := keepG (HC.out.trans (Chg.set wr g (j * 2) (.int .i64 1)) (fun _ _ e => .inr e))
            clear HT HY HD
            go_wp2
            go_roundw
            case rel => exact ⟨j + 1, by omega, by go_num, HD2.out, HC2.out⟩
            case measure => simp [intOf]; omega
      · have hltI : ¬ (j : Int) < rs.length := by omega
        have HD2 := HD.out
        have e : j = K.m.length := by have := HRL.out; omega
        rw [e, setJ_all HRL.out] at HD2
        have HD3 := keepG HD2
        clear HD2 HD hlen e
        go_wp2
        go_ret
        exact ⟨rfl, HD3.out, HC.out⟩
  · rw [if_neg hrl] at hq
    injection hq with e1 e2
    subst e1 e2
    have hrb : ((rs.length : Int) != K.m.length) = true := by simp; omega
    clear hrl
    go_enter Try.func13, Try.ntmps13
    go_wp2
    go_ret
    exact ⟨rfl, HD0.out, Chg.refl _ _⟩
end
end Go.Proofs.Ytnjmajcjdkceoaa
