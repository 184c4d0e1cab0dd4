
/-
  KernPicks, walked. Condition: none but the arguments' reading.
-/
import Derived.Test.YtnjmajcjdkceoaaW21S
namespace Go.Proofs.Ytnjmajcjdkceoaa
open Go.RowKit
set_option linter.unusedVariables false
set_option linter.unusedSimpArgs false
set_option maxRecDepth 100000
theorem kernPicks_no (n : Int) (rv : Value) (c : Int) (w : World) (h : n < 1 ∨ 64 < n) :
    Calls Try.prog 5 #[.int .i64 n, rv, .int .i64 c] w fun e w' => e = .returned (.bool true) ∧ Below w.heap.size w w' := by
  go_enter Try.func5, Try.ntmps5
  go_wp2_with (first
    | (go_at_call 7; go_must (refine (awake21_any w).mono ?_); rintro e w1 ⟨rfl, hb1⟩)
    | (go_at_call 8; go_must (refine (lknew_no n h _).mono ?_); rintro e w2 ⟨rfl, rfl⟩))
  go_ret
  exact ⟨rfl, hb1⟩
set_option maxHeartbeats 25600000 in
theorem kernPicks_ok (n : Nat) (h1 : 1 ≤ n) (h64 : n ≤ 64) (rv : Value) (rs : List Bool) (c : Int) (w : World) (hs : SeesG bK 1 false w rv rs) (hlen : rs.length ≤ 140737488351232) :
    Calls Try.prog 5 #[.int .i64 n, rv, .int .i64 c] w fun e w' => e = .returned (.bool true) ∧ Below w.heap.size w w' := by
  have HSR := keepG (fun (wx : World) (hb : Below w.heap.size w wx) => hs.below hb (Nat.le_refl _))
  obtain ⟨ra, rc, rfl, hrc, hrm⟩ := hs.shape
  obtain ⟨i0, hi0, hz0, hzs, hzb⟩ := info_parts infoB21
  obtain ⟨i1, hi1, hz1, hzs1, hzb1⟩ := info_parts infoIntN
  have hlz : Hid (rs.length ≤ 140737488355328) := Nat.le_trans hlen (by decide)
  clear hs
  go_enter Try.func5, Try.ntmps5
  by_cases hrn : rs.length = n
  · have HQ1 := keepG (new_set hrn)
    obtain ⟨m, HM⟩ : ∃ m, Hid (setM (List.replicate n 0) rs = m) := ⟨_, rfl⟩
    rw [HM.out] at HQ1
    have HML : Hid (m.length = rs.length) := by show _ = _; rw [← HM.out, setM_len (by simp [hrn])]; simp [hrn]
    have HMA : Hid (∀ j, j < rs.length → m.getD j 0 = if rs.getD j false = true then 1 else 0) := by intro j hj; rw [← HM.out]; exact setN_at hrn hj
    obtain ⟨A, HA⟩ : ∃ A, Hid (inL m 1 m.length = A) := ⟨_, rfl⟩
    have HAK : Hid (∀ p, (⟨m, p⟩ : Kn).inM 1 = A) := fun p => HA.out
    have HA1 := keepG (HAK.out [])
    have hAl : A.length ≤ 64 := by rw [← HA.out]; have := inL_len m 1 m.length; have := HML.out; omega
    have hrb : ((rs.length : Int) != n) = false := by simp [hrn]
    have HRN := keepG hrn
    have hl64 : rs.length ≤ 64 := by omega
    clear hrn HM
    go_wp2_with (first
      | (go_at_call 7; go_must (refine (awake21_any w).mono ?_); rintro e w1 ⟨rfl, hb1⟩)
      | (go_at_call 8; go_must (refine (lznew_ok n h1 h64 hb1).mono ?_); rintro e w2 ⟨b, F0, rfl, hL, _, _⟩; go_must (have HL0 := keepG hL; obtain ⟨Z, HZ, HBZ⟩ : ∃ Z, Hid (w2.alloc (.cells #[] 4) = Z) ∧ Hid (Below w2.heap.size w2 Z) := ⟨_, rfl, below_allocG _ _⟩; obtain ⟨v3, w3, hr3, ho3, hg3, _⟩ := run_append_seesG (f := bK) (d := false) (P := Try.prog) Z w2.heap.size 32 32 4 i0 _ 1 1 Try.underlying32 hi0 hz0 hzs hzb rfl (by decide) (.slice (some ⟨w2.heap.size, 0, none⟩) 0 0) 0 [] (by rw [← HZ.out]; exact own_emptyK w2 _ _) bK_len (HSR.out Z (hL.be.trans (HBZ.out.mono hL.be.size))) (b_flat rs) (by unfold maxLen; omega) (by omega) HBZ.out.size; rw [Nat.zero_add, List.nil_append] at ho3; have HB3 : Hid (Below w2.heap.size w2 w3) := HBZ.out.trans ((Chg.of_grown' hg3 (S := fun k => k = w2.heap.size) (fun k e => (Option.some.inj e).symm)).below (fun k e => by omega) HBZ.out.size); have HS3 := keepG (own_seesG bK_len false ho3); have HL3 := keepG (hL.below HB3.out); have HAP3 : Hid (rs ≠ [] → Apt F0 (ftV v3)) := fun _ => Apt.made hL.lies (own_since ho3 (Nat.le_refl _)); have HR3 := keepG hr3; obtain ⟨va3, vc3, ev⟩ := own_shape ho3; subst ev; clear hL hr3 ho3 hg3))
      | (rw [HZ.out])
      | (at_builtin; go_must (refine wpList_appG _ rfl (.tmp 41) (.tmp 42) 32 32 rfl _ _ rfl rfl HR3.out ?_))
      | (go_at_call 13; go_must (refine (HL3.out.set HS3.out HAP3.out HQ1 hlz).mono ?_); rintro e w4 ⟨rfl, F4, hL4, _⟩; go_must (have HL4 := keepG hL4; clear hL4))
      | (go_at_call 20; go_must (refine (HL4.out.ready HA1).mono ?_); rintro e w5 ⟨u, rfl, hu, hb5⟩; go_must (have HR5 := keepG (Lr.made HL4.out hu hb5); have HW45 := keepG hb5.size; obtain ⟨ua, uc, ev⟩ := own_shape hu; subst ev; clear hu hb5)))
    clear HL0 HB3 HS3 HL3 HAP3 HR3 HL4 HQ1 HA1 hb1 HZ HBZ
    go_loopw [10, 11] (fun q i wr => ∃ (j cn : Nat), j ≤ rs.length ∧ q = .int .i64 cn ∧ i = .int .i64 j ∧ Hid (cn = (inL m 1 j).length) ∧ w5 = wr) (fun _ i _ => rs.length - (intOf i).toNat)
    case atStart => exact ⟨0, 0, by omega, rfl, rfl, rfl, rfl⟩
    case round =>
      obtain ⟨j, cn, hj, rfl, rfl, HC, rfl⟩ := hrel
      have hcl : cn ≤ 64 := by rw [HC.out]; have := inL_len m 1 j; omega
      by_cases hlt : j < rs.length
      · have hltI : (j : Int) < rs.length := by omega
        obtain ⟨p, off, rfl, _, hat⟩ := (HSR.out w5 HR5.out.lz.be).atB hlt
        have d0 := hat j hlt
        have hma := HMA.out j hlt
        have hmore := inL_more m 1 j
        obtain ⟨r, HR⟩ : ∃ r, Hid (rs.getD j false = r) := ⟨_, rfl⟩
        rw [HR.out] at d0 hma
        rw [hma] at hmore
        clear hat
        cases r with
        | true =>
          rw [if_pos rfl] at hma
          rw [if_pos (by rfl)] at hmore
          have hh := inL_here (m := m) (v := 1) (j := j) (by have := HML.out; omega) hma
          rw [HA.out, ← HC.out] at hh
          obtain ⟨hh1, hh2⟩ := hh
          have hcI : ¬ (A.length : Int) ≤ cn := by omega
          have hcI2 : (cn : Int) < A.length := by omega
          obtain ⟨p5, c5, ev, _, _, hc5, _⟩ := HR5.out.store (by omega)
          simp only [Value.slice.injEq, true_and] at ev
          obtain ⟨rfl, rfl⟩ := ev
          have e0 := (hc5 cn hh1).1
          rw [hh2] at e0
          have HC2 : Hid (cn + 1 = (inL m 1 (j + 1)).length) := by show _ = _; rw [hmore, HC.out]; simp
          clear hmore hma hc5 hh2 HC
          go_wp2
          go_roundw
          case rel => exact ⟨j + 1, cn + 1, by omega, by go_num, by go_num, HC2.out, by first | rfl | trivial⟩
          case measure => simp [intOf]; omega
        | false =>
          rw [if_neg (by decide)] at hma
          rw [if_neg (by decide)] at hmore
          have HC2 : Hid (cn = (inL m 1 (j + 1)).length) := by show _ = _; rw [hmore, HC.out]
          clear hmore hma HC
          go_wp2
          go_roundw
          case rel => exact ⟨j + 1, cn, by omega, rfl, by go_num, HC2.out, by first | rfl | trivial⟩
          case measure => simp [intOf]; omega
      · have hltI : ¬ (j : Int) < rs.length := by omega
        by_cases hA0 : A = []
        · obtain rfl : cn = 0 := by rw [HC.out, show j = m.length by have := HML.out; omega, HA.out, hA0]; rfl
          subst hA0
          have HP1 := keepG (pick_none (HAK.out []) c)
          have HA1 := keepG (HAK.out [])
          have HOX : Hid (∀ wx Fx, Lr w wx b Fx ⟨m, []⟩ w4.heap.size (.slice ua 0 uc) [] → wx.ownsRow w4.heap.size 3 1 (.slice ua 0 uc) 0 []) := fun wx Fx h => h.row
          have hla0 : (⟨m, []⟩ : Kn).p.length ≤ 1000000000000000 := by simp
          clear HC
          go_wp2
          go_loopw [12] (fun i wr => i = .int .i64 0 ∧ w5 = wr) (fun _ _ => 0)
          case atStart => exact ⟨rfl, rfl⟩
          case round =>
            obtain ⟨rfl, rfl⟩ := hrel
            go_wp2_with (go_at_call 15; go_must (refine (HR5.out.lz.pick hla0 c HP1).mono ?_); rintro e w6 ⟨rfl, F6, hL6, hn6⟩; go_must (have HI2 := keepG (HR5.out.step hL6 hn6); have HZ6 := keepG (Nat.le_trans HW45.out hn6.chg.size); clear hL6 hn6))
            go_loopw [19] (fun i wr => i = .int .i64 0 ∧ w6 = wr) (fun _ _ => 0)
            case atStart => exact ⟨rfl, rfl⟩
            case round =>
              obtain ⟨rfl, rfl⟩ := hrel
              go_wp2_with (first
                | (at_builtin; go_must (refine wpList_append_own_at _ rfl _ _ 29 rfl w4.heap.size 3 i1 _ 1 8 Try.underlying29 hi1 hz1 hzs1 hzb1 rfl (by decide) (.slice ua 0 uc) 0 [] rfl ((HOX.out _ _ HI2.out).alloc _) ⟨_, 0, none⟩ 1 1 [.int .i64 1] rfl rfl (cell_one_new _ _ _) (one_cell _ _) (by simp [maxLen]) (by omega) (by have := HZ6.out; simp; omega) ?_); intro v9 w9 hown hgr _ _; go_must (obtain ⟨va9, vc9, ev⟩ := own_shape hown; subst ev; have HL9 := keepG (HI2.out.lz.keeps (chg_append hgr) (fun k e1 e2 => HI2.out.ap k e2 e1) (fun k e => Nat.le_trans HI2.out.ge ((HOX.out _ _ HI2.out).lt k e).1)); clear hown hgr))
                | (go_at_call 20; go_must (refine (HL9.out.ready HA1).mono ?_); rintro e w10 ⟨u10, rfl, hu, hb⟩; go_must (have HL10 := keepG (HL9.out.below hb); obtain ⟨ua10, uc10, ev⟩ := own_shape hu; subst ev; clear hu hb))
                | (go_at_call 23; go_must (refine HL10.out.turns.mono ?_); rintro e w11 ⟨rfl, rfl⟩))
              go_ret
              exact ⟨rfl, HL10.out.be⟩
        · obtain rfl : cn = A.length := by rw [HC.out, ← HA.out, show j = m.length by have := HML.out; omega]
          clear HC
          have hAA : ((A.length : Int) != A.length) = false := by simp
          go_wp2
          go_loopw [12] (fun i wr => ∃ q : Nat, q ≤ A.length ∧ i = .int .i64 q ∧ ∃ F p, Hid (Lr w wr b F ⟨m, p⟩ w4.heap.size (.slice ua A.length uc) A ∧ p.length = 2 * q)) (fun i _ => A.length - (intOf i).toNat)
          case atStart => exact ⟨0, by omega, rfl, F4, [], HR5.out, rfl⟩
          case round =>
            obtain ⟨q, hq, rfl, F, p, HI⟩ := hrel
            rename World => wr
            by_cases hqt : q < A.length
            · have hqtI : (q : Int) < A.length := by omega
              have hpl : p.length ≤ 128 := by have := HI.out.2; omega
              obtain ⟨t, HT⟩ : ∃ t, Hid (A.getD q 0 = t) := ⟨_, rfl⟩
              have HP1 := keepG (pick_here (HAK.out p) hqt)
              have HP2 := keepG (pick_back (HAK.out (p ++ [t])) hqt)
              rw [HT.out] at HP1 HP2
              have hw1 : IntKind.i64.wrap ((q : Int) - A.length) = (q : Int) - A.length := by rw [IntKind.wrap_i64]; omega
              have hla1 : (⟨m, p⟩ : Kn).p.length ≤ 1000000000000000 := by show p.length ≤ _; omega
              have hla2 : (⟨m, p ++ [t]⟩ : Kn).p.length ≤ 1000000000000000 := by show (p ++ [t]).length ≤ _; simp; omega
              have htt : (t != t) = false := by simp
              have HL1 : Hid (∀ wx Fx px, Lr w wx b Fx ⟨m, px⟩ w4.heap.size (.slice ua A.length uc) A → ∃ p5, ua = some ⟨p5, 0, none⟩ ∧ wx.cell? ⟨p5, q, none⟩ = some (.int .i64 t)) := by
                intro wx Fx px h
                obtain ⟨p5, c5, ev, _, _, hc5, _⟩ := h.store (by omega)
                simp only [Value.slice.injEq, true_and] at ev
                obtain ⟨rfl, rfl⟩ := ev
                exact ⟨p5, rfl, by rw [(hc5 q hqt).1, HT.out]⟩
              have HPL := keepG HI.out.2
              go_wp2_with (first
                | (have hq := HI2; clear hq; go_at_call 15; go_must (refine (HI2.out.lz.pick hla2 _ HP2).mono ?_); rintro e w7 ⟨rfl, F7, hL7, hn7⟩; go_must (have HI3 := keepG (HI2.out.step hL7 hn7); obtain ⟨p5, ev, e0⟩ := HL1.out _ _ _ HI3.out; subst ev; clear hL7 hn7))
                | (go_at_call 15; go_must (refine (HI.out.1.lz.pick hla1 q HP1).mono ?_); rintro e w6 ⟨rfl, F6, hL6, hn6⟩; go_must (have HI2 := keepG (HI.out.1.step hL6 hn6); clear hL6 hn6)))
              go_roundw
              case rel => exact ⟨q + 1, by omega, by go_num, F7, p ++ [t] ++ [t], HI3.out, by have := HPL.out; simp; omega⟩
              case measure => simp [intOf]; omega
            · have hqtI : ¬ (q : Int) < A.length := by omega
              have HPL : Hid (p.length = 2 * A.length) := by have := HI.out.2; show _ = _; omega
              have hla1 : (⟨m, p⟩ : Kn).p.length ≤ 1000000000000000 := by show p.length ≤ _; have := HPL.out; omega
              have hkA := HAK.out p
              have HI1 := keepG HI.out.1
              have hwa : IntKind.i64.wrap ((A.length : Int) + 1) = (A.length : Int) + 1 := by rw [IntKind.wrap_i64]; omega
              have hw2 : IntKind.i64.wrap (2 * (A.length : Int)) = 2 * (A.length : Int) := by rw [IntKind.wrap_i64]; omega
              have hAp : 0 < A.length := List.length_pos_iff.2 hA0
              have hApI : (0 : Int) < A.length := by omega
              have hA0b : ((A.length : Int) == 0) = false := by simp; omega
              obtain ⟨t, HT⟩ : ∃ t, Hid (A.getD (c % A.length).toNat 0 = t) := ⟨_, rfl⟩
              have HP1 := keepG (pick_at hkA hA0 c)
              rw [HT.out] at HP1
              obtain ⟨K6, HK6⟩ : ∃ K6, Hid ((⟨m, p ++ [t]⟩ : Kn) = K6) := ⟨_, rfl⟩
              have HA1 : Hid (K6.inM 1 = A) := by show _ = _; rw [← HK6.out]; exact HAK.out _
              have HTU : Hid ((K6.p.length : Int) = 2 * (A.length : Int) + 1) := by show _ = _; rw [← HK6.out]; have := HPL.out; show ((p ++ [t]).length : Int) = _; simp; omega
              have hw3 : IntKind.i64.wrap (2 * (A.length : Int) + 1) = 2 * (A.length : Int) + 1 := by rw [IntKind.wrap_i64]; omega
              rw [HK6.out] at HP1
              clear HPL hkA HT HI HK6
              go_wp2_with (go_at_call 15; go_must (refine (HI1.out.lz.pick hla1 c HP1).mono ?_); rintro e w6 ⟨rfl, F6, hL6, hn6⟩; go_must (have HI2 := keepG (HI1.out.step hL6 hn6); clear hL6 hn6))
              go_loopw [19] (fun i wr => ∃ (z : Nat) (X : List Int), z ≤ A.length ∧ i = .int .i64 z ∧ Hid (X.length = A.length ∧ Lr w wr b F6 K6 w4.heap.size (.slice ua A.length uc) X)) (fun i _ => A.length - (intOf i).toNat)
              case atStart => exact ⟨0, A, by omega, rfl, rfl, HI2.out⟩
              case round =>
                obtain ⟨z, X, hz, rfl, HX⟩ := hrel
                rename World => wz
                by_cases hzt : z < A.length
                · have hztI : (z : Int) < A.length := by omega
                  obtain ⟨pz, cz, ev, _, _, hcz, hst⟩ := HX.out.2.store (by have := HX.out.1; omega)
                  simp only [Value.slice.injEq, true_and] at ev
                  obtain ⟨rfl, -, rfl⟩ := ev
                  obtain ⟨e0, f0⟩ := hcz z (by have := HX.out.1; omega)
                  have HST := keepG (hst z (-3))
                  have HXL := keepG HX.out.1
                  generalize X.getD z 0 = y0 at e0
                  clear hcz hst HX
                  go_wp2
                  go_roundw
                  case rel => exact ⟨z + 1, X.set z (-3), by omega, by go_num, by rw [List.length_set]; exact HXL.out, HST.out⟩
                  case measure => simp [intOf]; omega
                · have hztI : ¬ (z : Int) < A.length := by omega
                  have HOX : Hid (wz.ownsRow w4.heap.size 3 1 (.slice ua A.length uc) A.length (X.map (Value.int .i64))) := by have h5 := HX.out.2.row; unfold RoN at h5; rw [HX.out.1] at h5; exact h5
                  have HLX := keepG HX.out.2
                  have h4z : w4.heap.size ≤ wz.heap.size := by obtain ⟨_, _, _, g1, g2, _⟩ := HX.out.2.row.cells (by have := HX.out.1; omega); omega
                  clear HX
                  go_wp2_with (first
                    | (at_builtin; go_must (refine wpList_append_own_at _ rfl _ _ 29 rfl w4.heap.size 3 i1 _ 1 8 Try.underlying29 hi1 hz1 hzs1 hzb1 rfl (by decide) (.slice ua A.length uc) A.length _ rfl (HOX.out.alloc _) ⟨_, 0, none⟩ 1 1 [.int .i64 1] rfl rfl (cell_one_new _ _ _) (one_cell _ _) (by unfold maxLen; omega) (by omega) (by simp; omega) ?_); intro v9 w9 hown hgr _ _; go_must (obtain ⟨va9, vc9, ev⟩ := own_shape hown; subst ev; have HL9 := keepG (HLX.out.lz.keeps (chg_append hgr) (fun k e1 e2 => HLX.out.ap k e2 e1) (fun k e => Nat.le_trans HLX.out.ge (HOX.out.lt k e).1)); clear hown hgr))
                    | (go_at_call 20; go_must (refine (HL9.out.ready HA1).mono ?_); rintro e w10 ⟨u10, rfl, hu, hb⟩; go_must (have HL10 := keepG (HL9.out.below hb); obtain ⟨ua10, uc10, ev⟩ := own_shape hu; subst ev; clear hu hb))
                    | (go_at_call 23; go_must (refine HL10.out.turns.mono ?_); rintro e w11 ⟨rfl, rfl⟩; go_must (rw [HTU.out])))
                  go_ret
                  exact ⟨rfl, HL10.out.be⟩
  · have HQ1 := keepG (new_set_no hrn)
    have HA1 := keepG (new_ready n)
    have hrb : ((rs.length : Int) != n) = true := by simp; omega
    clear hrn
    go_wp2_with (first
      | (go_at_call 7; go_must (refine (awake21_any w).mono ?_); rintro e w1 ⟨rfl, hb1⟩)
      | (go_at_call 8; go_must (refine (lznew_ok n h1 h64 hb1).mono ?_); rintro e w2 ⟨b, F0, rfl, hL, _, _⟩; go_must (have HL0 := keepG hL; obtain ⟨Z, HZ, HBZ⟩ : ∃ Z, Hid (w2.alloc (.cells #[] 4) = Z) ∧ Hid (Below w2.heap.size w2 Z) := ⟨_, rfl, below_allocG _ _⟩; obtain ⟨v3, w3, hr3, ho3, hg3, _⟩ := run_append_seesG (f := bK) (d := false) (P := Try.prog) Z w2.heap.size 32 32 4 i0 _ 1 1 Try.underlying32 hi0 hz0 hzs hzb rfl (by decide) (.slice (some ⟨w2.heap.size, 0, none⟩) 0 0) 0 [] (by rw [← HZ.out]; exact own_emptyK w2 _ _) bK_len (HSR.out Z (hL.be.trans (HBZ.out.mono hL.be.size))) (b_flat rs) (by unfold maxLen; omega) (by omega) HBZ.out.size; rw [Nat.zero_add, List.nil_append] at ho3; have HB3 : Hid (Below w2.heap.size w2 w3) := HBZ.out.trans ((Chg.of_grown' hg3 (S := fun k => k = w2.heap.size) (fun k e => (Option.some.inj e).symm)).below (fun k e => by omega) HBZ.out.size); have HS3 := keepG (own_seesG bK_len false ho3); have HL3 := keepG (hL.below HB3.out); have HAP3 : Hid (rs ≠ [] → Apt F0 (ftV v3)) := fun _ => Apt.made hL.lies (own_since ho3 (Nat.le_refl _)); have HR3 := keepG hr3; obtain ⟨va3, vc3, ev⟩ := own_shape ho3; subst ev; clear hL hr3 ho3 hg3))
      | (rw [HZ.out])
      | (at_builtin; go_must (refine wpList_appG _ rfl (.tmp 41) (.tmp 42) 32 32 rfl _ _ rfl rfl HR3.out ?_))
      | (go_at_call 13; go_must (refine (HL3.out.set HS3.out HAP3.out HQ1 hlz).mono ?_); rintro e w4 ⟨rfl, F4, hL4, _⟩; go_must (have HL4 := keepG hL4; clear hL4))
      | (go_at_call 20; go_must (refine (HL4.out.ready HA1).mono ?_); rintro e w5 ⟨u, rfl, hu, hb5⟩; go_must (have HL5 := keepG (HL4.out.below hb5); obtain ⟨ua, uc, ev⟩ := own_shape hu; subst ev; clear hu hb5)))
    go_ret
    exact ⟨rfl, HL5.out.be⟩
/-- KernPicks. -/
theorem kernPicks_walk (n : Int) (rv : Value) (rs : List Bool) (c : Int) (w : World) {P0 P1 : Prop} (_ : P0) (hs : SeesG bK 1 false w rv rs) (hlen : rs.length * 1 ≤ 140737488351232 ∧ ∀ x ∈ rs, True) (_ : P1) :
    Calls Try.prog 5 #[.int .i64 n, rv, .int .i64 c] w fun e w' => e = .returned (.bool true) ∧ Below w.heap.size w w' := by
  by_cases h : n < 1 ∨ 64 < n
  · exact kernPicks_no n rv c w h
  · obtain ⟨k, rfl⟩ : ∃ k : Nat, n = k := ⟨n.toNat, by omega⟩
    exact kernPicks_ok k (by omega) (by omega) rv rs c w hs (by have := hlen.1; omega)
end Go.Proofs.Ytnjmajcjdkceoaa
