
/-
  KernAgain, walked. Condition: none but the arguments' reading.
-/
import Derived.Test.YtnjmajcjdkceoaaW21S
import Derived.Test.YtnjmajcjdkceoaaK21Cyc
namespace Go.Proofs.Ytnjmajcjdkceoaa
open Go.RowKit
set_option linter.unusedVariables false
set_option linter.unusedSimpArgs false
set_option maxRecDepth 100000
/-- Two kerns apart, and a row of numbers. -/
structure La (w0 w : World) (a b : Nat) (F G : Ft) (K J : Kn) (B : Nat) (u : Value) (A : List Int) : Prop where
  lr : Lr w0 w a F K B u A
  lz : Lz w0 w b G J
  fg : Apt F G
  gu : Apt G (ftV u)
section
variable {w0 w w' : World} {a b B : Nat} {F F' G G' : Ft} {K K' J J' : Kn} {u : Value} {A : List Int}
theorem La.stepA (h : La w0 w a b F G K J B u A) (hl : Lz w0 w' a F' K') (hn : Nx w w' F F') : La w0 w' a b F' G K' J B u A :=
  ⟨h.lr.step hl hn, h.lz.keeps hn.chg h.fg h.lr.lz.since, h.fg.next h.lz.lies hn, h.gu⟩
theorem La.stepB (h : La w0 w a b F G K J B u A) (hl : Lz w0 w' b G' J') (hn : Nx w w' G G') : La w0 w' a b F G' K J' B u A :=
  ⟨⟨h.lr.lz.keeps hn.chg h.fg.symm h.lz.since, own_keeps h.lr.row hn.chg h.gu, h.lr.ap, h.lr.ge⟩, hl, (h.fg.symm.next h.lr.lz.lies hn).symm, h.gu.next (own_lies h.lr.row) hn⟩
end
theorem pick_same {K : Kn} {A : List Int} (hA : K.inM 1 = A) (hne : A ≠ []) {c d : Int} (e : d % A.length = c % A.length) {t : Int} (ht : A.getD (c % A.length).toNat 0 = t) : K.pick d = (t, true, ⟨K.m, K.p ++ [t]⟩) := by
  rw [pick_at hA hne, e, ht]
theorem kernAgain_no (n : Int) (rv : Value) (c : Int) (w : World) (h : n < 1 ∨ 64 < n) :
    Calls Try.prog 6 #[.int .i64 n, rv, .int .i64 c] w fun e w' => e = .returned (.bool true) ∧ Below w.heap.size w w' := by
  go_enter Try.func6, Try.ntmps6
  go_wp2_with (first
    | (go_at_call 7; go_must (refine (awake21_any w).mono ?_); rintro e w1 ⟨rfl, hb1⟩)
    | (go_at_call 8; go_must (refine (lknew_no n h _).mono ?_); rintro e w2 ⟨rfl, rfl⟩))
  go_ret
  exact ⟨rfl, hb1⟩
set_option maxHeartbeats 25600000 in
theorem kernAgain_ok (n : Nat) (h1 : 1 ≤ n) (h64 : n ≤ 64) (rv : Value) (rs : List Bool) (c : Int) (w : World) (hs : SeesG bK 1 false w rv rs) (hlen : rs.length ≤ 140737488351232) :
    Calls Try.prog 6 #[.int .i64 n, rv, .int .i64 c] w fun e w' => e = .returned (.bool true) ∧ Below w.heap.size w w' := by
  have HSR := keepG (fun (wx : World) (hb : Below w.heap.size w wx) => hs.below hb (Nat.le_refl _))
  have HOLD := keepG hs.oldB
  obtain ⟨ra, rc, rfl, hrc, hrm⟩ := hs.shape
  have hlz : Hid (rs.length ≤ 140737488355328) := Nat.le_trans hlen (by decide)
  clear hs
  go_enter Try.func6, Try.ntmps6
  by_cases hrn : rs.length = n
  · have HQ1 := keepG (new_set hrn)
    obtain ⟨m, HM⟩ : ∃ m, Hid (setM (List.replicate n 0) rs = m) := ⟨_, rfl⟩
    rw [HM.out] at HQ1
    have HML : Hid (m.length = rs.length) := by show _ = _; rw [← HM.out, setM_len (by simp [hrn])]; simp [hrn]
    obtain ⟨A, HA⟩ : ∃ A, Hid (inL m 1 m.length = A) := ⟨_, rfl⟩
    have HAK : Hid (∀ p, (⟨m, p⟩ : Kn).inM 1 = A) := fun p => HA.out
    have HA1 := keepG (HAK.out [])
    have hAl : A.length ≤ 64 := by rw [← HA.out]; have := inL_len m 1 m.length; have := HML.out; omega
    clear hrn HM
    by_cases hA0 : A = []
    · subst hA0
      go_wp2_with (first
        | (go_at_call 7; go_must (refine (awake21_any w).mono ?_); rintro e w1 ⟨rfl, hb1⟩)
        | (have hq := HL2; clear hq; go_at_call 8; go_must (refine (lznew_ok n h1 h64 HL2.out.be).mono ?_); rintro e w3 ⟨b, G0, rfl, hL, hS, hb⟩; go_must (have HL3 := keepG (And.intro (HL2.out.below hb) (And.intro hL (Apt.made HL2.out.lies hS))); clear hL hS hb))
        | (go_at_call 8; go_must (refine (lznew_ok n h1 h64 hb1).mono ?_); rintro e w2 ⟨a, F0, rfl, hL, _, _⟩; go_must (have HL2 := keepG hL; clear hL))
        | (have hq := HL4; clear hq; go_at_call 13; go_must (refine (HL4.out.2.1.set (HSR.out w4 HL4.out.1.be) (HL4.out.2.1.apt HOLD.out) HQ1 hlz).mono ?_); rintro e w5 ⟨rfl, G5, hL, hn⟩; go_must (have HL5 := keepG (HL4.out.1.keeps hn.chg (HL4.out.2.2.symm) HL4.out.2.1.since); clear hL hn))
        | (go_at_call 13; go_must (refine (HL3.out.1.set (HSR.out w3 HL3.out.1.be) (HL3.out.1.apt HOLD.out) HQ1 hlz).mono ?_); rintro e w4 ⟨rfl, F4, hL, hn⟩; go_must (have HL4 := keepG (And.intro hL (And.intro (HL3.out.2.1.keeps hn.chg HL3.out.2.2 HL3.out.1.since) (HL3.out.2.2.next HL3.out.2.1.lies hn))); clear hL hn))
        | (go_at_call 20; go_must (refine (HL5.out.ready HA1).mono ?_); rintro e w6 ⟨u, rfl, hu, hb⟩; go_must (have HL6 := keepG (HL5.out.below hb); obtain ⟨ua, uc, ev⟩ := own_shape hu; subst ev; clear hu hb)))
      go_ret
      exact ⟨rfl, HL6.out.be⟩
    · have hAp : 0 < A.length := List.length_pos_iff.2 hA0
      have hApI : (0 : Int) < A.length := by omega
      have hA0b : ((A.length : Int) == 0) = false := by simp; omega
      have hAn0 : ¬ (A.length : Int) = 0 := by omega
      have hw3 : IntKind.i64.wrap (3 * (A.length : Int)) = 3 * (A.length : Int) := by rw [IntKind.wrap_i64]; omega
      have HNE := keepG hA0
      go_wp2_with (first
        | (go_at_call 7; go_must (refine (awake21_any w).mono ?_); rintro e w1 ⟨rfl, hb1⟩)
        | (have hq := HL2; clear hq; go_at_call 8; go_must (refine (lznew_ok n h1 h64 HL2.out.be).mono ?_); rintro e w3 ⟨b, G0, rfl, hL, hS, hb⟩; go_must (have HL3 := keepG (And.intro (HL2.out.below hb) (And.intro hL (Apt.made HL2.out.lies hS))); clear hL hS hb))
        | (go_at_call 8; go_must (refine (lznew_ok n h1 h64 hb1).mono ?_); rintro e w2 ⟨a, F0, rfl, hL, _, _⟩; go_must (have HL2 := keepG hL; clear hL))
        | (have hq := HL4; clear hq; go_at_call 13; go_must (refine (HL4.out.2.1.set (HSR.out w4 HL4.out.1.be) (HL4.out.2.1.apt HOLD.out) HQ1 hlz).mono ?_); rintro e w5 ⟨rfl, G5, hL, hn⟩; go_must (have HL5 := keepG (And.intro (HL4.out.1.keeps hn.chg (HL4.out.2.2.symm) HL4.out.2.1.since) (And.intro hL (HL4.out.2.2.symm.next HL4.out.1.lies hn).symm)); clear hL hn))
        | (go_at_call 13; go_must (refine (HL3.out.1.set (HSR.out w3 HL3.out.1.be) (HL3.out.1.apt HOLD.out) HQ1 hlz).mono ?_); rintro e w4 ⟨rfl, F4, hL, hn⟩; go_must (have HL4 := keepG (And.intro hL (And.intro (HL3.out.2.1.keeps hn.chg HL3.out.2.2 HL3.out.1.since) (HL3.out.2.2.next HL3.out.2.1.lies hn))); clear hL hn))
        | (go_at_call 20; go_must (refine (HL5.out.1.ready HA1).mono ?_); rintro e w6 ⟨u, rfl, hu, hb⟩; go_must (have HL6 : Hid (La w w6 a b F4 G5 ⟨m, []⟩ ⟨m, []⟩ w5.heap.size u A) := ⟨Lr.made HL5.out.1 hu hb, HL5.out.2.1.below hb, HL5.out.2.2, Apt.made HL5.out.2.1.lies (own_since hu (Nat.le_refl _))⟩; obtain ⟨pu, uc, ev, -, -, huc, hum, -, -⟩ := hu.cells hAp; subst ev; clear hu hb)))
      clear HL2 HL3 HL4 HL5
      have HUC : Hid (∀ wx Fx Gx Kx Jx, La w wx a b Fx Gx Kx Jx w5.heap.size (.slice (some ⟨pu, 0, none⟩) A.length uc) A → ∀ k, k < A.length → wx.cell? ⟨pu, k, none⟩ = some (.int .i64 (A.getD k 0))) := by
        intro wx Fx Gx Kx Jx h k hk
        obtain ⟨p5, c5, ev, _, _, hc5, _⟩ := h.lr.store hAp
        simp only [Value.slice.injEq, Option.some.injEq, Addr.mk.injEq, and_true, true_and] at ev
        obtain ⟨rfl, rfl⟩ := ev
        exact (hc5 k hk).1
      go_loopw [12] (fun i wr => ∃ q : Nat, q ≤ 3 * A.length ∧ i = .int .i64 q ∧ ∃ F, Hid (La w wr a b F G5 ⟨m, cycL A q⟩ ⟨m, []⟩ w5.heap.size (.slice (some ⟨pu, 0, none⟩) A.length uc) A)) (fun i _ => 3 * A.length - (intOf i).toNat)
      case atStart => exact ⟨0, by omega, rfl, F4, HL6.out⟩
      case round =>
        clear HL6
        obtain ⟨q, hq, rfl, F, HI⟩ := hrel
        rename World => wr
        by_cases hqt : q < 3 * A.length
        · have hqtI : (q : Int) < 3 * (A.length : Int) := by omega
          have HQ := keepG (cyc_fair HAK.out HNE.out q)
          have hla : (⟨m, cycL A q⟩ : Kn).p.length ≤ 1000000000000000 := by show (cycL A q).length ≤ _; rw [cycL_len]; omega
          obtain ⟨k, HK⟩ : ∃ k, Hid (q % A.length = k) := ⟨_, rfl⟩
          have hkl : k < A.length := by rw [← HK.out]; exact Nat.mod_lt _ hAp
          have hklI : (k : Int) < A.length := by omega
          have hmod : (q : Int).tmod (A.length : Int) = (k : Int) := by rw [← HK.out]; rfl
          obtain ⟨t, HT⟩ : ∃ t, Hid (A.getD k 0 = t) := ⟨_, rfl⟩
          rw [HK.out, HT.out] at HQ
          have htt : (t != t) = false := by simp
          go_wp2_with (go_at_call 17; go_must (refine (HI.out.lr.lz.fair hla HQ).mono ?_); rintro e w7 ⟨rfl, F7, hL, hn⟩; go_must (have HI2 := keepG (HI.out.stepA hL hn); have d0 := HUC.out _ _ _ _ _ HI2.out k hkl; rw [HT.out] at d0; clear hL hn))
          go_roundw
          case rel => exact ⟨q + 1, by omega, by go_num, F7, HI2.out⟩
          case measure => simp [intOf]; omega
        · have hqtI : ¬ (q : Int) < 3 * (A.length : Int) := by omega
          obtain ⟨p1, p2, p3, p4⟩ := mod_parts (c := c) hAp
          obtain ⟨d, HD⟩ : ∃ d, Hid (c.tmod A.length = d) := ⟨_, rfl⟩
          have hd := HD.out
          rw [HD.out] at p1 p2 p3 p4
          have hw4 : IntKind.i64.wrap (d + A.length) = d + A.length := by rw [IntKind.wrap_i64]; omega
          obtain ⟨t, HT⟩ : ∃ t, Hid (A.getD (c % A.length).toNat 0 = t) := ⟨_, rfl⟩
          have e1 : d % A.length = c % A.length := by
            by_cases h0 : 0 ≤ d
            · rw [p1 h0, Int.emod_eq_of_lt h0 p4]
            · rw [p2 (by omega), ← Int.add_emod_right, Int.emod_eq_of_lt (by omega) (by omega)]
          have e2 : (d + A.length) % A.length = c % A.length := by rw [Int.add_emod_right, e1]
          have HP1 := keepG (pick_same (HAK.out []) HNE.out rfl HT.out)
          have HP2 := keepG (pick_same (HAK.out ([] ++ [t])) HNE.out e1 HT.out)
          have HP3 := keepG (pick_same (HAK.out ([] ++ [t] ++ [t])) HNE.out e2 HT.out)
          clear p1 p2 p3 p4 e1 e2
          go_wp2_with (first
            | (have hq := HI3; clear hq; go_at_call 15; go_must (refine (HI3.out.lz.pick (by simp) _ HP3).mono ?_); rintro e w9 ⟨rfl, G9, hL, hn⟩; go_must (have HI4 := keepG (HI3.out.stepB hL hn); clear hL hn))
            | (have hq := HI2; clear hq; go_at_call 15; go_must (refine (HI2.out.lz.pick (by simp) _ HP2).mono ?_); rintro e w8 ⟨rfl, G8, hL, hn⟩; go_must (have HI3 := keepG (HI2.out.stepB hL hn); clear hL hn))
            | (go_at_call 15; go_must (refine (HI.out.lz.pick (by simp) _ HP1).mono ?_); rintro e w7 ⟨rfl, G7, hL, hn⟩; go_must (have HI2 := keepG (HI.out.stepB hL hn); clear hL hn)))
          go_ret
          exact ⟨rfl, HI4.out.lz.be⟩
  · have HQ1 := keepG (new_set_no hrn)
    have hrb : ((rs.length : Int) != n) = true := by simp; omega
    clear hrn
    go_wp2_with (first
      | (go_at_call 7; go_must (refine (awake21_any w).mono ?_); rintro e w1 ⟨rfl, hb1⟩)
      | (have hq := HL2; clear hq; go_at_call 8; go_must (refine (lznew_ok n h1 h64 HL2.out.be).mono ?_); rintro e w3 ⟨b, G0, rfl, hL, hS, hb⟩; go_must (have HL3 := keepG (HL2.out.below hb); clear hL hS hb))
      | (go_at_call 8; go_must (refine (lznew_ok n h1 h64 hb1).mono ?_); rintro e w2 ⟨a, F0, rfl, hL, _, _⟩; go_must (have HL2 := keepG hL; clear hL))
      | (go_at_call 13; go_must (refine (HL3.out.set (HSR.out w3 HL3.out.be) (HL3.out.apt HOLD.out) HQ1 hlz).mono ?_); rintro e w4 ⟨rfl, F4, hL, hn⟩; go_must (have HL4 := keepG hL; clear hL hn)))
    go_ret
    exact ⟨rfl, HL4.out.be⟩
/-- KernAgain. -/
theorem kernAgain_walk (n : Int) (rv : Value) (rs : List Bool) (c : Int) (w : World) {P0 P1 : Prop} (_ : P0) (hs : SeesG bK 1 false w rv rs) (hlen : rs.length * 1 ≤ 140737488351232 ∧ ∀ x ∈ rs, True) (_ : P1) :
    Calls Try.prog 6 #[.int .i64 n, rv, .int .i64 c] w fun e w' => e = .returned (.bool true) ∧ Below w.heap.size w w' := by
  by_cases h : n < 1 ∨ 64 < n
  · exact kernAgain_no n rv c w h
  · obtain ⟨k, rfl⟩ : ∃ k : Nat, n = k := ⟨n.toNat, by omega⟩
    exact kernAgain_ok k (by omega) (by omega) rv rs c w hs (by have := hlen.1; omega)
end Go.Proofs.Ytnjmajcjdkceoaa
