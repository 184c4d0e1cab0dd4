
/-
  KernFair, walked. Condition: none but the arguments' reading.
-/
import Derived.Test.YtnjmajcjdkceoaaW21S
import Derived.Test.YtnjmajcjdkceoaaK21Win
namespace Go.Proofs.Ytnjmajcjdkceoaa
open Go.RowKit
set_option linter.unusedVariables false
set_option linter.unusedSimpArgs false
set_option maxRecDepth 100000
/-- A kern in which a task stays ready. -/
structure Fs (w0 w : World) (b : Nat) (F : Ft) (K : Kn) (n : Nat) (x : Int) (i : Nat) (fd : Bool) (c : Nat) : Prop where
  lz : Lz w0 w b F K
  len : K.m.length = n
  win : Win K x i fd
  cnt : K.p.length ≤ c
theorem Fs.below {w0 w w' : World} {b : Nat} {F : Ft} {K : Kn} {n : Nat} {x : Int} {i : Nat} {fd : Bool} {c : Nat} (h : Fs w0 w b F K n x i fd c) (hb : Below w.heap.size w w') : Fs w0 w' b F K n x i fd c := ⟨h.lz.below hb, h.len, h.win, h.cnt⟩
theorem Fs.turn {w0 w w' : World} {b : Nat} {F F' : Ft} {K K' : Kn} {n : Nat} {x : Int} {i : Nat} {fd : Bool} {c : Nat} (h : Fs w0 w b F K n x i fd c) (hl : Lz w0 w' b F' K') {v E : Int} {xs : List Int} (hx : x ∉ xs) (hq : K.turn v xs = (E, K')) : Fs w0 w' b F' K' n x i fd c := by
  obtain ⟨h1, h2⟩ := Kn.turn_len hq
  exact ⟨hl, by rw [h1, h.len], h.win.turn hx hq, by rw [h2]; exact h.cnt⟩
theorem in_take {t : Int} {l : List Int} {z : Nat} (hz : z < l.length) : decide (t ∈ l.take (z + 1)) = (decide (t ∈ l.take z) || (l.getD z 0 == t)) := by
  rw [take_at l z hz, Bool.eq_iff_iff]
  simp only [List.mem_append, List.mem_singleton, decide_eq_true_eq, Bool.or_eq_true, beq_iff_eq]
  constructor
  · rintro (h | h)
    · exact .inl h
    · exact .inr h.symm
  · rintro (h | h)
    · exact .inl h
    · exact .inr h.symm
theorem kernFair_no (n : Int) (sv : Value) (x : Int) (w : World) (h : n < 1 ∨ 64 < n) :
    Calls Try.prog 4 #[.int .i64 n, sv, .int .i64 x] w fun e w' => e = .returned (.bool true) ∧ Below w.heap.size w w' := by
  go_enter Try.func4, Try.ntmps4
  go_wp2_with (first
    | (go_at_call 7; go_must (refine (awake21_any w).mono ?_); rintro e w1 ⟨rfl, hb1⟩)
    | (go_at_call 8; go_must (refine (lknew_no n h _).mono ?_); rintro e w2 ⟨rfl, rfl⟩))
  go_ret
  exact ⟨rfl, hb1⟩
set_option maxHeartbeats 25600000 in
theorem kernFair_ok (n : Nat) (h1 : 1 ≤ n) (h64 : n ≤ 64) (sv : Value) (is : List Ow) (x : Int) (hx : (Lit.int .i64 x).wf = true) (w : World) (hs : Scr w sv is) (hlen : is.length * 64 ≤ 140737488351232) (hsz : ∀ o ∈ is, o.ws.length * 8 ≤ 140737488351232) :
    Calls Try.prog 4 #[.int .i64 n, sv, .int .i64 x] w fun e w' => e = .returned (.bool true) ∧ Below w.heap.size w w' := by
  have HSC := keepG hs
  have HSZ := keepG hsz
  obtain ⟨sa, sc, rfl, hsc, hsm, _, _⟩ := hs.sees
  have hsm' : sc ≤ 9223372036854775807 := by unfold maxLen at hsm; omega
  clear hs hsm hsz
  go_enter Try.func4, Try.ntmps4
  go_wp2_with (first
    | (go_at_call 7; go_must (refine (awake21_any w).mono ?_); rintro e w1 ⟨rfl, hb1⟩)
    | (go_at_call 8; go_must (refine (lznew_ok n h1 h64 hb1).mono ?_); rintro e w2 ⟨b, F0, rfl, hL, _, _⟩; go_must (have HL0 := keepG hL; clear hL)))
  go_loopw [9] (fun i wr => ∃ j : Nat, j ≤ is.length ∧ i = .int .i64 j ∧ ∃ F K, Hid (Lz w wr b F K ∧ K.m.length = n ∧ K.p.length ≤ j)) (fun i _ => is.length - (intOf i).toNat)
  case atStart => exact ⟨0, by omega, rfl, F0, Kn.new n, HL0.out, by simp [Kn.new], by simp [Kn.new]⟩
  case round =>
    clear HL0
    obtain ⟨j, hj, rfl, F, K, HM⟩ := hrel
    rename World => wr
    by_cases hlt : j < is.length
    · have hltI : (j : Int) < is.length := by omega
      obtain ⟨o, HO⟩ : ∃ o, Hid (is.getD j Ow.nil = o) := ⟨_, rfl⟩
      have hsz := HSZ.out _ (getD_memW is j hlt)
      rw [HO.out] at hsz
      obtain ⟨p, off, cap, ev, _, _, ⟨d0, d1, d2, d3⟩, hsu, _, hlu, _⟩ := HSC.out.at HM.out.1.be hlt HO.out
      simp only [Value.slice.injEq, true_and] at ev
      obtain ⟨rfl, rfl⟩ := ev
      obtain ⟨X, HX, hbX, HPX⟩ := op_box21 wr o
      have HSU := keepG (hsu.below hbX (Nat.le_refl _))
      have HLX := keepG (HM.out.1.below hbX)
      have HLU := keepG hlu
      have HKL := keepG HM.out.2
      have q0 := HPX.out.cell (j := 0) rfl
      have q1 := HPX.out.cell (j := 1) rfl
      have q2 := HPX.out.cell (j := 2) rfl
      obtain ⟨ok, oc, ou, ow, ov, ors⟩ := o
      simp only at d0 d1 d2 d3 HX hsu hlu hsz HSU HLU q0 q1 q2
      obtain ⟨ua, uc, ev⟩ := hsu.shape
      subst ev
      obtain ⟨va, vn, vc, ev⟩ : ∃ a m c, ov = .slice a m c := by
        obtain ⟨_, _, _, _, _, _, _, _, hr, _⟩ := HSC.out.at HM.out.1.be hlt HO.out
        obtain ⟨a, c, e, _⟩ := hr.shape
        exact ⟨a, _, c, e⟩
      subst ev
      have HZ : Hid (ow.length * 8 ≤ 140737488355328) := Nat.le_trans hsz (by decide)
      have hla : K.p.length ≤ 1000000000000000 := by have := HKL.out.2; omega
      clear hsu hlu HM
      by_cases hk0 : ok = 0
      · subst hk0
        obtain ⟨E, K1, HQ⟩ : ∃ E K1, Hid (K.turn 1 ow = (E, K1)) := ⟨_, _, rfl⟩
        go_wp2_with (first
          | (rw [HX.out])
          | (go_at_call 9; go_must (refine (HLX.out.wake HSU.out (HLX.out.apt HLU.out) HQ HZ).mono ?_); rintro e w5 ⟨rfl, F5, hL5, _⟩; go_must (have HL5 := keepG hL5; clear hL5)))
        go_roundw
        case rel => exact ⟨j + 1, by omega, by go_num, F5, K1, HL5.out, by rw [(Kn.turn_len HQ.out).1]; exact HKL.out.1, by rw [(Kn.turn_len HQ.out).2]; have := HKL.out.2; omega⟩
        case measure => simp [intOf]; omega
      have hk0b : (ok == 0) = false := by simpa using hk0
      by_cases hk1 : ok = 1
      · subst hk1
        obtain ⟨E, K1, HQ⟩ : ∃ E K1, Hid (K.turn 0 ow = (E, K1)) := ⟨_, _, rfl⟩
        go_wp2_with (first
          | (rw [HX.out])
          | (go_at_call 11; go_must (refine (HLX.out.sleep HSU.out (HLX.out.apt HLU.out) HQ HZ).mono ?_); rintro e w5 ⟨rfl, F5, hL5, _⟩; go_must (have HL5 := keepG hL5; clear hL5)))
        go_roundw
        case rel => exact ⟨j + 1, by omega, by go_num, F5, K1, HL5.out, by rw [(Kn.turn_len HQ.out).1]; exact HKL.out.1, by rw [(Kn.turn_len HQ.out).2]; have := HKL.out.2; omega⟩
        case measure => simp [intOf]; omega
      have hk1b : (ok == 1) = false := by simpa using hk1
      by_cases hk2 : ok = 2
      · subst hk2
        obtain ⟨E, K1, HQ⟩ : ∃ E K1, Hid (K.turn 2 ow = (E, K1)) := ⟨_, _, rfl⟩
        go_wp2_with (first
          | (rw [HX.out])
          | (go_at_call 12; go_must (refine (HLX.out.done HSU.out (HLX.out.apt HLU.out) HQ HZ).mono ?_); rintro e w5 ⟨rfl, F5, hL5, _⟩; go_must (have HL5 := keepG hL5; clear hL5)))
        go_roundw
        case rel => exact ⟨j + 1, by omega, by go_num, F5, K1, HL5.out, by rw [(Kn.turn_len HQ.out).1]; exact HKL.out.1, by rw [(Kn.turn_len HQ.out).2]; have := HKL.out.2; omega⟩
        case measure => simp [intOf]; omega
      have hk2b : (ok == 2) = false := by simpa using hk2
      by_cases hk4 : ok = 4
      · subst hk4
        obtain ⟨t, r, K1, HQ⟩ : ∃ t r K1, Hid (K.pick oc = (t, r, K1)) := ⟨_, _, _, rfl⟩
        go_wp2_with (first
          | (rw [HX.out])
          | (go_at_call 15; go_must (refine (HLX.out.pick hla oc HQ).mono ?_); rintro e w5 ⟨rfl, F5, hL5, _⟩; go_must (have HL5 := keepG hL5; clear hL5)))
        go_roundw
        case rel => exact ⟨j + 1, by omega, by go_num, F5, K1, HL5.out, by rw [(Kn.pick_len HQ.out).1]; exact HKL.out.1, by have := (Kn.pick_len HQ.out).2.1; have := HKL.out.2; omega⟩
        case measure => simp [intOf]; omega
      have hk4b : (ok == 4) = false := by simpa using hk4
      obtain ⟨t, r, K1, HQ⟩ : ∃ t r K1, Hid (K.fair = (t, r, K1)) := ⟨_, _, _, rfl⟩
      go_wp2_with (first
        | (rw [HX.out])
        | (go_at_call 17; go_must (refine (HLX.out.fair hla HQ).mono ?_); rintro e w5 ⟨rfl, F5, hL5, _⟩; go_must (have HL5 := keepG hL5; clear hL5)))
      go_roundw
      case rel => exact ⟨j + 1, by omega, by go_num, F5, K1, HL5.out, by rw [(Kn.fair_len HQ.out).1]; exact HKL.out.1, by have := (Kn.fair_len HQ.out).2.1; have := HKL.out.2; omega⟩
      case measure => simp [intOf]; omega
    · have hltI : ¬ (j : Int) < is.length := by omega
      obtain ⟨E, K1, HQ⟩ : ∃ E K1, Hid (K.turn 1 [x] = (E, K1)) := ⟨_, _, rfl⟩
      have HWC := keepG (wake_cases HQ.out)
      obtain ⟨Z, HZ, hbZ, HSZ1⟩ := lit_one wr x hx
      have HLZ := keepG (HM.out.1.below hbZ)
      have HAZ := keepG (HM.out.1.aptN (α := Int) (ws := [x]) (v := .slice (some ⟨wr.heap.size, 0, none⟩) 1 1) (fun k e => ft_lit e))
      have HKL := keepG HM.out.2
      clear HM hbZ
      rcases HWC.out with ⟨e1, e2, e3⟩ | ⟨e1, e2, e3⟩ | ⟨e1, e2, e3⟩
      · subst e1
        have HH := keepG e2
        clear HWC e2 e3
        by_cases hx0 : x < 0
        · go_wp2_with (rw [HZ.out]; go_at_call 9; go_must (refine (HLZ.out.wake HSZ1.out HAZ.out HQ).mono ?_); rintro e w4 ⟨rfl, F4, hL4, _⟩; go_must (have HL4 := keepG hL4; clear hL4))
          go_ret
          exact ⟨rfl, HL4.out.be⟩
        · have hxn : (n : Int) ≤ x := by
            rcases Kn.has_no HH.out with e | e
            · exact absurd e hx0
            · rw [HKL.out.1] at e; exact e
          go_wp2_with (rw [HZ.out]; go_at_call 9; go_must (refine (HLZ.out.wake HSZ1.out HAZ.out HQ).mono ?_); rintro e w4 ⟨rfl, F4, hL4, _⟩; go_must (have HL4 := keepG hL4; clear hL4))
          go_ret
          exact ⟨rfl, HL4.out.be⟩
      · subst e1 e3
        obtain ⟨A, HA⟩ : ∃ A, Hid (K1.inM 2 = A) := ⟨_, rfl⟩
        have hh := (Kn.mem_inM.1 e2).1
        rw [HA.out] at e2
        have hAp : 0 < A.length := List.length_pos_iff.2 (fun e => by rw [e] at e2; cases e2)
        have hApI : (0 : Int) < A.length := by omega
        obtain ⟨k, rfl, hk⟩ := Kn.has_nat hh
        rw [HKL.out.1] at hk
        have hx0 : ¬ (k : Int) < 0 := by omega
        have hxn : ¬ (n : Int) ≤ k := by omega
        clear HWC e2 hh
        go_wp2_with (first
          | (rw [HZ.out]; go_at_call 9; go_must (refine (HLZ.out.wake HSZ1.out HAZ.out HQ).mono ?_); rintro e w4 ⟨rfl, F4, hL4, _⟩; go_must (have HL4 := keepG hL4; clear hL4))
          | (go_at_call 22; go_must (refine (HL4.out.ended HA).mono ?_); rintro e w5 ⟨u, rfl, hu, hb⟩; go_must (obtain ⟨ua, uc, ev⟩ := own_shape hu; subst ev; have HL5 := keepG (HL4.out.below hb); clear hu hb)))
        go_ret
        exact ⟨rfl, HL5.out.be⟩
      · subst e1
        have HWN := keepG e2
        have HPP := keepG e3
        have HL1 : Hid (K1.m.length = n) := by show _ = _; rw [(Kn.turn_len HQ.out).1]; exact HKL.out.1
        clear HWC e2 e3
        go_wp2_with (rw [HZ.out]; go_at_call 9; go_must (refine (HLZ.out.wake HSZ1.out HAZ.out HQ).mono ?_); rintro e w4 ⟨rfl, F4, hL4, _⟩; go_must (have HF4 : Hid (Fs w w4 b F4 K1 n x 0 false is.length) := ⟨hL4, HL1.out, HWN.out, by rw [HPP.out]; have := HKL.out.2; omega⟩; clear hL4))
        clear HWN HPP HL1 HLZ HAZ HSZ1 HKL
        go_loopw [11, 12] (fun f i wq => ∃ (q : Nat) (fd : Bool), q ≤ n ∧ f = .bool fd ∧ i = .int .i64 q ∧ ∃ F K, Hid (Fs w wq b F K n x q fd (is.length + q))) (fun _ i _ => n - (intOf i).toNat)
        case atStart => exact ⟨0, false, by omega, rfl, rfl, F4, K1, HF4.out⟩
        case round =>
          clear HF4 HQ
          obtain ⟨q, fd, hq, rfl, rfl, F, K, HF⟩ := hrel
          rename World => wq
          by_cases hqt : q < n
          · have hqtI : (q : Int) < n := by omega
            obtain ⟨t, e1, e2, e3, e4⟩ := HF.out.win.fair
            have HQF := keepG e1
            have HTI := keepG e2
            obtain ⟨A, HA⟩ : ∃ A, Hid (K.inM 1 = A) := ⟨_, rfl⟩
            rw [HA.out] at HTI
            have hA6 : A.length ≤ 64 := by rw [← HA.out]; have := K.inM_len 1; have := HF.out.len; omega
            have HTW : Hid ((Lit.int .i64 t).wf = true) := by
              obtain ⟨k, e, hk⟩ := Kn.has_nat e3
              subst e
              have := HF.out.lz.ok.len.2
              show (Lit.int .i64 (k : Int)).wf = true
              exact WalkArith.wf_i64 (by omega)
            obtain ⟨e, HE⟩ : ∃ e, Hid ((t == x) = e) := ⟨_, rfl⟩
            have he := HE.out
            have hne : (t != x) = !e := by rw [← he]; rfl
            have HWF := e4
            rw [he] at HWF
            have HW2 := keepG HWF
            have hla : K.p.length ≤ 1000000000000000 := by have := HF.out.cnt; omega
            clear e1 e2 e3 e4 HWF
            go_wp2_with (first
              | (go_at_call 20; go_must (refine (HF.out.lz.ready HA).mono ?_); rintro e w6 ⟨u, rfl, hu, hb⟩; go_must (obtain ⟨ua, uc, ev⟩ := own_shape hu; subst ev; have HLr6 := keepG (Lr.made HF.out.lz hu hb); clear hu hb))
              | (go_at_call 17; go_must (refine (HLr6.out.lz.fair hla HQF).mono ?_); rintro e w7 ⟨rfl, F7, hL7, hn7⟩; go_must (have HR7 := keepG (HLr6.out.step hL7 hn7).row; have HF7 : Hid (Fs w w7 b F7 ⟨K.m, K.p ++ [t]⟩ n x (q + 1) (fd || e) (is.length + (q + 1))) := ⟨hL7, HF.out.len, HW2.out, by have := HF.out.cnt; show (K.p ++ [t]).length ≤ _; simp; omega⟩; clear hL7 hn7)))
            clear HLr6 HW2
            obtain ⟨K7, HK7⟩ : ∃ K7, Hid ((⟨K.m, K.p ++ [t]⟩ : Kn) = K7) := ⟨_, rfl⟩
            rw [HK7.out] at HF7
            go_loopw [16, 17] (fun f i wk => ∃ (z : Nat) (th : Bool), z ≤ A.length ∧ f = .bool th ∧ i = .int .i64 z ∧ Hid (decide (t ∈ A.take z) = th) ∧ w7 = wk) (fun _ i _ => A.length - (intOf i).toNat)
            case atStart => exact ⟨0, false, by omega, rfl, rfl, by show _ = _; simp, rfl⟩
            case round =>
              obtain ⟨z, th, hz, rfl, rfl, HTH, rfl⟩ := hrel
              by_cases hzt : z < A.length
              · have hztI : (z : Int) < A.length := by omega
                obtain ⟨pu, cu, ev, huc, hat⟩ := RoN.atK HR7.out hzt
                simp only [Value.slice.injEq, true_and] at ev
                obtain ⟨rfl, rfl⟩ := ev
                have d0 := hat z hzt
                have hin := in_take (t := t) hzt
                obtain ⟨y, HY⟩ : ∃ y, Hid (A.getD z 0 = y) := ⟨_, rfl⟩
                rw [HY.out] at d0 hin
                rw [HTH.out] at hin
                have HIN := keepG hin
                clear hat hin
                cases th with
                | true =>
                  go_wp2
                  go_roundw
                  case rel => exact ⟨z + 1, true, by omega, rfl, by go_num, by show _ = _; rw [HIN.out]; rfl, by first | rfl | trivial⟩
                  case measure => simp [intOf]; omega
                | false =>
                  obtain ⟨g, HG⟩ : ∃ g, Hid ((y == t) = g) := ⟨_, rfl⟩
                  have hg := HG.out
                  rw [Bool.false_or, hg] at HIN
                  go_wp2
                  go_roundw
                  case rel => exact ⟨z + 1, g, by omega, rfl, by go_num, HIN.out, by first | rfl | trivial⟩
                  case measure => simp [intOf]; omega
              · have hztI : ¬ (z : Int) < A.length := by omega
                obtain rfl : th = true := by rw [← HTH.out, List.take_of_length_le (by omega)]; exact decide_eq_true HTI.out
                clear HTH HR7
                cases fd with
                | true =>
                  rw [Bool.true_or] at HF7
                  cases e with
                  | true =>
                    (try rw [Bool.not_true] at hne)
                    by_cases hqi : q < is.length
                    · have hqiI : (q : Int) < is.length := by omega
                      go_wp2
                      go_roundw
                      case rel => exact ⟨q + 1, true, by omega, by first | rfl | go_num, by first | rfl | go_num, F7, K7, HF7.out⟩
                      case measure => simp [intOf]; omega
                    · have hqiI : ¬ (q : Int) < is.length := by omega
                      go_wp2
                      go_roundw
                      case rel => exact ⟨q + 1, true, by omega, by first | rfl | go_num, by first | rfl | go_num, F7, K7, HF7.out⟩
                      case measure => simp [intOf]; omega
                  | false =>
                    (try rw [Bool.not_false] at hne)
                    by_cases hqi : q < is.length
                    · have hqiI : (q : Int) < is.length := by omega
                      obtain ⟨E, K8, HQ8⟩ : ∃ E K8, Hid (K7.turn 0 [t] = (E, K8)) := ⟨_, _, rfl⟩
                      obtain ⟨Z, HZ, hbZ, HSZ2⟩ := lit_one w7 t HTW.out
                      have HFZ := keepG (HF7.out.below hbZ)
                      have HAZ := keepG (HF7.out.lz.aptN (α := Int) (ws := [t]) (v := .slice (some ⟨w7.heap.size, 0, none⟩) 1 1) (fun k e => ft_lit e))
                      have HXT : Hid (x ∉ [t]) := by
                        intro e
                        have : x = t := List.mem_singleton.1 e
                        rw [this] at he
                        simp at he
                      obtain ⟨o, HO⟩ : ∃ o, Hid (is.getD q Ow.nil = o) := ⟨_, rfl⟩
                      have hsz := HSZ.out _ (getD_memW is q hqi)
                      rw [HO.out] at hsz
                      have HAT := keepG (fun (wx : World) (hb : Below w.heap.size w wx) => HSC.out.at hb hqi HO.out)
                      clear hbZ
                      go_wp2_with (rw [HZ.out]; go_at_call 11; go_must (refine (HFZ.out.lz.sleep HSZ2.out HAZ.out HQ8).mono ?_); rintro e' w8 ⟨rfl, F8, hL8, _⟩; go_must (have HF8 := keepG (HFZ.out.turn hL8 HXT.out HQ8.out); clear hL8))
                      clear HFZ HAZ HSZ2
                      go_loopw [18] (fun i wk => ∃ z : Nat, z ≤ o.ws.length ∧ i = .int .i64 z ∧ ∃ F K, Hid (Fs w wk b F K n x (q + 1) true (is.length + (q + 1)))) (fun i _ => o.ws.length - (intOf i).toNat)
                      case atStart => exact ⟨0, by omega, rfl, F8, K8, HF8.out⟩
                      case round =>
                        clear HF8 HQ8
                        obtain ⟨z, hz, rfl, F9, K9, HF9⟩ := hrel
                        rename World => wk
                        obtain ⟨p, off, cap, ev, _, _, ⟨d0, d1, d2, d3⟩, hsu, _, _, _⟩ := HAT.out wk HF9.out.lz.be
                        simp only [Value.slice.injEq, true_and] at ev
                        obtain ⟨rfl, rfl⟩ := ev
                        have hwf := hsu.wf
                        have HSU := keepG hsu
                        obtain ⟨ua9, uc9, ev9⟩ := hsu.shape
                        rw [ev9] at d2 HSU
                        clear hsu
                        by_cases hzt : z < o.ws.length
                        · have hztI : (z : Int) < o.ws.length := by omega
                          obtain ⟨pt, ot, rfl, _, hat⟩ := HSU.out.atK hzt
                          have g0 := hat z hzt
                          have hyw := hwf _ (getD_mem o.ws z hzt)
                          obtain ⟨y, HY⟩ : ∃ y, Hid (o.ws.getD z 0 = y) := ⟨_, rfl⟩
                          rw [HY.out] at g0 hyw
                          clear hat hwf
                          by_cases hyx : y = x
                          · have hyb : (y != x) = false := by simpa using hyx
                            clear hyx
                            go_wp2
                            go_roundw
                            case rel => exact ⟨z + 1, by omega, by go_num, F9, K9, HF9.out⟩
                            case measure => simp [intOf]; omega
                          · have hyb : (y != x) = true := by simpa using hyx
                            obtain ⟨E2, K10, HQ10⟩ : ∃ E K10, Hid (K9.turn 1 [y] = (E, K10)) := ⟨_, _, rfl⟩
                            obtain ⟨Z2, HZ2, hbZ2, HSZ3⟩ := lit_one wk y hyw
                            have HFZ := keepG (HF9.out.below hbZ2)
                            have HAZ := keepG (HF9.out.lz.aptN (α := Int) (ws := [y]) (v := .slice (some ⟨wk.heap.size, 0, none⟩) 1 1) (fun k e => ft_lit e))
                            have HXT2 : Hid (x ∉ [y]) := by
                              intro e
                              exact hyx (List.mem_singleton.1 e).symm
                            clear hyx hbZ2
                            go_wp2_with (rw [HZ2.out]; go_at_call 9; go_must (refine (HFZ.out.lz.wake HSZ3.out HAZ.out HQ10).mono ?_); rintro e' w10 ⟨rfl, F10, hL10, _⟩; go_must (have HF10 := keepG (HFZ.out.turn hL10 HXT2.out HQ10.out); clear hL10))
                            go_roundw
                            case rel => exact ⟨z + 1, by omega, by go_num, F10, K10, HF10.out⟩
                            case measure => simp [intOf]; omega
                        · have hztI : ¬ (z : Int) < o.ws.length := by omega
                          go_wp2
                          go_roundw
                          case rel => exact ⟨q + 1, true, by omega, by first | rfl | go_num, by first | rfl | go_num, F9, K9, HF9.out⟩
                          case measure => simp [intOf]; omega
                    · have hqiI : ¬ (q : Int) < is.length := by omega
                      go_wp2
                      go_roundw
                      case rel => exact ⟨q + 1, true, by omega, by first | rfl | go_num, by first | rfl | go_num, F7, K7, HF7.out⟩
                      case measure => simp [intOf]; omega
                | false =>
                  rw [Bool.false_or] at HF7
                  cases e with
                  | true =>
                    (try rw [Bool.not_true] at hne)
                    by_cases hqi : q < is.length
                    · have hqiI : (q : Int) < is.length := by omega
                      go_wp2
                      go_roundw
                      case rel => exact ⟨q + 1, true, by omega, by first | rfl | go_num, by first | rfl | go_num, F7, K7, HF7.out⟩
                      case measure => simp [intOf]; omega
                    · have hqiI : ¬ (q : Int) < is.length := by omega
                      go_wp2
                      go_roundw
                      case rel => exact ⟨q + 1, true, by omega, by first | rfl | go_num, by first | rfl | go_num, F7, K7, HF7.out⟩
                      case measure => simp [intOf]; omega
                  | false =>
                    (try rw [Bool.not_false] at hne)
                    by_cases hqi : q < is.length
                    · have hqiI : (q : Int) < is.length := by omega
                      obtain ⟨E, K8, HQ8⟩ : ∃ E K8, Hid (K7.turn 0 [t] = (E, K8)) := ⟨_, _, rfl⟩
                      obtain ⟨Z, HZ, hbZ, HSZ2⟩ := lit_one w7 t HTW.out
                      have HFZ := keepG (HF7.out.below hbZ)
                      have HAZ := keepG (HF7.out.lz.aptN (α := Int) (ws := [t]) (v := .slice (some ⟨w7.heap.size, 0, none⟩) 1 1) (fun k e => ft_lit e))
                      have HXT : Hid (x ∉ [t]) := by
                        intro e
                        have : x = t := List.mem_singleton.1 e
                        rw [this] at he
                        simp at he
                      obtain ⟨o, HO⟩ : ∃ o, Hid (is.getD q Ow.nil = o) := ⟨_, rfl⟩
                      have hsz := HSZ.out _ (getD_memW is q hqi)
                      rw [HO.out] at hsz
                      have HAT := keepG (fun (wx : World) (hb : Below w.heap.size w wx) => HSC.out.at hb hqi HO.out)
                      clear hbZ
                      go_wp2_with (rw [HZ.out]; go_at_call 11; go_must (refine (HFZ.out.lz.sleep HSZ2.out HAZ.out HQ8).mono ?_); rintro e' w8 ⟨rfl, F8, hL8, _⟩; go_must (have HF8 := keepG (HFZ.out.turn hL8 HXT.out HQ8.out); clear hL8))
                      clear HFZ HAZ HSZ2
                      go_loopw [18] (fun i wk => ∃ z : Nat, z ≤ o.ws.length ∧ i = .int .i64 z ∧ ∃ F K, Hid (Fs w wk b F K n x (q + 1) false (is.length + (q + 1)))) (fun i _ => o.ws.length - (intOf i).toNat)
                      case atStart => exact ⟨0, by omega, rfl, F8, K8, HF8.out⟩
                      case round =>
                        clear HF8 HQ8
                        obtain ⟨z, hz, rfl, F9, K9, HF9⟩ := hrel
                        rename World => wk
                        obtain ⟨p, off, cap, ev, _, _, ⟨d0, d1, d2, d3⟩, hsu, _, _, _⟩ := HAT.out wk HF9.out.lz.be
                        simp only [Value.slice.injEq, true_and] at ev
                        obtain ⟨rfl, rfl⟩ := ev
                        have hwf := hsu.wf
                        have HSU := keepG hsu
                        obtain ⟨ua9, uc9, ev9⟩ := hsu.shape
                        rw [ev9] at d2 HSU
                        clear hsu
                        by_cases hzt : z < o.ws.length
                        · have hztI : (z : Int) < o.ws.length := by omega
                          obtain ⟨pt, ot, rfl, _, hat⟩ := HSU.out.atK hzt
                          have g0 := hat z hzt
                          have hyw := hwf _ (getD_mem o.ws z hzt)
                          obtain ⟨y, HY⟩ : ∃ y, Hid (o.ws.getD z 0 = y) := ⟨_, rfl⟩
                          rw [HY.out] at g0 hyw
                          clear hat hwf
                          by_cases hyx : y = x
                          · have hyb : (y != x) = false := by simpa using hyx
                            clear hyx
                            go_wp2
                            go_roundw
                            case rel => exact ⟨z + 1, by omega, by go_num, F9, K9, HF9.out⟩
                            case measure => simp [intOf]; omega
                          · have hyb : (y != x) = true := by simpa using hyx
                            obtain ⟨E2, K10, HQ10⟩ : ∃ E K10, Hid (K9.turn 1 [y] = (E, K10)) := ⟨_, _, rfl⟩
                            obtain ⟨Z2, HZ2, hbZ2, HSZ3⟩ := lit_one wk y hyw
                            have HFZ := keepG (HF9.out.below hbZ2)
                            have HAZ := keepG (HF9.out.lz.aptN (α := Int) (ws := [y]) (v := .slice (some ⟨wk.heap.size, 0, none⟩) 1 1) (fun k e => ft_lit e))
                            have HXT2 : Hid (x ∉ [y]) := by
                              intro e
                              exact hyx (List.mem_singleton.1 e).symm
                            clear hyx hbZ2
                            go_wp2_with (rw [HZ2.out]; go_at_call 9; go_must (refine (HFZ.out.lz.wake HSZ3.out HAZ.out HQ10).mono ?_); rintro e' w10 ⟨rfl, F10, hL10, _⟩; go_must (have HF10 := keepG (HFZ.out.turn hL10 HXT2.out HQ10.out); clear hL10))
                            go_roundw
                            case rel => exact ⟨z + 1, by omega, by go_num, F10, K10, HF10.out⟩
                            case measure => simp [intOf]; omega
                        · have hztI : ¬ (z : Int) < o.ws.length := by omega
                          go_wp2
                          go_roundw
                          case rel => exact ⟨q + 1, false, by omega, by first | rfl | go_num, by first | rfl | go_num, F9, K9, HF9.out⟩
                          case measure => simp [intOf]; omega
                    · have hqiI : ¬ (q : Int) < is.length := by omega
                      go_wp2
                      go_roundw
                      case rel => exact ⟨q + 1, false, by omega, by first | rfl | go_num, by first | rfl | go_num, F7, K7, HF7.out⟩
                      case measure => simp [intOf]; omega
          · have hqtI : ¬ (q : Int) < n := by omega
            have hfd : fd = true := Win.end HF.out.lz.ok (by rw [HF.out.len, show n = q by omega]; exact HF.out.win)
            subst hfd
            go_wp2
            go_ret
            exact ⟨rfl, HF.out.lz.be⟩
/-- KernFair. -/
theorem kernFair_walk (n : Int) (sv : Value) (is : List Ow) (x : Int) (w : World) {P0 : Prop} (_ : P0) (hs : Scr w sv is) (hlen : is.length * 64 ≤ 140737488351232 ∧ ∀ o ∈ is, o.ws.length * 8 ≤ 140737488351232 ∧ o.rs.length ≤ 140737488351232) (hx : -9223372036854775808 ≤ x ∧ x ≤ 9223372036854775807) :
    Calls Try.prog 4 #[.int .i64 n, sv, .int .i64 x] w fun e w' => e = .returned (.bool true) ∧ Below w.heap.size w w' := by
  by_cases h : n < 1 ∨ 64 < n
  · exact kernFair_no n sv x w h
  · obtain ⟨k, rfl⟩ : ∃ k : Nat, n = k := ⟨n.toNat, by omega⟩
    exact kernFair_ok k (by omega) (by omega) sv is x (WalkArith.wf_i64 (by omega)) w hs hlen.1 (fun o ho => (hlen.2 o ho).1)
end Go.Proofs.Ytnjmajcjdkceoaa
