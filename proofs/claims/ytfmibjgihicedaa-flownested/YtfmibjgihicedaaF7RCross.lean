/-
  What the document's crossing, entering and cost answer over bodies. Condition: at most 64 instructions, each right and leading to a place (entering, cost).
-/
import Derived.Test.YtfmibjgihicedaaF7RBody
namespace Go.Proofs.Ytfmibjgihicedaa
open Go.RowKit Go.Deep
set_option linter.unusedVariables false
set_option maxRecDepth 20000

/-- A slice of slices that reads as these rows. -/
structure SeesB (w : World) (B N : Nat) (V : Nat → Value) (rows : List (List Int)) : Prop where
  out : w.rowIs B 34 N V
  row : ∀ p, p < N → Sees .i64 w (V p) (row rows p)
  len : ∀ p, p < N → (Go.Proofs.Ytfmibjgihicedaa.row rows p).length ≤ 64
theorem SeesB.below {w w' : World} {B N : Nat} {V : Nat → Value} {rows : List (List Int)} (h : SeesB w B N V rows) (hb : Below w.heap.size w w') : SeesB w' B N V rows :=
  ⟨h.out.of_block (hb.block B h.out.lt), fun p hp => (h.row p hp).below hb (Nat.le_refl _), h.len⟩
theorem wf_ats {xs : List In} {n : Nat} (hn : n ≤ 64) (q : Int) : ∀ x ∈ aroundL (loopsU xs n) q, (Lit.int .i64 x).wf = true := fun x hx => by
  obtain ⟨l, hl, _, rfl⟩ := around_mem.1 hx
  obtain ⟨k, hk, _, rfl⟩ := loopsU_mem.1 hl
  refine WalkArith.wf_i64 ?_
  simp only [lpAt]
  omega
theorem Bd.sees {w wr : World} {V : Nat → Value} {xs : List In} (hn : xs.length ≤ 64) (h : Bd w xs.length V (fun p => aroundL (loopsL xs) p) wr) : SeesB wr w.heap.size xs.length V (bodyL xs) := by
  refine ⟨h.out, fun p hp => ?_, fun p hp => ?_⟩
  · rw [bodyL, bodyU_row hp]
    exact Sees.own (h.own p hp) (wf_ats hn p)
  · rw [bodyL, bodyU_row hp]
    have h1 := around_len (loopsU xs xs.length) p
    have h2 := loopsU_len xs xs.length
    omega
set_option maxHeartbeats 3200000 in
theorem rcross_any (v : Value) (xs : List In) (w : World) (hs : SeesI w v xs) (hn : xs.length ≤ 64) (B : Nat) (V : Nat → Value) (rows : List (List Int)) (hb : SeesB w B xs.length V rows) {R : Option Int} (hR : Hid (R = optN (first (crossRB xs rows) xs.length))) :
    Calls Try.prog 30 #[v, .slice (some ⟨B, 0, none⟩) xs.length xs.length] w fun e w' => e = .returned (optI R) ∧ w = w' := by
  have HB : Hid (SeesB w B xs.length V rows) := hb
  have hBlt := hb.out.lt
  obtain ⟨a, cap, rfl, hc, hm, hn0, hcell⟩ := hs
  have HC : Hid (xs ≠ [] → ∃ b off, a = some ⟨b, off, none⟩ ∧ b < w.heap.size ∧ ∀ k, k < xs.length → At w b (off + k * 5) (xs.getD k In.nil)) := hcell
  clear hcell hn0 hb
  go_enter Try.func30, Try.ntmps30
  go_wp2
  go_loopw [7] (fun i wr => ∃ l : Nat, l ≤ xs.length ∧ i = .int .i64 l ∧ Hid (∀ j, j < l → crossRB xs rows j = false) ∧ w = wr) (fun i _ => xs.length - (intOf i).toNat)
  case atStart => exact ⟨0, by omega, rfl, fun j hj => by omega, rfl⟩
  case round =>
    obtain ⟨l, hl, rfl, HL, rfl⟩ := hrel
    by_cases hlt : l < xs.length
    · obtain ⟨b, off, rfl, hb, hat⟩ := HC.out (fun h => by rw [h] at hlt; simp at hlt)
      have HA : Hid (∀ k, k < xs.length → At w b (off + k * 5) (xs.getD k In.nil)) := hat
      obtain ⟨c0, _, _, _, _⟩ := hat l hlt
      clear hat HC
      obtain ⟨op, HO⟩ : ∃ op, Hid ((nth xs l).op = op) := ⟨_, rfl⟩
      replace c0 : w.cell? ⟨b, off + l * 5, none⟩ = some (.int .i64 op) := by rw [← HO.out]; exact c0
      by_cases h20 : op = 20
      · subst h20
        have HX : Hid (crossRB xs rows l = (List.range l).any (pairB xs rows l)) := by show _ = _; unfold crossRB; rw [HO.out]; rfl
        go_wp2
        go_loopw [8] (fun i wr => ∃ m : Nat, m ≤ l ∧ i = .int .i64 m ∧ Hid (∀ j, j < m → pairB xs rows l j = false) ∧ w = wr) (fun i _ => l - (intOf i).toNat)
        case atStart => exact ⟨0, by omega, rfl, fun j hj => by omega, rfl⟩
        case round =>
          obtain ⟨m, hml, rfl, HM, rfl⟩ := hrel
          by_cases hmlt : m < l
          · obtain ⟨d0, _, _, _, _⟩ := HA.out m (by omega)
            obtain ⟨om, HOm⟩ : ∃ om, Hid ((nth xs m).op = om) := ⟨_, rfl⟩
            replace d0 : w.cell? ⟨b, off + m * 5, none⟩ = some (.int .i64 om) := by rw [← HOm.out]; exact d0
            by_cases hm20 : om = 20
            · subst hm20
              have HP : Hid (pairB xs rows l m = (decide (0 < cntU rows m l xs.length) && !allU rows m l xs.length)) := by show _ = _; unfold pairB; rw [HOm.out]; rfl
              go_wp2
              go_loopw [11, 9, 10] (fun i bo al wr => ∃ (p : Nat) (C : Int) (A : Bool), p ≤ xs.length ∧ i = .int .i64 p ∧ bo = .int .i64 C ∧ al = .bool A ∧ Hid (C = cntU rows m l p ∧ A = allU rows m l p) ∧ 0 ≤ C ∧ C ≤ p ∧ w = wr) (fun i _ _ _ => xs.length - (intOf i).toNat)
              case atStart => exact ⟨0, 0, true, by omega, rfl, rfl, rfl, ⟨rfl, rfl⟩, by omega, by omega, rfl⟩
              case round =>
                obtain ⟨p, C, A, hp, rfl, rfl, rfl, HCA, hC0, hC1, rfl⟩ := hrel
                by_cases hplt : p < xs.length
                · have hcv := HB.out.out.cell (i := p) hplt
                  obtain ⟨ys, HYs⟩ : ∃ ys, Hid (row rows p = ys) := ⟨_, rfl⟩
                  have HSp : Hid (Sees .i64 w (V p) ys) := by rw [← HYs.out]; exact HB.out.row p hplt
                  have HLp : Hid (ys.length ≤ 64) := by rw [← HYs.out]; exact HB.out.len p hplt
                  obtain ⟨r1, H1⟩ : ∃ r, Hid (r = memB ys m) := ⟨_, rfl⟩
                  obtain ⟨r2, H2⟩ : ∃ r, Hid (r = memB ys l) := ⟨_, rfl⟩
                  have HN : Hid (cntU rows m l (p + 1) = C + (if r1 && r2 then 1 else 0) ∧ allU rows m l (p + 1) = (A && !(r1 && !r2))) := by
                    show _ ∧ _
                    rw [cntU, allU, HCA.out.1, HCA.out.2, HYs.out, H1.out, H2.out]
                    exact ⟨rfl, rfl⟩
                  cases r1
                  · go_wp2_with (go_at_call 42; go_must (refine (has_as HSp.out HLp.out H1).mono ?_); rintro e w1 ⟨rfl, rfl⟩)
                    go_roundw
                    case rel => exact ⟨p + 1, C, A, by omega, by go_num, rfl, rfl, ⟨by rw [HN.out.1]; simp, by rw [HN.out.2]; simp⟩, by omega, by omega, by trivial⟩
                    case measure => simp [intOf]; omega
                  · cases r2
                    · go_wp2_with (first
                        | (go_at_call 42; (have hq := H1; clear hq); go_must (refine (has_as HSp.out HLp.out H1).mono ?_); rintro e w1 ⟨rfl, rfl⟩; go_must (clear H1))
                        | (go_at_call 42; (have hq := H2; clear hq); go_must (refine (has_as HSp.out HLp.out H2).mono ?_); rintro e w1 ⟨rfl, rfl⟩; go_must (clear H2)))
                      go_roundw
                      case rel => exact ⟨p + 1, C, false, by omega, by go_num, rfl, rfl, ⟨by rw [HN.out.1]; simp, by rw [HN.out.2]; simp⟩, by omega, by omega, by trivial⟩
                      case measure => simp [intOf]; omega
                    · go_wp2_with (first
                        | (go_at_call 42; (have hq := H1; clear hq); go_must (refine (has_as HSp.out HLp.out H1).mono ?_); rintro e w1 ⟨rfl, rfl⟩; go_must (clear H1))
                        | (go_at_call 42; (have hq := H2; clear hq); go_must (refine (has_as HSp.out HLp.out H2).mono ?_); rintro e w1 ⟨rfl, rfl⟩; go_must (clear H2)))
                      go_roundw
                      case rel => exact ⟨p + 1, C + 1, A, by omega, by go_num, by go_num, rfl, ⟨by rw [HN.out.1]; simp, by rw [HN.out.2]; simp⟩, by omega, by omega, by trivial⟩
                      case measure => simp [intOf]; omega
                · obtain rfl : p = xs.length := by omega
                  have HP2 : Hid (pairB xs rows l m = (decide (0 < C) && !A)) := by show _ = _; rw [HP.out, HCA.out.1, HCA.out.2]
                  by_cases hC : 0 < C
                  · cases A
                    · have HF : Hid (R = some (l : Int)) := by
                        show _ = _
                        rw [hR.out, first_some HL.out hlt, optN]
                        rw [HX.out, List.any_eq_true]
                        exact ⟨m, List.mem_range.2 hmlt, by rw [HP2.out, decide_eq_true hC]; rfl⟩
                      go_wp2
                      go_ret2
                      exact ⟨by rw [HF.out]; rfl, by trivial⟩
                    · go_wp2
                      go_roundw
                      case rel => exact ⟨m + 1, by omega, by go_num, fun j hj => by
                        by_cases e : j = m
                        · rw [e, HP2.out]; simp
                        · exact HM.out j (by omega), by trivial⟩
                      case measure => simp [intOf]; omega
                  · go_wp2
                    go_roundw
                    case rel => exact ⟨m + 1, by omega, by go_num, fun j hj => by
                      by_cases e : j = m
                      · rw [e, HP2.out, decide_eq_false hC]; rfl
                      · exact HM.out j (by omega), by trivial⟩
                    case measure => simp [intOf]; omega
            · have hmb : (om != 20) = true := by simpa using hm20
              have HP : Hid (pairB xs rows l m = false) := by show _ = _; unfold pairB; rw [HOm.out, decide_eq_false hm20]; rfl
              go_wp2
              go_roundw
              case rel => exact ⟨m + 1, by omega, by go_num, fun j hj => by
                by_cases e : j = m
                · rw [e, HP.out]
                · exact HM.out j (by omega), by trivial⟩
              case measure => simp [intOf]; omega
          · obtain rfl : m = l := by omega
            go_wp2
            go_roundw
            case rel => exact ⟨m + 1, by omega, by go_num, fun j hj => by
              by_cases e : j = m
              · rw [e, HX.out, List.any_eq_false]
                intro x hx
                rw [HM.out x (List.mem_range.1 hx)]
                simp
              · exact HL.out j (by omega), by trivial⟩
            case measure => simp [intOf]; omega
      · have hlb : (op != 20) = true := by simpa using h20
        have HP : Hid (crossRB xs rows l = false) := by show _ = _; unfold crossRB; rw [HO.out, decide_eq_false h20]; rfl
        go_wp2
        go_roundw
        case rel => exact ⟨l + 1, by omega, by go_num, fun j hj => by
          by_cases e : j = l
          · rw [e, HP.out]
          · exact HL.out j (by omega), by trivial⟩
        case measure => simp [intOf]; omega
    · obtain rfl : l = xs.length := by omega
      have HF : Hid (R = none) := by show _ = _; rw [hR.out, first_none HL.out]; rfl
      go_wp2
      go_ret2
      exact ⟨by rw [HF.out]; rfl, rfl⟩
end Go.Proofs.Ytfmibjgihicedaa
