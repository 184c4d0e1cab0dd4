/-
  What the document's Check answers. Condition: the arguments read as a list of types.
-/
import Derived.Test.YtpgkjoahngfgnaaDoorT8Check
namespace Go.Proofs.YtpgkjoahngfgnaaDoor
open Go.RowKit
set_option linter.unusedVariables false
set_option maxRecDepth 100000

set_option maxHeartbeats 1600000 in
theorem rcheck_any (h : Int) (v : Value) (xs : List Ty) (w : World) (hs : SeesT w v xs) : Calls Tryd.prog 21 #[.int .i64 h, v] w fun e w' => e = .returned (.int .i64 (checkL h xs)) ∧ Below w.heap.size w w' := by
  by_cases hc : 0 ≤ h ∧ h < 7
  · obtain ⟨hc0, hc1⟩ := id hc
    by_cases hl : xs.length = (argsL h).length
    · have HE : Hid (checkL h xs = fitL xs (argsL h)) := by show _ = _; unfold checkL; rw [if_neg (by omega), if_neg (by omega)]
      have HL : Hid (xs.length = (argsL h).length) := hl
      obtain ⟨a, cap, rfl, hcap, hmax, hnone, hcell⟩ := hs
      have HS : Hid (xs ≠ [] → ∃ b off, a = some ⟨b, off, none⟩ ∧ b < w.heap.size ∧ ∀ k, k < xs.length → AtT w b (off + k * 4) (xs.getD k Ty.nil)) := hcell
      obtain ⟨n, HN⟩ : ∃ n, Hid (xs.length = n) := ⟨_, rfl⟩
      obtain ⟨ts, HTS⟩ : ∃ ts, Hid (ts = argsL h) := ⟨_, rfl⟩
      have HLT : Hid (ts.length = n) := by show _ = _; rw [HTS.out, ← HL.out, HN.out]
      rw [HN.out] at hcap ⊢
      unfold maxLen at hmax
      clear hl hc hcell hnone HL
      go_enter Tryd.func21, Tryd.ntmps21
      go_wp2_with (first
        | (go_at_call 18; go_must (refine (rargs_any h _).mono ?_); rintro e w2 ⟨u2, rfl, hown2, hb2⟩; go_must (rw [← HTS.out] at hown2; obtain ⟨a2, c2, rfl, hcap2, hmax2, _, hcell2⟩ := own_seesT hown2; (have HS2 : Hid (ts ≠ [] → ∃ b off, a2 = some ⟨b, off, none⟩ ∧ b < w2.heap.size ∧ ∀ k, k < ts.length → AtT w2 b (off + k * 4) (ts.getD k Ty.nil)) := hcell2); rw [HLT.out] at hcap2 ⊢; unfold maxLen at hmax2; clear hown2 hcell2)))
      have hz2 := hb2.size
      go_loopw [6] (fun i wr => ∃ k : Nat, k ≤ n ∧ i = .int .i64 k ∧ fitL xs ts = fitL (xs.drop k) (ts.drop k) ∧ Below w2.heap.size w2 wr) (fun i _ => n - (intOf i).toNat)
      case atStart => exact ⟨0, by omega, rfl, rfl, Below.refl _ _⟩
      case round =>
        obtain ⟨k, hk, rfl, hf, hbr⟩ := hrel
        have HF : Hid (fitL xs ts = fitL (xs.drop k) (ts.drop k)) := hf
        have hzr := hbr.size
        clear hf
        by_cases hlt : k < n
        · obtain ⟨b, off, rfl, hb, hat⟩ := HS.out (fun h => by have := HN.out; rw [h] at this; simp at this; omega)
          obtain ⟨b2, off2, rfl, hbb2, hat2⟩ := HS2.out (fun h => by have := HLT.out; rw [h] at this; simp at this; omega)
          obtain ⟨x, HX⟩ : ∃ x, Hid (x = xs.getD k Ty.nil) := ⟨_, rfl⟩
          obtain ⟨t, HTT⟩ : ∃ t, Hid (t = ts.getD k Ty.nil) := ⟨_, rfl⟩
          have hA : AtT wr b (off + k * 4) x := by rw [HX.out]; exact ((hat k (by have := HN.out; omega)).below hb2 hb).below hbr (by omega)
          have hA2 : AtT wr b2 (off2 + k * 4) t := by rw [HTT.out]; exact (hat2 k (by have := HLT.out; omega)).below hbr hbb2
          have HQ : Hid (fitL xs ts = if fitsL x t ≠ 0 then fitsL x t else fitL (xs.drop (k + 1)) (ts.drop (k + 1))) := by
            show _ = _
            rw [HF.out, fitL_step (by rw [HN.out, HLT.out]) (by rw [HLT.out]; exact hlt), HX.out, HTT.out]
          obtain ⟨xk, xl, xh, xm⟩ := x
          obtain ⟨tk, tl, th, tm⟩ := t
          have hAt : At2 wr b (off + k * 4) ⟨xk, xl, xh, xm⟩ b2 (off2 + k * 4) ⟨tk, tl, th, tm⟩ := ⟨hA, hA2⟩
          have hzb : b < wr.heap.size := by omega
          have hzb2 : b2 < wr.heap.size := by omega
          clear hat hat2 hA hA2 HF
          by_cases hkk : xk = tk
          · subst hkk
            by_cases h1 : xk = 1
            · subst h1
              obtain ⟨r, HR⟩ : ∃ r, Hid (r = withinB xl xh tl th) := ⟨_, rfl⟩
              cases r
              · have HE3 : Hid (fitL xs ts = 35) := by show _ = _; rw [HQ.out]; simp [fitsL, ← HR.out]
                go_wp2
                go_region_held3 (fun w' => (w'.cell? ⟨b, off + k * 4, none⟩ = some (.int .i64 1) ∧ w'.cell? ⟨b, off + k * 4 + 1, none⟩ = some (.int .u64 xl) ∧ w'.cell? ⟨b, off + k * 4 + 2, none⟩ = some (.int .u64 xh) ∧ w'.cell? ⟨b, off + k * 4 + 3, none⟩ = some (.int .i64 xm)) ∧ w'.cell? ⟨b2, off2 + k * 4, none⟩ = some (.int .i64 1) ∧ w'.cell? ⟨b2, off2 + k * 4 + 1, none⟩ = some (.int .u64 tl) ∧ w'.cell? ⟨b2, off2 + k * 4 + 2, none⟩ = some (.int .u64 th) ∧ w'.cell? ⟨b2, off2 + k * 4 + 3, none⟩ = some (.int .i64 tm))
                  (first | exact hAt3 | exact hAt)
                  (first | (fail))
                go_wp2
                go_region_held3 (fun w' => (w'.cell? ⟨b, off + k * 4, none⟩ = some (.int .i64 1) ∧ w'.cell? ⟨b, off + k * 4 + 1, none⟩ = some (.int .u64 xl) ∧ w'.cell? ⟨b, off + k * 4 + 2, none⟩ = some (.int .u64 xh) ∧ w'.cell? ⟨b, off + k * 4 + 3, none⟩ = some (.int .i64 xm)) ∧ w'.cell? ⟨b2, off2 + k * 4, none⟩ = some (.int .i64 1) ∧ w'.cell? ⟨b2, off2 + k * 4 + 1, none⟩ = some (.int .u64 tl) ∧ w'.cell? ⟨b2, off2 + k * 4 + 2, none⟩ = some (.int .u64 th) ∧ w'.cell? ⟨b2, off2 + k * 4 + 3, none⟩ = some (.int .i64 tm))
                  (first | exact hAt3 | exact hAt)
                  (first | (go_at_call 31; go_must (refine (rwithin_as HR _).mono ?_); rintro e w3 ⟨rfl, hb3'⟩; go_must (have hb3 : Below wr.heap.size wr w3 := below_undrew (below_undrew hb3'); have hAt3 := At2.below hAt hb3 (by omega) (by omega); have hB3 : Below w2.heap.size w2 w3 := hbr.trans (hb3.mono hzr); clear hb3')))
                go_wp2
                go_ret
                exact ⟨reti (by rw [HE.out, ← HTS.out, HE3.out]), hb2.trans (hB3.mono hz2)⟩
              · have HE3 : Hid (fitL xs ts = fitL (xs.drop (k + 1)) (ts.drop (k + 1))) := by show _ = _; rw [HQ.out]; simp [fitsL, ← HR.out]
                go_wp2
                go_region_held3 (fun w' => (w'.cell? ⟨b, off + k * 4, none⟩ = some (.int .i64 1) ∧ w'.cell? ⟨b, off + k * 4 + 1, none⟩ = some (.int .u64 xl) ∧ w'.cell? ⟨b, off + k * 4 + 2, none⟩ = some (.int .u64 xh) ∧ w'.cell? ⟨b, off + k * 4 + 3, none⟩ = some (.int .i64 xm)) ∧ w'.cell? ⟨b2, off2 + k * 4, none⟩ = some (.int .i64 1) ∧ w'.cell? ⟨b2, off2 + k * 4 + 1, none⟩ = some (.int .u64 tl) ∧ w'.cell? ⟨b2, off2 + k * 4 + 2, none⟩ = some (.int .u64 th) ∧ w'.cell? ⟨b2, off2 + k * 4 + 3, none⟩ = some (.int .i64 tm))
                  (first | exact hAt3 | exact hAt)
                  (first | (fail))
                go_wp2
                go_region_held3 (fun w' => (w'.cell? ⟨b, off + k * 4, none⟩ = some (.int .i64 1) ∧ w'.cell? ⟨b, off + k * 4 + 1, none⟩ = some (.int .u64 xl) ∧ w'.cell? ⟨b, off + k * 4 + 2, none⟩ = some (.int .u64 xh) ∧ w'.cell? ⟨b, off + k * 4 + 3, none⟩ = some (.int .i64 xm)) ∧ w'.cell? ⟨b2, off2 + k * 4, none⟩ = some (.int .i64 1) ∧ w'.cell? ⟨b2, off2 + k * 4 + 1, none⟩ = some (.int .u64 tl) ∧ w'.cell? ⟨b2, off2 + k * 4 + 2, none⟩ = some (.int .u64 th) ∧ w'.cell? ⟨b2, off2 + k * 4 + 3, none⟩ = some (.int .i64 tm))
                  (first | exact hAt3 | exact hAt)
                  (first | (go_at_call 31; go_must (refine (rwithin_as HR _).mono ?_); rintro e w3 ⟨rfl, hb3'⟩; go_must (have hb3 : Below wr.heap.size wr w3 := below_undrew (below_undrew hb3'); have hAt3 := At2.below hAt hb3 (by omega) (by omega); have hB3 : Below w2.heap.size w2 w3 := hbr.trans (hb3.mono hzr); clear hb3')))
                go_wp2
                go_roundw
                case rel => exact ⟨k + 1, by omega, by go_num, HE3.out, hB3⟩
                case measure => simp [intOf]; omega
            · have hg : (xk == 1) = false := by simp [h1]
              have HE3 : Hid (fitL xs ts = fitL (xs.drop (k + 1)) (ts.drop (k + 1))) := by show _ = _; rw [HQ.out]; simp [fitsL, h1]
              go_wp2
              go_region_held3 (fun w' => (w'.cell? ⟨b, off + k * 4, none⟩ = some (.int .i64 xk) ∧ w'.cell? ⟨b, off + k * 4 + 1, none⟩ = some (.int .u64 xl) ∧ w'.cell? ⟨b, off + k * 4 + 2, none⟩ = some (.int .u64 xh) ∧ w'.cell? ⟨b, off + k * 4 + 3, none⟩ = some (.int .i64 xm)) ∧ w'.cell? ⟨b2, off2 + k * 4, none⟩ = some (.int .i64 xk) ∧ w'.cell? ⟨b2, off2 + k * 4 + 1, none⟩ = some (.int .u64 tl) ∧ w'.cell? ⟨b2, off2 + k * 4 + 2, none⟩ = some (.int .u64 th) ∧ w'.cell? ⟨b2, off2 + k * 4 + 3, none⟩ = some (.int .i64 tm))
                (first | exact hAt3 | exact hAt)
                (first | (fail))
              go_wp2
              obtain ⟨⟨g0, g1, g2, g3⟩, d0, d1, d2, d3⟩ := hAt
              simp only at d0
              go_region
              go_wp2
              go_roundw
              case rel => exact ⟨k + 1, by omega, by go_num, HE3.out, below_drewN hbr 2⟩
              case measure => simp [intOf]; omega
          · have HE3 : Hid (fitL xs ts = 33) := by show _ = _; rw [HQ.out]; simp [fitsL, hkk]
            go_wp2
            go_region_held3 (fun w' => (w'.cell? ⟨b, off + k * 4, none⟩ = some (.int .i64 xk) ∧ w'.cell? ⟨b, off + k * 4 + 1, none⟩ = some (.int .u64 xl) ∧ w'.cell? ⟨b, off + k * 4 + 2, none⟩ = some (.int .u64 xh) ∧ w'.cell? ⟨b, off + k * 4 + 3, none⟩ = some (.int .i64 xm)) ∧ w'.cell? ⟨b2, off2 + k * 4, none⟩ = some (.int .i64 tk) ∧ w'.cell? ⟨b2, off2 + k * 4 + 1, none⟩ = some (.int .u64 tl) ∧ w'.cell? ⟨b2, off2 + k * 4 + 2, none⟩ = some (.int .u64 th) ∧ w'.cell? ⟨b2, off2 + k * 4 + 3, none⟩ = some (.int .i64 tm))
              (first | exact hAt3 | exact hAt)
              (first | (fail))
            go_wp2
            go_ret
            exact ⟨reti (by rw [HE.out, ← HTS.out, HE3.out]), below_drewN (hb2.trans (hbr.mono hz2)) 1⟩
        · obtain rfl : k = n := by omega
          go_wp2
          go_ret
          exact ⟨reti (by rw [HE.out, ← HTS.out, HF.out, fitL_end (by rw [HLT.out]; exact Nat.le_refl _)]), hb2.trans (hbr.mono hz2)⟩
    · have HE : Hid (checkL h xs = 2) := by show _ = _; unfold checkL; rw [if_neg (by omega), if_pos hl]
      obtain ⟨a, cap, rfl⟩ := hs.shape
      obtain ⟨n, HN⟩ : ∃ n, Hid (xs.length = n) := ⟨_, rfl⟩
      obtain ⟨m, HM⟩ : ∃ m, Hid ((argsL h).length = m) := ⟨_, rfl⟩
      rw [HN.out, HM.out] at hl
      rw [HN.out]
      clear hs hc
      go_enter Tryd.func21, Tryd.ntmps21
      go_wp2_with (first
        | (go_at_call 18; go_must (refine (rargs_any h _).mono ?_); rintro e w2 ⟨u2, rfl, hown2, hb2⟩; go_must (obtain ⟨a2, c2, rfl⟩ := (own_seesT hown2).shape; rw [HM.out]; clear hown2)))
      go_ret
      exact ⟨reti HE.out.symm, hb2⟩
  · have HE : Hid (checkL h xs = 34) := by show _ = _; unfold checkL; rw [if_pos hc]
    clear hs
    by_cases h0 : 0 ≤ h
    · have h1 : ¬ h < 7 := by omega
      clear hc
      go_enter Tryd.func21, Tryd.ntmps21
      go_wp2
      go_ret
      exact ⟨reti HE.out.symm, by go_grown⟩
    · clear hc
      go_enter Tryd.func21, Tryd.ntmps21
      go_wp2
      go_ret
      exact ⟨reti HE.out.symm, by go_grown⟩
end Go.Proofs.YtpgkjoahngfgnaaDoor
