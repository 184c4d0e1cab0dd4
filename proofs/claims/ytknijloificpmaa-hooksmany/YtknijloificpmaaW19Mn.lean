
/-
  HooksMany, walked. Condition: none but the arguments' reading.
-/
import Derived.Test.YtknijloificpmaaW19M
namespace Go.Proofs.Ytknijloificpmaa
open Go.RowKit
set_option linter.unusedVariables false
set_option linter.unusedSimpArgs false
set_option maxRecDepth 100000
theorem own_empty19 (w : World) (t : TypeId) (z : Nat) : (w.alloc (.cells #[] t)).ownsRow w.heap.size t z (.slice (some ⟨w.heap.size, 0, none⟩) 0 0) 0 [] := by
  refine ⟨by simp, .inr ⟨w.heap.size, 0, #[], rfl, Nat.le_refl _, heap_alloc_new w _, Nat.le_refl _, by simp [maxLen], by simp, by simp⟩⟩
theorem hooksMany_no (n : Int) (sv pv : Value) (w : World) (h : n < 1 ∨ 4 < n) :
    Calls Try.prog 6 #[.int .i64 n, sv, pv] w fun e w' => e = .returned (.bool true) ∧ Below w.heap.size w w' := by
  go_enter Try.func6, Try.ntmps6
  go_wp2_with (first
    | (go_at_call 7; go_must (refine (awake19_any w).mono ?_); rintro e w1 ⟨rfl, hb1⟩)
    | (go_at_call 8; go_must (refine (ltnew_no n h _).mono ?_); rintro e w2 ⟨rfl, rfl⟩))
  go_ret
  exact ⟨rfl, hb1⟩
set_option maxHeartbeats 25600000 in
theorem hooksMany_ok (n : Nat) (hn1 : 1 ≤ n) (h4 : n ≤ 4) (sv pv : Value) (is : List Ow) (ps : List Int) (w : World) (hs : Scr w sv is) (hp : Sees .i64 w pv ps) (hlen : is.length * 48 ≤ 140737488351232) (hpl : ps.length * 8 ≤ 140737488351232) :
    Calls Try.prog 6 #[.int .i64 n, sv, pv] w fun e w' => e = .returned (.bool true) ∧ Below w.heap.size w w' := by
  have HSC := keepG hs
  have HPS := keepG (fun (wx : World) (hb : Below w.heap.size w wx) => hp.below hb (Nat.le_refl _))
  have HPW := keepG hp.wf
  obtain ⟨a, c, rfl, hc, hm, _, _⟩ := hs.sees
  obtain ⟨pa, pc, rfl, hpc, hpm, _⟩ := hp
  have hm' : c ≤ 9223372036854775807 := by unfold maxLen at hm; omega
  have hpm' : pc ≤ 9223372036854775807 := by unfold maxLen at hpm; omega
  obtain ⟨i0, hi0, hz0, hzs, hzb⟩ := info_parts infoIntN
  clear hs hm hpm
  by_cases h100 : 100 < ps.length
  · have h100I : (ps.length : Int) > 100 := by omega
    have h100b : decide ((ps.length : Int) > 100) = true := by simpa using h100I
    go_enter Try.func6, Try.ntmps6
    go_wp2_with (first
      | (go_at_call 7; go_must (refine (awake19_any w).mono ?_); rintro e w1 ⟨rfl, hb1⟩; go_must (have HB1 := keepG hb1; clear hb1))
      | (go_at_call 8; go_must (refine (lznew_ok n hn1 h4 HB1.out).mono ?_); rintro e w2 ⟨b, F0, rfl, hL, _, _⟩; go_must (have HL0 := keepG hL; clear hL)))
    go_ret
    exact ⟨rfl, HL0.out.be⟩
  have h100I : ¬ (ps.length : Int) > 100 := by omega
  have h100b : decide ((ps.length : Int) > 100) = false := by simpa using h100I
  have hpl2 : ps.length ≤ 100 := by omega
  go_enter Try.func6, Try.ntmps6
  go_wp2_with (first
    | (go_at_call 7; go_must (refine (awake19_any w).mono ?_); rintro e w1 ⟨rfl, hb1⟩; go_must (have HB1 := keepG hb1; clear hb1))
    | (go_at_call 8; go_must (refine (lznew_ok n hn1 h4 HB1.out).mono ?_); rintro e w2 ⟨b, F0, rfl, hL, _, _⟩; go_must (have HL0 := keepG hL; clear hL)))
  go_loopw [9] (fun i wr => ∃ j : Nat, j ≤ is.length ∧ i = .int .i64 j ∧ ∃ F t, Hid (Lz w wr b F t ∧ t.last ≤ j)) (fun i _ => is.length - (intOf i).toNat)
  case atStart => exact ⟨0, by omega, rfl, F0, _, HL0.out, by show (0 : Int) ≤ _; omega⟩
  case round =>
    obtain ⟨j, hj, rfl, F, t, HM⟩ := hrel
    rename World => wr
    by_cases hlt : j < is.length
    · have hltI : (j : Int) < is.length := by omega
      obtain ⟨o, HO⟩ : ∃ o, Hid (is.getD j Ow.nil = o) := ⟨_, rfl⟩
      have HAT := keepG (fun (wx : World) (hb : Below w.heap.size w wx) => HSC.out.at hb hlt HO.out)
      obtain ⟨p, off, cap, ev, _, _, ⟨d0, d1, d2, d3⟩, _, _, _⟩ := HSC.out.at HM.out.1.be hlt HO.out
      simp only [Value.slice.injEq, true_and] at ev
      obtain ⟨rfl, rfl⟩ := ev
      obtain ⟨ok, ox, op, ou, ow⟩ := o
      simp only at d0 d1 d2 d3
      have HCE : Hid (∀ wx : World, Below w.heap.size w wx → wx.cell? ⟨p, off + j * 4 + 1, none⟩ = some (.int .i64 ox) ∧ wx.cell? ⟨p, off + j * 4 + 2, none⟩ = some (.int .i64 op)) := by
        intro wx hb
        obtain ⟨p2, off2, cap2, ev2, _, _, ⟨_, e1, e2, _⟩, _⟩ := HAT.out wx hb
        simp only [Value.slice.injEq, Option.some.injEq, Addr.mk.injEq, and_true, true_and] at ev2
        obtain ⟨⟨rfl, rfl⟩, rfl⟩ := ev2
        exact ⟨e1, e2⟩
      obtain ⟨v, E, t6, HQ⟩ : ∃ v E t6, Hid (t.put false ox op = (v, E, t6)) := ⟨_, _, _, rfl⟩
      have HMd := keepG (HM.out.1.drewN 1)
      have hla := HM.out.2
      clear HAT
      go_wp2
      refine wp_region_held_drew (S := fun w' => w'.cell? ⟨p, off + j * 4 + 1, none⟩ = some (.int .i64 ox) ∧ w'.cell? ⟨p, off + j * 4 + 2, none⟩ = some (.int .i64 op)) (by kernel_rfl) ⟨d1, d2⟩ (fun hHeld => ?_)
      refine wpAnyH_take (i := 0) (v := ?v1) rfl (by kernel_rfl) (by kernel_rfl) (by kernel_rfl) (fun _ _ _ h => h) (Or.inl ⟨by rfl, ?hy1⟩) (by assumption) ?rest1
      case hy1 => (intro wy hSw; (try dsimp only at hSw); go_simp; (first | done | with_reducible rfl))
      try simp only [Act.put, List.getElem_toArray, List.getElem_cons_zero, List.getElem_cons_succ, List.setIfInBounds_toArray, List.set_cons_zero, List.set_cons_succ]
      refine wpAnyH_take (i := 1) (v := ?v2) rfl (by kernel_rfl) (by kernel_rfl) (by kernel_rfl) (fun _ _ _ h => h) (Or.inl ⟨by rfl, ?hy2⟩) (by assumption) ?rest2
      case hy2 => (intro wy hSw; (try dsimp only at hSw); go_simp; (first | done | with_reducible rfl))
      try simp only [Act.put, List.getElem_toArray, List.getElem_cons_zero, List.getElem_cons_succ, List.setIfInBounds_toArray, List.set_cons_zero, List.set_cons_succ]
      refine wpAnyH_take (i := 2) (v := ?v3) rfl (by kernel_rfl) (by kernel_rfl) (by kernel_rfl) (fun _ _ _ h => h) (Or.inl ⟨by rfl, ?hy3⟩) (by assumption) ?rest3
      case hy3 => (intro wy hSw; (try dsimp only at hSw); go_simp; (first | done | with_reducible rfl))
      try simp only [Act.put, List.getElem_toArray, List.getElem_cons_zero, List.getElem_cons_succ, List.setIfInBounds_toArray, List.set_cons_zero, List.set_cons_succ]
      refine wpAnyH_take (i := 3) (v := ?v4) rfl (by kernel_rfl) (by kernel_rfl) (by kernel_rfl) (fun _ _ _ h => h) (Or.inl ⟨by rfl, ?hy4⟩) (by assumption) ?rest4
      case hy4 => (intro wy hSw; (try dsimp only at hSw); go_simp; (first | done | with_reducible rfl))
      try simp only [Act.put, List.getElem_toArray, List.getElem_cons_zero, List.getElem_cons_succ, List.setIfInBounds_toArray, List.set_cons_zero, List.set_cons_succ]
      refine wpAnyH_take (i := 4) (v := ?v5) rfl (by kernel_rfl) (by kernel_rfl) (by kernel_rfl) (fun _ _ _ h => h) (Or.inl ⟨by rfl, ?hy5⟩) (by assumption) ?rest5
      case hy5 => (intro wy hSw; (try dsimp only at hSw); go_simp; (first | done | with_reducible rfl))
      try simp only [Act.put, List.getElem_toArray, List.getElem_cons_zero, List.getElem_cons_succ, List.setIfInBounds_toArray, List.set_cons_zero, List.set_cons_succ]
      refine wpAnyH_take (i := 5) (v := ?v6) rfl (by kernel_rfl) (by kernel_rfl) (by kernel_rfl) (fun _ _ _ h => h) (Or.inl ⟨by rfl, ?hy6⟩) (by assumption) ?rest6
      case hy6 => (intro wy hSw; (try dsimp only at hSw); go_simp; (first | done | with_reducible rfl))
      try simp only [Act.put, List.getElem_toArray, List.getElem_cons_zero, List.getElem_cons_succ, List.setIfInBounds_toArray, List.set_cons_zero, List.set_cons_succ]
      refine wpAnyH_take (i := 6) (v := ?v7) rfl (by kernel_rfl) (by kernel_rfl) (by kernel_rfl) (fun _ _ _ h => h) (Or.inl ⟨by rfl, ?hy7⟩) (by assumption) ?rest7
      case hy7 => (intro wy hSw; (try dsimp only at hSw); go_simp; (first | done | with_reducible rfl))
      try simp only [Act.put, List.getElem_toArray, List.getElem_cons_zero, List.getElem_cons_succ, List.setIfInBounds_toArray, List.set_cons_zero, List.set_cons_succ]
      refine wpAnyH_take (i := 7) (v := ?v8) rfl (by kernel_rfl) (by kernel_rfl) (by kernel_rfl) (fun _ _ _ h => h) (Or.inl ⟨by rfl, ?hy8⟩) (by assumption) ?rest8
      case hy8 => (intro wy hSw; (try dsimp only at hSw); go_simp; (first | done | with_reducible rfl))
      try simp only [Act.put, List.getElem_toArray, List.getElem_cons_zero, List.getElem_cons_succ, List.setIfInBounds_toArray, List.set_cons_zero, List.set_cons_succ]
      refine wpAnyH_take (i := 8) (v := ?v9) rfl (by kernel_rfl) (by kernel_rfl) (by kernel_rfl) (fun _ _ _ h => h) (Or.inl ⟨by rfl, ?hy9⟩) (by assumption) ?rest9
      case hy9 => (intro wy hSw; (try dsimp only at hSw); go_simp; (first | done | with_reducible rfl))
      try simp only [Act.put, List.getElem_toArray, List.getElem_cons_zero, List.getElem_cons_succ, List.setIfInBounds_toArray, List.set_cons_zero, List.set_cons_succ]
      refine wpAnyH_take (i := 9) (v := ?v10) rfl (by kernel_rfl) (by kernel_rfl) (by kernel_rfl) (fun _ _ _ h => h) (Or.inl ⟨by rfl, ?hy10⟩) (by assumption) ?rest10
      case hy10 => (intro wy hSw; (try dsimp only at hSw); go_simp; (first | done | with_reducible rfl))
      try simp only [Act.put, List.getElem_toArray, List.getElem_cons_zero, List.getElem_cons_succ, List.setIfInBounds_toArray, List.set_cons_zero, List.set_cons_succ]
      refine wpAnyH_take (i := 10) (v := ?v11) rfl (by kernel_rfl) (by kernel_rfl) (by kernel_rfl) (fun _ _ _ h => h) (Or.inl ⟨by rfl, ?hy11⟩) (by assumption) ?rest11
      case hy11 => (intro wy hSw; (try dsimp only at hSw); go_simp; (first | done | with_reducible rfl))
      try simp only [Act.put, List.getElem_toArray, List.getElem_cons_zero, List.getElem_cons_succ, List.setIfInBounds_toArray, List.set_cons_zero, List.set_cons_succ]
      refine wpAnyH_ready (rs := [11]) (by kernel_rfl) (by simp) ?_
      refine AllReadyH.cons rfl (fun KK hK => ?_) AllReadyH.nil
      rw [if_pos (by rfl)]
      go_simp
      go_at_call 13
      refine (HMd.out.attach (by omega) ox op HQ).mono ?_
      rintro e w6 ⟨rfl, F6, hl6, hn6⟩
      have HL6 := keepG hl6
      have HLA : Hid (t6.last ≤ (j : Int) + 1) := by
        have := Tb.put_last HQ.out
        show _ ≤ _
        omega
      go_simp
      refine hK.out _ _ (HCE.out _ HL6.out.be) (fun hHeld => ?_)
      clear hK KK hl6 hn6
      try simp only [Act.put, List.getElem_toArray, List.getElem_cons_zero, List.getElem_cons_succ, List.setIfInBounds_toArray, List.set_cons_zero, List.set_cons_succ]
      refine wpAnyH_done (by kernel_rfl) ?_ _
      clear hHeld
      go_wp2
      go_roundw
      case rel => exact ⟨j + 1, by omega, by go_num, F6, t6, HL6.out, by have := HLA.out; omega⟩
      case measure => simp [intOf]; omega
    · have hltI : ¬ (j : Int) < is.length := by omega
      have HL := keepG HM.out.1
      clear HM
      go_wp2_with (go_at_call 10; go_must (refine (HL.out.last).mono ?_); rintro e wl ⟨rfl, rfl⟩)
      go_loopw [11, 12] (fun vm i wq => ∃ (q : Nat) (M : Bool), q ≤ ps.length ∧ vm = .bool M ∧ Hid (M = mayT t (ps.take q)) ∧ i = .int .i64 q ∧ Hid (Lz w wq b F t)) (fun _ i _ => ps.length - (intOf i).toNat)
      case atStart => exact ⟨0, true, by omega, rfl, rfl, rfl, HL.out⟩
      case round =>
        rename World => wq
        obtain ⟨q, M, hq, rfl, HMM, rfl, HMq⟩ := hrel
        by_cases hqt : q < ps.length
        · have hqtI : (q : Int) < ps.length := by omega
          obtain ⟨g, off, ev, hat⟩ := (HPS.out wq HMq.out.be).at19 hqt
          subst ev
          have HPA : Hid (∀ wx : World, Below w.heap.size w wx → ∀ i, i < ps.length → wx.cell? ⟨g, off + i, none⟩ = some (.int .i64 (ps.getD i 0))) := by
            intro wx hb
            obtain ⟨g2, off2, ev2, hat2⟩ := (HPS.out wx hb).at19 hqt
            simp only [Option.some.injEq, Addr.mk.injEq, and_true] at ev2
            obtain ⟨rfl, rfl⟩ := ev2
            exact hat2
          have d0 := hat q hqt
          have HT := keepG (mayT_take (t := t) hqt)
          obtain ⟨x, HX⟩ : ∃ x, Hid (ps.getD q 0 = x) := ⟨_, rfl⟩
          rw [HX.out] at d0 HT
          rw [← HMM.out] at HT
          obtain ⟨cv, cp, r, HC⟩ : ∃ cv cp r, Hid (t.cur x = (cv, cp, r)) := ⟨_, _, _, rfl⟩
          have hr : t.taken x = r := by
            have := HC.out
            unfold Tb.cur at this
            injection this with _ this
            injection this
          rw [hr] at HT
          clear hat hr HMM
          cases M with
          | false =>
            rw [Bool.false_and] at HT
            go_wp2_with (go_at_call 11; go_must (refine (HMq.out.current x HC).mono ?_); rintro e w5 ⟨rfl, hb5⟩; go_must (have HM5 := keepG (HMq.out.below hb5); clear hb5))
            go_loopw [11, 16] (fun v10 i wz => ∃ (k : Nat) (V : Bool), k ≤ q ∧ v10 = .bool V ∧ Hid (V = (false && !decide (x ∈ ps.take k))) ∧ i = .int .i64 k ∧ Hid (Lz w wz b F t)) (fun _ i _ => q - (intOf i).toNat)
            case atStart => exact ⟨0, false, by omega, rfl, by show _ = _; simp, rfl, HM5.out⟩
            case round =>
              rename World => wz
              obtain ⟨k, V, hk, rfl, HV, rfl, HMz⟩ := hrel
              by_cases hkq : k < q
              · have hkqI : (k : Int) < q := by omega
                have hkl : k < ps.length := by omega
                have hklI : (k : Int) < ps.length := by omega
                have f0 := HPA.out _ HMz.out.be k hkl
                have f1 := HPA.out _ HMz.out.be q hqt
                have hTk := mem_take19 hkl x
                obtain ⟨y, HY⟩ : ∃ y, Hid (ps.getD k 0 = y) := ⟨_, rfl⟩
                rw [HX.out] at f1
                rw [HY.out] at f0 hTk
                have HBd := keepG (HMz.out.drewN 1)
                have HV2 : Hid ((false && !decide (x ∈ ps.take (k + 1))) = (V && (y != x))) := by
                  show _ = _
                  rw [hTk, HV.out, Bool.not_or]
                  cases false <;> simp [bne]
                clear hTk HV
                cases V with
                | true =>
                  rw [Bool.true_and] at HV2
                  obtain ⟨e, HE⟩ : ∃ e, Hid ((y != x) = e) := ⟨_, rfl⟩
                  rw [HE.out] at HV2
                  have he := HE.out
                  go_wp2
                  refine wp_region_held_drew (S := fun w' => w'.cell? ⟨g, off + k, none⟩ = some (.int .i64 y) ∧ w'.cell? ⟨g, off + q, none⟩ = some (.int .i64 x)) (by kernel_rfl) ⟨f0, f1⟩ (fun hHeld => ?_)
                  refine wpAnyH_take (i := 0) (v := ?v12) rfl (by kernel_rfl) (by kernel_rfl) (by kernel_rfl) (fun _ _ _ h => h) (Or.inl ⟨by rfl, ?hy12⟩) (by assumption) ?rest12
                  case hy12 => (intro wy hSw; (try dsimp only at hSw); go_simp; (first | done | with_reducible rfl))
                  try simp only [Act.put, List.getElem_toArray, List.getElem_cons_zero, List.getElem_cons_succ, List.setIfInBounds_toArray, List.set_cons_zero, List.set_cons_succ]
                  refine wpAnyH_take (i := 1) (v := ?v13) rfl (by kernel_rfl) (by kernel_rfl) (by kernel_rfl) (fun _ _ _ h => h) (Or.inl ⟨by rfl, ?hy13⟩) (by assumption) ?rest13
                  case hy13 => (intro wy hSw; (try dsimp only at hSw); go_simp; (first | done | with_reducible rfl))
                  try simp only [Act.put, List.getElem_toArray, List.getElem_cons_zero, List.getElem_cons_succ, List.setIfInBounds_toArray, List.set_cons_zero, List.set_cons_succ]
                  refine wpAnyH_take (i := 2) (v := ?v14) rfl (by kernel_rfl) (by kernel_rfl) (by kernel_rfl) (fun _ _ _ h => h) (Or.inl ⟨by rfl, ?hy14⟩) (by assumption) ?rest14
                  case hy14 => (intro wy hSw; (try dsimp only at hSw); go_simp; (first | done | with_reducible rfl))
                  try simp only [Act.put, List.getElem_toArray, List.getElem_cons_zero, List.getElem_cons_succ, List.setIfInBounds_toArray, List.set_cons_zero, List.set_cons_succ]
                  refine wpAnyH_take (i := 3) (v := ?v15) rfl (by kernel_rfl) (by kernel_rfl) (by kernel_rfl) (fun _ _ _ h => h) (Or.inl ⟨by rfl, ?hy15⟩) (by assumption) ?rest15
                  case hy15 => (intro wy hSw; (try dsimp only at hSw); go_simp; (first | done | with_reducible rfl))
                  try simp only [Act.put, List.getElem_toArray, List.getElem_cons_zero, List.getElem_cons_succ, List.setIfInBounds_toArray, List.set_cons_zero, List.set_cons_succ]
                  refine wpAnyH_take (i := 4) (v := ?v16) rfl (by kernel_rfl) (by kernel_rfl) (by kernel_rfl) (fun _ _ _ h => h) (Or.inl ⟨by rfl, ?hy16⟩) (by assumption) ?rest16
                  case hy16 => (intro wy hSw; (try dsimp only at hSw); go_simp; (first | done | with_reducible rfl))
                  try simp only [Act.put, List.getElem_toArray, List.getElem_cons_zero, List.getElem_cons_succ, List.setIfInBounds_toArray, List.set_cons_zero, List.set_cons_succ]
                  refine wpAnyH_take (i := 5) (v := ?v17) rfl (by kernel_rfl) (by kernel_rfl) (by kernel_rfl) (fun _ _ _ h => h) (Or.inl ⟨by rfl, ?hy17⟩) (by assumption) ?rest17
                  case hy17 => (intro wy hSw; (try dsimp only at hSw); go_simp; (first | done | with_reducible rfl))
                  try simp only [Act.put, List.getElem_toArray, List.getElem_cons_zero, List.getElem_cons_succ, List.setIfInBounds_toArray, List.set_cons_zero, List.set_cons_succ]
                  refine wpAnyH_take (i := 6) (v := ?v18) rfl (by kernel_rfl) (by kernel_rfl) (by kernel_rfl) (fun _ _ _ h => h) (Or.inl ⟨by rfl, ?hy18⟩) (by assumption) ?rest18
                  case hy18 => (intro wy hSw; (try dsimp only at hSw); go_simp; (first | done | with_reducible rfl))
                  try simp only [Act.put, List.getElem_toArray, List.getElem_cons_zero, List.getElem_cons_succ, List.setIfInBounds_toArray, List.set_cons_zero, List.set_cons_succ]
                  refine wpAnyH_take (i := 7) (v := ?v19) rfl (by kernel_rfl) (by kernel_rfl) (by kernel_rfl) (fun _ _ _ h => h) (Or.inl ⟨by rfl, ?hy19⟩) (by assumption) ?rest19
                  case hy19 => (intro wy hSw; (try dsimp only at hSw); go_simp; (first | done | with_reducible rfl))
                  try simp only [Act.put, List.getElem_toArray, List.getElem_cons_zero, List.getElem_cons_succ, List.setIfInBounds_toArray, List.set_cons_zero, List.set_cons_succ]
                  refine wpAnyH_take (i := 8) (v := ?v20) rfl (by kernel_rfl) (by kernel_rfl) (by kernel_rfl) (fun _ _ _ h => h) (Or.inl ⟨by rfl, ?hy20⟩) (by assumption) ?rest20
                  case hy20 => (intro wy hSw; (try dsimp only at hSw); go_simp; (first | done | with_reducible rfl))
                  try simp only [Act.put, List.getElem_toArray, List.getElem_cons_zero, List.getElem_cons_succ, List.setIfInBounds_toArray, List.set_cons_zero, List.set_cons_succ]
                  refine wpAnyH_take (i := 9) (v := ?v21) rfl (by kernel_rfl) (by kernel_rfl) (by kernel_rfl) (fun _ _ _ h => h) (Or.inl ⟨by rfl, ?hy21⟩) (by assumption) ?rest21
                  case hy21 => (intro wy hSw; (try dsimp only at hSw); go_simp; (first | done | with_reducible rfl))
                  try simp only [Act.put, List.getElem_toArray, List.getElem_cons_zero, List.getElem_cons_succ, List.setIfInBounds_toArray, List.set_cons_zero, List.set_cons_succ]
                  refine wpAnyH_take (i := 10) (v := ?v22) rfl (by kernel_rfl) (by kernel_rfl) (by kernel_rfl) (fun _ _ _ h => h) (Or.inl ⟨by rfl, ?hy22⟩) (by assumption) ?rest22
                  case hy22 => (intro wy hSw; (try dsimp only at hSw); go_simp; (first | done | with_reducible rfl))
                  try simp only [Act.put, List.getElem_toArray, List.getElem_cons_zero, List.getElem_cons_succ, List.setIfInBounds_toArray, List.set_cons_zero, List.set_cons_succ]
                  refine wpAnyH_take (i := 11) (v := ?v23) rfl (by kernel_rfl) (by kernel_rfl) (by kernel_rfl) (fun _ _ _ h => h) (Or.inl ⟨by rfl, ?hy23⟩) (by assumption) ?rest23
                  case hy23 => (intro wy hSw; (try dsimp only at hSw); go_simp; (first | done | with_reducible rfl))
                  try simp only [Act.put, List.getElem_toArray, List.getElem_cons_zero, List.getElem_cons_succ, List.setIfInBounds_toArray, List.set_cons_zero, List.set_cons_succ]
                  refine wpAnyH_take (i := 12) (v := ?v24) rfl (by kernel_rfl) (by kernel_rfl) (by kernel_rfl) (fun _ _ _ h => h) (Or.inl ⟨by rfl, ?hy24⟩) (by assumption) ?rest24
                  case hy24 => (intro wy hSw; (try dsimp only at hSw); go_simp; (first | done | with_reducible rfl))
                  try simp only [Act.put, List.getElem_toArray, List.getElem_cons_zero, List.getElem_cons_succ, List.setIfInBounds_toArray, List.set_cons_zero, List.set_cons_succ]
                  refine wpAnyH_done (by kernel_rfl) ?_ _
                  clear hHeld
                  go_wp2
                  go_roundw
                  case rel => exact ⟨k + 1, e, by omega, rfl, HV2.out.symm, by go_num, HBd.out⟩
                  case measure => simp [intOf]; omega
                | false =>
                  rw [Bool.false_and] at HV2
                  go_wp2
                  refine wp_region_held_drew (S := fun _ => True) (by kernel_rfl) trivial (fun hHeld => ?_)
                  refine wpAnyH_take (i := 0) (v := ?v25) rfl (by kernel_rfl) (by kernel_rfl) (by kernel_rfl) (fun _ _ _ h => h) (Or.inl ⟨by rfl, ?hy25⟩) (by assumption) ?rest25
                  case hy25 => (intro wy hSw; (try dsimp only at hSw); go_simp; (first | done | with_reducible rfl))
                  try simp only [Act.put, List.getElem_toArray, List.getElem_cons_zero, List.getElem_cons_succ, List.setIfInBounds_toArray, List.set_cons_zero, List.set_cons_succ]
                  refine wpAnyH_take (i := 1) (v := ?v26) rfl (by kernel_rfl) (by kernel_rfl) (by kernel_rfl) (fun _ _ _ h => h) (Or.inl ⟨by rfl, ?hy26⟩) (by assumption) ?rest26
                  case hy26 => (intro wy hSw; (try dsimp only at hSw); go_simp; (first | done | with_reducible rfl))
                  try simp only [Act.put, List.getElem_toArray, List.getElem_cons_zero, List.getElem_cons_succ, List.setIfInBounds_toArray, List.set_cons_zero, List.set_cons_succ]
                  refine wpAnyH_take (i := 2) (v := undef) rfl (by kernel_rfl) (by kernel_rfl) (by kernel_rfl) (fun _ _ _ h => h) (Or.inr ⟨by rfl, rfl⟩) (by assumption) ?_
                  try simp only [Act.put, List.getElem_toArray, List.getElem_cons_zero, List.getElem_cons_succ, List.setIfInBounds_toArray, List.set_cons_zero, List.set_cons_succ]
                  refine wpAnyH_take (i := 3) (v := undef) rfl (by kernel_rfl) (by kernel_rfl) (by kernel_rfl) (fun _ _ _ h => h) (Or.inr ⟨by rfl, rfl⟩) (by assumption) ?_
                  try simp only [Act.put, List.getElem_toArray, List.getElem_cons_zero, List.getElem_cons_succ, List.setIfInBounds_toArray, List.set_cons_zero, List.set_cons_succ]
                  refine wpAnyH_take (i := 4) (v := undef) rfl (by kernel_rfl) (by kernel_rfl) (by kernel_rfl) (fun _ _ _ h => h) (Or.inr ⟨by rfl, rfl⟩) (by assumption) ?_
                  try simp only [Act.put, List.getElem_toArray, List.getElem_cons_zero, List.getElem_cons_succ, List.setIfInBounds_toArray, List.set_cons_zero, List.set_cons_succ]
                  refine wpAnyH_take (i := 5) (v := undef) rfl (by kernel_rfl) (by kernel_rfl) (by kernel_rfl) (fun _ _ _ h => h) (Or.inr ⟨by rfl, rfl⟩) (by assumption) ?_
                  try simp only [Act.put, List.getElem_toArray, List.getElem_cons_zero, List.getElem_cons_succ, List.setIfInBounds_toArray, List.set_cons_zero, List.set_cons_succ]
                  refine wpAnyH_take (i := 6) (v := undef) rfl (by kernel_rfl) (by kernel_rfl) (by kernel_rfl) (fun _ _ _ h => h) (Or.inr ⟨by rfl, rfl⟩) (by assumption) ?_
                  try simp only [Act.put, List.getElem_toArray, List.getElem_cons_zero, List.getElem_cons_succ, List.setIfInBounds_toArray, List.set_cons_zero, List.set_cons_succ]
                  refine wpAnyH_take (i := 7) (v := undef) rfl (by kernel_rfl) (by kernel_rfl) (by kernel_rfl) (fun _ _ _ h => h) (Or.inr ⟨by rfl, rfl⟩) (by assumption) ?_
                  try simp only [Act.put, List.getElem_toArray, List.getElem_cons_zero, List.getElem_cons_succ, List.setIfInBounds_toArray, List.set_cons_zero, List.set_cons_succ]
                  refine wpAnyH_take (i := 8) (v := undef) rfl (by kernel_rfl) (by kernel_rfl) (by kernel_rfl) (fun _ _ _ h => h) (Or.inr ⟨by rfl, rfl⟩) (by assumption) ?_
                  try simp only [Act.put, List.getElem_toArray, List.getElem_cons_zero, List.getElem_cons_succ, List.setIfInBounds_toArray, List.set_cons_zero, List.set_cons_succ]
                  refine wpAnyH_take (i := 9) (v := undef) rfl (by kernel_rfl) (by kernel_rfl) (by kernel_rfl) (fun _ _ _ h => h) (Or.inr ⟨by rfl, rfl⟩) (by assumption) ?_
                  try simp only [Act.put, List.getElem_toArray, List.getElem_cons_zero, List.getElem_cons_succ, List.setIfInBounds_toArray, List.set_cons_zero, List.set_cons_succ]
                  refine wpAnyH_take (i := 10) (v := undef) rfl (by kernel_rfl) (by kernel_rfl) (by kernel_rfl) (fun _ _ _ h => h) (Or.inr ⟨by rfl, rfl⟩) (by assumption) ?_
                  try simp only [Act.put, List.getElem_toArray, List.getElem_cons_zero, List.getElem_cons_succ, List.setIfInBounds_toArray, List.set_cons_zero, List.set_cons_succ]
                  refine wpAnyH_take (i := 11) (v := ?v27) rfl (by kernel_rfl) (by kernel_rfl) (by kernel_rfl) (fun _ _ _ h => h) (Or.inl ⟨by rfl, ?hy27⟩) (by assumption) ?rest27
                  case hy27 => (intro wy hSw; (try dsimp only at hSw); go_simp; (first | done | with_reducible rfl))
                  try simp only [Act.put, List.getElem_toArray, List.getElem_cons_zero, List.getElem_cons_succ, List.setIfInBounds_toArray, List.set_cons_zero, List.set_cons_succ]
                  refine wpAnyH_take (i := 12) (v := ?v28) rfl (by kernel_rfl) (by kernel_rfl) (by kernel_rfl) (fun _ _ _ h => h) (Or.inl ⟨by rfl, ?hy28⟩) (by assumption) ?rest28
                  case hy28 => (intro wy hSw; (try dsimp only at hSw); go_simp; (first | done | with_reducible rfl))
                  try simp only [Act.put, List.getElem_toArray, List.getElem_cons_zero, List.getElem_cons_succ, List.setIfInBounds_toArray, List.set_cons_zero, List.set_cons_succ]
                  refine wpAnyH_done (by kernel_rfl) ?_ _
                  clear hHeld
                  go_wp2
                  go_roundw
                  case rel => exact ⟨k + 1, false, by omega, rfl, HV2.out.symm, by go_num, HBd.out⟩
                  case measure => simp [intOf]; omega
              · have hkqI : ¬ (k : Int) < q := by omega
                have hkq2 : q = k := by omega
                have HT3 : Hid (V = mayT t (ps.take (q + 1))) := by
                  show _ = _
                  rw [HT.out, HV.out, hkq2]
                clear hkq2
                go_wp2
                go_roundw
                case rel => exact ⟨q + 1, V, by omega, rfl, HT3.out, by go_num, HMz.out⟩
                case measure => simp [intOf]; omega
          | true =>
            rw [Bool.true_and] at HT
            go_wp2_with (go_at_call 11; go_must (refine (HMq.out.current x HC).mono ?_); rintro e w5 ⟨rfl, hb5⟩; go_must (have HM5 := keepG (HMq.out.below hb5); clear hb5))
            go_loopw [11, 16] (fun v10 i wz => ∃ (k : Nat) (V : Bool), k ≤ q ∧ v10 = .bool V ∧ Hid (V = (r && !decide (x ∈ ps.take k))) ∧ i = .int .i64 k ∧ Hid (Lz w wz b F t)) (fun _ i _ => q - (intOf i).toNat)
            case atStart => exact ⟨0, r, by omega, rfl, by show _ = _; simp, rfl, HM5.out⟩
            case round =>
              rename World => wz
              obtain ⟨k, V, hk, rfl, HV, rfl, HMz⟩ := hrel
              by_cases hkq : k < q
              · have hkqI : (k : Int) < q := by omega
                have hkl : k < ps.length := by omega
                have hklI : (k : Int) < ps.length := by omega
                have f0 := HPA.out _ HMz.out.be k hkl
                have f1 := HPA.out _ HMz.out.be q hqt
                have hTk := mem_take19 hkl x
                obtain ⟨y, HY⟩ : ∃ y, Hid (ps.getD k 0 = y) := ⟨_, rfl⟩
                rw [HX.out] at f1
                rw [HY.out] at f0 hTk
                have HBd := keepG (HMz.out.drewN 1)
                have HV2 : Hid ((r && !decide (x ∈ ps.take (k + 1))) = (V && (y != x))) := by
                  show _ = _
                  rw [hTk, HV.out, Bool.not_or]
                  cases r <;> simp [bne]
                clear hTk HV
                cases V with
                | true =>
                  rw [Bool.true_and] at HV2
                  obtain ⟨e, HE⟩ : ∃ e, Hid ((y != x) = e) := ⟨_, rfl⟩
                  rw [HE.out] at HV2
                  have he := HE.out
                  go_wp2
                  refine wp_region_held_drew (S := fun w' => w'.cell? ⟨g, off + k, none⟩ = some (.int .i64 y) ∧ w'.cell? ⟨g, off + q, none⟩ = some (.int .i64 x)) (by kernel_rfl) ⟨f0, f1⟩ (fun hHeld => ?_)
                  refine wpAnyH_take (i := 0) (v := ?v29) rfl (by kernel_rfl) (by kernel_rfl) (by kernel_rfl) (fun _ _ _ h => h) (Or.inl ⟨by rfl, ?hy29⟩) (by assumption) ?rest29
                  case hy29 => (intro wy hSw; (try dsimp only at hSw); go_simp; (first | done | with_reducible rfl))
                  try simp only [Act.put, List.getElem_toArray, List.getElem_cons_zero, List.getElem_cons_succ, List.setIfInBounds_toArray, List.set_cons_zero, List.set_cons_succ]
                  refine wpAnyH_take (i := 1) (v := ?v30) rfl (by kernel_rfl) (by kernel_rfl) (by kernel_rfl) (fun _ _ _ h => h) (Or.inl ⟨by rfl, ?hy30⟩) (by assumption) ?rest30
                  case hy30 => (intro wy hSw; (try dsimp only at hSw); go_simp; (first | done | with_reducible rfl))
                  try simp only [Act.put, List.getElem_toArray, List.getElem_cons_zero, List.getElem_cons_succ, List.setIfInBounds_toArray, List.set_cons_zero, List.set_cons_succ]
                  refine wpAnyH_take (i := 2) (v := ?v31) rfl (by kernel_rfl) (by kernel_rfl) (by kernel_rfl) (fun _ _ _ h => h) (Or.inl ⟨by rfl, ?hy31⟩) (by assumption) ?rest31
                  case hy31 => (intro wy hSw; (try dsimp only at hSw); go_simp; (first | done | with_reducible rfl))
                  try simp only [Act.put, List.getElem_toArray, List.getElem_cons_zero, List.getElem_cons_succ, List.setIfInBounds_toArray, List.set_cons_zero, List.set_cons_succ]
                  refine wpAnyH_take (i := 3) (v := ?v32) rfl (by kernel_rfl) (by kernel_rfl) (by kernel_rfl) (fun _ _ _ h => h) (Or.inl ⟨by rfl, ?hy32⟩) (by assumption) ?rest32
                  case hy32 => (intro wy hSw; (try dsimp only at hSw); go_simp; (first | done | with_reducible rfl))
                  try simp only [Act.put, List.getElem_toArray, List.getElem_cons_zero, List.getElem_cons_succ, List.setIfInBounds_toArray, List.set_cons_zero, List.set_cons_succ]
                  refine wpAnyH_take (i := 4) (v := ?v33) rfl (by kernel_rfl) (by kernel_rfl) (by kernel_rfl) (fun _ _ _ h => h) (Or.inl ⟨by rfl, ?hy33⟩) (by assumption) ?rest33
                  case hy33 => (intro wy hSw; (try dsimp only at hSw); go_simp; (first | done | with_reducible rfl))
                  try simp only [Act.put, List.getElem_toArray, List.getElem_cons_zero, List.getElem_cons_succ, List.setIfInBounds_toArray, List.set_cons_zero, List.set_cons_succ]
                  refine wpAnyH_take (i := 5) (v := ?v34) rfl (by kernel_rfl) (by kernel_rfl) (by kernel_rfl) (fun _ _ _ h => h) (Or.inl ⟨by rfl, ?hy34⟩) (by assumption) ?rest34
                  case hy34 => (intro wy hSw; (try dsimp only at hSw); go_simp; (first | done | with_reducible rfl))
                  try simp only [Act.put, List.getElem_toArray, List.getElem_cons_zero, List.getElem_cons_succ, List.setIfInBounds_toArray, List.set_cons_zero, List.set_cons_succ]
                  refine wpAnyH_take (i := 6) (v := ?v35) rfl (by kernel_rfl) (by kernel_rfl) (by kernel_rfl) (fun _ _ _ h => h) (Or.inl ⟨by rfl, ?hy35⟩) (by assumption) ?rest35
                  case hy35 => (intro wy hSw; (try dsimp only at hSw); go_simp; (first | done | with_reducible rfl))
                  try simp only [Act.put, List.getElem_toArray, List.getElem_cons_zero, List.getElem_cons_succ, List.setIfInBounds_toArray, List.set_cons_zero, List.set_cons_succ]
                  refine wpAnyH_take (i := 7) (v := ?v36) rfl (by kernel_rfl) (by kernel_rfl) (by kernel_rfl) (fun _ _ _ h => h) (Or.inl ⟨by rfl, ?hy36⟩) (by assumption) ?rest36
                  case hy36 => (intro wy hSw; (try dsimp only at hSw); go_simp; (first | done | with_reducible rfl))
                  try simp only [Act.put, List.getElem_toArray, List.getElem_cons_zero, List.getElem_cons_succ, List.setIfInBounds_toArray, List.set_cons_zero, List.set_cons_succ]
                  refine wpAnyH_take (i := 8) (v := ?v37) rfl (by kernel_rfl) (by kernel_rfl) (by kernel_rfl) (fun _ _ _ h => h) (Or.inl ⟨by rfl, ?hy37⟩) (by assumption) ?rest37
                  case hy37 => (intro wy hSw; (try dsimp only at hSw); go_simp; (first | done | with_reducible rfl))
                  try simp only [Act.put, List.getElem_toArray, List.getElem_cons_zero, List.getElem_cons_succ, List.setIfInBounds_toArray, List.set_cons_zero, List.set_cons_succ]
                  refine wpAnyH_take (i := 9) (v := ?v38) rfl (by kernel_rfl) (by kernel_rfl) (by kernel_rfl) (fun _ _ _ h => h) (Or.inl ⟨by rfl, ?hy38⟩) (by assumption) ?rest38
                  case hy38 => (intro wy hSw; (try dsimp only at hSw); go_simp; (first | done | with_reducible rfl))
                  try simp only [Act.put, List.getElem_toArray, List.getElem_cons_zero, List.getElem_cons_succ, List.setIfInBounds_toArray, List.set_cons_zero, List.set_cons_succ]
                  refine wpAnyH_take (i := 10) (v := ?v39) rfl (by kernel_rfl) (by kernel_rfl) (by kernel_rfl) (fun _ _ _ h => h) (Or.inl ⟨by rfl, ?hy39⟩) (by assumption) ?rest39
                  case hy39 => (intro wy hSw; (try dsimp only at hSw); go_simp; (first | done | with_reducible rfl))
                  try simp only [Act.put, List.getElem_toArray, List.getElem_cons_zero, List.getElem_cons_succ, List.setIfInBounds_toArray, List.set_cons_zero, List.set_cons_succ]
                  refine wpAnyH_take (i := 11) (v := ?v40) rfl (by kernel_rfl) (by kernel_rfl) (by kernel_rfl) (fun _ _ _ h => h) (Or.inl ⟨by rfl, ?hy40⟩) (by assumption) ?rest40
                  case hy40 => (intro wy hSw; (try dsimp only at hSw); go_simp; (first | done | with_reducible rfl))
                  try simp only [Act.put, List.getElem_toArray, List.getElem_cons_zero, List.getElem_cons_succ, List.setIfInBounds_toArray, List.set_cons_zero, List.set_cons_succ]
                  refine wpAnyH_take (i := 12) (v := ?v41) rfl (by kernel_rfl) (by kernel_rfl) (by kernel_rfl) (fun _ _ _ h => h) (Or.inl ⟨by rfl, ?hy41⟩) (by assumption) ?rest41
                  case hy41 => (intro wy hSw; (try dsimp only at hSw); go_simp; (first | done | with_reducible rfl))
                  try simp only [Act.put, List.getElem_toArray, List.getElem_cons_zero, List.getElem_cons_succ, List.setIfInBounds_toArray, List.set_cons_zero, List.set_cons_succ]
                  refine wpAnyH_done (by kernel_rfl) ?_ _
                  clear hHeld
                  go_wp2
                  go_roundw
                  case rel => exact ⟨k + 1, e, by omega, rfl, HV2.out.symm, by go_num, HBd.out⟩
                  case measure => simp [intOf]; omega
                | false =>
                  rw [Bool.false_and] at HV2
                  go_wp2
                  refine wp_region_held_drew (S := fun _ => True) (by kernel_rfl) trivial (fun hHeld => ?_)
                  refine wpAnyH_take (i := 0) (v := ?v42) rfl (by kernel_rfl) (by kernel_rfl) (by kernel_rfl) (fun _ _ _ h => h) (Or.inl ⟨by rfl, ?hy42⟩) (by assumption) ?rest42
                  case hy42 => (intro wy hSw; (try dsimp only at hSw); go_simp; (first | done | with_reducible rfl))
                  try simp only [Act.put, List.getElem_toArray, List.getElem_cons_zero, List.getElem_cons_succ, List.setIfInBounds_toArray, List.set_cons_zero, List.set_cons_succ]
                  refine wpAnyH_take (i := 1) (v := ?v43) rfl (by kernel_rfl) (by kernel_rfl) (by kernel_rfl) (fun _ _ _ h => h) (Or.inl ⟨by rfl, ?hy43⟩) (by assumption) ?rest43
                  case hy43 => (intro wy hSw; (try dsimp only at hSw); go_simp; (first | done | with_reducible rfl))
                  try simp only [Act.put, List.getElem_toArray, List.getElem_cons_zero, List.getElem_cons_succ, List.setIfInBounds_toArray, List.set_cons_zero, List.set_cons_succ]
                  refine wpAnyH_take (i := 2) (v := undef) rfl (by kernel_rfl) (by kernel_rfl) (by kernel_rfl) (fun _ _ _ h => h) (Or.inr ⟨by rfl, rfl⟩) (by assumption) ?_
                  try simp only [Act.put, List.getElem_toArray, List.getElem_cons_zero, List.getElem_cons_succ, List.setIfInBounds_toArray, List.set_cons_zero, List.set_cons_succ]
                  refine wpAnyH_take (i := 3) (v := undef) rfl (by kernel_rfl) (by kernel_rfl) (by kernel_rfl) (fun _ _ _ h => h) (Or.inr ⟨by rfl, rfl⟩) (by assumption) ?_
                  try simp only [Act.put, List.getElem_toArray, List.getElem_cons_zero, List.getElem_cons_succ, List.setIfInBounds_toArray, List.set_cons_zero, List.set_cons_succ]
                  refine wpAnyH_take (i := 4) (v := undef) rfl (by kernel_rfl) (by kernel_rfl) (by kernel_rfl) (fun _ _ _ h => h) (Or.inr ⟨by rfl, rfl⟩) (by assumption) ?_
                  try simp only [Act.put, List.getElem_toArray, List.getElem_cons_zero, List.getElem_cons_succ, List.setIfInBounds_toArray, List.set_cons_zero, List.set_cons_succ]
                  refine wpAnyH_take (i := 5) (v := undef) rfl (by kernel_rfl) (by kernel_rfl) (by kernel_rfl) (fun _ _ _ h => h) (Or.inr ⟨by rfl, rfl⟩) (by assumption) ?_
                  try simp only [Act.put, List.getElem_toArray, List.getElem_cons_zero, List.getElem_cons_succ, List.setIfInBounds_toArray, List.set_cons_zero, List.set_cons_succ]
                  refine wpAnyH_take (i := 6) (v := undef) rfl (by kernel_rfl) (by kernel_rfl) (by kernel_rfl) (fun _ _ _ h => h) (Or.inr ⟨by rfl, rfl⟩) (by assumption) ?_
                  try simp only [Act.put, List.getElem_toArray, List.getElem_cons_zero, List.getElem_cons_succ, List.setIfInBounds_toArray, List.set_cons_zero, List.set_cons_succ]
                  refine wpAnyH_take (i := 7) (v := undef) rfl (by kernel_rfl) (by kernel_rfl) (by kernel_rfl) (fun _ _ _ h => h) (Or.inr ⟨by rfl, rfl⟩) (by assumption) ?_
                  try simp only [Act.put, List.getElem_toArray, List.getElem_cons_zero, List.getElem_cons_succ, List.setIfInBounds_toArray, List.set_cons_zero, List.set_cons_succ]
                  refine wpAnyH_take (i := 8) (v := undef) rfl (by kernel_rfl) (by kernel_rfl) (by kernel_rfl) (fun _ _ _ h => h) (Or.inr ⟨by rfl, rfl⟩) (by assumption) ?_
                  try simp only [Act.put, List.getElem_toArray, List.getElem_cons_zero, List.getElem_cons_succ, List.setIfInBounds_toArray, List.set_cons_zero, List.set_cons_succ]
                  refine wpAnyH_take (i := 9) (v := undef) rfl (by kernel_rfl) (by kernel_rfl) (by kernel_rfl) (fun _ _ _ h => h) (Or.inr ⟨by rfl, rfl⟩) (by assumption) ?_
                  try simp only [Act.put, List.getElem_toArray, List.getElem_cons_zero, List.getElem_cons_succ, List.setIfInBounds_toArray, List.set_cons_zero, List.set_cons_succ]
                  refine wpAnyH_take (i := 10) (v := undef) rfl (by kernel_rfl) (by kernel_rfl) (by kernel_rfl) (fun _ _ _ h => h) (Or.inr ⟨by rfl, rfl⟩) (by assumption) ?_
                  try simp only [Act.put, List.getElem_toArray, List.getElem_cons_zero, List.getElem_cons_succ, List.setIfInBounds_toArray, List.set_cons_zero, List.set_cons_succ]
                  refine wpAnyH_take (i := 11) (v := ?v44) rfl (by kernel_rfl) (by kernel_rfl) (by kernel_rfl) (fun _ _ _ h => h) (Or.inl ⟨by rfl, ?hy44⟩) (by assumption) ?rest44
                  case hy44 => (intro wy hSw; (try dsimp only at hSw); go_simp; (first | done | with_reducible rfl))
                  try simp only [Act.put, List.getElem_toArray, List.getElem_cons_zero, List.getElem_cons_succ, List.setIfInBounds_toArray, List.set_cons_zero, List.set_cons_succ]
                  refine wpAnyH_take (i := 12) (v := ?v45) rfl (by kernel_rfl) (by kernel_rfl) (by kernel_rfl) (fun _ _ _ h => h) (Or.inl ⟨by rfl, ?hy45⟩) (by assumption) ?rest45
                  case hy45 => (intro wy hSw; (try dsimp only at hSw); go_simp; (first | done | with_reducible rfl))
                  try simp only [Act.put, List.getElem_toArray, List.getElem_cons_zero, List.getElem_cons_succ, List.setIfInBounds_toArray, List.set_cons_zero, List.set_cons_succ]
                  refine wpAnyH_done (by kernel_rfl) ?_ _
                  clear hHeld
                  go_wp2
                  go_roundw
                  case rel => exact ⟨k + 1, false, by omega, rfl, HV2.out.symm, by go_num, HBd.out⟩
                  case measure => simp [intOf]; omega
              · have hkqI : ¬ (k : Int) < q := by omega
                have hkq2 : q = k := by omega
                have HT3 : Hid (V = mayT t (ps.take (q + 1))) := by
                  show _ = _
                  rw [HT.out, HV.out, hkq2]
                clear hkq2
                go_wp2
                go_roundw
                case rel => exact ⟨q + 1, V, by omega, rfl, HT3.out, by go_num, HMz.out⟩
                case measure => simp [intOf]; omega
        · have hqtI : ¬ (q : Int) < ps.length := by omega
          have hMa : M = mayT t ps := by rw [HMM.out, List.take_of_length_le (by omega)]
          have HMA := keepG hMa
          clear hMa HMM
          obtain ⟨X, HX, hbX, HPX⟩ : ∃ X, Hid (wq.alloc (.cells #[.bool false, .bool false, .bool false, .bool false] 4) = X) ∧ Below wq.heap.size wq X ∧ Hid (Hp X wq.heap.size 4 [.bool false, .bool false, .bool false, .bool false]) := ⟨_, rfl, below_allocG _ _, Hp.new wq _ _⟩
          obtain ⟨G, HG⟩ : ∃ G, Hid (wq.heap.size = G) := ⟨_, rfl⟩
          have HGL : Hid (Lg w X b F t G [false, false, false, false]) := by
            rw [← HG.out]
            exact ⟨HMq.out.below hbX, HPX.out, fun e => by have := HMq.out.lies _ e; omega, HMq.out.be.size, rfl⟩
          have hmk := run_makeB19 wq
          rw [HX.out] at hmk
          go_wp2
          rw [HG.out]
          go_loopw [18] (fun i wz => ∃ (z : Nat) (bs : List Bool), z ≤ 4 ∧ i = .int .i64 z ∧ Hid (Lg w wz b F t G bs ∧ ∀ k : Nat, k < z → bs.getD k false = t.taken k)) (fun i _ => 4 - (intOf i).toNat)
          case atStart => exact ⟨0, _, by omega, rfl, HGL.out, fun k hk => by omega⟩
          case round =>
            rename World => wz
            obtain ⟨z, bs, hz, rfl, HZ⟩ := hrel
            by_cases hz4 : z < 4
            · have hz4I : (z : Int) < 4 := by omega
              obtain ⟨cv, cp, r, HC⟩ : ∃ cv cp r, Hid (t.cur z = (cv, cp, r)) := ⟨_, _, _, rfl⟩
              have hr : t.taken z = r := by
                have := HC.out
                unfold Tb.cur at this
                injection this with _ this
                injection this
              have HR := keepG hr
              obtain ⟨b0, HB0⟩ : ∃ b0, Hid (bs.getD z false = b0) := ⟨_, rfl⟩
              clear hr
              go_wp2_with (go_at_call 11; go_must (refine (HZ.out.1.lz.current z HC).mono ?_); rintro e w5 ⟨rfl, hb5⟩; go_must (have HZ5 := keepG (HZ.out.1.below hb5); have q0 := (HZ5.out.at hz4 HB0.out).1; have f0 := (HZ5.out.at hz4 HB0.out).2; clear hb5))
              go_roundw
              case rel => exact ⟨z + 1, bs.set z r, by omega, by go_num, HZ5.out.set z r, fun k hk => by
                have hl := HZ5.out.len
                by_cases e : k = z
                · subst e
                  have : k < bs.length := by omega
                  rw [HR.out]
                  simp [List.getD, this]
                · have h5 := HZ.out.2 k (by omega)
                  rw [← h5]
                  have : z ≠ k := fun e2 => e e2.symm
                  simp [List.getD, List.getElem?_set_ne this]⟩
              case measure => simp [intOf]; omega
            · have hz4I : ¬ (z : Int) < 4 := by omega
              have HBS : Hid (∀ k : Nat, k < 4 → bs.getD k false = t.taken k) := fun k hk => HZ.out.2 k (by omega)
              have HZ0 := keepG HZ.out.1
              clear HZ
              obtain ⟨Y, HY, hbY, HOY⟩ : ∃ Y, Hid (wz.alloc (.cells #[] 3) = Y) ∧ Below wz.heap.size wz Y ∧ Hid (Y.ownsRow wz.heap.size 3 1 (.slice (some ⟨wz.heap.size, 0, none⟩) 0 0) ([] : List Int).length (([] : List Int).map (Value.int .i64))) := ⟨_, rfl, below_allocG _ _, own_empty19 wz _ _⟩
              have HZY := keepG (HZ0.out.below hbY)
              have HSY := keepG (HPS.out Y HZY.out.lz.be)
              obtain ⟨E, t5, HQ5⟩ : ∃ E t5, Hid (t.det ps = (E, t5)) := ⟨_, _, rfl⟩
              have HD := keepG (det_may HQ5.out)
              have hEM : (E == 0) = M := by rw [HD.out.1, HMA.out]
              have hLA := (Tb.det_last HQ5.out).1
              have HT5 : Hid (∀ x, t5.taken x = (t.taken x && !(M && decide (x ∈ ps)))) := fun x => by rw [HD.out.2 x, HMA.out]
              have hMM : (M != M) = false := by cases M <;> rfl
              have hLL : (t.last != t.last) = false := by simp
              have HZP : Hid (ps.length * 8 ≤ 140737488355328) := Nat.le_trans hpl (by decide)
              clear HD
              go_wp2_with (first
                | (at_builtin; rw [HY.out]; go_must (refine wpList_append_sees rfl _ _ 33 rfl wz.heap.size 3 i0 _ 8 Try.underlying33 hi0 hz0 hzs hzb rfl .i64 (.slice (some ⟨wz.heap.size, 0, none⟩) 0 0) [] rfl HOY.out _ ps rfl HSY.out (by unfold maxLen; simp; omega) (by simp; omega) hbY.size ?_); intro v8 w8 hown8 hgr8; go_must (rw [List.nil_append] at hown8; have hb8 : Below wz.heap.size wz w8 := hbY.trans ((Below.refl _ _).grown hgr8 hbY.size (fun k hk => by have : wz.heap.size = k := Option.some.inj hk; omega)); have HZ8 := keepG (HZ0.out.below hb8); have HO8 := keepG hown8; have HS8 := keepG (Sees.own hown8 HPW.out); obtain ⟨va8, vc8, rfl⟩ := own_shape hown8; clear hown8 hgr8 hb8))
                | (go_at_call 15; go_must (refine (HZ8.out.lz.detach HS8.out (fun _ k hk e => by have h5 := HZ0.out.lz.lies k hk; have h6 := (HO8.out.lt k e).1; omega) HQ5).mono ?_); rintro e w9 ⟨rfl, F9, hl9, hn9⟩; go_must (have HZ9 := keepG (HZ8.out.step hl9 hn9); clear hl9 hn9))
                | (go_at_call 10; go_must (refine (HZ9.out.lz.last).mono ?_); rintro e wl ⟨rfl, rfl⟩))
              go_loopw [19] (fun i wy => ∃ y : Nat, y ≤ 4 ∧ i = .int .i64 y ∧ Hid (Lg w wy b F9 t5 G bs)) (fun i _ => 4 - (intOf i).toNat)
              case atStart => exact ⟨0, by omega, rfl, HZ9.out⟩
              case round =>
                rename World => wy
                obtain ⟨y, hy, rfl, HZy⟩ := hrel
                by_cases hy4 : y < 4
                · have hy4I : (y : Int) < 4 := by omega
                  obtain ⟨cv, cp, r, HC⟩ : ∃ cv cp r, Hid (t5.cur y = (cv, cp, r)) := ⟨_, _, _, rfl⟩
                  have hr : t5.taken y = r := by
                    have := HC.out
                    unfold Tb.cur at this
                    injection this with _ this
                    injection this
                  obtain ⟨b0, HB0⟩ : ∃ b0, Hid (bs.getD y false = b0) := ⟨_, rfl⟩
                  have HRR : Hid (r = (b0 && !(M && decide ((y : Int) ∈ ps)))) := by
                    show _ = _
                    rw [← hr, HT5.out, ← HBS.out y hy4, HB0.out]
                  clear hr
                  go_wp2_with (go_at_call 11; go_must (refine (HZy.out.lz.current y HC).mono ?_); rintro e w5 ⟨rfl, hb5⟩; go_must (have HZ5 := keepG (HZy.out.below hb5); clear hb5))
                  have q0 := (HZ5.out.at hy4 HB0.out).1
                  go_loopw [23, 24] (fun f i wt => ∃ (u : Nat) (fb : Bool), u ≤ ps.length ∧ f = .bool fb ∧ Hid (fb = decide ((y : Int) ∈ ps.take u)) ∧ i = .int .i64 u ∧ w5 = wt) (fun _ i _ => ps.length - (intOf i).toNat)
                  case atStart => exact ⟨0, false, by omega, rfl, by show _ = _; simp, rfl, rfl⟩
                  case round =>
                    obtain ⟨u, fb, hu, rfl, HF, rfl, rfl⟩ := hrel
                    by_cases hut : u < ps.length
                    · have hutI : (u : Int) < ps.length := by omega
                      obtain ⟨g, off, ev, hat⟩ := (HPS.out w5 HZ5.out.lz.be).at19 hut
                      subst ev
                      have d0 := hat u hut
                      have HT := keepG (mem_take19 hut (y : Int))
                      obtain ⟨x, HX⟩ : ∃ x, Hid (ps.getD u 0 = x) := ⟨_, rfl⟩
                      rw [HX.out] at d0 HT
                      rw [← HF.out] at HT
                      clear hat
                      cases fb with
                      | true =>
                        go_wp2
                        go_roundw
                        case rel => exact ⟨u + 1, true, by omega, rfl, by show _ = _; rw [HT.out]; rfl, by go_num, by first | rfl | trivial⟩
                        case measure => simp [intOf]; omega
                      | false =>
                        rw [Bool.false_or] at HT
                        obtain ⟨e, HE⟩ : ∃ e, Hid ((x == (y : Int)) = e) := ⟨_, rfl⟩
                        rw [HE.out] at HT
                        have he := HE.out
                        go_wp2
                        go_roundw
                        case rel => exact ⟨u + 1, e, by omega, rfl, HT.out.symm, by go_num, by first | rfl | trivial⟩
                        case measure => simp [intOf]; omega
                    · have hutI : ¬ (u : Int) < ps.length := by omega
                      have hf : decide ((y : Int) ∈ ps) = fb := by rw [HF.out, List.take_of_length_le (by omega)]
                      have hrr := HRR.out
                      rw [hf] at hrr
                      subst hrr
                      clear hf HF HRR HB0
                      cases b0 with
                      | false =>
                        go_wp2
                        go_roundw
                        case rel => exact ⟨y + 1, by omega, by go_num, HZ5.out⟩
                        case measure => simp [intOf]; omega
                      | true =>
                        cases M with
                        | false =>
                          go_wp2
                          go_roundw
                          case rel => exact ⟨y + 1, by omega, by go_num, HZ5.out⟩
                          case measure => simp [intOf]; omega
                        | true =>
                          cases fb with
                          | false =>
                            go_wp2
                            go_roundw
                            case rel => exact ⟨y + 1, by omega, by go_num, HZ5.out⟩
                            case measure => simp [intOf]; omega
                          | true =>
                            go_wp2
                            go_roundw
                            case rel => exact ⟨y + 1, by omega, by go_num, HZ5.out⟩
                            case measure => simp [intOf]; omega
                · have hy4I : ¬ (y : Int) < 4 := by omega
                  have HBE := keepG HZy.out.lz.be
                  go_wp2
                  go_ret
                  exact ⟨rfl, HBE.out⟩
/-- HooksMany. -/
theorem hooksMany_walk (n : Int) (sv : Value) (is : List Ow) (pv : Value) (ps : List Int) (w : World) {P0 : Prop} (_ : P0) (hs : Scr w sv is) (hlen : is.length * 48 ≤ 140737488351232 ∧ ∀ x ∈ is, x.ws.length * 8 ≤ 140737488351232) (hp : Sees .i64 w pv ps) (hpl : ps.length * 8 ≤ 140737488351232) :
    Calls Try.prog 6 #[.int .i64 n, sv, pv] w fun e w' => e = .returned (.bool true) ∧ Below w.heap.size w w' := by
  by_cases h : n < 1 ∨ 4 < n
  · exact hooksMany_no n sv pv w h
  · obtain ⟨m, rfl⟩ : ∃ m : Nat, n = m := ⟨n.toNat, by omega⟩
    exact hooksMany_ok m (by omega) (by omega) sv pv is ps w hs hp hlen.1 hpl
end Go.Proofs.Ytknijloificpmaa
