
/-
  EpochRefused, walked. Condition: none but the arguments' reading.
-/
import Derived.Test.YtkcbiiiakkpegaaE17Aw
namespace Go.Proofs.Ytkcbiiiakkpegaa
open Go.RowKit
set_option linter.unusedVariables false
set_option linter.unusedSimpArgs false
set_option maxRecDepth 100000
theorem infoInt17 : (Try.prog.info? 3).map (fun i => (i.zero, i.size, i.bytes)) = some (some (.int .i64 0), 1, 8) := by kernel_rfl
theorem Ck.enter_same {c c' : Ck} {x n E : Int} (h : c.enter x = (n, E, c')) (hE : E ≠ 0) : c' = c := by
  unfold Ck.enter at h
  split at h
  · injection h with _ h
    injection h with _ h
    exact h.symm
  · split at h
    · injection h with _ h
      injection h with h _
      exact absurd h.symm hE
    · injection h with _ h
      injection h with _ h
      exact h.symm
theorem Ck.leave_same {c c' : Ck} {ws : List Int} {E : Int} (h : c.leave ws = (E, c')) (hE : E ≠ 0) : c' = c := by
  unfold Ck.leave at h
  split at h
  · injection h with _ h
    exact h.symm
  · split at h
    · injection h with _ h
      exact h.symm
    · injection h with h _
      exact absurd h.symm hE
theorem Ck.enter_now {c c' : Ck} {x n E : Int} (h : c.enter x = (n, E, c')) : c'.now = c.now ∧ c'.ins.length = c.ins.length := by
  unfold Ck.enter at h
  split at h
  · injection h with _ h
    injection h with _ h
    rw [← h]; exact ⟨rfl, rfl⟩
  · split at h
    · injection h with _ h
      injection h with _ h
      rw [← h]; exact ⟨rfl, by simp⟩
    · injection h with _ h
      injection h with _ h
      rw [← h]; exact ⟨rfl, rfl⟩
theorem Ck.leave_now {c c' : Ck} {ws : List Int} {E : Int} (h : c.leave ws = (E, c')) : c'.now = c.now ∧ c'.ins.length = c.ins.length := by
  unfold Ck.leave at h
  split at h
  · injection h with _ h
    rw [← h]; exact ⟨rfl, rfl⟩
  · split at h
    · injection h with _ h
      rw [← h]; exact ⟨rfl, rfl⟩
    · injection h with _ h
      rw [← h]; exact ⟨rfl, by simp [clr_len]⟩
theorem epochRefused_no (n : Int) (sv : Value) (w : World) (h : n < 1 ∨ 4 < n) :
    Calls Try.prog 5 #[.int .i64 n, sv] w fun e w' => e = .returned (.bool true) ∧ Below w.heap.size w w' := by
  go_enter Try.func5, Try.ntmps5
  go_wp2_with (first
    | (go_at_call 7; go_must (refine (awake17_any w).mono ?_); rintro e w1 ⟨rfl, hb1⟩)
    | (go_at_call 8; go_must (refine (lnew_no n h _).mono ?_); rintro e w2 ⟨rfl, rfl⟩))
  go_ret
  exact ⟨rfl, hb1⟩
set_option maxHeartbeats 12800000 in
theorem epochRefused_ok (n : Nat) (h1 : 1 ≤ n) (h2 : n ≤ 4) (sv : Value) (is : List Ow) (w : World) (hs : Scr w sv is) (hlen : is.length * 40 ≤ 140737488351232) :
    Calls Try.prog 5 #[.int .i64 n, sv] w fun e w' => e = .returned (.bool true) ∧ Below w.heap.size w w' := by
  have HSC := keepG hs
  obtain ⟨a, c, rfl, hc, hm, _, _⟩ := hs.sees
  have hm' : c ≤ 9223372036854775807 := by unfold maxLen at hm; omega
  obtain ⟨i0, hi0, hz0, hzs, hzb⟩ := info_parts infoInt17
  have hnI : (1 : Int) ≤ n := by omega
  clear hs hm
  go_enter Try.func5, Try.ntmps5
  go_wp2_with (first
    | (go_at_call 7; go_must (refine (awake17_any w).mono ?_); rintro e w1 ⟨rfl, hb1⟩)
    | (go_at_call 8; go_must (refine (lnew_ok n h1 h2 w1).mono ?_); rintro e w2 ⟨rfl, hE, hS, hb⟩; go_must (have HC0 : Hid (Cl w w2 (w1.heap.size + 1) w1.heap.size (Ck.new n)) := ⟨hE, Ck.Ok.new h1 h2, fun k hk => Nat.le_trans hb1.size (hS k hk), hb1.trans (hb.mono hb1.size)⟩; clear hE hS hb)))
  have HCC : Hid (∃ b g, b = w1.heap.size + 1 ∧ g = w1.heap.size) := ⟨_, _, rfl, rfl⟩
  obtain ⟨b, g, hbb, hgg⟩ := HCC.out
  rw [← hbb, ← hgg] at HC0
  rw [← hbb]
  clear hbb hgg hb1
  go_loopw [7] (fun i wr => ∃ j : Nat, j ≤ is.length ∧ i = .int .i64 j ∧ ∃ ck, Hid (Cl w wr b g ck ∧ ck.ins.length = n ∧ ck.now ≤ j + 1)) (fun i _ => is.length - (intOf i).toNat)
  case atStart => exact ⟨0, by omega, rfl, Ck.new n, HC0.out, by simp [Ck.new], by simp [Ck.new]⟩
  case round =>
    obtain ⟨j, hj, rfl, ck, HM⟩ := hrel
    rename World => wr
    by_cases hlt : j < is.length
    · have hltI : (j : Int) < is.length := by omega
      obtain ⟨o, HO⟩ : ∃ o, Hid (is.getD j Ow.nil = o) := ⟨_, rfl⟩
      obtain ⟨p, off, cap, ev, _, _, d0, d1, d2, hsu, hlu, _⟩ := HSC.out.at HM.out.1.be hlt HO.out
      simp only [Value.slice.injEq, true_and] at ev
      obtain ⟨rfl, rfl⟩ := ev
      have HSU := keepG hsu
      have HLU := keepG hlu
      clear hsu hlu
      obtain ⟨X, HX, hbX, HPX⟩ := op_box17 wr o
      have HCX := keepG (HM.out.1.below hbX)
      have HN0 := keepG HM.out.2
      obtain ⟨ok, ox, ou, ow⟩ := o
      simp only at d0 d1 d2 HX HSU HLU
      obtain ⟨oa, oc, ev⟩ := HSU.out.shape
      subst ev
      have hm64 : wr.heap.size < X.heap.size := HPX.out.lt
      clear HM
      go_wp2_with (rw [HX.out])
      go_loopw [9, 10] (fun u i wq => ∃ q : Nat, q ≤ n ∧ i = .int .i64 q ∧ Hid (wq.ownsRow X.heap.size 3 1 u (ck.ins.take q).length ((ck.ins.take q).map (Value.int .i64))) ∧ Hid (Below X.heap.size X wq)) (fun _ i _ => n - (intOf i).toNat)
      case atStart => exact ⟨0, by omega, rfl, World.ownsRow_nil _ _ _ _, Below.refl _ _⟩
      case round =>
        rename_i u wq
        obtain ⟨q, hq, rfl, HOW, HBQ⟩ := hrel
        have HCQ := keepG (HCX.out.below HBQ.out)
        obtain ⟨ua, uc, ev⟩ := own_shape HOW.out
        subst ev
        by_cases hqn : q < n
        · have hqnI : (q : Int) < n := by omega
          have HT := keepG (take_at ck.ins q (by rw [HN0.out.1]; exact hqn))
          have hql : (ck.ins.take q).length ≤ q := List.length_take_le _ _
          obtain ⟨y, HY⟩ : ∃ y, Hid (ck.at q = y) := ⟨_, rfl⟩
          have hyd : ck.ins.getD q 0 = y := by rw [← Ck.at_nat]; exact HY.out
          rw [hyd] at HT
          obtain ⟨ys, HYS⟩ : ∃ ys, Hid (ck.ins.take q = ys) := ⟨_, rfl⟩
          rw [HYS.out] at HOW HT hql ⊢
          obtain ⟨r, HR⟩ : ∃ r, Hid ((y != 0) = r) := ⟨_, rfl⟩
          have hzq := HBQ.out.size
          clear hyd
          go_wp2_with (first
            | (go_at_call 18; go_must (refine (lin HCQ.out.ec q HY HR).mono ?_); rintro e w5 ⟨rfl, rfl⟩)
            | (at_builtin; go_must (refine wpList_append_wide _ rfl _ _ 32 rfl X.heap.size 3 i0 (.int .i64 0) 1 8 Try.underlying32 hi0 hz0 hzs hzb rfl (by decide) _ _ _ rfl (HOW.out.alloc _) ⟨_, 0, none⟩ 1 1 [.int .i64 y] rfl rfl (cell_one_new _ _ _) (one_cell _ _) (by unfold maxLen; omega) (by omega) (by simp; omega) ?_); intro v' w5 hown' hgrow _; have R := step_append HOW.out HBQ.out (Nat.le_refl _) hown' hgrow; clear hown' hgrow))
          go_roundw
          case rel => exact ⟨q + 1, by omega, by go_num, by rw [HT.out]; exact R.1, R.2⟩
          case measure => simp [intOf]; omega
        · have hqnI : ¬ (q : Int) < n := by omega
          have hT : ck.ins.take q = ck.ins := List.take_of_length_le (by rw [HN0.out.1]; omega)
          rw [hT] at HOW ⊢
          have HPQ := keepG (HPX.out.below HBQ.out hm64)
          have o0 := HPQ.out.cell (j := 0) rfl
          have o1 := HPQ.out.cell (j := 1) rfl
          have o2 := HPQ.out.cell (j := 2) rfl
          simp only at o0 o1 o2
          have HSQ := keepG (HSU.out.below (hbX.trans (HBQ.out.mono hbX.size)) (Nat.le_refl _))
          have hzq := HBQ.out.size
          obtain ⟨nw, HNW⟩ : ∃ nw, Hid (ck.now = nw) := ⟨_, rfl⟩
          have hnowc := lnow HCQ.out.ec
          rw [HNW.out] at hnowc
          have HNC := keepG hnowc
          have hnl := HN0.out.1
          have hwl : ck.ins.length ≤ 4 := by omega
          clear hT hnowc hnl
          obtain ⟨L, HL⟩ : ∃ L, Hid (ck.ins.length = L) := ⟨_, rfl⟩
          rw [HL.out] at HOW hwl ⊢
          by_cases hk0 : ok = 0
          · subst hk0
            obtain ⟨m6, E, c6, HQ⟩ : ∃ m6 E c6, Hid (ck.enter ox = (m6, E, c6)) := ⟨_, _, _, rfl⟩
            by_cases hE : E = 0
            · obtain rfl : E = 0 := hE
              go_wp2_with (first
                | (go_at_call 20; have hq := HNC; clear hq; go_must (refine HNC.out.mono ?_); rintro e w5 ⟨rfl, rfl⟩; clear HNC)
                | (go_at_call 9; go_must (refine (HCQ.out.enter ox HQ).mono ?_); rintro e w6 ⟨rfl, hc6, hg6⟩; go_must (have HC6 := keepG hc6; have HG6 := keepG hg6; clear hc6 hg6)))
              go_roundw
              case rel => exact ⟨j + 1, by omega, by go_num, c6, HC6.out, by rw [(Ck.enter_now HQ.out).2]; exact HN0.out.1, by rw [(Ck.enter_now HQ.out).1]; have := HN0.out.2; omega⟩
              case measure => simp [intOf]; omega
            · have hEb : (E == 0) = false := by simpa using hE
              obtain rfl : c6 = ck := Ck.enter_same HQ.out hE
              clear hE
              go_wp2_with (first
                | (go_at_call 20; have hq := HNC; clear hq; go_must (refine HNC.out.mono ?_); rintro e w5 ⟨rfl, rfl⟩; clear HNC)
                | (go_at_call 9; go_must (refine (HCQ.out.enter ox HQ).mono ?_); rintro e w6 ⟨rfl, hc6, hg6⟩; go_must (have HC6 := keepG hc6; have HG6 := keepG hg6; clear hc6 hg6)))
              have HW6 := keepG (own_chg HOW.out HG6.out (fun k hk e => by have h5 := (HOW.out.lt k hk).1; have h6 := HCX.out.ec.lies k e; omega))
              have h04 : (0 : Int) < 1 := by decide
              go_loopw [15] (fun i wz => ∃ z : Nat, z ≤ n ∧ i = .int .i64 z ∧ w6 = wz) (fun i _ => n - (intOf i).toNat)
              case atStart => exact ⟨0, by omega, rfl, rfl⟩
              case round =>
                obtain ⟨z, hz, rfl, rfl⟩ := hrel
                by_cases hzn : z < n
                · have hznI : (z : Int) < n := by omega
                  have hzl : z < c6.ins.length := by rw [HN0.out.1]; exact hzn
                  have hzL : z < L := by rw [← HL.out]; exact hzl
                  have hzLI : (z : Int) < L := by omega
                  obtain ⟨g5, cap5, ev5, _, _, _, _, hcell5⟩ := own_open HW6.out (by omega)
                  simp only [Value.slice.injEq, true_and] at ev5
                  obtain ⟨rfl, rfl⟩ := ev5
                  obtain ⟨y, HY⟩ : ∃ y, Hid (c6.at z = y) := ⟨_, rfl⟩
                  have hyd : c6.ins.getD z 0 = y := by rw [← Ck.at_nat]; exact HY.out
                  have q5 := hcell5 z (.int .i64 y) (by rw [← hyd]; simp [List.getD, hzl])
                  have hy0 := HC6.out.ok.at_le z
                  rw [HY.out] at hy0
                  have hy0' := hy0.1
                  clear hcell5 hyd hy0
                  by_cases hy : y = 0
                  · subst hy
                    have HR : Hid (((0 : Int) != 0) = false) := rfl
                    go_wp2_with (go_at_call 18; go_must (refine (lin HC6.out.ec z HY HR).mono ?_); rintro e w7 ⟨rfl, rfl⟩)
                    go_roundw
                    case rel => exact ⟨z + 1, by omega, by go_num, by first | rfl | trivial⟩
                    case measure => simp [intOf]; omega
                  · have HR : Hid ((y != 0) = true) := by show _ = _; simpa using hy
                    have hyp : 0 < y := by omega
                    have hypd : decide (y > 0) = true := by simpa using hyp
                    go_wp2_with (go_at_call 18; go_must (refine (lin HC6.out.ec z HY HR).mono ?_); rintro e w7 ⟨rfl, rfl⟩)
                    go_roundw
                    case rel => exact ⟨z + 1, by omega, by go_num, by first | rfl | trivial⟩
                    case measure => simp [intOf]; omega
                · have hznI : ¬ (z : Int) < n := by omega
                  have hn6 := lnow HC6.out.ec
                  rw [HNW.out] at hn6
                  go_wp2_with (go_at_call 20; go_must (refine hn6.mono ?_); rintro e w5 ⟨rfl, rfl⟩)
                  go_roundw
                  case rel => exact ⟨j + 1, by omega, by go_num, c6, HC6.out, HN0.out.1, by have := HN0.out.2; omega⟩
                  case measure => simp [intOf]; omega
          · by_cases hk1 : ok = 1
            · subst hk1
              obtain ⟨E, c6, HQ⟩ : ∃ E c6, Hid (ck.leave ow = (E, c6)) := ⟨_, _, rfl⟩
              by_cases hE : E = 0
              · obtain rfl : E = 0 := hE
                go_wp2_with (first
                  | (go_at_call 20; have hq := HNC; clear hq; go_must (refine HNC.out.mono ?_); rintro e w5 ⟨rfl, rfl⟩; clear HNC)
                  | (go_at_call 11; go_must (refine (HCQ.out.leave HSQ.out (HCQ.out.apt (fun hne k hk => by have := HLU.out hne k hk; omega)) HQ).mono ?_); rintro e w6 ⟨rfl, hc6, hg6⟩; go_must (have HC6 := keepG hc6; have HG6 := keepG hg6; clear hc6 hg6)))
                go_roundw
                case rel => exact ⟨j + 1, by omega, by go_num, c6, HC6.out, by rw [(Ck.leave_now HQ.out).2]; exact HN0.out.1, by rw [(Ck.leave_now HQ.out).1]; have := HN0.out.2; omega⟩
                case measure => simp [intOf]; omega
              · have hEb : (E == 0) = false := by simpa using hE
                obtain rfl : c6 = ck := Ck.leave_same HQ.out hE
                clear hE
                go_wp2_with (first
                  | (go_at_call 20; have hq := HNC; clear hq; go_must (refine HNC.out.mono ?_); rintro e w5 ⟨rfl, rfl⟩; clear HNC)
                  | (go_at_call 11; go_must (refine (HCQ.out.leave HSQ.out (HCQ.out.apt (fun hne k hk => by have := HLU.out hne k hk; omega)) HQ).mono ?_); rintro e w6 ⟨rfl, hc6, hg6⟩; go_must (have HC6 := keepG hc6; have HG6 := keepG hg6; clear hc6 hg6)))
                have HW6 := keepG (own_chg HOW.out HG6.out (fun k hk e => by have h5 := (HOW.out.lt k hk).1; have h6 := HCX.out.ec.lies k e; omega))
                have h04 : (0 : Int) < 1 := by decide
                go_loopw [15] (fun i wz => ∃ z : Nat, z ≤ n ∧ i = .int .i64 z ∧ w6 = wz) (fun i _ => n - (intOf i).toNat)
                case atStart => exact ⟨0, by omega, rfl, rfl⟩
                case round =>
                  obtain ⟨z, hz, rfl, rfl⟩ := hrel
                  by_cases hzn : z < n
                  · have hznI : (z : Int) < n := by omega
                    have hzl : z < c6.ins.length := by rw [HN0.out.1]; exact hzn
                    have hzL : z < L := by rw [← HL.out]; exact hzl
                    have hzLI : (z : Int) < L := by omega
                    obtain ⟨g5, cap5, ev5, _, _, _, _, hcell5⟩ := own_open HW6.out (by omega)
                    simp only [Value.slice.injEq, true_and] at ev5
                    obtain ⟨rfl, rfl⟩ := ev5
                    obtain ⟨y, HY⟩ : ∃ y, Hid (c6.at z = y) := ⟨_, rfl⟩
                    have hyd : c6.ins.getD z 0 = y := by rw [← Ck.at_nat]; exact HY.out
                    have q5 := hcell5 z (.int .i64 y) (by rw [← hyd]; simp [List.getD, hzl])
                    have hy0 := HC6.out.ok.at_le z
                    rw [HY.out] at hy0
                    have hy0' := hy0.1
                    clear hcell5 hyd hy0
                    by_cases hy : y = 0
                    · subst hy
                      have HR : Hid (((0 : Int) != 0) = false) := rfl
                      go_wp2_with (go_at_call 18; go_must (refine (lin HC6.out.ec z HY HR).mono ?_); rintro e w7 ⟨rfl, rfl⟩)
                      go_roundw
                      case rel => exact ⟨z + 1, by omega, by go_num, by first | rfl | trivial⟩
                      case measure => simp [intOf]; omega
                    · have HR : Hid ((y != 0) = true) := by show _ = _; simpa using hy
                      have hyp : 0 < y := by omega
                      have hypd : decide (y > 0) = true := by simpa using hyp
                      go_wp2_with (go_at_call 18; go_must (refine (lin HC6.out.ec z HY HR).mono ?_); rintro e w7 ⟨rfl, rfl⟩)
                      go_roundw
                      case rel => exact ⟨z + 1, by omega, by go_num, by first | rfl | trivial⟩
                      case measure => simp [intOf]; omega
                  · have hznI : ¬ (z : Int) < n := by omega
                    have hn6 := lnow HC6.out.ec
                    rw [HNW.out] at hn6
                    go_wp2_with (go_at_call 20; go_must (refine hn6.mono ?_); rintro e w5 ⟨rfl, rfl⟩)
                    go_roundw
                    case rel => exact ⟨j + 1, by omega, by go_num, c6, HC6.out, HN0.out.1, by have := HN0.out.2; omega⟩
                    case measure => simp [intOf]; omega
            · by_cases hk2 : ok = 2
              · subst hk2
                obtain ⟨c6, HD⟩ : ∃ c6, Hid (ck.go = c6) := ⟨_, rfl⟩
                go_wp2_with (first
            | (go_at_call 20; have hq := HNC; clear hq; go_must (refine HNC.out.mono ?_); rintro e w5 ⟨rfl, rfl⟩; clear HNC)
            | (go_at_call 13; go_must (refine (HCQ.out.advance (by have := HN0.out.2; omega) HD).mono ?_); rintro e w6 ⟨rfl, hc6, hg6⟩; go_must (have HC6 := keepG hc6; clear hc6 hg6)))
                go_roundw
                case rel => exact ⟨j + 1, by omega, by go_num, c6, HC6.out, by rw [← HD.out]; exact HN0.out.1, by rw [← HD.out]; have := HN0.out.2; show ck.now + 1 ≤ _; omega⟩
                case measure => simp [intOf]; omega
              · have hb0 : (ok == 0) = false := by simpa using hk0
                have hb1 : (ok == 1) = false := by simpa using hk1
                have hb2 : (ok == 2) = false := by simpa using hk2
                go_wp2_with ((go_at_call 20; have hq := HNC; clear hq; go_must (refine HNC.out.mono ?_); rintro e w5 ⟨rfl, rfl⟩; clear HNC))
                go_roundw
                case rel => exact ⟨j + 1, by omega, by go_num, ck, HCQ.out, HN0.out.1, by have := HN0.out.2; omega⟩
                case measure => simp [intOf]; omega
    · have hltI : ¬ (j : Int) < is.length := by omega
      go_wp2
      go_ret
      exact ⟨rfl, HM.out.1.be⟩
/-- EpochRefused. -/
theorem epochRefused_walk (n : Int) (sv : Value) (is : List Ow) (w : World) {P0 : Prop} (_ : P0) (hs : Scr w sv is) (hlen : is.length * 40 ≤ 140737488351232 ∧ ∀ x ∈ is, x.ws.length * 8 ≤ 140737488351232) :
    Calls Try.prog 5 #[.int .i64 n, sv] w fun e w' => e = .returned (.bool true) ∧ Below w.heap.size w w' := by
  by_cases h : n < 1 ∨ 4 < n
  · exact epochRefused_no n sv w h
  · obtain ⟨m, rfl⟩ : ∃ m : Nat, n = m := ⟨n.toNat, by omega⟩
    exact epochRefused_ok m (by omega) (by omega) sv is w hs hlen.1
end Go.Proofs.Ytkcbiiiakkpegaa
