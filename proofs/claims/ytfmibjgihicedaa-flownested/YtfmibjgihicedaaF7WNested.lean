/-
  FlowNested, walked: it answers true. Condition: the code takes up no more bytes than an argument may.
-/
import Derived.Test.YtfmibjgihicedaaF7WNexts
namespace Go.Proofs.Ytfmibjgihicedaa
open Go.RowKit Go.Deep
set_option linter.unusedVariables false
set_option maxRecDepth 20000

theorem inst_new (w : World) (x y z a b : Value) (t : TypeId) (n : Nat) (hn : n = w.heap.size) : ∀ j u, [x, y, z, a, b][j]? = some u → (w.alloc (.cells #[x, y, z, a, b] t)).cell? ((⟨n, 0, none⟩ : Addr).add j) = some u := by
  subst hn
  intro j u hj
  rw [add_none, Nat.zero_add, World.cell?_alloc_at _ _ _ _ rfl]
  exact (List.getElem?_toArray (xs := [x, y, z, a, b])).trans hj
theorem inst_one (a b c d e : Int) : ∀ u ∈ [Value.int .i64 a, .int .i64 b, .int .i64 c, .int .i64 d, .int .i64 e], u.oneCell' = true := by
  intro u hu
  simp at hu
  rcases hu with rfl | rfl | rfl | rfl | rfl <;> rfl
theorem sees_exit {w : World} {base : Nat} {e : TypeId} {v : Value} {xs : List In} (h : w.ownsRow base e 5 v (xs.length + 1) (flat xs ++ [.int .i64 22, .int .i64 0, .int .i64 0, .int .i64 0, .int .i64 0])) : SeesI w v (xs ++ [exitI]) := by
  refine own_seesI (base := base) (e := e) ?_
  have e1 : flat (xs ++ [exitI]) = flat xs ++ [.int .i64 22, .int .i64 0, .int .i64 0, .int .i64 0, .int .i64 0] := by simp [flat, exitI, In.cells]
  rw [e1]
  simpa using h
/-- Loops of a code that is taken, by their numbers. -/
theorem loop_at {xs : List In} (T : Taken xs) {ls : List Lp} (hl : ls = loopsL xs) {j : Nat} (hj : j < ls.length) : 0 ≤ (ls.getD j Lp.nil).h ∧ (ls.getD j Lp.nil).h < (ls.getD j Lp.nil).t ∧ (ls.getD j Lp.nil).t < xs.length ∧ ls.getD j Lp.nil ∈ loopsL xs := by
  have e : ls.getD j Lp.nil = ls[j] := by simp [hj]
  have hm : ls[j] ∈ loopsL xs := by rw [← hl]; exact List.getElem_mem hj
  obtain ⟨_, _, _, _, h0, h1, h2, _⟩ := loop_ok T.place hm
  rw [e]
  exact ⟨h0, h1, h2, hm⟩
theorem loop_less {xs : List In} {ls : List Lp} (hl : ls = loopsL xs) {i j : Nat} (hij : i < j) (hj : j < ls.length) : (ls.getD i Lp.nil).t < (ls.getD j Lp.nil).t := by
  have e1 : ls.getD i Lp.nil = ls[i] := by simp [show i < ls.length by omega]
  have e2 : ls.getD j Lp.nil = ls[j] := by simp [hj]
  rw [e1, e2]
  have hs := loopsU_sorted xs xs.length
  rw [show loopsU xs xs.length = ls from hl.symm] at hs
  exact (List.pairwise_iff_getElem.1 hs) i j (by omega) hj hij
theorem loop_nest {xs : List In} (T : Taken xs) {ls : List Lp} (hl : ls = loopsL xs) {i j : Nat} (hij : i < j) (hj : j < ls.length) : ¬ ((ls.getD j Lp.nil).h ≤ (ls.getD i Lp.nil).t ∧ (ls.getD i Lp.nil).h < (ls.getD j Lp.nil).h) := by
  intro h
  have hless := loop_less hl hij hj
  have e1 : ls.getD i Lp.nil = ls[i] := by simp [show i < ls.length by omega]
  have e2 : ls.getD j Lp.nil = ls[j] := by simp [hj]
  have hsplit : ls = ls.take j ++ ls[j] :: ls.drop (j + 1) := by
    rw [← List.drop_eq_getElem_cons hj, List.take_append_drop]
  have hc := crossF_none _ _ T.cross (ls.take j) (ls.drop (j + 1)) [] ls[j] (by rw [← hl]; exact hsplit) ls[i] (by
    rw [List.nil_append, List.mem_take_iff_getElem]
    exact ⟨i, by omega, rfl⟩)
  rw [e1, e2] at h hless
  rw [(enters_iff (l := ls[i])).2 (by omega)] at hc
  cases hc
theorem rise_at {M : List Int} (h : M.Pairwise (· < ·)) {q : Nat} (hq : q + 1 < M.length) : M.getD q 0 < M.getD (q + 1) 0 := by
  have e1 : M.getD q 0 = M[q] := by simp [show q < M.length by omega]
  have e2 : M.getD (q + 1) 0 = M[q + 1] := by simp [hq]
  rw [e1, e2]
  exact (List.pairwise_iff_getElem.1 h) q (q + 1) (by omega) hq (by omega)
set_option maxHeartbeats 6400000 in
theorem nested_walk (v : Value) (xs : List In) (w : World) (hs : SeesI w v xs) (hz : xs.length * 40 ≤ 140737488355328) :
    Calls Try.prog 7 #[v] w fun e w' => e = .returned (.bool true) ∧ Below w.heap.size w w' := by
  obtain ⟨i0, hi, hz0, hz1, hz2⟩ := info_parts Try.infoInst7
  have HS : Hid (SeesI w v xs) := hs
  have HZ : Hid (xs.length * 40 ≤ 140737488355328) := hz
  clear hz
  obtain ⟨E, HE⟩ : ∃ E, Hid (E = errL xs) := ⟨_, rfl⟩
  obtain ⟨C, HC⟩ : ∃ C, Hid (C = costA xs) := ⟨_, rfl⟩
  obtain ⟨a, cap, rfl⟩ := hs.shape
  clear hs
  by_cases hE : E = 0
  case neg =>
    have hEb : (E != 0) = true := by simpa using hE
    have HL : Hid (loopsA xs = []) := by show _ = _; unfold loopsA; rw [if_neg (by rw [← HE.out]; exact hE)]
    go_enter Try.func7, Try.ntmps7
    go_wp2_with (first
      | (go_at_call 8; go_must (refine (awake_any _).mono ?_); rintro e w1 ⟨rfl, hb1⟩)
      | (go_at_call 9; go_must (refine (copied_any _ xs _ (HS.out.below hb1) HZ.out).mono ?_); rintro e w2 ⟨u, rfl, hown, hb2⟩; go_must (have HU : Hid (SeesI w2 u xs) := own_seesI hown; have hB2 := hb1.trans (hb2.mono hb1.size); obtain ⟨au, cu, rfl⟩ := HU.out.shape; clear hb2 hown))
      | (go_at_call 17; go_must (refine (lloops_any _ xs _ HU.out HE).mono ?_); rintro e w3 ⟨l1, rfl, ho3, hb3⟩; go_must (rw [HL.out] at ho3; have hB3 := hB2.trans (hb3.mono hB2.size); obtain ⟨q1, p1, ev, _⟩ := own_seesL ho3; subst ev; clear hb3 ho3)))
    go_ret
    exact ⟨rfl, hB3⟩
  subst hE
  have HT : Hid (Taken xs) := check_ok.1 (show errL xs = 0 from HE.out.symm)
  have hN0 := HT.out.pos
  have hN1 := HT.out.top
  obtain ⟨ls, HL⟩ : ∃ ls, Hid (ls = loopsL xs) := ⟨_, rfl⟩
  have HL2 : Hid (loopsA xs = ls) := by show _ = _; unfold loopsA; rw [if_pos HE.out.symm, HL.out]
  have hll : ls.length ≤ 64 := by have := loopsU_len xs xs.length; rw [HL.out]; unfold loopsL; omega
  go_enter Try.func7, Try.ntmps7
  go_wp2_with (first
    | (go_at_call 8; go_must (refine (awake_any _).mono ?_); rintro e w1 ⟨rfl, hb1⟩)
    | (go_at_call 9; go_must (refine (copied_any _ xs _ (HS.out.below hb1) HZ.out).mono ?_); rintro e w2 ⟨u, rfl, hown, hb2⟩; go_must (have HU : Hid (SeesI w2 u xs) := own_seesI hown; have hB2 := hb1.trans (hb2.mono hb1.size); obtain ⟨au, cu, rfl⟩ := HU.out.shape; clear hb2 hown))
    | (go_at_call 17; go_must (refine (lloops_any _ xs _ HU.out HE).mono ?_); rintro e w3 ⟨l1, rfl, ho3, hb3⟩; go_must (rw [HL2.out] at ho3; have hB3 := hB2.trans (hb3.mono hB2.size); have hsz3 := hB3.size; obtain ⟨q1, p1, ev, hc2, hm2, hn2, hcell2⟩ := own_seesL ho3; have HC2 : Hid (ls ≠ [] → ∃ b off, q1 = some ⟨b, off, none⟩ ∧ b < w3.heap.size ∧ ∀ k, k < ls.length → AtL w3 b (off + k * 3) (ls.getD k Lp.nil)) := hcell2; subst ev; clear hb3 ho3 hcell2 HU hn2)))
  go_loopw [5] (fun i wr => ∃ j : Nat, j ≤ ls.length ∧ i = .int .i64 j ∧ Below w3.heap.size w3 wr) (fun i _ => ls.length - (intOf i).toNat)
  case atStart => exact ⟨0, by omega, rfl, Below.refl _ _⟩
  case round =>
    rename World => w0
    obtain ⟨j, hj, rfl, hbe⟩ := hrel
    have hsz := hbe.size
    by_cases hjn : j < ls.length
    · obtain ⟨b2, off2, rfl, hb2, hat2⟩ := HC2.out (fun h => by rw [h] at hjn; simp at hjn)
      have HA : Hid (∀ w1, Below w3.heap.size w3 w1 → ∀ k, k < ls.length → AtL w1 b2 (off2 + k * 3) (ls.getD k Lp.nil)) := fun w1 h1 k hk => (hat2 k hk).below h1 hb2
      clear hat2
      obtain ⟨⟨lh, lt, lb⟩, HX⟩ : ∃ l, Hid (ls.getD j Lp.nil = l) := ⟨_, rfl⟩
      have hlo := loop_at HT.out HL.out hjn
      rw [HX.out] at hlo
      simp only at hlo
      obtain ⟨hl0, hl1, hl2, hlm⟩ := hlo
      have HLm : Hid ((⟨lh, lt, lb⟩ : Lp) ∈ loopsL xs) := hlm
      clear hlm
      have hcell := HA.out w0 hbe j hjn
      rw [HX.out] at hcell
      obtain ⟨c0, c1, c2⟩ := hcell
      simp only at c0 c1 c2
      have hbr : b2 < w0.heap.size := by omega
      have HA0 : Hid ((0 : Int) = askL xs lh) := by
        show _ = _
        unfold askL
        rw [← HE.out, if_neg (by simp), if_neg (by omega)]
      obtain ⟨M, HM⟩ : ∃ M, Hid (aroundA xs lh = M) := ⟨_, rfl⟩
      have HM2 : Hid (M = aroundL (loopsL xs) lh) := by show _ = _; rw [← HM.out]; unfold aroundA; rw [if_pos HA0.out.symm]
      have HMm : Hid (lt ∈ M) := by rw [HM2.out]; exact around_has HT.out HLm.out
      have HMr : Hid (M.Pairwise (· < ·)) := by rw [HM2.out]; exact around_rising lh
      have hM0 : 0 < M.length := List.length_pos_of_mem HMm.out
      have hM1 : M.length ≤ 64 := by rw [← HM.out]; exact aroundA_ok.2
      have g1 : decide (lh < 0) = false := decide_eq_false (by omega)
      have g2 : decide (lt ≤ lh) = false := decide_eq_false (by omega)
      have g3 : decide ((xs.length : Int) ≤ lt) = false := decide_eq_false (by omega)
      by_cases hj0 : j = 0
      · subst hj0
        simp only [Nat.zero_mul, Nat.add_zero] at c0 c1 c2
        go_wp2
        go_region
        go_wp2
        go_loopw [7] (fun i wr => ∃ q m : Nat, q ≤ 0 ∧ i = .int .i64 q ∧ wr = (w0.alloc (lpO ⟨lh, lt, lb⟩)).drewN m) (fun i _ => 0 - (intOf i).toNat)
        case atStart => exact ⟨0, 1, by omega, rfl, rfl⟩
        case round =>
          obtain ⟨q, m, hq, rfl, rfl⟩ := hrel
          have hbA : Below w3.heap.size w3 ((w0.alloc (lpO ⟨lh, lt, lb⟩)).drewN m) := below_drewN (hbe.alloc hsz _) m
          by_cases hqj : q < 0
          · exact absurd hqj (by omega)
          · have hbB : Below w.heap.size w ((w0.alloc (lpO ⟨lh, lt, lb⟩)).drewN m) := hB3.trans (hbA.mono hsz3)
            go_wp2_with (go_at_call 14; go_must (refine (laround_any _ xs _ _ (HS.out.below hbB) HA0).mono ?_); rintro e w4 ⟨u, rfl, hown, hb4⟩; go_must (rw [HM.out] at hown; have hb34 : Below w3.heap.size w3 w4 := hbA.trans (hb4.mono hbA.size); obtain ⟨gM, capM, rfl, hg0, hg1, hgc, hgm, hcM⟩ := own_open hown hM0; have HCM : Hid (∀ q, q < M.length → w4.cell? ⟨gM, q, none⟩ = some (.int .i64 (M.getD q 0))) := (fun q hq => hcM q _ (by simp [List.getD, hq])); have hbx : w4.cell? ⟨w0.heap.size, 1, none⟩ = some (.int .i64 lt) := (by rw [hb4.cell (p := ⟨w0.heap.size, 1, none⟩) (by simp)]; go_cell); unfold maxLen at hgm; clear hown hcM hb4))
            go_loopw [11, 10] (fun i f wr => ∃ (q m : Nat) (F : Bool), q ≤ M.length ∧ i = .int .i64 q ∧ f = .bool F ∧ Hid (F = memB (M.take q) lt) ∧ wr = w4.drewN m) (fun i _ _ => M.length - (intOf i).toNat)
            case atStart => exact ⟨0, 0, false, by omega, rfl, rfl, rfl, rfl⟩
            case round =>
              obtain ⟨q, m, F, hq, rfl, rfl, HF, rfl⟩ := hrel
              by_cases hqM : q < M.length
              · obtain ⟨x, Hx⟩ : ∃ x, Hid (M.getD q 0 = x) := ⟨_, rfl⟩
                have x0 := HCM.out q hqM
                rw [Hx.out] at x0
                obtain ⟨F2, hF2⟩ : ∃ F2, (x == lt) = F2 := ⟨_, rfl⟩
                have HF2 : Hid (memB (M.take (q + 1)) lt = (F || F2)) := by show _ = _; rw [mem_take hqM, ← HF.out, Hx.out, ← hF2]; rfl
                by_cases hq0 : q = 0
                · subst hq0
                  cases F
                  · go_wp2
                    go_region_held3 (fun w' => w'.cell? ⟨gM, 0, none⟩ = some (.int .i64 x) ∧ w'.cell? ⟨w0.heap.size, 1, none⟩ = some (.int .i64 lt)) (exact ⟨x0, hbx⟩) (fail)
                    go_wp2
                    go_region
                    go_wp2
                    go_roundw
                    case rel => exact ⟨1, _, F2, by omega, rfl, rfl, by show _ = _; rw [HF2.out]; rfl, rfl⟩
                    case measure => simp [intOf]; omega
                  · exact absurd HF.out (by simp [memB])
                · obtain ⟨r, hr⟩ : ∃ r : Nat, (q : Int) - 1 = r := ⟨q - 1, by omega⟩
                  have hrM : r < M.length := by omega
                  have hqp : 0 < q := by omega
                  have hwr : IntKind.i64.wrap (r : Int) = r := by rw [IntKind.wrap_i64]; omega
                  have hwr2 : IntKind.i64.wrap ((q : Int) - 1) = r := by rw [IntKind.wrap_i64]; omega
                  have hrM2 : (0 : Int) ≤ r ∧ (r : Int) < M.length := by omega
                  obtain ⟨y, Hy⟩ : ∃ y, Hid (M.getD r 0 = y) := ⟨_, rfl⟩
                  have y0 := HCM.out r hrM
                  rw [Hy.out] at y0
                  have hyx : decide (x ≤ y) = false := decide_eq_false (by have := rise_at HMr.out (q := r) (by omega); rw [show r + 1 = q by omega, Hx.out, Hy.out] at this; omega)
                  cases F
                  · go_wp2
                    go_region_held3 (fun w' => w'.cell? ⟨gM, q, none⟩ = some (.int .i64 x) ∧ w'.cell? ⟨w0.heap.size, 1, none⟩ = some (.int .i64 lt)) (exact ⟨x0, hbx⟩) (fail)
                    go_wp2
                    go_region_held3 (fun w' => w'.cell? ⟨gM, q, none⟩ = some (.int .i64 x) ∧ w'.cell? ⟨gM, r, none⟩ = some (.int .i64 y)) (exact ⟨x0, y0⟩) (fail)
                    go_wp2
                    go_roundw
                    case rel => exact ⟨q + 1, _, F2, by omega, by go_num, rfl, by show _ = _; rw [HF2.out]; rfl, rfl⟩
                    case measure => simp [intOf]; omega
                  · go_wp2
                    go_region
                    go_wp2
                    go_region_held3 (fun w' => w'.cell? ⟨gM, q, none⟩ = some (.int .i64 x) ∧ w'.cell? ⟨gM, r, none⟩ = some (.int .i64 y)) (exact ⟨x0, y0⟩) (fail)
                    go_wp2
                    go_roundw
                    case rel => exact ⟨q + 1, _, true, by omega, by go_num, rfl, by show _ = _; rw [HF2.out]; rfl, rfl⟩
                    case measure => simp [intOf]; omega
              · obtain rfl : q = M.length := by omega
                have hFt : F = true := by rw [HF.out, List.take_length]; exact has_iff.2 HMm.out
                subst hFt
                go_wp2
                go_roundw
                case rel => exact ⟨0 + 1, by omega, by go_num, below_drewN hb34 m⟩
                case measure => simp [intOf]; omega
      · obtain ⟨i, hij⟩ : ∃ i : Nat, (j : Int) - 1 = i := ⟨j - 1, by omega⟩
        have hin : i < ls.length := by omega
        have hjp : 0 < j := by omega
        have hwi : IntKind.i64.wrap (i : Int) = i := by rw [IntKind.wrap_i64]; omega
        have hwi2 : IntKind.i64.wrap ((j : Int) - 1) = i := by rw [IntKind.wrap_i64]; omega
        have hin2 : (0 : Int) ≤ i ∧ (i : Int) < ls.length := by omega
        obtain ⟨⟨ph, pt, pb⟩, HPr⟩ : ∃ l, Hid (ls.getD i Lp.nil = l) := ⟨_, rfl⟩
        have hcp := HA.out _ (hbe.alloc hsz (lpO ⟨lh, lt, lb⟩)) i hin
        rw [HPr.out] at hcp
        obtain ⟨_, p1', _⟩ := hcp
        simp only at p1'
        have hpt : decide (lt ≤ pt) = false := decide_eq_false (by have := loop_less HL.out (i := i) (j := j) (by omega) hjn; rw [HPr.out, HX.out] at this; simp only at this; omega)
        go_wp2
        go_region_held3 (fun w' => (w'.cell? ⟨w0.heap.size, 0, none⟩ = some (.int .i64 lh) ∧ w'.cell? ⟨w0.heap.size, 1, none⟩ = some (.int .i64 lt)) ∧ w'.cell? ⟨b2, off2 + i * 3 + 1, none⟩ = some (.int .i64 pt)) (exact ⟨⟨by go_cell, by go_cell⟩, p1'⟩) (fail)
        go_wp2
        go_loopw [7] (fun i wr => ∃ q m : Nat, q ≤ j ∧ i = .int .i64 q ∧ wr = (w0.alloc (lpO ⟨lh, lt, lb⟩)).drewN m) (fun i _ => j - (intOf i).toNat)
        case atStart => exact ⟨0, 1, by omega, rfl, rfl⟩
        case round =>
          obtain ⟨q, m, hq, rfl, rfl⟩ := hrel
          have hbA : Below w3.heap.size w3 ((w0.alloc (lpO ⟨lh, lt, lb⟩)).drewN m) := below_drewN (hbe.alloc hsz _) m
          by_cases hqj : q < j
          · obtain ⟨⟨eh, et, eb⟩, HQ⟩ : ∃ l, Hid (ls.getD q Lp.nil = l) := ⟨_, rfl⟩
            have hqn : q < ls.length := by omega
            have hqn2 : (0 : Int) ≤ q ∧ (q : Int) < ls.length := by omega
            have hcq := HA.out _ (hbe.alloc hsz (lpO ⟨lh, lt, lb⟩)) q hqn
            rw [HQ.out] at hcq
            obtain ⟨d0, d1, d2⟩ := hcq
            simp only at d0 d1 d2
            have hne := loop_nest HT.out HL.out (i := q) hqj hjn
            rw [HX.out, HQ.out] at hne
            simp only at hne
            by_cases het : lh ≤ et
            · have heh : decide (eh < lh) = false := decide_eq_false fun h => hne ⟨het, h⟩
              have hetb : decide (lh ≤ et) = true := decide_eq_true het
              clear hne
              go_wp2
              go_region_held3 (fun w' => (w'.cell? ⟨b2, off2 + q * 3, none⟩ = some (.int .i64 eh) ∧ w'.cell? ⟨b2, off2 + q * 3 + 1, none⟩ = some (.int .i64 et)) ∧ w'.cell? ⟨w0.heap.size, 0, none⟩ = some (.int .i64 lh)) (exact ⟨⟨d0, d1⟩, by go_cell⟩) (fail)
              go_wp2
              go_roundw
              case rel => exact ⟨q + 1, _, by omega, by go_num, rfl⟩
              case measure => simp [intOf]; omega
            · have hetb : decide (lh ≤ et) = false := decide_eq_false het
              clear hne
              go_wp2
              go_region
              go_wp2
              go_roundw
              case rel => exact ⟨q + 1, _, by omega, by go_num, rfl⟩
              case measure => simp [intOf]; omega
          · have hbB : Below w.heap.size w ((w0.alloc (lpO ⟨lh, lt, lb⟩)).drewN m) := hB3.trans (hbA.mono hsz3)
            go_wp2_with (go_at_call 14; go_must (refine (laround_any _ xs _ _ (HS.out.below hbB) HA0).mono ?_); rintro e w4 ⟨u, rfl, hown, hb4⟩; go_must (rw [HM.out] at hown; have hb34 : Below w3.heap.size w3 w4 := hbA.trans (hb4.mono hbA.size); obtain ⟨gM, capM, rfl, hg0, hg1, hgc, hgm, hcM⟩ := own_open hown hM0; have HCM : Hid (∀ q, q < M.length → w4.cell? ⟨gM, q, none⟩ = some (.int .i64 (M.getD q 0))) := (fun q hq => hcM q _ (by simp [List.getD, hq])); have hbx : w4.cell? ⟨w0.heap.size, 1, none⟩ = some (.int .i64 lt) := (by rw [hb4.cell (p := ⟨w0.heap.size, 1, none⟩) (by simp)]; go_cell); unfold maxLen at hgm; clear hown hcM hb4))
            go_loopw [11, 10] (fun i f wr => ∃ (q m : Nat) (F : Bool), q ≤ M.length ∧ i = .int .i64 q ∧ f = .bool F ∧ Hid (F = memB (M.take q) lt) ∧ wr = w4.drewN m) (fun i _ _ => M.length - (intOf i).toNat)
            case atStart => exact ⟨0, 0, false, by omega, rfl, rfl, rfl, rfl⟩
            case round =>
              obtain ⟨q, m, F, hq, rfl, rfl, HF, rfl⟩ := hrel
              by_cases hqM : q < M.length
              · obtain ⟨x, Hx⟩ : ∃ x, Hid (M.getD q 0 = x) := ⟨_, rfl⟩
                have x0 := HCM.out q hqM
                rw [Hx.out] at x0
                obtain ⟨F2, hF2⟩ : ∃ F2, (x == lt) = F2 := ⟨_, rfl⟩
                have HF2 : Hid (memB (M.take (q + 1)) lt = (F || F2)) := by show _ = _; rw [mem_take hqM, ← HF.out, Hx.out, ← hF2]; rfl
                by_cases hq0 : q = 0
                · subst hq0
                  cases F
                  · go_wp2
                    go_region_held3 (fun w' => w'.cell? ⟨gM, 0, none⟩ = some (.int .i64 x) ∧ w'.cell? ⟨w0.heap.size, 1, none⟩ = some (.int .i64 lt)) (exact ⟨x0, hbx⟩) (fail)
                    go_wp2
                    go_region
                    go_wp2
                    go_roundw
                    case rel => exact ⟨1, _, F2, by omega, rfl, rfl, by show _ = _; rw [HF2.out]; rfl, rfl⟩
                    case measure => simp [intOf]; omega
                  · exact absurd HF.out (by simp [memB])
                · obtain ⟨r, hr⟩ : ∃ r : Nat, (q : Int) - 1 = r := ⟨q - 1, by omega⟩
                  have hrM : r < M.length := by omega
                  have hqp : 0 < q := by omega
                  have hwr : IntKind.i64.wrap (r : Int) = r := by rw [IntKind.wrap_i64]; omega
                  have hwr2 : IntKind.i64.wrap ((q : Int) - 1) = r := by rw [IntKind.wrap_i64]; omega
                  have hrM2 : (0 : Int) ≤ r ∧ (r : Int) < M.length := by omega
                  obtain ⟨y, Hy⟩ : ∃ y, Hid (M.getD r 0 = y) := ⟨_, rfl⟩
                  have y0 := HCM.out r hrM
                  rw [Hy.out] at y0
                  have hyx : decide (x ≤ y) = false := decide_eq_false (by have := rise_at HMr.out (q := r) (by omega); rw [show r + 1 = q by omega, Hx.out, Hy.out] at this; omega)
                  cases F
                  · go_wp2
                    go_region_held3 (fun w' => w'.cell? ⟨gM, q, none⟩ = some (.int .i64 x) ∧ w'.cell? ⟨w0.heap.size, 1, none⟩ = some (.int .i64 lt)) (exact ⟨x0, hbx⟩) (fail)
                    go_wp2
                    go_region_held3 (fun w' => w'.cell? ⟨gM, q, none⟩ = some (.int .i64 x) ∧ w'.cell? ⟨gM, r, none⟩ = some (.int .i64 y)) (exact ⟨x0, y0⟩) (fail)
                    go_wp2
                    go_roundw
                    case rel => exact ⟨q + 1, _, F2, by omega, by go_num, rfl, by show _ = _; rw [HF2.out]; rfl, rfl⟩
                    case measure => simp [intOf]; omega
                  · go_wp2
                    go_region
                    go_wp2
                    go_region_held3 (fun w' => w'.cell? ⟨gM, q, none⟩ = some (.int .i64 x) ∧ w'.cell? ⟨gM, r, none⟩ = some (.int .i64 y)) (exact ⟨x0, y0⟩) (fail)
                    go_wp2
                    go_roundw
                    case rel => exact ⟨q + 1, _, true, by omega, by go_num, rfl, by show _ = _; rw [HF2.out]; rfl, rfl⟩
                    case measure => simp [intOf]; omega
              · obtain rfl : q = M.length := by omega
                have hFt : F = true := by rw [HF.out, List.take_length]; exact has_iff.2 HMm.out
                subst hFt
                go_wp2
                go_roundw
                case rel => exact ⟨j + 1, by omega, by go_num, below_drewN hb34 m⟩
                case measure => simp [intOf]; omega
    · obtain rfl : j = ls.length := by omega
      have hbw : Below w.heap.size w w0 := hB3.trans (hbe.mono hsz3)
      obtain ⟨ys, HYs⟩ : ∃ ys, Hid (xs ++ [exitI] = ys) := ⟨_, rfl⟩
      obtain ⟨P2, HP2⟩ : ∃ P, Hid (P = (checkL ys).1) := ⟨_, rfl⟩
      obtain ⟨E2, HE2⟩ : ∃ E, Hid (E = errL ys) := ⟨_, rfl⟩
      have HCe : Hid (C = costC (loopsL xs) xs.length) := by show _ = _; rw [HC.out]; unfold costA; rw [if_pos HE.out.symm]
      have hCt : C ≤ 256 := by rw [HCe.out]; exact HT.out.cost
      by_cases h64 : xs.length = 64
      · have hPE : P2 = 0 ∧ E2 = 11 := by
          have h := (check_exit HT.out).1 h64
          rw [HP2.out, HE2.out, ← HYs.out]
          unfold errL
          rw [h]
          exact ⟨rfl, rfl⟩
        obtain ⟨rfl, rfl⟩ := hPE
        have h64b : ((xs.length : Int) == 64) = true := by simp; omega
        clear h64
        go_wp2_with (first
          | (go_at_call 9; go_must (refine (copied_any _ xs _ (HS.out.below hbw) HZ.out).mono ?_); rintro e w4 ⟨u4, rfl, hown, hb4⟩; go_must (have hB4 := hbw.trans (hb4.mono hbw.size); have hsz4 := hb4.size; clear hb4))
          | (at_builtin; go_must (refine wpList_append_own _ rfl _ _ 22 rfl w0.heap.size 32 i0 (instV 0 0 0 0 0) 5 40 Try.underlying22 hi hz0 hz1 hz2 rfl (by decide) _ _ _ rfl (hown.alloc _) ⟨_, 0, none⟩ 1 1 [.int .i64 22, .int .i64 0, .int .i64 0, .int .i64 0, .int .i64 0] rfl rfl (inst_new _ _ _ _ _ _ _ _ rfl) (inst_one _ _ _ _ _) (by unfold maxLen; omega) (by omega) (by simp; omega) ?_); intro v' w5 hown' hgrow _; go_must (have HU5 : Hid (SeesI w5 v' ys) := HYs.out ▸ sees_exit hown'; have hB5 : Below w.heap.size w w5 := (hB4.alloc hB4.size _).grown hgrow (by have := hB4.size; simp; omega) (fun k hk => by have := (hown.lt k hk).1; have := hbw.size; omega); obtain ⟨a5, p5, ev5⟩ := HU5.out.shape; subst ev5; clear hown' hgrow hown))
          | (go_at_call 10; go_must (refine (check_as HU5.out HP2 HE2).mono ?_); rintro e w6 ⟨rfl, hb6⟩; go_must (have hB6 := hB5.trans (hb6.mono hB5.size); clear hb6)))
        go_ret
        exact ⟨rfl, hB6⟩
      · have hPE := (check_exit HT.out).2 (by omega)
        have h64b : ((xs.length : Int) == 64) = false := by simp; omega
        by_cases hC : C = 256
        · have hE2 : E2 = 32 := by
            rw [HE2.out, ← HYs.out]
            unfold errL
            rw [hPE, if_pos (by rw [← HCe.out]; omega)]
          clear hPE
          subst hE2 hC
          go_wp2_with (first
            | (go_at_call 9; go_must (refine (copied_any _ xs _ (HS.out.below hbw) HZ.out).mono ?_); rintro e w4 ⟨u4, rfl, hown, hb4⟩; go_must (have hB4 := hbw.trans (hb4.mono hbw.size); have hsz4 := hb4.size; clear hb4))
            | (at_builtin; go_must (refine wpList_append_own _ rfl _ _ 22 rfl w0.heap.size 32 i0 (instV 0 0 0 0 0) 5 40 Try.underlying22 hi hz0 hz1 hz2 rfl (by decide) _ _ _ rfl (hown.alloc _) ⟨_, 0, none⟩ 1 1 [.int .i64 22, .int .i64 0, .int .i64 0, .int .i64 0, .int .i64 0] rfl rfl (inst_new _ _ _ _ _ _ _ _ rfl) (inst_one _ _ _ _ _) (by unfold maxLen; omega) (by omega) (by simp; omega) ?_); intro v' w5 hown' hgrow _; go_must (have HU5 : Hid (SeesI w5 v' ys) := HYs.out ▸ sees_exit hown'; have hB5 : Below w.heap.size w w5 := (hB4.alloc hB4.size _).grown hgrow (by have := hB4.size; simp; omega) (fun k hk => by have := (hown.lt k hk).1; have := hbw.size; omega); obtain ⟨a5, p5, ev5⟩ := HU5.out.shape; subst ev5; clear hown' hgrow hown))
            | (go_at_call 10; go_must (refine (check_as HU5.out HP2 HE2).mono ?_); rintro e w6 ⟨rfl, hb6⟩; go_must (have hB6 := hB5.trans (hb6.mono hB5.size); clear hb6))
            | (go_at_call 19; go_must (refine (lcost_any _ xs _ (HS.out.below hB6) HC HE).mono ?_); rintro e w7 ⟨rfl, hb7⟩; go_must (have hB7 := hB6.trans (hb7.mono hB6.size); clear hb7)))
          go_ret
          exact ⟨rfl, hB7⟩
        · have hCb : (C == 256) = false := by simpa using hC
          have hPE2 : P2 = 0 ∧ E2 = 0 := by
            rw [HP2.out, HE2.out, ← HYs.out]
            unfold errL
            rw [hPE, if_neg (by rw [← HCe.out]; omega)]
            exact ⟨rfl, rfl⟩
          obtain ⟨rfl, rfl⟩ := hPE2
          clear hPE
          go_wp2_with (first
            | (go_at_call 9; go_must (refine (copied_any _ xs _ (HS.out.below hbw) HZ.out).mono ?_); rintro e w4 ⟨u4, rfl, hown, hb4⟩; go_must (have hB4 := hbw.trans (hb4.mono hbw.size); have hsz4 := hb4.size; clear hb4))
            | (at_builtin; go_must (refine wpList_append_own _ rfl _ _ 22 rfl w0.heap.size 32 i0 (instV 0 0 0 0 0) 5 40 Try.underlying22 hi hz0 hz1 hz2 rfl (by decide) _ _ _ rfl (hown.alloc _) ⟨_, 0, none⟩ 1 1 [.int .i64 22, .int .i64 0, .int .i64 0, .int .i64 0, .int .i64 0] rfl rfl (inst_new _ _ _ _ _ _ _ _ rfl) (inst_one _ _ _ _ _) (by unfold maxLen; omega) (by omega) (by simp; omega) ?_); intro v' w5 hown' hgrow _; go_must (have HU5 : Hid (SeesI w5 v' ys) := HYs.out ▸ sees_exit hown'; have hB5 : Below w.heap.size w w5 := (hB4.alloc hB4.size _).grown hgrow (by have := hB4.size; simp; omega) (fun k hk => by have := (hown.lt k hk).1; have := hbw.size; omega); obtain ⟨a5, p5, ev5⟩ := HU5.out.shape; subst ev5; clear hown' hgrow hown))
            | (go_at_call 10; go_must (refine (check_as HU5.out HP2 HE2).mono ?_); rintro e w6 ⟨rfl, hb6⟩; go_must (have hB6 := hB5.trans (hb6.mono hB5.size); clear hb6))
            | (go_at_call 19; go_must (refine (lcost_any _ xs _ (HS.out.below hB6) HC HE).mono ?_); rintro e w7 ⟨rfl, hb7⟩; go_must (have hB7 := hB6.trans (hb7.mono hB6.size); clear hb7)))
          go_ret
          exact ⟨rfl, hB7⟩
end Go.Proofs.Ytfmibjgihicedaa
