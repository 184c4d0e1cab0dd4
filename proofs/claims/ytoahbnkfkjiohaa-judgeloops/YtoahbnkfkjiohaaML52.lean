
/-
  JudgeLoops, walked: the answer is true. Conditions: the module's slices read as numbers and as instructions, and take up no more bytes than an argument may.
-/
import Derived.Test.YtoahbnkfkjiohaaML51
namespace Go.Proofs.Ytoahbnkfkjiohaa
open Go.RowKit
set_option linter.unusedVariables false
set_option linter.unusedSimpArgs false
set_option maxRecDepth 100000

theorem lright_b {a A : Int} (h : a ≤ A) (w : World) : Calls Try.prog 8 #[.agg #[.int .u64 a, .int .u64 A]] w fun e w' => e = .returned (.bool true) ∧ Below w.heap.size w w' := by
  refine (lright_any a A w).mono ?_
  rintro e w' ⟨rfl, rfl⟩
  exact ⟨by rw [decide_eq_true h], (Below.refl _ _).alloc (Nat.le_refl _) _⟩
theorem keep8 {w w' : World} {x y p q : Nat} {a b : Ty} (h : AtT w x p a ∧ AtT w y q b) (hb : Below w.heap.size w w') (hx : x < w.heap.size) (hy : y < w.heap.size) : AtT w' x p a ∧ AtT w' y q b := ⟨h.1.below hb hx, h.2.below hb hy⟩
theorem kept1T {w w1 : World} {k lo hi m : Int} {T : TypeId} (h : Below (w.alloc (.cells #[.int .i64 k, .int .u64 lo, .int .u64 hi, .int .i64 m] T)).heap.size (w.alloc (.cells #[.int .i64 k, .int .u64 lo, .int .u64 hi, .int .i64 m] T)) w1) : True ∧ True ∧ w.heap.size < w1.heap.size ∧ w1.cell? ⟨w.heap.size, 0, none⟩ = some (.int .i64 k) ∧ w1.cell? ⟨w.heap.size, 1, none⟩ = some (.int .u64 lo) ∧ w1.cell? ⟨w.heap.size, 2, none⟩ = some (.int .u64 hi) ∧ w1.cell? ⟨w.heap.size, 3, none⟩ = some (.int .i64 m) ∧ True := by
  have hz : w.heap.size < (w.alloc (.cells #[.int .i64 k, .int .u64 lo, .int .u64 hi, .int .i64 m] T)).heap.size := by simp
  refine ⟨trivial, trivial, Nat.lt_of_lt_of_le hz h.size, ?_, ?_, ?_, ?_, trivial⟩
  · rw [h.cell (p := ⟨w.heap.size, 0, none⟩) hz]; go_cell
  · rw [h.cell (p := ⟨w.heap.size, 1, none⟩) hz]; go_cell
  · rw [h.cell (p := ⟨w.heap.size, 2, none⟩) hz]; go_cell
  · rw [h.cell (p := ⟨w.heap.size, 3, none⟩) hz]; go_cell
/-- A place's row, read. -/
def RowAt (w : World) (tb k g cap : Nat) (s : St) : Prop := w.cell? ⟨tb, k, none⟩ = some (.slice (some ⟨g, 0, none⟩) 8 cap) ∧ tb < w.heap.size ∧ g < w.heap.size ∧ ∀ r, r < 8 → AtT w g (r * 4) (s.getD r Ty.nil)
theorem RowAt.below {w w' : World} {tb k g cap : Nat} {s : St} (h : RowAt w tb k g cap s) (hb : Below w.heap.size w w') : RowAt w' tb k g cap s :=
  ⟨(hb.cell (p := ⟨tb, k, none⟩) h.2.1).trans h.1, Nat.lt_of_lt_of_le h.2.1 hb.size, Nat.lt_of_lt_of_le h.2.2.1 hb.size, fun r hr => (h.2.2.2 r hr).below hb h.2.2.1⟩
theorem Rows9.rowAt {w : World} {tb : Nat} {K : Kn} {n : Nat} {vs : List Value} (h : Rows9 w tb K n vs) {j : Nat} (hj : j < n) (hn : n ≤ K.length) (hr : (K.getD j kn0).1 = true) : ∃ g cap, RowAt w tb j g cap (K.getD j kn0).2 ∧ 8 ≤ cap ∧ cap ≤ 9223372036854775807 := by
  obtain ⟨g, cap, c1, hc1, hc1m, hg, hgt, h8, hat⟩ := h.open hj hn hr
  exact ⟨g, cap, ⟨c1, h.cells.lt, hg, hat⟩, hc1, hc1m⟩
set_option maxHeartbeats 6400000 in
theorem loops9_any (vm vc : Value) (ms : List Int) (xs : List In) (w : World) (h : SeesM w vm vc ms xs) (z : ms.length * 8 ≤ 140737488351232 ∧ xs.length * 40 ≤ 140737488355328) :
    Calls Try.prog 3 #[modV vm vc] w fun e w' => e = .returned (.bool true) ∧ Below w.heap.size w w' := by
  have HM := keepJ h
  have HZ := keepJ z
  obtain ⟨am, km, rfl⟩ := h.maps.shape
  obtain ⟨ac, kc, rfl⟩ := h.code.shape
  obtain ⟨nm, HNM⟩ : ∃ nm, Hid (ms.length = nm) := ⟨_, rfl⟩
  obtain ⟨n, HN⟩ : ∃ n, Hid (xs.length = n) := ⟨_, rfl⟩
  obtain ⟨W, HW, HBW, hWz, m0, m1⟩ : ∃ W, Hid (W = w.alloc (Obj.cells #[.slice am ms.length km, .slice ac xs.length kc] 25)) ∧ Hid (Below w.heap.size w W) ∧ w.heap.size < W.heap.size ∧ W.cell? ⟨w.heap.size, 0, none⟩ = some (.slice am ms.length km) ∧ W.cell? ⟨w.heap.size, 1, none⟩ = some (.slice ac xs.length kc) :=
    ⟨_, rfl, keepJ (by go_grown), by simp, by go_cell, by go_cell⟩
  have HMW := keepJ (HM.out.below HBW.out)
  clear h z
  go_enter Try.func3, Try.ntmps3
  go_wp2_with (first
    | (go_at_call 5; rw [← HW.out]; go_must (refine (awake9_any _).mono ?_); rintro e w1 ⟨rfl, hb1⟩; go_must (have hS1 := keepM2 ⟨m0, m1⟩ hb1 hWz; have hz1 := hb1.size; have HM1 := keepJ (HMW.out.below hb1); clear m0 m1; obtain ⟨m0, m1⟩ := hS1))
    | (go_at_call 7; go_must (refine (copied9_any _ _ ms xs _ HM1.out HZ.out).mono ?_); rintro e w2 ⟨um, uc, rfl, hM2, hb2⟩; go_must (have HM2 := keepJ hM2; have hz2 := hb2.size; clear hM2))
    | (go_at_call 6; go_must (refine (ltypes_any _ ms _ xs _ HM2.out.maps HM2.out.code).mono ?_); rintro e w3 (⟨P, E, hi, hE0, rfl, hb3⟩ | ⟨K, tb, vs, hi, hT, hmf, hr, hl, hMK, rfl, hR, htb, hb3⟩) <;> (have hz3 := hb3.size; have HB13 := keepJ (hb2.trans (hb3.mono hz2)); have HB3 := keepJ (HBW.out.trans ((hb1.trans (HB13.out.mono hz1)).mono HBW.out.size)); have hS3 := keepM2 ⟨m0, m1⟩ HB13.out (by omega); clear m0 m1; obtain ⟨m0, m1⟩ := hS3) <;> (try (have HR := keepJ hR; have HTK := keepJ hT; have HRN := keepJ hr; have HL := keepJ hl; have HMK := keepJ hMK; have h64 := hT.top; have hpos := hT.pos; have HF := keepJ (run_final hT hr); obtain ⟨g0, cap0, c0, hc0, hc0m, hg0, _, _, _⟩ := hR.open (j := 0) hT.pos (by rw [hl]; exact Nat.le_refl _) HF.out.1; have hposI : (0 : Int) < xs.length := (by omega); clear hR hT hr hl hMK hmf hi htb))))
  · go_ret
    exact ⟨rfl, HB3.out⟩
  · clear c0
    have hx64 : (xs.length : Int) ≤ 64 := by omega
    obtain ⟨cb, co, rfl, hcc, hck⟩ : ∃ cb co, ac = some ⟨cb, co, none⟩ ∧ xs.length ≤ kc ∧ kc ≤ 9223372036854775807 := by
      obtain ⟨a', c', hv, h1, h2, h3, h4⟩ := HM.out.code
      injection hv with e1 e2 e3
      subst e1 e3
      obtain ⟨b, off, rfl, _⟩ := h4 (fun e => by rw [e] at hpos; simp at hpos)
      exact ⟨b, off, rfl, h1, by unfold maxLen at h2; omega⟩
    have HAT : Hid (∀ wx, Below w3.heap.size w3 wx → ∀ p, p < xs.length → cb < wx.heap.size ∧ At wx cb (co + p * 5) (nth xs p)) := fun wx hb p hp => by
      obtain ⟨a', c', hv, h1, h2, h3, h4⟩ := HM.out.code.below (HB3.out.trans (hb.mono HB3.out.size))
      injection hv with e1 e2 e3
      subst e1 e3
      obtain ⟨b, off, he, hlt, hat⟩ := h4 (fun e => by rw [e] at hpos; simp at hpos)
      injection he with he
      injection he with e4 e5
      subst e4 e5
      exact ⟨hlt, hat p hp⟩
    go_loopw [5] (fun i wr => ∃ k : Nat, k ≤ xs.length ∧ i = .int .i64 k ∧ Hid (Below w3.heap.size w3 wr)) (fun i _ => xs.length - (intOf i).toNat)
    case atStart => exact ⟨0, by omega, rfl, Below.refl _ _⟩
    case round =>
      obtain ⟨k, hk, rfl, HBr⟩ := hrel
      by_cases hlt : k < xs.length
      · have hkI : (k : Int) < xs.length := by omega
        have HRr := keepJ (HR.out.grown HBr.out)
        cases hrk : (K.getD k kn0).1 with
        | false =>
          have c1 := HRr.out.shut hlt (by rw [HL.out]; exact Nat.le_refl _) hrk
          go_wp2
          go_roundw
          case rel => exact ⟨k + 1, by omega, by go_num, HBr.out⟩
          case measure => simp [intOf]; omega
        | true =>
          obtain ⟨g, cap, hrow, hc1, hc1m⟩ := HRr.out.rowAt hlt (by rw [HL.out]; exact Nat.le_refl _) hrk
          have HRW := keepJ hrow
          have c1 := hrow.1
          have HM8 := keepJ (HMK.out.at k)
          have HFK : Hid ((nth xs k).op = 20 → ∃ q : Nat, (q : Int) = k - (nth xs k).d ∧ q < k ∧ (K.getD q kn0).1 = true ∧ fitsAll (K.getD k kn0).2 (K.getD q kn0).2 = true) := HF.out.2 k hlt hrk
          obtain ⟨s, HS⟩ : ∃ s, Hid ((K.getD k kn0).2 = s) := ⟨_, rfl⟩
          rw [HS.out] at HRW HM8 HFK
          clear hrow hrk
          go_wp2
          clear c1
          go_loopw [6] (fun i wq => ∃ j : Nat, j ≤ 8 ∧ i = .int .i64 j ∧ Hid (Below w3.heap.size w3 wq) ∧ Hid (RowAt wq tb k g cap s)) (fun i _ => 8 - (intOf i).toNat)
          case atStart => exact ⟨0, by omega, rfl, HBr.out, HRW.out⟩
          case round =>
            obtain ⟨j, hj, rfl, HBq, HRq⟩ := hrel
            have c1 := HRq.out.1
            have hmB := keepM2 ⟨m0, m1⟩ HBq.out (by omega)
            by_cases hjt : j < 8
            · obtain ⟨tk, tl, th, tm, HT⟩ : ∃ k' lo hi m, Hid (s.getD j Ty.nil = ⟨k', lo, hi, m⟩) := ⟨_, _, _, _, rfl⟩
              have hmd := HM8.out.get hjt
              have hA := HRq.out.2.2.2 j hjt
              have hgz := HRq.out.2.2.1
              rw [HT.out] at hmd hA
              obtain ⟨e0, e1, e2, e3⟩ := hA
              simp only at e0 e1 e2 e3
              obtain ⟨n0, n1⟩ := hmB
              have hwz : w.heap.size < w3.heap.size := by omega
              have hwq := HBq.out.size
              have hn1 : ¬ w.heap.size = wr.heap.size := by omega
              have hn2 : ¬ wr.heap.size = w.heap.size := by omega
              have hn3 : w.heap.size < wr.heap.size := by omega
              have hjI : (j : Int) < 8 := by omega
              rcases hmd with ⟨hk0, hl0, hh0, hm0⟩ | ⟨hk0, hl0, hh0, hh1, hm0⟩ | ⟨hk0, hl0, hh0, hm0, hm1⟩
              · simp only at hk0 hl0 hh0 hm0
                subst hk0 hl0 hh0 hm0
                go_wp2
                go_roundw
                case rel => exact ⟨j + 1, by omega, by go_num, HBq.out.trans ((below_alloc _ _).mono HBq.out.size), HRq.out.below (below_alloc _ _)⟩
                case measure => simp [intOf]; omega
              · simp only at hk0 hl0 hh0 hh1 hm0
                subst hk0 hm0
                go_wp2_with (go_at_call 8; go_must (refine (lright_b hh0 _).mono ?_); rintro e w6 ⟨rfl, hb6'⟩; go_must (have hb6 := box_below hb6'; obtain ⟨_, _, _, d0, d1, d2, d3, _⟩ := kept1T hb6'; clear hb6'))
                go_roundw
                case rel => exact ⟨j + 1, by omega, by go_num, HBq.out.trans (hb6.mono HBq.out.size), HRq.out.below hb6⟩
                case measure => simp [intOf]; omega
              · simp only at hk0 hl0 hh0 hm0 hm1
                subst hk0 hl0 hh0
                have hq1 : ¬ tm < 0 := by omega
                have hq2 : ¬ (ms.length : Int) ≤ tm := by omega
                go_wp2
                go_roundw
                case rel => exact ⟨j + 1, by omega, by go_num, HBq.out.trans ((below_alloc _ _).mono HBq.out.size), HRq.out.below (below_alloc _ _)⟩
                case measure => simp [intOf]; omega
            · have hjn : ¬ (j : Int) < 8 := by omega
              clear hjt
              obtain ⟨n0, n1⟩ := hmB
              have hwz : w.heap.size < w3.heap.size := by omega
              have hwq := HBq.out.size
              have hn3 : w.heap.size < wr.heap.size := by omega
              obtain ⟨op, d, a, b, imm, HI⟩ : ∃ op d a b imm, Hid (nth xs k = ⟨op, d, a, b, imm⟩) := ⟨_, _, _, _, _, rfl⟩
              obtain ⟨hcbz, hati⟩ := HAT.out wr HBq.out k hlt
              rw [HI.out] at hati
              obtain ⟨i0, i1, i2, i3, i4⟩ := hati
              simp only at i0 i1 i2 i3 i4
              by_cases ho : op = 20
              · subst ho
                obtain ⟨q, hq, hqk, hrq, hfq⟩ := HFK.out (by rw [HI.out])
                rw [HI.out] at hq
                simp only at hq
                obtain ⟨s2, HS2⟩ : ∃ s2, Hid ((K.getD q kn0).2 = s2) := ⟨_, rfl⟩
                obtain ⟨g2, cap2, hrow2, hc2, hc2m⟩ := (HR.out.grown HBq.out).rowAt (j := q) (by omega) (by rw [HL.out]; exact Nat.le_refl _) hrq
                rw [HS2.out] at hrow2 hfq
                have HRW2 := keepJ hrow2
                have HFQ := keepJ hfq
                have hwr : IntKind.i64.wrap ((k : Int) - d) = (q : Int) := by rw [IntKind.wrap_i64]; omega
                have c2 := hrow2.1
                have htz := HRq.out.2.1
                have hqI : (q : Int) < xs.length := by omega
                clear hrow2 hfq hq hrq
                go_wp2
                clear c1 c2 i0 i1 i2 i3 i4 n0 n1
                go_loopw [10] (fun i wq => ∃ j : Nat, j ≤ 8 ∧ i = .int .i64 j ∧ Hid (Below w3.heap.size w3 wq) ∧ Hid (RowAt wq tb k g cap s) ∧ Hid (RowAt wq tb q g2 cap2 s2)) (fun i _ => 8 - (intOf i).toNat)
                case atStart => exact ⟨0, by omega, rfl, HBq.out.trans ((below_alloc _ _).mono HBq.out.size), HRq.out.below (below_alloc _ _), HRW2.out.below (below_alloc _ _)⟩
                case round =>
                  obtain ⟨j, hj, rfl, HBy, HRy, HRz⟩ := hrel
                  by_cases hjt : j < 8
                  · obtain ⟨tk, tl, th, tm, HT⟩ : ∃ k' lo hi m, Hid (s.getD j Ty.nil = ⟨k', lo, hi, m⟩) := ⟨_, _, _, _, rfl⟩
                    obtain ⟨uk, ul, uh, um2, HU⟩ : ∃ k' lo hi m, Hid (s2.getD j Ty.nil = ⟨k', lo, hi, m⟩) := ⟨_, _, _, _, rfl⟩
                    have HQ : Hid (fitsJ ⟨tk, tl, th, tm⟩ ⟨uk, ul, uh, um2⟩ = true) := by
                      have := HFQ.out
                      unfold fitsAll at this
                      rw [List.all_eq_true] at this
                      have := this j (List.mem_range.2 hjt)
                      rw [HT.out, HU.out] at this
                      exact this
                    have HKeep : Hid (∀ w', Below wr.heap.size wr w' → w'.cell? ⟨tb, k, none⟩ = some (.slice (some ⟨g, 0, none⟩) 8 cap) ∧ (w'.cell? ⟨g, j * 4, none⟩ = some (.int .i64 tk) ∧ w'.cell? ⟨g, j * 4 + 1, none⟩ = some (.int .u64 tl) ∧ w'.cell? ⟨g, j * 4 + 2, none⟩ = some (.int .u64 th) ∧ w'.cell? ⟨g, j * 4 + 3, none⟩ = some (.int .i64 tm)) ∧ w'.cell? ⟨g2, j * 4, none⟩ = some (.int .i64 uk) ∧ w'.cell? ⟨g2, j * 4 + 1, none⟩ = some (.int .u64 ul) ∧ w'.cell? ⟨g2, j * 4 + 2, none⟩ = some (.int .u64 uh) ∧ w'.cell? ⟨g2, j * 4 + 3, none⟩ = some (.int .i64 um2)) := fun w' hb' => by
                      have h1 := HRy.out.below hb'
                      have h2 := HRz.out.below hb'
                      have e1 := h1.2.2.2 j hjt
                      have e2 := h2.2.2.2 j hjt
                      rw [HT.out] at e1
                      rw [HU.out] at e2
                      exact ⟨h1.1, e1, e2⟩
                    have hS0 := HKeep.out wr (Below.refl _ _)
                    have hjI : (j : Int) < 8 := by omega
                    go_wp2
                    go_region_held3 (fun w' => w'.cell? ⟨tb, k, none⟩ = some (.slice (some ⟨g, 0, none⟩) 8 cap) ∧ (w'.cell? ⟨g, j * 4, none⟩ = some (.int .i64 tk) ∧ w'.cell? ⟨g, j * 4 + 1, none⟩ = some (.int .u64 tl) ∧ w'.cell? ⟨g, j * 4 + 2, none⟩ = some (.int .u64 th) ∧ w'.cell? ⟨g, j * 4 + 3, none⟩ = some (.int .i64 tm)) ∧ w'.cell? ⟨g2, j * 4, none⟩ = some (.int .i64 uk) ∧ w'.cell? ⟨g2, j * 4 + 1, none⟩ = some (.int .u64 ul) ∧ w'.cell? ⟨g2, j * 4 + 2, none⟩ = some (.int .u64 uh) ∧ w'.cell? ⟨g2, j * 4 + 3, none⟩ = some (.int .i64 um2))
                      (first | exact hS5 | exact hS0)
                      (first | (go_at_call 9; go_must (refine (fits9_as HQ _).mono ?_); rintro e w7 ⟨rfl, hb7'⟩; go_must (have hb7 : Below wr.heap.size wr w7 := below_undrew hb7'; have hS5 := HKeep.out w7 hb7; clear hb7')))
                    go_wp2
                    go_roundw
                    case rel => exact ⟨j + 1, by omega, by go_num, HBy.out.trans (hb7.mono HBy.out.size), HRy.out.below hb7, HRz.out.below hb7⟩
                    case measure => simp [intOf]; omega
                  · obtain rfl : j = 8 := by omega
                    go_wp2
                    go_roundw
                    case rel => exact ⟨k + 1, by omega, by go_num, HBy.out⟩
                    case measure => simp [intOf]; omega
              · go_wp2
                go_roundw
                case rel => exact ⟨k + 1, by omega, by go_num, HBq.out.trans ((below_alloc _ _).mono HBq.out.size)⟩
                case measure => simp [intOf]; omega
      · obtain rfl : k = xs.length := by omega
        go_wp2
        go_ret
        exact ⟨rfl, HB3.out.trans (HBr.out.mono HB3.out.size)⟩
end Go.Proofs.Ytoahbnkfkjiohaa
