
/-
  The landed LRU's small ones: Has of its book, slices.Contains of numbers, toFront, touches. Condition: what they are handed lies where it says.
-/
import Derived.Test.YtpbfgebecgikjaaB13LTail
import Derived.Test.YtpbfgebecgikjaaW14Kit
namespace Go.Proofs.Ytpbfgebecgikjaa
open Go.RowKit
set_option linter.unusedVariables false
set_option linter.unusedSimpArgs false
set_option maxRecDepth 100000

theorem infoU14 : (Try.prog.info? 41).map (fun i => (i.zero, i.size, i.bytes)) = some (some (.int .u64 0), 1, 8) := by kernel_rfl
theorem run_fieldR1 {E : Int} {f : Bool} {x : Int} {o : Bool} {k u : Int} (w : World) : (Instr.field 47 (resG E f x o k u) 1).run Try.prog w = .ok (.bool f) w := by
  simp [Instr.field, run_underlying Try.underlying47, asAgg, part, Try.isAgg4, resG]
theorem run_fieldR2 {E : Int} {f : Bool} {x : Int} {o : Bool} {k u : Int} (w : World) : (Instr.field 47 (resG E f x o k u) 2).run Try.prog w = .ok (.int .u64 x) w := by
  simp [Instr.field, run_underlying Try.underlying47, asAgg, part, Try.isAgg41, resG]
section
variable {w : World} {B b cap : Nat} {v : Value} {L : List Pp}
theorem lhas_end {X w1 : World} {E val : Int} {f : Bool} {fn : Func} {tmps : Array Value} {pt : Tmp} (Hr : Hp w1 w.heap.size 47 (resCG 0 false 0 false 0 0)) (hbX : Below w.heap.size w X) (hb1 : Below X.heap.size X w1) (hzX : X.heap.size = w.heap.size + 1) (hr : fn.results = #[.cell pt 47] := by rfl) (hp : tmps.getD pt undef = .pointer (some ⟨w.heap.size, 0, none⟩) := by rfl) :
    bodyPost Try.prog fn (fun e w' => e = .returned (resG E f val false 0 0) ∧ Below w.heap.size w w') .ret ⟨tmps, []⟩ ((((((w1.setCell ⟨w.heap.size, 0, none⟩ (.int .i64 E)).setCell ⟨w.heap.size, 1, none⟩ (.bool f)).setCell ⟨w.heap.size, 2, none⟩ (.int .u64 val)).setCell ⟨w.heap.size, 3, none⟩ (.bool false)).setCell ⟨w.heap.size, 4, none⟩ (.int .u64 0)).setCell ⟨w.heap.size, 5, none⟩ (.int .u64 0)) := by
  have hg6 := (six_sets (E := E) (f := f) (v := val) (o := false) (k := 0) (u := 0) Hr rfl).2
  have hz1 := hb1.size
  have hb : Below w.heap.size w w1 := hbX.trans (hb1.mono (by omega))
  exact res_ret hr hp (six_sets Hr rfl).1 ⟨rfl, hb.trans (grown_to_below hg6 (Nat.le_refl _) (by omega))⟩
set_option maxHeartbeats 4000000 in
/-- Has, which changes nothing. -/
theorem lhas_any (key val : Int) (h : Lb w B b cap v L) (hl : L.length ≤ 1000) {fo : Bool} (HF : Hid (hitS key L = fo)) :
    Calls Try.prog 59 #[.pointer (some ⟨b, 0, none⟩), .int .i64 1, .int .u64 key, .int .u64 val] w fun e w' => e = .returned (resG 0 fo 0 false 0 0) ∧ Below w.heap.size w w' := by
  obtain ⟨X, HX, HrX, hbX, hzX⟩ := boxRG w
  have HB := keepG (h.below hbX)
  have hblt := h.hp.lt
  obtain ⟨i, HA⟩ : ∃ i, Hid (findS key L = i) := ⟨_, rfl⟩
  obtain ⟨had, HD⟩ : ∃ had, Hid (hadS key L = had) := ⟨_, rfl⟩
  clear h
  go_enter Try.func59, Try.ntmps59
  go_wp2_with (first
    | (go_at_call 62; rw [HX.out]; go_must (refine (lfind_any key HB.out (by omega) HA HF).mono ?_); rintro e w1 ⟨rfl, hb1⟩; go_must (have HB1 := keepG (HB.out.below hb1); have HrX1 := keepG (HrX.out.below hb1 (by omega))))
    | (go_at_call 63; go_must (refine (lvalue_any key HB1.out HA HF HD).mono ?_); rintro e w2 ⟨rfl, rfl⟩; go_must (have x0 := HrX1.out.cell (j := 0) rfl; have f0 := HrX1.out.frozen 0; have x1 := HrX1.out.cell (j := 1) rfl; have f1 := HrX1.out.frozen 1; have x2 := HrX1.out.cell (j := 2) rfl; have f2 := HrX1.out.frozen 2; have x3 := HrX1.out.cell (j := 3) rfl; have f3 := HrX1.out.frozen 3; have x4 := HrX1.out.cell (j := 4) rfl; have f4 := HrX1.out.frozen 4; have x5 := HrX1.out.cell (j := 5) rfl; have f5 := HrX1.out.frozen 5)))
  exact lhas_end HrX1.out hbX hb1 hzX
end
theorem uindex_any {w : World} {va : Value} {A : List Int} (key : Int) (ha : SeesG uC 1 0 w va A) {n : Int} (HN : Hid (atI key A = n)) :
    Calls Try.prog 78 #[va, .int .u64 key] w fun e w' => e = .returned (.int .i64 n) ∧ w = w' := by
  obtain ⟨a1, c1, rfl, hc1, hm1, _, hat1⟩ := ha
  unfold maxLen at hm1
  have HA := keepG hat1
  clear hat1
  go_enter Try.func78, Try.ntmps78
  go_wp2
  go_loopw [8] (fun i wr => ∃ j : Nat, j ≤ A.length ∧ i = .int .i64 j ∧ Hid (∀ i, i < j → A.getD i 0 ≠ key) ∧ w = wr) (fun i _ => A.length - (intOf i).toNat)
  case atStart => exact ⟨0, by omega, rfl, fun i hi => by omega, rfl⟩
  case round =>
    obtain ⟨j, hj, rfl, HJ, rfl⟩ := hrel
    by_cases hlt : j < A.length
    · have hltI : (j : Int) < A.length := by omega
      obtain ⟨g1, o1, rfl, _, h1⟩ := HA.out (fun e => by rw [e] at hlt; simp at hlt)
      obtain ⟨x, HX⟩ : ∃ x, Hid (A.getD j 0 = x) := ⟨_, rfl⟩
      have d0 := h1 j hlt 0 (by omega)
      rw [HX.out] at d0
      simp only [List.getElem?_cons_zero, Nat.add_zero, Nat.mul_one] at d0
      clear h1
      by_cases hx : x = key
      · have hxb : (key == x) = true := by simpa using hx.symm
        have HR : Hid (n = (j : Int)) := show _ = _ from HN.out.symm.trans (atI_is hlt (HX.out.trans hx) HJ.out)
        clear hx
        go_wp2
        go_ret
        exact ⟨by rw [HR.out]; rfl, rfl⟩
      · have hxb : (key == x) = false := by simpa using (fun e => hx e.symm)
        have HJ2 : Hid (∀ i, i < j + 1 → A.getD i 0 ≠ key) := fun i hi => by
          rcases Nat.lt_succ_iff_lt_or_eq.1 hi with g | g
          · exact HJ.out i g
          · rw [g, HX.out]; exact hx
        clear hx
        go_wp2
        first
          | (go_roundw
             case rel => exact ⟨j + 1, by omega, by go_num, HJ2.out, trivial⟩
             case measure => simp [intOf]; omega)
          | exact ⟨⟨j + 1, by omega, by go_num, HJ2.out, trivial⟩, by simp [intOf]; omega⟩
          | exact ⟨⟨j + 1, by omega, by go_num, HJ2.out, rfl⟩, by simp [intOf]; omega⟩
    · have hltI : ¬ (j : Int) < A.length := by omega
      have HR : Hid (n = -1) := show _ = _ from HN.out.symm.trans (atI_none (fun i hi => HJ.out i (by omega)))
      go_wp2
      go_ret
      exact ⟨by rw [HR.out]; rfl, rfl⟩
theorem ucont_any {w : World} {va : Value} {A : List Int} (key : Int) (ha : SeesG uC 1 0 w va A) {c : Bool} (HC : Hid (decide (key ∈ A) = c)) :
    Calls Try.prog 77 #[va, .int .u64 key] w fun e w' => e = .returned (.bool c) ∧ w = w' := by
  obtain ⟨n, HN⟩ : ∃ n, Hid (atI key A = n) := ⟨_, rfl⟩
  have hn : decide (n ≥ 0) = c := by
    rw [← HC.out, ← HN.out]
    exact decide_eq_decide.2 (atI_has key A)
  go_enter Try.func77, Try.ntmps77
  go_wp2_with (go_at_call 78; go_must (refine (uindex_any key ha HN).mono ?_); rintro e w1 ⟨rfl, rfl⟩)
  go_ret
  exact ⟨by rw [← hn]; rfl, rfl⟩
theorem take_moreI {ps : List Int} {j : Nat} (hj : j < ps.length) : ps.take (j + 1) = ps.take j ++ [ps.getD j 0] := by
  rw [List.take_add_one, List.getD_eq_getElem?_getD, List.getElem?_eq_getElem hj]
  rfl
theorem filter_moreI {p : Int → Bool} {A : List Int} {j : Nat} (hj : j < A.length) : (A.take (j + 1)).filter p = (A.take j).filter p ++ (if p (A.getD j 0) = true then [A.getD j 0] else []) := by
  rw [take_moreI hj, List.filter_append]
  congr 1
  by_cases e : p (A.getD j 0) = true
  · rw [if_pos e, List.filter_cons_of_pos e]; rfl
  · rw [if_neg e, List.filter_cons_of_neg e]; rfl
theorem own_litU (w : World) (x : Int) : (w.alloc (.cells #[.int .u64 x] 41)).ownsRow w.heap.size 41 1 (.slice (some ⟨w.heap.size, 0, none⟩) 1 1) 1 [.int .u64 x] :=
  own_of (cs := [.int .u64 x]) (Nat.le_refl _) (heap_alloc_new w _) (Nat.le_refl _) (by unfold maxLen; omega) rfl rfl
set_option maxHeartbeats 4000000 in
theorem lfront_any {w : World} {va : Value} {A : List Int} (key : Int) (ha : SeesG uC 1 0 w va A) (hl : A.length ≤ 5000) {F : List Int} (HF : Hid (key :: A.filter (fun k => decide (k ≠ key)) = F)) :
    Calls Try.prog 76 #[va, .int .u64 key] w fun e w' => ∃ u, e = .returned u ∧ w'.ownsRow w.heap.size 41 1 u F.length (flatG uC F) ∧ Below w.heap.size w w' := by
  obtain ⟨i0, hi0, hz0, hzs, hzb⟩ := info_parts infoU14
  have HSS : Hid (∀ wr, Below w.heap.size w wr → SeesG uC 1 0 wr va A) := fun wr hb => ha.below hb (Nat.le_refl _)
  obtain ⟨a1, c1, rfl, hc1, hm1, _, hat1⟩ := ha
  unfold maxLen at hm1
  clear hat1
  have HLIT := keepG (own_litU w key)
  go_enter Try.func76, Try.ntmps76
  go_wp2
  go_loopw [5, 12] (fun av i wr => ∃ j : Nat, j ≤ A.length ∧ i = .int .i64 j ∧ Hid (wr.ownsRow w.heap.size 41 1 av (key :: (A.take j).filter (fun k => decide (k ≠ key))).length (flatG uC (key :: (A.take j).filter (fun k => decide (k ≠ key))))) ∧ Below w.heap.size w wr) (fun _ i _ => A.length - (intOf i).toNat)
  case atStart => exact ⟨0, by omega, rfl, HLIT.out, below_allocG _ _⟩
  case round =>
    obtain ⟨j, hj, rfl, HO, hbw⟩ := hrel
    have hzw := hbw.size
    obtain ⟨xa, xc, ev⟩ := own_shape HO.out
    subst ev
    by_cases hlt : j < A.length
    · have hltI : (j : Int) < A.length := by omega
      obtain ⟨a', c', ev, _, _, _, hcell⟩ := HSS.out _ hbw
      simp only [Value.slice.injEq, true_and] at ev
      obtain ⟨rfl, rfl⟩ := ev
      obtain ⟨g, off, rfl, hg, hat⟩ := hcell (fun e => by rw [e] at hlt; simp at hlt)
      have d0 := hat j hlt 0 (by omega)
      simp only [List.getElem?_cons_zero, Nat.add_zero, Nat.mul_one] at d0
      have HM := keepG (filter_moreI (p := fun k => decide (k ≠ key)) hlt)
      clear hat hcell
      obtain ⟨x, HX⟩ : ∃ x, Hid (A.getD j 0 = x) := ⟨_, rfl⟩
      rw [HX.out] at d0 HM
      obtain ⟨M, HMM⟩ : ∃ M, Hid (key :: (A.take j).filter (fun k => decide (k ≠ key)) = M) := ⟨_, rfl⟩
      have hMl : M.length ≤ 5001 := by
        rw [← HMM.out]
        have h1 := List.length_filter_le (fun k => decide (k ≠ key)) (A.take j)
        have h2 := List.length_take_le j A
        rw [List.length_cons]
        omega
      have HN : Hid (key :: (A.take (j + 1)).filter (fun k => decide (k ≠ key)) = M ++ (if x ≠ key then [x] else [])) := by
        show _ = _
        rw [HM.out, ← HMM.out]
        simp
      rw [HMM.out] at HO ⊢
      clear HM
      by_cases he : x = key
      · have heb : (x == key) = true := by simpa using he
        rw [if_neg (by simpa using he), List.append_nil] at HN
        go_wp2
        go_roundw
        case rel => exact ⟨j + 1, by omega, by go_num, by rw [HN.out]; exact HO.out, hbw⟩
        case measure => simp [intOf]; omega
      · have heb : (x == key) = false := by simpa using he
        rw [if_pos he] at HN
        go_wp2_with (at_builtin; go_must (refine wpList_append_own_at _ rfl (.tmp 19) (.tmp 21) 94 rfl w.heap.size 41 i0 _ 1 8 Try.underlying94 hi0 hz0 hzs hzb rfl (by decide) (.slice xa M.length xc) M.length (flatG uC M) rfl (HO.out.alloc _) ⟨_, 0, none⟩ 1 1 (uC x) rfl rfl (cells_new _ (uC x) _ _ rfl) (uC_one x) (by unfold maxLen; omega) (by omega) (by simp; omega) ?_); intro v1 w1 hown hgr _ hnew; go_must (have HOW : Hid _ := own_moreG hown; have hbw1 : Below w.heap.size w w1 := hbw.trans ((chg_append hgr).below (fun k e => (HO.out.lt k e).1) hzw); clear hown hgr hnew; obtain ⟨va1, vc1, rfl⟩ := own_shape HOW.out))
        have eM : (M ++ [x]).length = M.length + 1 := by simp
        go_roundw
        case rel => exact ⟨j + 1, by omega, by go_num, by have hh := HOW.out; rw [HN.out]; show World.ownsRow _ _ _ _ _ _ _; rw [eM] at hh ⊢; exact hh, hbw1⟩
        case measure => simp [intOf]; omega
    · have hltI : ¬ (j : Int) < A.length := by omega
      have hT : A.take j = A := List.take_of_length_le (by omega)
      obtain ⟨M, HMM⟩ : ∃ M, Hid (key :: (A.take j).filter (fun k => decide (k ≠ key)) = M) := ⟨_, rfl⟩
      rw [HMM.out] at HO ⊢
      rw [hT, HF.out] at HMM
      obtain rfl : F = M := HMM.out
      go_wp2
      go_ret
      exact ⟨_, rfl, HO.out, hbw⟩
theorem ltouches_any {w : World} (op E : Int) (f : Bool) (x : Int) (o : Bool) (k u : Int) {t : Bool} (HT : Hid ((if op = 0 then f else if op = 2 ∨ op = 4 then decide (E = 0) else false) = t)) :
    Calls Try.prog 75 #[.int .i64 op, resG E f x o k u] w fun e w' => e = .returned (.bool t) ∧ Below w.heap.size w w' := by
  have hE : (E == 0) = decide (E = 0) := rfl
  have hb := below_allocG w (.cells (resCG E f x o k u).toArray 47)
  have hp := Hp.new w (resCG E f x o k u) 47
  have q0 := hp.cell (j := 0) rfl
  have q1 := hp.cell (j := 1) rfl
  by_cases h0 : op = 0
  · have HT2 : Hid (f = t) := by show _ = _; rw [← HT.out, if_pos h0]
    have h0b : (op == 0) = true := by simpa using h0
    clear h0
    go_enter Try.func75, Try.ntmps75
    go_wp2
    go_ret
    exact ⟨by rw [HT2.out]; rfl, hb⟩
  · have h0b : (op == 0) = false := by simpa using h0
    by_cases h2 : op = 2
    · have HT2 : Hid (decide (E = 0) = t) := by show _ = _; rw [← HT.out, if_neg h0, if_pos (.inl h2)]
      have h2b : (op == 2) = true := by simpa using h2
      clear h0 h2
      go_enter Try.func75, Try.ntmps75
      go_wp2
      go_ret
      exact ⟨by rw [← HT2.out]; rfl, hb⟩
    · have h2b : (op == 2) = false := by simpa using h2
      by_cases h4 : op = 4
      · have HT2 : Hid (decide (E = 0) = t) := by show _ = _; rw [← HT.out, if_neg h0, if_pos (.inr h4)]
        have h4b : (op == 4) = true := by simpa using h4
        clear h0 h2 h4
        go_enter Try.func75, Try.ntmps75
        go_wp2
        go_ret
        exact ⟨by rw [← HT2.out]; rfl, hb⟩
      · have HT2 : Hid (false = t) := by show _ = _; rw [← HT.out, if_neg h0, if_neg (by omega)]
        have h4b : (op == 4) = false := by simpa using h4
        clear h0 h2 h4
        go_enter Try.func75, Try.ntmps75
        go_wp2
        go_ret
        exact ⟨by rw [HT2.out]; rfl, hb⟩
end Go.Proofs.Ytpbfgebecgikjaa
