/-
  What the document's Read does: a line's instruction, and whether it is one's. Condition: the line is of four million bytes at most.
-/
import Derived.Test.YtmfcilgocffggaaDoorR3Switch
import Derived.Deep.RegionHeld3
import Derived.Laws.Strings
namespace Go.Proofs.YtmfcilgocffggaaDoor
open Go.RowKit
set_option linter.unusedVariables false
set_option linter.unusedSimpArgs false
set_option maxRecDepth 100000

theorem box_newR (w : World) (op d a b imm : Int) : Box (w.alloc (instO op d a b imm)) w.heap.size op d a b imm := by simp [Box]
theorem Box.far {w : World} {n m : Nat} {op d a b imm : Int} {v0 v1 v2 v3 v4 : Value} (h : Box w n op d a b imm) (hn : n ≠ m) : Box (((((w.setCell ⟨m, 0, none⟩ v0).setCell ⟨m, 1, none⟩ v1).setCell ⟨m, 2, none⟩ v2).setCell ⟨m, 3, none⟩ v3).setCell ⟨m, 4, none⟩ v4) n op d a b imm := by
  unfold Box
  simp only [set_far hn]
  exact h
theorem set5_fz {w : World} {n : Nat} {fo D A B IM : Int} (f0 : w.frozen? ⟨n, 0, none⟩ = false) (f1 : w.frozen? ⟨n, 1, none⟩ = false) (f2 : w.frozen? ⟨n, 2, none⟩ = false) (f3 : w.frozen? ⟨n, 3, none⟩ = false) (f4 : w.frozen? ⟨n, 4, none⟩ = false) :
    (((((w.setCell ⟨n, 0, none⟩ (.int .i64 fo)).setCell ⟨n, 1, none⟩ (.int .i64 D)).setCell ⟨n, 2, none⟩ (.int .i64 A)).setCell ⟨n, 3, none⟩ (.int .i64 B)).setCell ⟨n, 4, none⟩ (.int .i64 IM)).frozen? ⟨n, 0, none⟩ = false ∧
    (((((w.setCell ⟨n, 0, none⟩ (.int .i64 fo)).setCell ⟨n, 1, none⟩ (.int .i64 D)).setCell ⟨n, 2, none⟩ (.int .i64 A)).setCell ⟨n, 3, none⟩ (.int .i64 B)).setCell ⟨n, 4, none⟩ (.int .i64 IM)).frozen? ⟨n, 1, none⟩ = false ∧
    (((((w.setCell ⟨n, 0, none⟩ (.int .i64 fo)).setCell ⟨n, 1, none⟩ (.int .i64 D)).setCell ⟨n, 2, none⟩ (.int .i64 A)).setCell ⟨n, 3, none⟩ (.int .i64 B)).setCell ⟨n, 4, none⟩ (.int .i64 IM)).frozen? ⟨n, 2, none⟩ = false ∧
    (((((w.setCell ⟨n, 0, none⟩ (.int .i64 fo)).setCell ⟨n, 1, none⟩ (.int .i64 D)).setCell ⟨n, 2, none⟩ (.int .i64 A)).setCell ⟨n, 3, none⟩ (.int .i64 B)).setCell ⟨n, 4, none⟩ (.int .i64 IM)).frozen? ⟨n, 3, none⟩ = false ∧
    (((((w.setCell ⟨n, 0, none⟩ (.int .i64 fo)).setCell ⟨n, 1, none⟩ (.int .i64 D)).setCell ⟨n, 2, none⟩ (.int .i64 A)).setCell ⟨n, 3, none⟩ (.int .i64 B)).setCell ⟨n, 4, none⟩ (.int .i64 IM)).frozen? ⟨n, 4, none⟩ = false := by
  simp [f0, f1, f2, f3, f4]
theorem beq_dec (a b : List UInt8) : (a == b) = decide (a = b) := by by_cases h : a = b <;> simp [h]

set_option maxRecDepth 100000 in
set_option maxHeartbeats 16000000 in
theorem read_bad (l : List UInt8) (w : World) (hl : l.length ≤ 4194304) (w0 : List UInt8) (ts : List (List UInt8)) (HWS : Hid (wordsL l = w0 :: ts)) (HRD : Hid (readL l = readW (findL (str w0)) ts l)) (fo : Int) (fb : Bool) (HF : Hid (findL (str w0) = (fo, fb))) (hbad : (!fb || decide (3 < ts.length)) = true) : Calls Tryd.prog 24 #[.string (str l)] w fun e w' => (∃ i : In, e = .returned (.tuple #[i.v, .bool (readL l).isSome]) ∧ ∀ j, readL l = some j → i = j) ∧ Below w.heap.size w w' := by
  have HWN := wbox_new w 0 0 0 0 0
  have HN : Hid (readL l = none) := by
    show _ = _; rw [HRD.out, HF.out]; unfold readW; rw [if_pos]
    revert hbad; cases fb <;> simp
  cases fb
  · go_enter Tryd.func24, Tryd.ntmps24
    go_wp2_with (first
      | (go_at_call 44; go_must (refine (words_any l _ hl).mono ?_); rintro e w1 ⟨v, rfl, hown, hb1⟩; go_must (rw [HWS.out] at hown; obtain ⟨g, cap, rfl, hg0, hg1, hc1, hc2, hcl⟩ := own_open hown (by simp); have hc0 := hcl 0 _ rfl; have hB1 := box_below hb1; have HX1 := HWN.below hb1 (by simp); have hz1 := box_size1 hb1; clear hcl hown hb1))
      | (go_at_call 45; go_must (refine (find_any (str w0) _).mono ?_); rintro e w2 ⟨rfl, hb2⟩; go_must (rw [HF.out]; have hB2 := hB1.trans (hb2.mono hB1.size); obtain ⟨⟨c0, c1, c2, c3, c4⟩, f0, f1, f2, f3, f4⟩ := HX1.below hb2 hz1; clear hb2 HX1)))
    refine bodyPost_ret (v := .tuple #[instV 0 0 0 0 0, .bool false]) ?_ rfl ?_
    · rw [results_cell_tmp rfl]
      have hld := run_box (box_set5 ⟨c0, c1, c2, c3, c4⟩ 0 0 0 0 0)
      simp [asAddr, Result.andThen, hld]
    · exact ⟨⟨⟨0, 0, 0, 0, 0⟩, by rw [HN.out]; rfl, fun j hj => by rw [HN.out] at hj; cases hj⟩, by go_grown⟩
  · have hts : decide ((4 : Int) < (ts.length : Int) + 1) = true := by revert hbad; simp; omega
    clear hbad
    go_enter Tryd.func24, Tryd.ntmps24
    go_wp2_with (first
      | (go_at_call 44; go_must (refine (words_any l _ hl).mono ?_); rintro e w1 ⟨v, rfl, hown, hb1⟩; go_must (rw [HWS.out] at hown; obtain ⟨g, cap, rfl, hg0, hg1, hc1, hc2, hcl⟩ := own_open hown (by simp); have hc0 := hcl 0 _ rfl; have hB1 := box_below hb1; have HX1 := HWN.below hb1 (by simp); have hz1 := box_size1 hb1; clear hcl hown hb1))
      | (go_at_call 45; go_must (refine (find_any (str w0) _).mono ?_); rintro e w2 ⟨rfl, hb2⟩; go_must (rw [HF.out]; have hB2 := hB1.trans (hb2.mono hB1.size); obtain ⟨⟨c0, c1, c2, c3, c4⟩, f0, f1, f2, f3, f4⟩ := HX1.below hb2 hz1; clear hb2 HX1)))
    refine bodyPost_ret (v := .tuple #[instV 0 0 0 0 0, .bool false]) ?_ rfl ?_
    · rw [results_cell_tmp rfl]
      have hld := run_box (box_set5 ⟨c0, c1, c2, c3, c4⟩ 0 0 0 0 0)
      simp [asAddr, Result.andThen, hld]
    · exact ⟨⟨⟨0, 0, 0, 0, 0⟩, by rw [HN.out]; rfl, fun j hj => by rw [HN.out] at hj; cases hj⟩, by go_grown⟩

set_option maxRecDepth 100000 in
set_option maxHeartbeats 16000000 in
theorem read_good (l : List UInt8) (w : World) (hl : l.length ≤ 4194304) (w0 : List UInt8) (ts : List (List UInt8)) (HWS : Hid (wordsL l = w0 :: ts)) (HRD : Hid (readL l = readW (findL (str w0)) ts l)) (fo : Int) (fb : Bool) (HF : Hid (findL (str w0) = (fo, fb))) (hbad : (!fb || decide (3 < ts.length)) = false) : Calls Tryd.prog 24 #[.string (str l)] w fun e w' => (∃ i : In, e = .returned (.tuple #[i.v, .bool (readL l).isSome]) ∧ ∀ j, readL l = some j → i = j) ∧ Below w.heap.size w w' := by
  have HWN := wbox_new w 0 0 0 0 0
  have hfb : fb = true := by revert hbad; cases fb <;> simp
  have hts : ts.length ≤ 3 := by revert hbad; cases fb <;> simp
  subst hfb
  clear hbad
  have hts4 : decide (4 < ((ts.length + 1 : Nat) : Int)) = false := by simp; omega
  go_enter Tryd.func24, Tryd.ntmps24
  go_wp2_with (first
    | (go_at_call 44; go_must (refine (words_any l _ hl).mono ?_); rintro e w1 ⟨v, rfl, hown, hb1⟩; go_must (rw [HWS.out] at hown; obtain ⟨g, cap, rfl, hg0, hg1, hc1, hc2, hcl⟩ := own_open hown (by simp); have hc0 := hcl 0 _ rfl; have HCL : Hid (∀ j x, (w0 :: ts)[j]? = some x → w1.cell? ⟨g, j, none⟩ = some (.string (str x))) := (fun j x hx => hcl j _ (by rw [List.getElem?_map, hx]; rfl)); have hB1 := box_below hb1; have HX1 := HWN.below hb1 (by simp); have hz1 := box_size1 hb1; clear hcl hown hb1))
    | (go_at_call 45; go_must (refine (find_any (str w0) _).mono ?_); rintro e w2 ⟨rfl, hb2⟩; go_must (rw [HF.out]; have hB2 := hB1.trans (hb2.mono hB1.size); have HX2 : Hid (Wbox w2 w.heap.size 0 0 0 0 0) := HX1.below hb2 hz1; have HC2 : Hid (∀ j x, (w0 :: ts)[j]? = some x → w2.cell? ⟨g, j, none⟩ = some (.string (str x))) := (fun j x hx => (hb2.cell (p := ⟨g, j, none⟩) hg1).trans (HCL.out j x hx)); have hz2 := hb2.size; clear hb2 HX1 HCL)))
  have HS0 := said_new (ts := ts) (w0 := w0) HX2.out HC2.out hB2 (by omega) (by omega) (Nat.le_refl _)
  have hgw : g < w2.heap.size := by omega
  unfold maxLen at hc2
  simp only [List.length_cons] at hc1
  generalize hW3 : ((w2.alloc (.cells #[.int .i64 0, .int .i64 0, .int .i64 0] 3)).alloc (.cells #[.int .i64 0, .int .i64 0, .int .i64 0] 2)).alloc (.cells #[.bool false, .bool false, .bool false] 4) = W3 at *
  clear hW3 HX2 HC2 hB2 hB1 hc0 hg0 HWN
  generalize w2.heap.size = N1 at *
  go_loopw [10] (fun i wr => ∃ k : Nat, k ≤ ts.length ∧ i = .int .i64 ((k : Int) + 1) ∧ (ts.take k).all okW = true ∧ Said w w.heap.size g N1 w0 ts k wr) (fun i _ => ts.length + 1 - (intOf i).toNat)
  case atStart => exact ⟨0, by omega, rfl, rfl, HS0⟩
  case round =>
    clear HS0
    obtain ⟨k, hk, rfl, hall, HSD⟩ := hrel
    by_cases hlt : k < ts.length
    · obtain ⟨t, HT, hct, ht4⟩ : ∃ t, Hid (t = ts.getD k []) ∧ wr.cell? ⟨g, k + 1, none⟩ = some (.string (str t)) ∧ t.length ≤ 4194304 := by
        refine ⟨ts.getD k [], rfl, HSD.words (k + 1) _ ?_, ?_⟩
        · simp [hlt]
        · have hm : ts.getD k [] ∈ wordsF [] l := by
            have : wordsL l = w0 :: ts := HWS.out
            unfold wordsL at this
            rw [this]
            simp [hlt]
          have := wordsF_wlen l [] _ hm
          rw [List.length_nil] at this; omega
      have HTK : Hid (ts.take (k + 1) = ts.take k ++ [t]) := by show _ = _; rw [HT.out, List.take_succ_eq_append_getElem hlt]; simp [hlt]
      by_cases h2 : t.length = 2
      · have t2 : ((t.length : Int) == 2) = true := by simp; omega
        have l0 : 0 < t.length := by omega
        have l1 : 1 < t.length := by omega
        obtain ⟨x, hx0, HX⟩ : ∃ x, (str t)[0]'(l0) = x ∧ Hid (t.getD 0 0 = x) := ⟨_, rfl, by show _ = _; rw [List.getD_eq_getElem?_getD, List.getElem?_eq_getElem (by omega)]; rfl⟩
        obtain ⟨y, hy0, HY⟩ : ∃ y, (str t)[1]'(l1) = y ∧ Hid (t.getD 1 0 = y) := ⟨_, rfl, by show _ = _; rw [List.getD_eq_getElem?_getD, List.getElem?_eq_getElem (by omega)]; rfl⟩
        have hyb : y.toNat < 256 := UInt8.toNat_lt y
        by_cases hx : x.toNat = 114
        · have tx : ((x.toNat : Int) == 114) = true := by simp; omega
          have hrg : regW t = true := by unfold regW; rw [HX.out]; simp [h2, hx]
          have HNW : Hid (nW t = (y.toNat : Int) - 48) := by show _ = _; unfold nW; rw [if_pos hrg, HY.out]
          obtain ⟨n1, n2⟩ := HSD.ns k (by omega)
          obtain ⟨r1, r2⟩ := HSD.rs k (by omega)
          have HSN := HSD.reg (k := k) (by omega) (by rw [← HT.out]; exact hrg)
          rw [← HT.out, HNW.out] at HSN
          have HSN' : Hid (Said w w.heap.size g N1 w0 ts (k + 1) _) := HSN
          have HAL : Hid ((ts.take (k + 1)).all okW = true) := by show _ = _; rw [HTK.out, List.all_append, hall]; simp [okW, hrg]
          clear HSD HSN HTK hall hrg hx h2
          go_wp2_with fail
          go_roundw
          case rel => exact ⟨k + 1, by omega, by go_num, HAL.out, HSN'.out⟩
          case measure => simp [intOf]; omega
        · have tx : ((x.toNat : Int) == 114) = false := by simp; omega
          have hrg : regW t = false := by unfold regW; rw [HX.out]; simp [hx]
          have HV : Hid (okW t = (valueL t).2) := by show _ = _; unfold okW; rw [hrg]; rfl
          obtain ⟨m1, m2⟩ := HSD.ms k (by omega)
          have HSN := HSD.num (k := k) (by omega) (by rw [← HT.out]; exact hrg)
          rw [← HT.out] at HSN
          cases hgood : (valueL t).2
          · have HN : Hid (readL l = none) := by
              show _ = _
              rw [HRD.out, HF.out]
              unfold readW
              rw [if_neg (by simp; omega), if_pos]
              rw [Bool.eq_false_iff]
              intro hx
              have hm : t ∈ ts := by rw [HT.out]; simp [hlt]
              have := List.all_eq_true.1 hx t hm
              rw [HV.out, hgood] at this
              cases this
            have hbel := HSD.below
            obtain ⟨⟨c0, c1, c2, c3, c4⟩, f0, f1, f2, f3, f4⟩ := HSD.box
            clear HSD HSN HV HTK hall hrg
            go_wp2_with (go_at_call 46; go_must (refine (value_any t _ (by omega)).mono ?_); rintro e w' ⟨rfl, rfl⟩; rw [hgood])
            refine bodyPost_ret (v := .tuple #[instV 0 0 0 0 0, .bool false]) ?_ rfl ?_
            · rw [results_cell_tmp rfl]
              have hld := run_box (box_set5 ⟨c0, c1, c2, c3, c4⟩ 0 0 0 0 0)
              simp [asAddr, Result.andThen, hld]
            · exact ⟨⟨⟨0, 0, 0, 0, 0⟩, by rw [HN.out]; rfl, fun j hj => by rw [HN.out] at hj; cases hj⟩, by go_grown⟩
          · have HAL : Hid ((ts.take (k + 1)).all okW = true) := by show _ = _; rw [HTK.out, List.all_append, hall]; simp [HV.out, hgood]
            have HSN' : Hid (Said w w.heap.size g N1 w0 ts (k + 1) (wr.setCell ⟨N1 + 1, k, none⟩ (.int .i64 (valueL t).1))) := HSN
            clear HSD HSN HV HTK hall hrg
            go_wp2_with (go_at_call 46; go_must (refine (value_any t _ (by omega)).mono ?_); rintro e w' ⟨rfl, rfl⟩; rw [hgood])
            go_roundw
            case rel => exact ⟨k + 1, by omega, by go_num, HAL.out, HSN'.out⟩
            case measure => simp [intOf]; omega
      · have t2 : ((t.length : Int) == 2) = false := by simp; omega
        have hrg : regW t = false := by unfold regW; simp [h2]
        have HV : Hid (okW t = (valueL t).2) := by show _ = _; unfold okW; rw [hrg]; rfl
        obtain ⟨m1, m2⟩ := HSD.ms k (by omega)
        have HSN := HSD.num (k := k) (by omega) (by rw [← HT.out]; exact hrg)
        rw [← HT.out] at HSN
        cases hgood : (valueL t).2
        · have HN : Hid (readL l = none) := by
            show _ = _
            rw [HRD.out, HF.out]
            unfold readW
            rw [if_neg (by simp; omega), if_pos]
            rw [Bool.eq_false_iff]
            intro hx
            have hm : t ∈ ts := by rw [HT.out]; simp [hlt]
            have := List.all_eq_true.1 hx t hm
            rw [HV.out, hgood] at this
            cases this
          have hbel := HSD.below
          obtain ⟨⟨c0, c1, c2, c3, c4⟩, f0, f1, f2, f3, f4⟩ := HSD.box
          clear HSD HSN HV HTK hall hrg
          go_wp2_with (go_at_call 46; go_must (refine (value_any t _ (by omega)).mono ?_); rintro e w' ⟨rfl, rfl⟩; rw [hgood])
          refine bodyPost_ret (v := .tuple #[instV 0 0 0 0 0, .bool false]) ?_ rfl ?_
          · rw [results_cell_tmp rfl]
            have hld := run_box (box_set5 ⟨c0, c1, c2, c3, c4⟩ 0 0 0 0 0)
            simp [asAddr, Result.andThen, hld]
          · exact ⟨⟨⟨0, 0, 0, 0, 0⟩, by rw [HN.out]; rfl, fun j hj => by rw [HN.out] at hj; cases hj⟩, by go_grown⟩
        · have HAL : Hid ((ts.take (k + 1)).all okW = true) := by show _ = _; rw [HTK.out, List.all_append, hall]; simp [HV.out, hgood]
          have HSN' : Hid (Said w w.heap.size g N1 w0 ts (k + 1) (wr.setCell ⟨N1 + 1, k, none⟩ (.int .i64 (valueL t).1))) := HSN
          clear HSD HSN HV HTK hall hrg
          go_wp2_with (go_at_call 46; go_must (refine (value_any t _ (by omega)).mono ?_); rintro e w' ⟨rfl, rfl⟩; rw [hgood])
          go_roundw
          case rel => exact ⟨k + 1, by omega, by go_num, HAL.out, HSN'.out⟩
          case measure => simp [intOf]; omega
    · obtain rfl : k = ts.length := by omega
      have HAL : Hid (ts.all okW = true) := by show _ = _; rw [← hall, List.take_length]
      have hnA : ∀ j, nAt ts ts.length j = nW (ts.getD j []) := fun j => by
        unfold nAt
        by_cases h : j < ts.length
        · rw [if_pos h]
        · rw [if_neg h, show ts.getD j [] = [] by rw [List.getD_eq_getElem?_getD, List.getElem?_eq_none (by omega)]; rfl]; rfl
      have hmA : ∀ j, mAt ts ts.length j = mW (ts.getD j []) := fun j => by
        unfold mAt
        by_cases h : j < ts.length
        · rw [if_pos h]
        · rw [if_neg h, show ts.getD j [] = [] by rw [List.getD_eq_getElem?_getD, List.getElem?_eq_none (by omega)]; rfl]; rfl
      have hrA : ∀ j, rAt ts ts.length j = regW (ts.getD j []) := fun j => by
        unfold rAt
        by_cases h : j < ts.length
        · rw [if_pos h]
        · rw [if_neg h, show ts.getD j [] = [] by rw [List.getD_eq_getElem?_getD, List.getElem?_eq_none (by omega)]; rfl]; rfl
      obtain ⟨n0, n1, n2, m0, m1, m2, r0, r1, r2, HNM⟩ : ∃ n0 n1 n2 m0 m1 m2 r0 r1 r2, Hid (nW (ts.getD 0 []) = n0 ∧ nW (ts.getD 1 []) = n1 ∧ nW (ts.getD 2 []) = n2 ∧ mW (ts.getD 0 []) = m0 ∧ mW (ts.getD 1 []) = m1 ∧ mW (ts.getD 2 []) = m2 ∧ regW (ts.getD 0 []) = r0 ∧ regW (ts.getD 1 []) = r1 ∧ regW (ts.getD 2 []) = r2) := ⟨_, _, _, _, _, _, _, _, _, rfl, rfl, rfl, rfl, rfl, rfl, rfl, rfl, rfl⟩
      obtain ⟨en0, en1, en2, em0, em1, em2, er0, er1, er2⟩ := HNM.out
      have cn0 := (HSD.ns 0 (by omega)).1
      have cn1 := (HSD.ns 1 (by omega)).1
      have cn2 := (HSD.ns 2 (by omega)).1
      have cm0 := (HSD.ms 0 (by omega)).1
      have cm1 := (HSD.ms 1 (by omega)).1
      have cm2 := (HSD.ms 2 (by omega)).1
      have cr0 := (HSD.rs 0 (by omega)).1
      have cr1 := (HSD.rs 1 (by omega)).1
      have cr2 := (HSD.rs 2 (by omega)).1
      rw [hnA] at cn0 cn1 cn2
      rw [hmA] at cm0 cm1 cm2
      rw [hrA] at cr0 cr1 cr2
      rw [en0] at cn0
      rw [en1] at cn1
      rw [en2] at cn2
      rw [em0] at cm0
      rw [em1] at cm1
      rw [em2] at cm2
      rw [er0] at cr0
      rw [er1] at cr1
      rw [er2] at cr2
      have HBOX : Hid (Wbox wr w.heap.size 0 0 0 0 0) := HSD.box
      have hbel := HSD.below
      have s3 : N1 + 1 + 1 < wr.heap.size := HSD.size
      have s2 : N1 + 1 < wr.heap.size := by omega
      have s1 : N1 < wr.heap.size := by omega
      clear HSD hnA hmA hrA hall en0 en1 en2 em0 em1 em2 er0 er1 er2
      go_upto_block 2 with fail
      go_cut [14] from 15 (fun s14 wx => s14 = .int .i64 (swL fo n0 n1 m0 m1 m2).2.2.2 ∧ wx = wr.alloc (instO fo (swL fo n0 n1 m0 m1 m2).1 (swL fo n0 n1 m0 m1 m2).2.1 0 (swL fo n0 n1 m0 m1 m2).2.2.1))
      case first =>
        by_cases e0 : fo = 0
        · subst e0
          have HE : Hid (swL 0 n0 n1 m0 m1 m2 = (n0, 0, 0, 1)) := by show _ = _; unfold swL; rw [if_pos (.inl rfl)]
          go_wp2_with fail
          go_meet
          exact ⟨by rw [HE.out], by rw [HE.out]⟩
        by_cases e11 : fo = 11
        · subst e11
          have HE : Hid (swL 11 n0 n1 m0 m1 m2 = (n0, 0, 0, 1)) := by show _ = _; unfold swL; rw [if_pos (.inr rfl)]
          go_wp2_with fail
          go_meet
          exact ⟨by rw [HE.out], by rw [HE.out]⟩
        by_cases e10 : fo ≤ 10
        · skip
          have b0 : (fo == 0) = false := by simp [e0]
          have b11 : (fo == 11) = false := by simp [e11]
          have HE : Hid (swL fo n0 n1 m0 m1 m2 = (n0, n1, 0, 2)) := by show _ = _; unfold swL; rw [if_neg (by omega), if_pos e10]
          go_wp2_with fail
          go_meet
          exact ⟨by rw [HE.out], by rw [HE.out]⟩
        by_cases e12 : fo = 12
        · subst e12
          have HE : Hid (swL 12 n0 n1 m0 m1 m2 = (0, n0, 0, 1)) := by show _ = _; unfold swL; rw [if_neg (by omega), if_neg (by omega), if_pos rfl]
          go_wp2_with fail
          go_meet
          exact ⟨by rw [HE.out], by rw [HE.out]⟩
        by_cases e13 : fo = 13
        · subst e13
          have HE : Hid (swL 13 n0 n1 m0 m1 m2 = (n0, 0, m1, 0)) := by show _ = _; unfold swL; rw [if_neg (by omega), if_neg (by omega), if_neg (by omega), if_pos (.inl rfl)]
          go_wp2_with fail
          go_meet
          exact ⟨by rw [HE.out], by rw [HE.out]⟩
        by_cases e14 : fo = 14
        · subst e14
          have HE : Hid (swL 14 n0 n1 m0 m1 m2 = (n0, 0, m1, 0)) := by show _ = _; unfold swL; rw [if_neg (by omega), if_neg (by omega), if_neg (by omega), if_pos (.inr rfl)]
          go_wp2_with fail
          go_meet
          exact ⟨by rw [HE.out], by rw [HE.out]⟩
        by_cases e15 : fo = 15
        · subst e15
          have HE : Hid (swL 15 n0 n1 m0 m1 m2 = (m0, 0, 0, 0)) := by show _ = _; unfold swL; rw [if_neg (by omega), if_neg (by omega), if_neg (by omega), if_neg (by omega), if_pos rfl]
          go_wp2_with fail
          go_meet
          exact ⟨by rw [HE.out], by rw [HE.out]⟩
        by_cases e19 : fo ≤ 19
        · skip
          have b0 : (fo == 0) = false := by simp [e0]
          have b11 : (fo == 11) = false := by simp [e11]
          have b12 : (fo == 12) = false := by simp [e12]
          have b13 : (fo == 13) = false := by simp [e13]
          have b14 : (fo == 14) = false := by simp [e14]
          have b15 : (fo == 15) = false := by simp [e15]
          have HE : Hid (swL fo n0 n1 m0 m1 m2 = (m2, n0, 0, 1)) := by show _ = _; unfold swL; rw [if_neg (by omega), if_neg (by omega), if_neg (by omega), if_neg (by omega), if_neg (by omega), if_pos e19]
          go_wp2_with fail
          go_meet
          exact ⟨by rw [HE.out], by rw [HE.out]⟩
        by_cases e20 : fo = 20
        · subst e20
          have HE : Hid (swL 20 n0 n1 m0 m1 m2 = (m1, n0, m2, 0)) := by show _ = _; unfold swL; rw [if_neg (by omega), if_neg (by omega), if_neg (by omega), if_neg (by omega), if_neg (by omega), if_neg (by omega), if_pos rfl]
          go_wp2_with fail
          go_meet
          exact ⟨by rw [HE.out], by rw [HE.out]⟩
        by_cases e21 : fo = 21
        · subst e21
          have HE : Hid (swL 21 n0 n1 m0 m1 m2 = (0, 0, m0, 0)) := by show _ = _; unfold swL; rw [if_neg (by omega), if_neg (by omega), if_neg (by omega), if_neg (by omega), if_neg (by omega), if_neg (by omega), if_neg (by omega), if_pos rfl]
          go_wp2_with fail
          go_meet
          exact ⟨by rw [HE.out], by rw [HE.out]⟩
        have b0 : (fo == 0) = false := by simp [e0]
        have b11 : (fo == 11) = false := by simp [e11]
        have b12 : (fo == 12) = false := by simp [e12]
        have b13 : (fo == 13) = false := by simp [e13]
        have b14 : (fo == 14) = false := by simp [e14]
        have b15 : (fo == 15) = false := by simp [e15]
        have b20 : (fo == 20) = false := by simp [e20]
        have b21 : (fo == 21) = false := by simp [e21]
        have HE : Hid (swL fo n0 n1 m0 m1 m2 = (0, n0, 0, 0)) := by show _ = _; unfold swL; rw [if_neg (by omega), if_neg (by omega), if_neg (by omega), if_neg (by omega), if_neg (by omega), if_neg (by omega), if_neg (by omega), if_neg (by omega)]
        go_wp2_with fail
        go_meet
        exact ⟨by rw [HE.out], by rw [HE.out]⟩
      case rest =>
        obtain ⟨rfl, hwx⟩ := hcut
        have hfo : 0 ≤ fo ∧ fo ≤ 23 := by
          have := findF_bd (str w0) 23 0
          have hf : findL (str w0) = (fo, true) := HF.out
          unfold findL at hf
          rw [hf] at this
          simp at this
          omega
        have HSA := sw_at fo n0 n1 m0 m1 m2
        have HC0 : Hid ((swL fo n0 n1 m0 m1 m2).2.2.2 = 0 → candI fo ts = ⟨fo, (swL fo n0 n1 m0 m1 m2).1, (swL fo n0 n1 m0 m1 m2).2.1, 0, (swL fo n0 n1 m0 m1 m2).2.2.1⟩) := by
          obtain ⟨rfl, rfl, rfl, rfl, rfl, rfl, rfl, rfl, rfl⟩ := HNM.out
          exact fun h => cand_0 h
        have HC1 : Hid ((swL fo n0 n1 m0 m1 m2).2.2.2 = 1 → (candI fo ts = ⟨fo, (swL fo n0 n1 m0 m1 m2).1, (swL fo n0 n1 m0 m1 m2).2.1, if r1 = true then n1 else 8, m1⟩ ∧ (swL fo n0 n1 m0 m1 m2).2.2.1 = 0) ∧ (r1 = true → m1 = 0)) := by
          obtain ⟨rfl, rfl, rfl, rfl, rfl, rfl, rfl, rfl, rfl⟩ := HNM.out
          exact fun h => ⟨cand_1 h, fun hr => mW_reg hr⟩
        have HC2 : Hid ((swL fo n0 n1 m0 m1 m2).2.2.2 = 2 → (candI fo ts = ⟨fo, (swL fo n0 n1 m0 m1 m2).1, (swL fo n0 n1 m0 m1 m2).2.1, if r2 = true then n2 else 8, m2⟩ ∧ (swL fo n0 n1 m0 m1 m2).2.2.1 = 0) ∧ (r2 = true → m2 = 0)) := by
          obtain ⟨rfl, rfl, rfl, rfl, rfl, rfl, rfl, rfl, rfl⟩ := HNM.out
          exact fun h => ⟨cand_2 h, fun hr => mW_reg hr⟩
        rw [hwx]
        clear hwx HNM
        generalize swL fo n0 n1 m0 m1 m2 = sw at *
        obtain ⟨D, A, IM, AT⟩ := sw
        simp only at *
        have HBX : ∃ B I2, Hid (candI fo ts = ⟨fo, D, A, B, I2⟩ ∧ ((AT = 0 ∧ B = 0 ∧ I2 = IM) ∨ (AT = 1 ∧ IM = 0 ∧ r1 = true ∧ B = n1 ∧ I2 = 0) ∨ (AT = 1 ∧ IM = 0 ∧ r1 = false ∧ B = 8 ∧ I2 = m1) ∨ (AT = 2 ∧ IM = 0 ∧ r2 = true ∧ B = n2 ∧ I2 = 0) ∨ (AT = 2 ∧ IM = 0 ∧ r2 = false ∧ B = 8 ∧ I2 = m2))) := by
          rcases HSA with rfl | rfl | rfl
          · exact ⟨0, IM, HC0.out rfl, .inl ⟨rfl, rfl, rfl⟩⟩
          · obtain ⟨⟨hci, rfl⟩, hm⟩ := HC1.out rfl
            cases r1
            · exact ⟨8, m1, by rw [hci]; simp, .inr (.inr (.inl ⟨rfl, rfl, rfl, rfl, rfl⟩))⟩
            · obtain rfl := hm rfl
              exact ⟨n1, 0, by rw [hci]; simp, .inr (.inl ⟨rfl, rfl, rfl, rfl, rfl⟩)⟩
          · obtain ⟨⟨hci, rfl⟩, hm⟩ := HC2.out rfl
            cases r2
            · exact ⟨8, m2, by rw [hci]; simp, .inr (.inr (.inr (.inr ⟨rfl, rfl, rfl, rfl, rfl⟩)))⟩
            · obtain rfl := hm rfl
              exact ⟨n2, 0, by rw [hci]; simp, .inr (.inr (.inr (.inl ⟨rfl, rfl, rfl, rfl, rfl⟩)))⟩
        clear HC0 HC1 HC2 HSA
        obtain ⟨B, I2, HBI⟩ := HBX
        refine ‹∀ (a : Act) (w : World), Code.wp Tryd.prog (Code.seq (Code.seq (Code.region 46 _ _) _) _) _ a w → _› _ _ ?_
        refine wp_seq_k fun K hK => ?_
        go_cut [14] from 176 to 196 (fun s14 wx => s14 = .int .i64 AT ∧ wx = wr.alloc (instO fo D A B I2))
        case first =>
          obtain ⟨_, hcs⟩ := HBI.out
          clear HBI
          rcases hcs with ⟨rfl, rfl, rfl⟩ | ⟨rfl, rfl, rfl, rfl, rfl⟩ | ⟨rfl, rfl, rfl, rfl, rfl⟩ | ⟨rfl, rfl, rfl, rfl, rfl⟩ | ⟨rfl, rfl, rfl, rfl, rfl⟩
          all_goals
            go_wp2_with fail
            go_meet
            exact ⟨rfl, rfl⟩
        case rest =>
          obtain ⟨rfl, hwy⟩ := hcut
          rw [hwy]
          clear hwy
          refine hK _ _ ?_
          clear hK
          go_upto_region 51 with fail
          have HI : Hid (candI fo ts = ⟨fo, D, A, B, I2⟩) := HBI.out.1
          have HRES : Hid (readL l = if (rightB fo D A B I2 && decide (lineL fo D A B I2 = l)) = true then some ⟨fo, D, A, B, I2⟩ else none) := by
            show _ = _
            rw [HRD.out, HF.out]
            unfold readW
            rw [if_neg (by simp; omega), if_neg (by rw [HAL.out]; simp), HI.out]
            rfl
          have hwf : In.wf ⟨fo, D, A, B, I2⟩ := by rw [← HI.out]; exact candI_wf hfo ts
          have bD := bounds_i64 hwf.2.1
          have bA := bounds_i64 hwf.2.2.1
          have bB := bounds_i64 hwf.2.2.2.1
          have bI := bounds_i64 hwf.2.2.2.2
          simp only at bD bA bB bI
          have HH : Box (wr.alloc (instO fo D A B I2)) wr.heap.size fo D A B I2 ∧ ∃ o' d' a' b' i', Wbox (wr.alloc (instO fo D A B I2)) w.heap.size o' d' a' b' i' := ⟨box_newR wr fo D A B I2, _, _, _, _, _, HBOX.out.below ((Below.refl wr.heap.size wr).alloc (Nat.le_refl _) _) (by omega)⟩
          have hBE : Below w.heap.size w (wr.alloc (instO fo D A B I2)) := hbel.alloc hbel.size _
          have hzE : wr.heap.size < (wr.alloc (instO fo D A B I2)).heap.size := by simp
          have hzw : w.heap.size < wr.heap.size := by omega
          clear cn0 cn1 cn2 cm0 cm1 cm2 cr0 cr1 cr2 HBOX hbel HI HBI s1 s2 s3
          generalize wr.alloc _ = WE at *
          generalize wr.heap.size = NE at *
          refine wp_region_held_drew (S := fun w' => Box w' NE fo D A B I2 ∧ ∃ o' d' a' b' i', Wbox w' w.heap.size o' d' a' b' i') (by kernel_rfl) HH (fun hHeld => ?_)
          have HH0 : Hid (Box WE NE fo D A B I2 ∧ ∃ o' d' a' b' i', Wbox WE w.heap.size o' d' a' b' i') := HH
          clear HH
          refine wpAnyH_take (i := 0) (v := instV fo D A B I2) rfl (by kernel_rfl) (by kernel_rfl) (by kernel_rfl) (fun _ _ _ h => h) (Or.inl ⟨by rfl, fun wy hSw => ?_⟩) (by assumption) ?_
          · obtain ⟨⟨d0, d1, d2, d3, d4⟩, _⟩ := hSw
            go_simp
          try simp only [Act.put, List.getElem_toArray, List.getElem_cons_zero, List.getElem_cons_succ, List.setIfInBounds_toArray, List.set_cons_zero, List.set_cons_succ]
          refine wpAnyH_take (i := 1) (v := instV fo D A B I2) rfl (by kernel_rfl) (by kernel_rfl) (by kernel_rfl) (fun _ _ _ h => h) (Or.inl ⟨by rfl, fun wy hSw => ?_⟩) (by assumption) ?_
          · obtain ⟨⟨d0, d1, d2, d3, d4⟩, _⟩ := hSw
            go_simp
          try simp only [Act.put, List.getElem_toArray, List.getElem_cons_zero, List.getElem_cons_succ, List.setIfInBounds_toArray, List.set_cons_zero, List.set_cons_succ]
          refine wpAnyH_ready (rs := [2]) (by kernel_rfl) (by simp) ?_
          refine AllReadyH.cons rfl (fun K hK => ?_) AllReadyH.nil
          rw [if_pos (by rfl)]
          go_simp
          go_at_call 20
          refine (right_any fo D A B I2 WE.drew).mono ?_
          rintro e wR ⟨rfl, hbR⟩
          have hbR := (Below.refl WE.heap.size WE).drew.trans hbR
          have hBR := hBE.trans (hbR.mono hBE.size)
          have hzR := hbR.size
          have HHR : Hid (Box wR NE fo D A B I2 ∧ ∃ o' d' a' b' i', Wbox wR w.heap.size o' d' a' b' i') := by
            obtain ⟨h1, o', d', a', b', i', h2⟩ := HH0.out
            exact ⟨Box.below h1 hbR hzE, o', d', a', b', i', Wbox.below h2 hbR (by omega)⟩
          refine hK.out _ _ HHR.out (fun hHeld => ?_)
          clear hK hbR HH0
          try simp only [Act.put, List.getElem_toArray, List.getElem_cons_zero, List.getElem_cons_succ, List.setIfInBounds_toArray, List.set_cons_zero, List.set_cons_succ]
          refine wpAnyH_take (i := 3) (v := .bool (rightB fo D A B I2)) rfl (by kernel_rfl) (by kernel_rfl) (by kernel_rfl) (fun _ _ _ h => h) (Or.inl ⟨by rfl, fun wy hSw => ?_⟩) (by assumption) ?_
          · obtain ⟨⟨d0, d1, d2, d3, d4⟩, _⟩ := hSw
            go_simp
          try simp only [Act.put, List.getElem_toArray, List.getElem_cons_zero, List.getElem_cons_succ, List.setIfInBounds_toArray, List.set_cons_zero, List.set_cons_succ]
          cases hR : rightB fo D A B I2
          · rw [hR] at HRES
            refine wpAnyH_take (i := 4) (v := undef) rfl (by kernel_rfl) (by kernel_rfl) (by kernel_rfl) (fun _ _ _ h => h) (Or.inr ⟨by rfl, rfl⟩) (by assumption) ?_
            try simp only [Act.put, List.getElem_toArray, List.getElem_cons_zero, List.getElem_cons_succ, List.setIfInBounds_toArray, List.set_cons_zero, List.set_cons_succ]
            refine wpAnyH_take (i := 5) (v := undef) rfl (by kernel_rfl) (by kernel_rfl) (by kernel_rfl) (fun _ _ _ h => h) (Or.inr ⟨by rfl, rfl⟩) (by assumption) ?_
            try simp only [Act.put, List.getElem_toArray, List.getElem_cons_zero, List.getElem_cons_succ, List.setIfInBounds_toArray, List.set_cons_zero, List.set_cons_succ]
            refine wpAnyH_take (i := 6) (v := undef) rfl (by kernel_rfl) (by kernel_rfl) (by kernel_rfl) (fun _ _ _ h => h) (Or.inr ⟨by rfl, rfl⟩) (by assumption) ?_
            try simp only [Act.put, List.getElem_toArray, List.getElem_cons_zero, List.getElem_cons_succ, List.setIfInBounds_toArray, List.set_cons_zero, List.set_cons_succ]
            refine wpAnyH_take (i := 7) (v := undef) rfl (by kernel_rfl) (by kernel_rfl) (by kernel_rfl) (fun _ _ _ h => h) (Or.inr ⟨by rfl, rfl⟩) (by assumption) ?_
            try simp only [Act.put, List.getElem_toArray, List.getElem_cons_zero, List.getElem_cons_succ, List.setIfInBounds_toArray, List.set_cons_zero, List.set_cons_succ]
            refine wpAnyH_take (i := 8) (v := .bool false) rfl (by kernel_rfl) (by kernel_rfl) (by kernel_rfl) (fun _ _ _ h => h) (Or.inl ⟨by rfl, fun wy hSw => ?_⟩) (by assumption) ?_
            · obtain ⟨⟨d0, d1, d2, d3, d4⟩, _⟩ := hSw
              go_simp
            try simp only [Act.put, List.getElem_toArray, List.getElem_cons_zero, List.getElem_cons_succ, List.setIfInBounds_toArray, List.set_cons_zero, List.set_cons_succ]
            have HHFIN := HHR
            obtain ⟨hbx, o', d', a', b', i', ⟨e0, e1, e2, e3, e4⟩, f0, f1, f2, f3, f4⟩ := HHFIN.out
            refine wpAnyH_ready (rs := [9]) (by kernel_rfl) (by simp) ?_
            refine AllReadyH.cons rfl (fun K hK => ?_) AllReadyH.nil
            rw [if_pos (by rfl)]
            go_simp
            have hbs := box_set5 ⟨e0, e1, e2, e3, e4⟩ fo D A B I2
            have hfz := set5_fz (fo := fo) (D := D) (A := A) (B := B) (IM := I2) f0 f1 f2 f3 f4
            refine hK.out _ _ ⟨Box.far hbx (by omega), fo, D, A, B, I2, hbs, hfz⟩ (fun hHeld => ?_)
            clear hK
            try simp only [Act.put, List.getElem_toArray, List.getElem_cons_zero, List.getElem_cons_succ, List.setIfInBounds_toArray, List.set_cons_zero, List.set_cons_succ]
            refine wpAnyH_take (i := 10) (v := .bool false) rfl (by kernel_rfl) (by kernel_rfl) (by kernel_rfl) (fun _ _ _ h => h) (Or.inl ⟨by rfl, fun wy hSw => ?_⟩) (by assumption) ?_
            · obtain ⟨⟨d0, d1, d2, d3, d4⟩, _⟩ := hSw
              go_simp
            try simp only [Act.put, List.getElem_toArray, List.getElem_cons_zero, List.getElem_cons_succ, List.setIfInBounds_toArray, List.set_cons_zero, List.set_cons_succ]
            refine wpAnyH_done (by kernel_rfl) ?_ _
            go_wp2_with fail
            refine bodyPost_ret (v := .tuple #[instV fo D A B I2, .bool false]) ?_ rfl ?_
            · rw [results_cell_tmp rfl]
              have hld := run_box hbs
              simp [asAddr, Result.andThen, hld]
            · exact ⟨⟨⟨fo, D, A, B, I2⟩, by rw [HRES.out]; rfl, fun j hj => by rw [HRES.out] at hj; simp at hj⟩, by go_grown⟩
          · rw [hR] at HRES
            refine wpAnyH_take (i := 4) (v := instV fo D A B I2) rfl (by kernel_rfl) (by kernel_rfl) (by kernel_rfl) (fun _ _ _ h => h) (Or.inl ⟨by rfl, fun wy hSw => ?_⟩) (by assumption) ?_
            · obtain ⟨⟨d0, d1, d2, d3, d4⟩, _⟩ := hSw
              go_simp
            try simp only [Act.put, List.getElem_toArray, List.getElem_cons_zero, List.getElem_cons_succ, List.setIfInBounds_toArray, List.set_cons_zero, List.set_cons_succ]
            refine wpAnyH_take (i := 6) (v := .string (str l)) rfl (by kernel_rfl) (by kernel_rfl) (by kernel_rfl) (fun _ _ _ h => h) (Or.inl ⟨by rfl, fun wy hSw => ?_⟩) (by assumption) ?_
            · obtain ⟨⟨d0, d1, d2, d3, d4⟩, _⟩ := hSw
              go_simp
            try simp only [Act.put, List.getElem_toArray, List.getElem_cons_zero, List.getElem_cons_succ, List.setIfInBounds_toArray, List.set_cons_zero, List.set_cons_succ]
            refine wpAnyH_ready (rs := [5]) (by kernel_rfl) (by simp) ?_
            refine AllReadyH.cons rfl (fun K hK => ?_) AllReadyH.nil
            rw [if_pos (by rfl)]
            go_simp
            go_at_call 21
            refine (line_any fo D A B I2 wR bD bA bB bI).mono ?_
            rintro e wL ⟨rfl, hbL⟩
            have hBL := hBR.trans (hbL.mono hBR.size)
            have HHFIN : Hid (Box wL NE fo D A B I2 ∧ ∃ o' d' a' b' i', Wbox wL w.heap.size o' d' a' b' i') := by
              obtain ⟨h1, o', d', a', b', i', h2⟩ := HHR.out
              exact ⟨Box.below h1 hbL (by omega), o', d', a', b', i', Wbox.below h2 hbL (by omega)⟩
            refine hK.out _ _ HHFIN.out (fun hHeld => ?_)
            clear hK hbL HHR
            try simp only [Act.put, List.getElem_toArray, List.getElem_cons_zero, List.getElem_cons_succ, List.setIfInBounds_toArray, List.set_cons_zero, List.set_cons_succ]
            refine wpAnyH_take (i := 7) (v := .bool (decide (lineL fo D A B I2 = l))) rfl (by kernel_rfl) (by kernel_rfl) (by kernel_rfl) (fun _ _ _ h => h) (Or.inl ⟨by rfl, fun wy hSw => ?_⟩) (by assumption) ?_
            · obtain ⟨⟨d0, d1, d2, d3, d4⟩, _⟩ := hSw
              go_simp
              exact beq_dec _ _
            try simp only [Act.put, List.getElem_toArray, List.getElem_cons_zero, List.getElem_cons_succ, List.setIfInBounds_toArray, List.set_cons_zero, List.set_cons_succ]
            refine wpAnyH_take (i := 8) (v := .bool (decide (lineL fo D A B I2 = l))) rfl (by kernel_rfl) (by kernel_rfl) (by kernel_rfl) (fun _ _ _ h => h) (Or.inl ⟨by rfl, fun wy hSw => ?_⟩) (by assumption) ?_
            · obtain ⟨⟨d0, d1, d2, d3, d4⟩, _⟩ := hSw
              go_simp
            try simp only [Act.put, List.getElem_toArray, List.getElem_cons_zero, List.getElem_cons_succ, List.setIfInBounds_toArray, List.set_cons_zero, List.set_cons_succ]
            obtain ⟨hbx, o', d', a', b', i', ⟨e0, e1, e2, e3, e4⟩, f0, f1, f2, f3, f4⟩ := HHFIN.out
            refine wpAnyH_ready (rs := [9]) (by kernel_rfl) (by simp) ?_
            refine AllReadyH.cons rfl (fun K hK => ?_) AllReadyH.nil
            rw [if_pos (by rfl)]
            go_simp
            have hbs := box_set5 ⟨e0, e1, e2, e3, e4⟩ fo D A B I2
            have hfz := set5_fz (fo := fo) (D := D) (A := A) (B := B) (IM := I2) f0 f1 f2 f3 f4
            refine hK.out _ _ ⟨Box.far hbx (by omega), fo, D, A, B, I2, hbs, hfz⟩ (fun hHeld => ?_)
            clear hK
            try simp only [Act.put, List.getElem_toArray, List.getElem_cons_zero, List.getElem_cons_succ, List.setIfInBounds_toArray, List.set_cons_zero, List.set_cons_succ]
            refine wpAnyH_take (i := 10) (v := .bool (decide (lineL fo D A B I2 = l))) rfl (by kernel_rfl) (by kernel_rfl) (by kernel_rfl) (fun _ _ _ h => h) (Or.inl ⟨by rfl, fun wy hSw => ?_⟩) (by assumption) ?_
            · obtain ⟨⟨d0, d1, d2, d3, d4⟩, _⟩ := hSw
              go_simp
            try simp only [Act.put, List.getElem_toArray, List.getElem_cons_zero, List.getElem_cons_succ, List.setIfInBounds_toArray, List.set_cons_zero, List.set_cons_succ]
            refine wpAnyH_done (by kernel_rfl) ?_ _
            go_wp2_with fail
            refine bodyPost_ret (v := .tuple #[instV fo D A B I2, .bool (decide (lineL fo D A B I2 = l))]) ?_ rfl ?_
            · rw [results_cell_tmp rfl]
              have hld := run_box hbs
              simp [asAddr, Result.andThen, hld]
            · refine ⟨⟨⟨fo, D, A, B, I2⟩, ?_, fun j hj => ?_⟩, by go_grown⟩
              · rw [HRES.out]; by_cases hq : lineL fo D A B I2 = l <;> simp [hq]
              · rw [HRES.out] at hj; by_cases hq : lineL fo D A B I2 = l <;> simp [hq] at hj; exact hj

theorem read_any (l : List UInt8) (w : World) (hl : l.length ≤ 4194304) : Calls Tryd.prog 24 #[.string (str l)] w fun e w' => (∃ i : In, e = .returned (.tuple #[i.v, .bool (readL l).isSome]) ∧ ∀ j, readL l = some j → i = j) ∧ Below w.heap.size w w' := by
  obtain ⟨w0, ts, HWS⟩ : ∃ w0 ts, Hid (wordsL l = w0 :: ts) := wordsL_ne l
  have HRD : Hid (readL l = readW (findL (str w0)) ts l) := readL_cut HWS.out
  obtain ⟨fo, fb, HF⟩ : ∃ fo fb, Hid (findL (str w0) = (fo, fb)) := ⟨_, _, rfl⟩
  cases hbad : (!fb || decide (3 < ts.length))
  · exact read_good l w hl w0 ts HWS HRD fo fb HF hbad
  · exact read_bad l w hl w0 ts HWS HRD fo fb HF hbad
end Go.Proofs.YtmfcilgocffggaaDoor
