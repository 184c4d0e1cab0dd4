/-
  What the document's Reads does: the registers that are read, rising, in new memory. No condition beyond the numbers' kinds.
-/
import Derived.Test.YtheapkigeknjlaaDoorR2More
import Derived.Maps.AppendAt
namespace Go.Proofs.YtheapkigeknjlaaDoor
open Go.RowKit
set_option linter.unusedVariables false

theorem Tryd.info3 : (Tryd.prog.info? 3).map (fun i => (i.zero, i.size, i.bytes)) = some (some (.int .i64 0), 1, 8) := by kernel_rfl

/-- Eight cells that say no. -/
def no8 : List Value := [.bool false, .bool false, .bool false, .bool false, .bool false, .bool false, .bool false, .bool false]
theorem no8_at (r : Nat) (h : r < 8) : no8[r]? = some (.bool false) := by
  obtain h | h | h | h | h | h | h | h : r = 0 ∨ r = 1 ∨ r = 2 ∨ r = 3 ∨ r = 4 ∨ r = 5 ∨ r = 6 ∨ r = 7 := by omega
  all_goals (subst h; rfl)
theorem no8_set (n r : Nat) (h : r < 8) : (no8.set n (.bool true))[r]? = some (.bool (decide (r = n))) := by
  rw [List.getElem?_set]
  by_cases e : n = r
  · subst e; rw [if_pos rfl, if_pos (by simpa [no8] using h)]; simp
  · rw [if_neg e, no8_at r h]; simp; omega
/-- The registers, by two numbers. -/
def pickL (p q : Bool) (a b : Nat) : List Int := (([0, 1, 2, 3, 4, 5, 6, 7] : List Nat).filter fun r => (p && decide (r = a)) || (q && decide (r = b))).map Int.ofNat
def upto8 (p q : Bool) (a b k : Nat) : List Int := (((List.range 8).take k).filter fun r => (p && decide (r = a)) || (q && decide (r = b))).map Int.ofNat
theorem upto8_succ (p q : Bool) (a b k : Nat) (hk : k < 8) : upto8 p q a b (k + 1) = if ((p && decide (k = a)) || (q && decide (k = b))) = true then upto8 p q a b k ++ [(k : Int)] else upto8 p q a b k := by
  unfold upto8
  have e : (List.range 8).take (k + 1) = (List.range 8).take k ++ [k] := by
    rw [List.take_succ_eq_append_getElem (by simpa using hk)]; simp
  rw [e, List.filter_append, List.map_append]
  split
  · rename_i h; simp [List.filter, h]
  · rename_i h; simp [List.filter, h]
theorem upto8_len (p q : Bool) (a b k : Nat) : (upto8 p q a b k).length ≤ 8 := by
  unfold upto8
  rw [List.length_map]
  refine Nat.le_trans (List.length_filter_le _ _) ?_
  simp; omega

/-- Behind Source: the eight cells in the later world. -/
theorem cells8 {w1 w2 : World} {l : List Value} (h : Below (w1.alloc (.cells l.toArray 54)).heap.size (w1.alloc (.cells l.toArray 54)) w2) :
    (∀ r, w2.cell? ⟨w1.heap.size, r, none⟩ = l[r]?) ∧ (∀ r, w2.frozen? ⟨w1.heap.size, r, none⟩ = false) ∧ Below w1.heap.size w1 w2 ∧ w1.heap.size < w2.heap.size := by
  refine ⟨fun r => ?_, fun r => ?_, ((Below.refl _ _).alloc (Nat.le_refl _) _).trans (h.mono (by simp)), by have := h.size; simp at this; omega⟩
  · rw [h.cell (p := ⟨w1.heap.size, r, none⟩) (by simp), World.cell?_alloc_at _ _ _ _ rfl]; simp
  · rw [h.frozen (p := ⟨w1.heap.size, r, none⟩) (by simp)]; simp
theorem step_append {w wr w1 : World} {B : Nat} {e : TypeId} {k : IntKind} {v v' : Value} {o : Obj} {ys : List Int} {x : Int} (hown : wr.ownsRow B e 1 v ys.length (ys.map (Value.int k))) (hbe : Below B w wr) (hB : B ≤ w.heap.size)
    (hown' : w1.ownsRow B e 1 v' (ys.length + 1) (ys.map (Value.int k) ++ [Value.int k x])) (hgrow : (wr.alloc o).grownBy w1 v.ownBlock) :
    w1.ownsRow B e 1 v' (ys ++ [x]).length ((ys ++ [x]).map (Value.int k)) ∧ Below B w w1 := by
  have hs := hbe.size
  refine ⟨by simpa using hown', (hbe.alloc (by omega) o).grown hgrow (by simp; omega) (fun k hk => (hown.lt k hk).1)⟩
theorem one_cell (k : IntKind) (x : Int) : ∀ u ∈ [Value.int k x], u.oneCell' = true := by intro u hu; simp at hu; subst hu; rfl
theorem own_base {w : World} {base base' : Nat} {e : TypeId} {size : Nat} {v : Value} {n : Nat} {xs : List Value} (h : w.ownsRow base' e size v n xs) (hb : base ≤ base') : w.ownsRow base e size v n xs := by
  rcases h with ⟨h1, h2 | ⟨g, cap, cur, hv, hg, r⟩⟩
  · exact ⟨h1, .inl h2⟩
  · exact ⟨h1, .inr ⟨g, cap, cur, hv, by omega, r⟩⟩

set_option maxRecDepth 100000 in
set_option maxHeartbeats 2000000 in
theorem reads_three_t (op : Int) (d imm : Int) (an bn : Nat) (a b : Int) (w : World) (hr : rightB op d a b imm = true) (hth : threeB op = true) (hs : sourceB op d a b imm = true) (ha : a = (an : Int)) (ha7 : an ≤ 7) (hb : b = (bn : Int)) (hb7 : bn ≤ 7) :
    Calls Tryd.prog 18 #[instV op d a b imm] w fun e w' => ∃ v, e = .returned v ∧ w'.ownsRow w.heap.size 3 1 v (upto8 true true an bn 8).length ((upto8 true true an bn 8).map (Value.int .i64)) ∧ Below w.heap.size w w' := by
  obtain ⟨i0, hi, hz0, hz1, hz2⟩ := info_parts Tryd.info3
  subst ha
  have hset : no8[an]? = some (.bool false) := no8_at an (by omega)
  unfold no8 at hset
  subst hb
  have hlt8 : (bn : Int) < 8 := by omega
  go_enter Tryd.func18, Tryd.ntmps18
  go_wp2_with (first
    | (go_at_call 13; refine (right_any _ d _ _ imm _).mono ?_; rintro e w1 ⟨rfl, hbe⟩; have hB := box_below hbe; obtain ⟨c0, c1, c2, c3, c4⟩ := box_cell hbe; have hz : w.heap.size < w1.heap.size := (by have h := hbe.size; simp at h; omega); clear hbe)
    | (go_at_call 27; refine (three_any _ _).mono ?_; rintro e w' ⟨rfl, rfl⟩)
    | (go_at_call 28; refine (jump_any _ _).mono ?_; rintro e w' ⟨rfl, rfl⟩)
    | (go_at_call 16; go_must (refine (source_any _ d _ _ imm _).mono ?_); rintro e w2 ⟨rfl, hbe2⟩; go_must (obtain ⟨hcell8, hfz8, hb12, hz2'⟩ := cells8 (l := (no8.set an (.bool true))) hbe2; have hB2 := hB.trans (hb12.mono (by omega)); have d3 := (hb12.cell (p := ⟨w.heap.size, 3, none⟩) hz).trans c3; clear hbe2 c0 c1 c2 c3 c4; have HC8 : Hid (∀ r, w2.cell? ⟨w1.heap.size, r, none⟩ = (no8.set an (.bool true))[r]?) := hcell8; have hcb : w2.cell? ⟨w1.heap.size, bn, none⟩ = some (.bool (decide (bn = an))) := (hcell8 bn).trans (no8_set an bn (by omega)); have hfb := hfz8 bn; clear hcell8 hfz8)))
  obtain ⟨WF, HWE, hBF, hGF, HCF⟩ : ∃ WF, Hid (w2.setCell ⟨w1.heap.size, bn, none⟩ (.bool true) = WF) ∧ Below w.heap.size w WF ∧ w1.heap.size < WF.heap.size ∧ Hid (∀ r, r < 8 → WF.cell? ⟨w1.heap.size, r, none⟩ = some (.bool ((true && decide (r = an)) || (true && decide (r = bn))))) :=
    ⟨_, rfl, hB2.setCell (show w.heap.size ≤ w1.heap.size by omega) _, by simpa using hz2', fun r hr8 => by
      by_cases e : r = bn
      · subst e; rw [World.cell?_setCell_same' _ _ _ (by rw [hcb]; rfl)]; simp
      · rw [World.cell?_setCell_other _ _ _ _ (by intro h; injection h with h1 h2; omega), HC8.out r, no8_set an r hr8]; simp [e]⟩
  rw [HWE.out]
  clear HC8 d3 hcb hfb hB2 hB
  have HWF : Hid (Below w.heap.size w WF) := hBF
  clear hBF
  go_loopw [5, 6] (fun t i wr => ∃ k : Nat, k ≤ 8 ∧ i = .int .i64 k ∧ wr.ownsRow WF.heap.size 3 1 t (upto8 true true an bn k).length ((upto8 true true an bn k).map (Value.int .i64)) ∧ Below WF.heap.size WF wr) (fun _ i _ => 8 - (intOf i).toNat)
  case atStart => exact ⟨0, by omega, rfl, World.ownsRow_nil _ _ _ _, Below.refl _ _⟩
  case round =>
    obtain ⟨k, hk, rfl, hown, hbe⟩ := hrel
    have hszr := hbe.size
    by_cases hlt : k < 8
    · have hck : wr.cell? ⟨w1.heap.size, k, none⟩ = some (.bool ((true && decide (k = an)) || (true && decide (k = bn)))) := (hbe.cell (p := ⟨w1.heap.size, k, none⟩) hGF).trans (HCF.out k hlt)
      have hup := upto8_succ true true an bn k hlt
      have hul := upto8_len true true an bn k
      cases hbit : ((true && decide (k = an)) || (true && decide (k = bn))) with
      | true =>
        rw [hbit] at hck hup
        rw [if_pos rfl] at hup
        have HUP : Hid (upto8 true true an bn (k + 1) = upto8 true true an bn k ++ [(k : Int)]) := hup
        clear hup hbit
        go_wp2_with (at_builtin; go_must (refine wpList_append_own _ rfl _ _ 37 rfl WF.heap.size 3 i0 (.int .i64 0) 1 8 Tryd.underlying37 hi hz0 hz1 hz2 rfl (by decide) _ _ _ rfl (hown.alloc _) ⟨_, 0, none⟩ 1 1 [.int .i64 k] rfl rfl (cell_one_new _ _ _) (one_cell _ _) (by unfold maxLen; omega) (by omega) (by simp; omega) ?_); intro v' w5 hown' hgrow _; have R := step_append hown hbe (Nat.le_refl _) hown' hgrow; clear hown' hgrow)
        rw [← HUP.out] at R
        go_roundw
        case rel => exact ⟨k + 1, by omega, by go_num, R.1, R.2⟩
        case measure => simp [intOf]; omega
      | false =>
        rw [hbit] at hck hup
        rw [if_neg (by simp)] at hup
        have HUP : Hid (upto8 true true an bn (k + 1) = upto8 true true an bn k) := hup
        clear hup hbit
        rw [← HUP.out] at hown
        go_wp2
        go_roundw
        case rel => exact ⟨k + 1, by omega, by go_num, hown, hbe⟩
        case measure => simp [intOf]; omega
    · obtain rfl : k = 8 := by omega
      have hszw := HWF.out.size
      go_wp2
      go_ret
      exact ⟨_, rfl, own_base hown hszw, HWF.out.trans (hbe.mono hszw)⟩

set_option maxRecDepth 100000 in
set_option maxHeartbeats 2000000 in
theorem reads_three_f (op : Int) (d imm : Int) (an bn : Nat) (a b : Int) (w : World) (hr : rightB op d a b imm = true) (hth : threeB op = true) (hs : sourceB op d a b imm = false) (ha : a = (an : Int)) (ha7 : an ≤ 7) :
    Calls Tryd.prog 18 #[instV op d a b imm] w fun e w' => ∃ v, e = .returned v ∧ w'.ownsRow w.heap.size 3 1 v (upto8 true false an bn 8).length ((upto8 true false an bn 8).map (Value.int .i64)) ∧ Below w.heap.size w w' := by
  obtain ⟨i0, hi, hz0, hz1, hz2⟩ := info_parts Tryd.info3
  subst ha
  have hset : no8[an]? = some (.bool false) := no8_at an (by omega)
  unfold no8 at hset
  go_enter Tryd.func18, Tryd.ntmps18
  go_wp2_with (first
    | (go_at_call 13; refine (right_any _ d _ _ imm _).mono ?_; rintro e w1 ⟨rfl, hbe⟩; have hB := box_below hbe; obtain ⟨c0, c1, c2, c3, c4⟩ := box_cell hbe; have hz : w.heap.size < w1.heap.size := (by have h := hbe.size; simp at h; omega); clear hbe)
    | (go_at_call 27; refine (three_any _ _).mono ?_; rintro e w' ⟨rfl, rfl⟩)
    | (go_at_call 28; refine (jump_any _ _).mono ?_; rintro e w' ⟨rfl, rfl⟩)
    | (go_at_call 16; go_must (refine (source_any _ d _ _ imm _).mono ?_); rintro e w2 ⟨rfl, hbe2⟩; go_must (obtain ⟨hcell8, hfz8, hb12, hz2'⟩ := cells8 (l := (no8.set an (.bool true))) hbe2; have hB2 := hB.trans (hb12.mono (by omega)); have d3 := (hb12.cell (p := ⟨w.heap.size, 3, none⟩) hz).trans c3; clear hbe2 c0 c1 c2 c3 c4; have HC8 : Hid (∀ r, w2.cell? ⟨w1.heap.size, r, none⟩ = (no8.set an (.bool true))[r]?) := hcell8; clear hcell8 hfz8)))
  obtain ⟨WF, HWE, hBF, hGF, HCF⟩ : ∃ WF, Hid (w2 = WF) ∧ Below w.heap.size w WF ∧ w1.heap.size < WF.heap.size ∧ Hid (∀ r, r < 8 → WF.cell? ⟨w1.heap.size, r, none⟩ = some (.bool ((true && decide (r = an)) || (false && decide (r = bn))))) :=
    ⟨_, rfl, hB2, hz2', fun r hr8 => by rw [HC8.out r, no8_set an r hr8]; simp⟩
  rw [HWE.out]
  clear HC8 d3 hB2 hB
  have HWF : Hid (Below w.heap.size w WF) := hBF
  clear hBF
  go_loopw [5, 6] (fun t i wr => ∃ k : Nat, k ≤ 8 ∧ i = .int .i64 k ∧ wr.ownsRow WF.heap.size 3 1 t (upto8 true false an bn k).length ((upto8 true false an bn k).map (Value.int .i64)) ∧ Below WF.heap.size WF wr) (fun _ i _ => 8 - (intOf i).toNat)
  case atStart => exact ⟨0, by omega, rfl, World.ownsRow_nil _ _ _ _, Below.refl _ _⟩
  case round =>
    obtain ⟨k, hk, rfl, hown, hbe⟩ := hrel
    have hszr := hbe.size
    by_cases hlt : k < 8
    · have hck : wr.cell? ⟨w1.heap.size, k, none⟩ = some (.bool ((true && decide (k = an)) || (false && decide (k = bn)))) := (hbe.cell (p := ⟨w1.heap.size, k, none⟩) hGF).trans (HCF.out k hlt)
      have hup := upto8_succ true false an bn k hlt
      have hul := upto8_len true false an bn k
      cases hbit : ((true && decide (k = an)) || (false && decide (k = bn))) with
      | true =>
        rw [hbit] at hck hup
        rw [if_pos rfl] at hup
        have HUP : Hid (upto8 true false an bn (k + 1) = upto8 true false an bn k ++ [(k : Int)]) := hup
        clear hup hbit
        go_wp2_with (at_builtin; go_must (refine wpList_append_own _ rfl _ _ 37 rfl WF.heap.size 3 i0 (.int .i64 0) 1 8 Tryd.underlying37 hi hz0 hz1 hz2 rfl (by decide) _ _ _ rfl (hown.alloc _) ⟨_, 0, none⟩ 1 1 [.int .i64 k] rfl rfl (cell_one_new _ _ _) (one_cell _ _) (by unfold maxLen; omega) (by omega) (by simp; omega) ?_); intro v' w5 hown' hgrow _; have R := step_append hown hbe (Nat.le_refl _) hown' hgrow; clear hown' hgrow)
        rw [← HUP.out] at R
        go_roundw
        case rel => exact ⟨k + 1, by omega, by go_num, R.1, R.2⟩
        case measure => simp [intOf]; omega
      | false =>
        rw [hbit] at hck hup
        rw [if_neg (by simp)] at hup
        have HUP : Hid (upto8 true false an bn (k + 1) = upto8 true false an bn k) := hup
        clear hup hbit
        rw [← HUP.out] at hown
        go_wp2
        go_roundw
        case rel => exact ⟨k + 1, by omega, by go_num, hown, hbe⟩
        case measure => simp [intOf]; omega
    · obtain rfl : k = 8 := by omega
      have hszw := HWF.out.size
      go_wp2
      go_ret
      exact ⟨_, rfl, own_base hown hszw, HWF.out.trans (hbe.mono hszw)⟩

set_option maxRecDepth 100000 in
set_option maxHeartbeats 2000000 in
theorem reads_three_g (op : Int) (d imm : Int) (an bn : Nat) (a b : Int) (w : World) (hr : rightB op d a b imm = true) (hth : threeB op = true) (hs : sourceB op d a b imm = true) (hb8 : ¬ b < 8) (ha : a = (an : Int)) (ha7 : an ≤ 7) :
    Calls Tryd.prog 18 #[instV op d a b imm] w fun e w' => ∃ v, e = .returned v ∧ w'.ownsRow w.heap.size 3 1 v (upto8 true false an bn 8).length ((upto8 true false an bn 8).map (Value.int .i64)) ∧ Below w.heap.size w w' := by
  obtain ⟨i0, hi, hz0, hz1, hz2⟩ := info_parts Tryd.info3
  subst ha
  have hset : no8[an]? = some (.bool false) := no8_at an (by omega)
  unfold no8 at hset
  go_enter Tryd.func18, Tryd.ntmps18
  go_wp2_with (first
    | (go_at_call 13; refine (right_any _ d _ _ imm _).mono ?_; rintro e w1 ⟨rfl, hbe⟩; have hB := box_below hbe; obtain ⟨c0, c1, c2, c3, c4⟩ := box_cell hbe; have hz : w.heap.size < w1.heap.size := (by have h := hbe.size; simp at h; omega); clear hbe)
    | (go_at_call 27; refine (three_any _ _).mono ?_; rintro e w' ⟨rfl, rfl⟩)
    | (go_at_call 28; refine (jump_any _ _).mono ?_; rintro e w' ⟨rfl, rfl⟩)
    | (go_at_call 16; go_must (refine (source_any _ d _ _ imm _).mono ?_); rintro e w2 ⟨rfl, hbe2⟩; go_must (obtain ⟨hcell8, hfz8, hb12, hz2'⟩ := cells8 (l := (no8.set an (.bool true))) hbe2; have hB2 := hB.trans (hb12.mono (by omega)); have d3 := (hb12.cell (p := ⟨w.heap.size, 3, none⟩) hz).trans c3; clear hbe2 c0 c1 c2 c3 c4; have HC8 : Hid (∀ r, w2.cell? ⟨w1.heap.size, r, none⟩ = (no8.set an (.bool true))[r]?) := hcell8; clear hcell8 hfz8)))
  obtain ⟨WF, HWE, hBF, hGF, HCF⟩ : ∃ WF, Hid (w2 = WF) ∧ Below w.heap.size w WF ∧ w1.heap.size < WF.heap.size ∧ Hid (∀ r, r < 8 → WF.cell? ⟨w1.heap.size, r, none⟩ = some (.bool ((true && decide (r = an)) || (false && decide (r = bn))))) :=
    ⟨_, rfl, hB2, hz2', fun r hr8 => by rw [HC8.out r, no8_set an r hr8]; simp⟩
  rw [HWE.out]
  clear HC8 d3 hB2 hB
  have HWF : Hid (Below w.heap.size w WF) := hBF
  clear hBF
  go_loopw [5, 6] (fun t i wr => ∃ k : Nat, k ≤ 8 ∧ i = .int .i64 k ∧ wr.ownsRow WF.heap.size 3 1 t (upto8 true false an bn k).length ((upto8 true false an bn k).map (Value.int .i64)) ∧ Below WF.heap.size WF wr) (fun _ i _ => 8 - (intOf i).toNat)
  case atStart => exact ⟨0, by omega, rfl, World.ownsRow_nil _ _ _ _, Below.refl _ _⟩
  case round =>
    obtain ⟨k, hk, rfl, hown, hbe⟩ := hrel
    have hszr := hbe.size
    by_cases hlt : k < 8
    · have hck : wr.cell? ⟨w1.heap.size, k, none⟩ = some (.bool ((true && decide (k = an)) || (false && decide (k = bn)))) := (hbe.cell (p := ⟨w1.heap.size, k, none⟩) hGF).trans (HCF.out k hlt)
      have hup := upto8_succ true false an bn k hlt
      have hul := upto8_len true false an bn k
      cases hbit : ((true && decide (k = an)) || (false && decide (k = bn))) with
      | true =>
        rw [hbit] at hck hup
        rw [if_pos rfl] at hup
        have HUP : Hid (upto8 true false an bn (k + 1) = upto8 true false an bn k ++ [(k : Int)]) := hup
        clear hup hbit
        go_wp2_with (at_builtin; go_must (refine wpList_append_own _ rfl _ _ 37 rfl WF.heap.size 3 i0 (.int .i64 0) 1 8 Tryd.underlying37 hi hz0 hz1 hz2 rfl (by decide) _ _ _ rfl (hown.alloc _) ⟨_, 0, none⟩ 1 1 [.int .i64 k] rfl rfl (cell_one_new _ _ _) (one_cell _ _) (by unfold maxLen; omega) (by omega) (by simp; omega) ?_); intro v' w5 hown' hgrow _; have R := step_append hown hbe (Nat.le_refl _) hown' hgrow; clear hown' hgrow)
        rw [← HUP.out] at R
        go_roundw
        case rel => exact ⟨k + 1, by omega, by go_num, R.1, R.2⟩
        case measure => simp [intOf]; omega
      | false =>
        rw [hbit] at hck hup
        rw [if_neg (by simp)] at hup
        have HUP : Hid (upto8 true false an bn (k + 1) = upto8 true false an bn k) := hup
        clear hup hbit
        rw [← HUP.out] at hown
        go_wp2
        go_roundw
        case rel => exact ⟨k + 1, by omega, by go_num, hown, hbe⟩
        case measure => simp [intOf]; omega
    · obtain rfl : k = 8 := by omega
      have hszw := HWF.out.size
      go_wp2
      go_ret
      exact ⟨_, rfl, own_base hown hszw, HWF.out.trans (hbe.mono hszw)⟩

set_option maxRecDepth 100000 in
set_option maxHeartbeats 2000000 in
theorem reads_jump_t (op : Int) (d imm : Int) (an bn : Nat) (a b : Int) (w : World) (hr : rightB op d a b imm = true) (hth : threeB op = false) (h12 : (op == 12) = false) (hju : jumpB op = true) (hs : sourceB op d a b imm = true) (ha : a = (an : Int)) (ha7 : an ≤ 7) (hb : b = (bn : Int)) (hb7 : bn ≤ 7) :
    Calls Tryd.prog 18 #[instV op d a b imm] w fun e w' => ∃ v, e = .returned v ∧ w'.ownsRow w.heap.size 3 1 v (upto8 true true an bn 8).length ((upto8 true true an bn 8).map (Value.int .i64)) ∧ Below w.heap.size w w' := by
  obtain ⟨i0, hi, hz0, hz1, hz2⟩ := info_parts Tryd.info3
  subst ha
  have hset : no8[an]? = some (.bool false) := no8_at an (by omega)
  unfold no8 at hset
  subst hb
  have hlt8 : (bn : Int) < 8 := by omega
  go_enter Tryd.func18, Tryd.ntmps18
  go_wp2_with (first
    | (go_at_call 13; refine (right_any _ d _ _ imm _).mono ?_; rintro e w1 ⟨rfl, hbe⟩; have hB := box_below hbe; obtain ⟨c0, c1, c2, c3, c4⟩ := box_cell hbe; have hz : w.heap.size < w1.heap.size := (by have h := hbe.size; simp at h; omega); clear hbe)
    | (go_at_call 27; refine (three_any _ _).mono ?_; rintro e w' ⟨rfl, rfl⟩)
    | (go_at_call 28; refine (jump_any _ _).mono ?_; rintro e w' ⟨rfl, rfl⟩)
    | (go_at_call 16; go_must (refine (source_any _ d _ _ imm _).mono ?_); rintro e w2 ⟨rfl, hbe2⟩; go_must (obtain ⟨hcell8, hfz8, hb12, hz2'⟩ := cells8 (l := (no8.set an (.bool true))) hbe2; have hB2 := hB.trans (hb12.mono (by omega)); have d3 := (hb12.cell (p := ⟨w.heap.size, 3, none⟩) hz).trans c3; clear hbe2 c0 c1 c2 c3 c4; have HC8 : Hid (∀ r, w2.cell? ⟨w1.heap.size, r, none⟩ = (no8.set an (.bool true))[r]?) := hcell8; have hcb : w2.cell? ⟨w1.heap.size, bn, none⟩ = some (.bool (decide (bn = an))) := (hcell8 bn).trans (no8_set an bn (by omega)); have hfb := hfz8 bn; clear hcell8 hfz8)))
  obtain ⟨WF, HWE, hBF, hGF, HCF⟩ : ∃ WF, Hid (w2.setCell ⟨w1.heap.size, bn, none⟩ (.bool true) = WF) ∧ Below w.heap.size w WF ∧ w1.heap.size < WF.heap.size ∧ Hid (∀ r, r < 8 → WF.cell? ⟨w1.heap.size, r, none⟩ = some (.bool ((true && decide (r = an)) || (true && decide (r = bn))))) :=
    ⟨_, rfl, hB2.setCell (show w.heap.size ≤ w1.heap.size by omega) _, by simpa using hz2', fun r hr8 => by
      by_cases e : r = bn
      · subst e; rw [World.cell?_setCell_same' _ _ _ (by rw [hcb]; rfl)]; simp
      · rw [World.cell?_setCell_other _ _ _ _ (by intro h; injection h with h1 h2; omega), HC8.out r, no8_set an r hr8]; simp [e]⟩
  rw [HWE.out]
  clear HC8 d3 hcb hfb hB2 hB
  have HWF : Hid (Below w.heap.size w WF) := hBF
  clear hBF
  go_loopw [5, 6] (fun t i wr => ∃ k : Nat, k ≤ 8 ∧ i = .int .i64 k ∧ wr.ownsRow WF.heap.size 3 1 t (upto8 true true an bn k).length ((upto8 true true an bn k).map (Value.int .i64)) ∧ Below WF.heap.size WF wr) (fun _ i _ => 8 - (intOf i).toNat)
  case atStart => exact ⟨0, by omega, rfl, World.ownsRow_nil _ _ _ _, Below.refl _ _⟩
  case round =>
    obtain ⟨k, hk, rfl, hown, hbe⟩ := hrel
    have hszr := hbe.size
    by_cases hlt : k < 8
    · have hck : wr.cell? ⟨w1.heap.size, k, none⟩ = some (.bool ((true && decide (k = an)) || (true && decide (k = bn)))) := (hbe.cell (p := ⟨w1.heap.size, k, none⟩) hGF).trans (HCF.out k hlt)
      have hup := upto8_succ true true an bn k hlt
      have hul := upto8_len true true an bn k
      cases hbit : ((true && decide (k = an)) || (true && decide (k = bn))) with
      | true =>
        rw [hbit] at hck hup
        rw [if_pos rfl] at hup
        have HUP : Hid (upto8 true true an bn (k + 1) = upto8 true true an bn k ++ [(k : Int)]) := hup
        clear hup hbit
        go_wp2_with (at_builtin; go_must (refine wpList_append_own _ rfl _ _ 37 rfl WF.heap.size 3 i0 (.int .i64 0) 1 8 Tryd.underlying37 hi hz0 hz1 hz2 rfl (by decide) _ _ _ rfl (hown.alloc _) ⟨_, 0, none⟩ 1 1 [.int .i64 k] rfl rfl (cell_one_new _ _ _) (one_cell _ _) (by unfold maxLen; omega) (by omega) (by simp; omega) ?_); intro v' w5 hown' hgrow _; have R := step_append hown hbe (Nat.le_refl _) hown' hgrow; clear hown' hgrow)
        rw [← HUP.out] at R
        go_roundw
        case rel => exact ⟨k + 1, by omega, by go_num, R.1, R.2⟩
        case measure => simp [intOf]; omega
      | false =>
        rw [hbit] at hck hup
        rw [if_neg (by simp)] at hup
        have HUP : Hid (upto8 true true an bn (k + 1) = upto8 true true an bn k) := hup
        clear hup hbit
        rw [← HUP.out] at hown
        go_wp2
        go_roundw
        case rel => exact ⟨k + 1, by omega, by go_num, hown, hbe⟩
        case measure => simp [intOf]; omega
    · obtain rfl : k = 8 := by omega
      have hszw := HWF.out.size
      go_wp2
      go_ret
      exact ⟨_, rfl, own_base hown hszw, HWF.out.trans (hbe.mono hszw)⟩

set_option maxRecDepth 100000 in
set_option maxHeartbeats 2000000 in
theorem reads_jump_f (op : Int) (d imm : Int) (an bn : Nat) (a b : Int) (w : World) (hr : rightB op d a b imm = true) (hth : threeB op = false) (h12 : (op == 12) = false) (hju : jumpB op = true) (hs : sourceB op d a b imm = false) (ha : a = (an : Int)) (ha7 : an ≤ 7) :
    Calls Tryd.prog 18 #[instV op d a b imm] w fun e w' => ∃ v, e = .returned v ∧ w'.ownsRow w.heap.size 3 1 v (upto8 true false an bn 8).length ((upto8 true false an bn 8).map (Value.int .i64)) ∧ Below w.heap.size w w' := by
  obtain ⟨i0, hi, hz0, hz1, hz2⟩ := info_parts Tryd.info3
  subst ha
  have hset : no8[an]? = some (.bool false) := no8_at an (by omega)
  unfold no8 at hset
  go_enter Tryd.func18, Tryd.ntmps18
  go_wp2_with (first
    | (go_at_call 13; refine (right_any _ d _ _ imm _).mono ?_; rintro e w1 ⟨rfl, hbe⟩; have hB := box_below hbe; obtain ⟨c0, c1, c2, c3, c4⟩ := box_cell hbe; have hz : w.heap.size < w1.heap.size := (by have h := hbe.size; simp at h; omega); clear hbe)
    | (go_at_call 27; refine (three_any _ _).mono ?_; rintro e w' ⟨rfl, rfl⟩)
    | (go_at_call 28; refine (jump_any _ _).mono ?_; rintro e w' ⟨rfl, rfl⟩)
    | (go_at_call 16; go_must (refine (source_any _ d _ _ imm _).mono ?_); rintro e w2 ⟨rfl, hbe2⟩; go_must (obtain ⟨hcell8, hfz8, hb12, hz2'⟩ := cells8 (l := (no8.set an (.bool true))) hbe2; have hB2 := hB.trans (hb12.mono (by omega)); have d3 := (hb12.cell (p := ⟨w.heap.size, 3, none⟩) hz).trans c3; clear hbe2 c0 c1 c2 c3 c4; have HC8 : Hid (∀ r, w2.cell? ⟨w1.heap.size, r, none⟩ = (no8.set an (.bool true))[r]?) := hcell8; clear hcell8 hfz8)))
  obtain ⟨WF, HWE, hBF, hGF, HCF⟩ : ∃ WF, Hid (w2 = WF) ∧ Below w.heap.size w WF ∧ w1.heap.size < WF.heap.size ∧ Hid (∀ r, r < 8 → WF.cell? ⟨w1.heap.size, r, none⟩ = some (.bool ((true && decide (r = an)) || (false && decide (r = bn))))) :=
    ⟨_, rfl, hB2, hz2', fun r hr8 => by rw [HC8.out r, no8_set an r hr8]; simp⟩
  rw [HWE.out]
  clear HC8 d3 hB2 hB
  have HWF : Hid (Below w.heap.size w WF) := hBF
  clear hBF
  go_loopw [5, 6] (fun t i wr => ∃ k : Nat, k ≤ 8 ∧ i = .int .i64 k ∧ wr.ownsRow WF.heap.size 3 1 t (upto8 true false an bn k).length ((upto8 true false an bn k).map (Value.int .i64)) ∧ Below WF.heap.size WF wr) (fun _ i _ => 8 - (intOf i).toNat)
  case atStart => exact ⟨0, by omega, rfl, World.ownsRow_nil _ _ _ _, Below.refl _ _⟩
  case round =>
    obtain ⟨k, hk, rfl, hown, hbe⟩ := hrel
    have hszr := hbe.size
    by_cases hlt : k < 8
    · have hck : wr.cell? ⟨w1.heap.size, k, none⟩ = some (.bool ((true && decide (k = an)) || (false && decide (k = bn)))) := (hbe.cell (p := ⟨w1.heap.size, k, none⟩) hGF).trans (HCF.out k hlt)
      have hup := upto8_succ true false an bn k hlt
      have hul := upto8_len true false an bn k
      cases hbit : ((true && decide (k = an)) || (false && decide (k = bn))) with
      | true =>
        rw [hbit] at hck hup
        rw [if_pos rfl] at hup
        have HUP : Hid (upto8 true false an bn (k + 1) = upto8 true false an bn k ++ [(k : Int)]) := hup
        clear hup hbit
        go_wp2_with (at_builtin; go_must (refine wpList_append_own _ rfl _ _ 37 rfl WF.heap.size 3 i0 (.int .i64 0) 1 8 Tryd.underlying37 hi hz0 hz1 hz2 rfl (by decide) _ _ _ rfl (hown.alloc _) ⟨_, 0, none⟩ 1 1 [.int .i64 k] rfl rfl (cell_one_new _ _ _) (one_cell _ _) (by unfold maxLen; omega) (by omega) (by simp; omega) ?_); intro v' w5 hown' hgrow _; have R := step_append hown hbe (Nat.le_refl _) hown' hgrow; clear hown' hgrow)
        rw [← HUP.out] at R
        go_roundw
        case rel => exact ⟨k + 1, by omega, by go_num, R.1, R.2⟩
        case measure => simp [intOf]; omega
      | false =>
        rw [hbit] at hck hup
        rw [if_neg (by simp)] at hup
        have HUP : Hid (upto8 true false an bn (k + 1) = upto8 true false an bn k) := hup
        clear hup hbit
        rw [← HUP.out] at hown
        go_wp2
        go_roundw
        case rel => exact ⟨k + 1, by omega, by go_num, hown, hbe⟩
        case measure => simp [intOf]; omega
    · obtain rfl : k = 8 := by omega
      have hszw := HWF.out.size
      go_wp2
      go_ret
      exact ⟨_, rfl, own_base hown hszw, HWF.out.trans (hbe.mono hszw)⟩

set_option maxRecDepth 100000 in
set_option maxHeartbeats 2000000 in
theorem reads_jump_g (op : Int) (d imm : Int) (an bn : Nat) (a b : Int) (w : World) (hr : rightB op d a b imm = true) (hth : threeB op = false) (h12 : (op == 12) = false) (hju : jumpB op = true) (hs : sourceB op d a b imm = true) (hb8 : ¬ b < 8) (ha : a = (an : Int)) (ha7 : an ≤ 7) :
    Calls Tryd.prog 18 #[instV op d a b imm] w fun e w' => ∃ v, e = .returned v ∧ w'.ownsRow w.heap.size 3 1 v (upto8 true false an bn 8).length ((upto8 true false an bn 8).map (Value.int .i64)) ∧ Below w.heap.size w w' := by
  obtain ⟨i0, hi, hz0, hz1, hz2⟩ := info_parts Tryd.info3
  subst ha
  have hset : no8[an]? = some (.bool false) := no8_at an (by omega)
  unfold no8 at hset
  go_enter Tryd.func18, Tryd.ntmps18
  go_wp2_with (first
    | (go_at_call 13; refine (right_any _ d _ _ imm _).mono ?_; rintro e w1 ⟨rfl, hbe⟩; have hB := box_below hbe; obtain ⟨c0, c1, c2, c3, c4⟩ := box_cell hbe; have hz : w.heap.size < w1.heap.size := (by have h := hbe.size; simp at h; omega); clear hbe)
    | (go_at_call 27; refine (three_any _ _).mono ?_; rintro e w' ⟨rfl, rfl⟩)
    | (go_at_call 28; refine (jump_any _ _).mono ?_; rintro e w' ⟨rfl, rfl⟩)
    | (go_at_call 16; go_must (refine (source_any _ d _ _ imm _).mono ?_); rintro e w2 ⟨rfl, hbe2⟩; go_must (obtain ⟨hcell8, hfz8, hb12, hz2'⟩ := cells8 (l := (no8.set an (.bool true))) hbe2; have hB2 := hB.trans (hb12.mono (by omega)); have d3 := (hb12.cell (p := ⟨w.heap.size, 3, none⟩) hz).trans c3; clear hbe2 c0 c1 c2 c3 c4; have HC8 : Hid (∀ r, w2.cell? ⟨w1.heap.size, r, none⟩ = (no8.set an (.bool true))[r]?) := hcell8; clear hcell8 hfz8)))
  obtain ⟨WF, HWE, hBF, hGF, HCF⟩ : ∃ WF, Hid (w2 = WF) ∧ Below w.heap.size w WF ∧ w1.heap.size < WF.heap.size ∧ Hid (∀ r, r < 8 → WF.cell? ⟨w1.heap.size, r, none⟩ = some (.bool ((true && decide (r = an)) || (false && decide (r = bn))))) :=
    ⟨_, rfl, hB2, hz2', fun r hr8 => by rw [HC8.out r, no8_set an r hr8]; simp⟩
  rw [HWE.out]
  clear HC8 d3 hB2 hB
  have HWF : Hid (Below w.heap.size w WF) := hBF
  clear hBF
  go_loopw [5, 6] (fun t i wr => ∃ k : Nat, k ≤ 8 ∧ i = .int .i64 k ∧ wr.ownsRow WF.heap.size 3 1 t (upto8 true false an bn k).length ((upto8 true false an bn k).map (Value.int .i64)) ∧ Below WF.heap.size WF wr) (fun _ i _ => 8 - (intOf i).toNat)
  case atStart => exact ⟨0, by omega, rfl, World.ownsRow_nil _ _ _ _, Below.refl _ _⟩
  case round =>
    obtain ⟨k, hk, rfl, hown, hbe⟩ := hrel
    have hszr := hbe.size
    by_cases hlt : k < 8
    · have hck : wr.cell? ⟨w1.heap.size, k, none⟩ = some (.bool ((true && decide (k = an)) || (false && decide (k = bn)))) := (hbe.cell (p := ⟨w1.heap.size, k, none⟩) hGF).trans (HCF.out k hlt)
      have hup := upto8_succ true false an bn k hlt
      have hul := upto8_len true false an bn k
      cases hbit : ((true && decide (k = an)) || (false && decide (k = bn))) with
      | true =>
        rw [hbit] at hck hup
        rw [if_pos rfl] at hup
        have HUP : Hid (upto8 true false an bn (k + 1) = upto8 true false an bn k ++ [(k : Int)]) := hup
        clear hup hbit
        go_wp2_with (at_builtin; go_must (refine wpList_append_own _ rfl _ _ 37 rfl WF.heap.size 3 i0 (.int .i64 0) 1 8 Tryd.underlying37 hi hz0 hz1 hz2 rfl (by decide) _ _ _ rfl (hown.alloc _) ⟨_, 0, none⟩ 1 1 [.int .i64 k] rfl rfl (cell_one_new _ _ _) (one_cell _ _) (by unfold maxLen; omega) (by omega) (by simp; omega) ?_); intro v' w5 hown' hgrow _; have R := step_append hown hbe (Nat.le_refl _) hown' hgrow; clear hown' hgrow)
        rw [← HUP.out] at R
        go_roundw
        case rel => exact ⟨k + 1, by omega, by go_num, R.1, R.2⟩
        case measure => simp [intOf]; omega
      | false =>
        rw [hbit] at hck hup
        rw [if_neg (by simp)] at hup
        have HUP : Hid (upto8 true false an bn (k + 1) = upto8 true false an bn k) := hup
        clear hup hbit
        rw [← HUP.out] at hown
        go_wp2
        go_roundw
        case rel => exact ⟨k + 1, by omega, by go_num, hown, hbe⟩
        case measure => simp [intOf]; omega
    · obtain rfl : k = 8 := by omega
      have hszw := HWF.out.size
      go_wp2
      go_ret
      exact ⟨_, rfl, own_base hown hszw, HWF.out.trans (hbe.mono hszw)⟩

set_option maxRecDepth 100000 in
set_option maxHeartbeats 2000000 in
theorem reads_c12_t (d imm : Int) (an bn : Nat) (a b : Int) (w : World) (hr : rightB 12 d a b imm = true) (hs : sourceB 12 d a b imm = true) (ha : a = (an : Int)) (ha7 : an ≤ 7) (hb : b = (bn : Int)) (hb7 : bn ≤ 7) :
    Calls Tryd.prog 18 #[instV 12 d a b imm] w fun e w' => ∃ v, e = .returned v ∧ w'.ownsRow w.heap.size 3 1 v (upto8 true true an bn 8).length ((upto8 true true an bn 8).map (Value.int .i64)) ∧ Below w.heap.size w w' := by
  obtain ⟨i0, hi, hz0, hz1, hz2⟩ := info_parts Tryd.info3
  subst ha
  have hset : no8[an]? = some (.bool false) := no8_at an (by omega)
  unfold no8 at hset
  subst hb
  have hlt8 : (bn : Int) < 8 := by omega
  have hth : threeB 12 = false := rfl
  have hju : jumpB 12 = false := rfl
  go_enter Tryd.func18, Tryd.ntmps18
  go_wp2_with (first
    | (go_at_call 13; refine (right_any _ d _ _ imm _).mono ?_; rintro e w1 ⟨rfl, hbe⟩; have hB := box_below hbe; obtain ⟨c0, c1, c2, c3, c4⟩ := box_cell hbe; have hz : w.heap.size < w1.heap.size := (by have h := hbe.size; simp at h; omega); clear hbe)
    | (go_at_call 27; refine (three_any _ _).mono ?_; rintro e w' ⟨rfl, rfl⟩)
    | (go_at_call 28; refine (jump_any _ _).mono ?_; rintro e w' ⟨rfl, rfl⟩)
    | (go_at_call 16; go_must (refine (source_any _ d _ _ imm _).mono ?_); rintro e w2 ⟨rfl, hbe2⟩; go_must (obtain ⟨hcell8, hfz8, hb12, hz2'⟩ := cells8 (l := (no8.set an (.bool true))) hbe2; have hB2 := hB.trans (hb12.mono (by omega)); have d3 := (hb12.cell (p := ⟨w.heap.size, 3, none⟩) hz).trans c3; clear hbe2 c0 c1 c2 c3 c4; have HC8 : Hid (∀ r, w2.cell? ⟨w1.heap.size, r, none⟩ = (no8.set an (.bool true))[r]?) := hcell8; have hcb : w2.cell? ⟨w1.heap.size, bn, none⟩ = some (.bool (decide (bn = an))) := (hcell8 bn).trans (no8_set an bn (by omega)); have hfb := hfz8 bn; clear hcell8 hfz8)))
  obtain ⟨WF, HWE, hBF, hGF, HCF⟩ : ∃ WF, Hid (w2.setCell ⟨w1.heap.size, bn, none⟩ (.bool true) = WF) ∧ Below w.heap.size w WF ∧ w1.heap.size < WF.heap.size ∧ Hid (∀ r, r < 8 → WF.cell? ⟨w1.heap.size, r, none⟩ = some (.bool ((true && decide (r = an)) || (true && decide (r = bn))))) :=
    ⟨_, rfl, hB2.setCell (show w.heap.size ≤ w1.heap.size by omega) _, by simpa using hz2', fun r hr8 => by
      by_cases e : r = bn
      · subst e; rw [World.cell?_setCell_same' _ _ _ (by rw [hcb]; rfl)]; simp
      · rw [World.cell?_setCell_other _ _ _ _ (by intro h; injection h with h1 h2; omega), HC8.out r, no8_set an r hr8]; simp [e]⟩
  rw [HWE.out]
  clear HC8 d3 hcb hfb hB2 hB
  have HWF : Hid (Below w.heap.size w WF) := hBF
  clear hBF
  go_loopw [5, 6] (fun t i wr => ∃ k : Nat, k ≤ 8 ∧ i = .int .i64 k ∧ wr.ownsRow WF.heap.size 3 1 t (upto8 true true an bn k).length ((upto8 true true an bn k).map (Value.int .i64)) ∧ Below WF.heap.size WF wr) (fun _ i _ => 8 - (intOf i).toNat)
  case atStart => exact ⟨0, by omega, rfl, World.ownsRow_nil _ _ _ _, Below.refl _ _⟩
  case round =>
    obtain ⟨k, hk, rfl, hown, hbe⟩ := hrel
    have hszr := hbe.size
    by_cases hlt : k < 8
    · have hck : wr.cell? ⟨w1.heap.size, k, none⟩ = some (.bool ((true && decide (k = an)) || (true && decide (k = bn)))) := (hbe.cell (p := ⟨w1.heap.size, k, none⟩) hGF).trans (HCF.out k hlt)
      have hup := upto8_succ true true an bn k hlt
      have hul := upto8_len true true an bn k
      cases hbit : ((true && decide (k = an)) || (true && decide (k = bn))) with
      | true =>
        rw [hbit] at hck hup
        rw [if_pos rfl] at hup
        have HUP : Hid (upto8 true true an bn (k + 1) = upto8 true true an bn k ++ [(k : Int)]) := hup
        clear hup hbit
        go_wp2_with (at_builtin; go_must (refine wpList_append_own _ rfl _ _ 37 rfl WF.heap.size 3 i0 (.int .i64 0) 1 8 Tryd.underlying37 hi hz0 hz1 hz2 rfl (by decide) _ _ _ rfl (hown.alloc _) ⟨_, 0, none⟩ 1 1 [.int .i64 k] rfl rfl (cell_one_new _ _ _) (one_cell _ _) (by unfold maxLen; omega) (by omega) (by simp; omega) ?_); intro v' w5 hown' hgrow _; have R := step_append hown hbe (Nat.le_refl _) hown' hgrow; clear hown' hgrow)
        rw [← HUP.out] at R
        go_roundw
        case rel => exact ⟨k + 1, by omega, by go_num, R.1, R.2⟩
        case measure => simp [intOf]; omega
      | false =>
        rw [hbit] at hck hup
        rw [if_neg (by simp)] at hup
        have HUP : Hid (upto8 true true an bn (k + 1) = upto8 true true an bn k) := hup
        clear hup hbit
        rw [← HUP.out] at hown
        go_wp2
        go_roundw
        case rel => exact ⟨k + 1, by omega, by go_num, hown, hbe⟩
        case measure => simp [intOf]; omega
    · obtain rfl : k = 8 := by omega
      have hszw := HWF.out.size
      go_wp2
      go_ret
      exact ⟨_, rfl, own_base hown hszw, HWF.out.trans (hbe.mono hszw)⟩

set_option maxRecDepth 100000 in
set_option maxHeartbeats 2000000 in
theorem reads_c12_f (d imm : Int) (an bn : Nat) (a b : Int) (w : World) (hr : rightB 12 d a b imm = true) (hs : sourceB 12 d a b imm = false) (ha : a = (an : Int)) (ha7 : an ≤ 7) :
    Calls Tryd.prog 18 #[instV 12 d a b imm] w fun e w' => ∃ v, e = .returned v ∧ w'.ownsRow w.heap.size 3 1 v (upto8 true false an bn 8).length ((upto8 true false an bn 8).map (Value.int .i64)) ∧ Below w.heap.size w w' := by
  obtain ⟨i0, hi, hz0, hz1, hz2⟩ := info_parts Tryd.info3
  subst ha
  have hset : no8[an]? = some (.bool false) := no8_at an (by omega)
  unfold no8 at hset
  have hth : threeB 12 = false := rfl
  have hju : jumpB 12 = false := rfl
  go_enter Tryd.func18, Tryd.ntmps18
  go_wp2_with (first
    | (go_at_call 13; refine (right_any _ d _ _ imm _).mono ?_; rintro e w1 ⟨rfl, hbe⟩; have hB := box_below hbe; obtain ⟨c0, c1, c2, c3, c4⟩ := box_cell hbe; have hz : w.heap.size < w1.heap.size := (by have h := hbe.size; simp at h; omega); clear hbe)
    | (go_at_call 27; refine (three_any _ _).mono ?_; rintro e w' ⟨rfl, rfl⟩)
    | (go_at_call 28; refine (jump_any _ _).mono ?_; rintro e w' ⟨rfl, rfl⟩)
    | (go_at_call 16; go_must (refine (source_any _ d _ _ imm _).mono ?_); rintro e w2 ⟨rfl, hbe2⟩; go_must (obtain ⟨hcell8, hfz8, hb12, hz2'⟩ := cells8 (l := (no8.set an (.bool true))) hbe2; have hB2 := hB.trans (hb12.mono (by omega)); have d3 := (hb12.cell (p := ⟨w.heap.size, 3, none⟩) hz).trans c3; clear hbe2 c0 c1 c2 c3 c4; have HC8 : Hid (∀ r, w2.cell? ⟨w1.heap.size, r, none⟩ = (no8.set an (.bool true))[r]?) := hcell8; clear hcell8 hfz8)))
  obtain ⟨WF, HWE, hBF, hGF, HCF⟩ : ∃ WF, Hid (w2 = WF) ∧ Below w.heap.size w WF ∧ w1.heap.size < WF.heap.size ∧ Hid (∀ r, r < 8 → WF.cell? ⟨w1.heap.size, r, none⟩ = some (.bool ((true && decide (r = an)) || (false && decide (r = bn))))) :=
    ⟨_, rfl, hB2, hz2', fun r hr8 => by rw [HC8.out r, no8_set an r hr8]; simp⟩
  rw [HWE.out]
  clear HC8 d3 hB2 hB
  have HWF : Hid (Below w.heap.size w WF) := hBF
  clear hBF
  go_loopw [5, 6] (fun t i wr => ∃ k : Nat, k ≤ 8 ∧ i = .int .i64 k ∧ wr.ownsRow WF.heap.size 3 1 t (upto8 true false an bn k).length ((upto8 true false an bn k).map (Value.int .i64)) ∧ Below WF.heap.size WF wr) (fun _ i _ => 8 - (intOf i).toNat)
  case atStart => exact ⟨0, by omega, rfl, World.ownsRow_nil _ _ _ _, Below.refl _ _⟩
  case round =>
    obtain ⟨k, hk, rfl, hown, hbe⟩ := hrel
    have hszr := hbe.size
    by_cases hlt : k < 8
    · have hck : wr.cell? ⟨w1.heap.size, k, none⟩ = some (.bool ((true && decide (k = an)) || (false && decide (k = bn)))) := (hbe.cell (p := ⟨w1.heap.size, k, none⟩) hGF).trans (HCF.out k hlt)
      have hup := upto8_succ true false an bn k hlt
      have hul := upto8_len true false an bn k
      cases hbit : ((true && decide (k = an)) || (false && decide (k = bn))) with
      | true =>
        rw [hbit] at hck hup
        rw [if_pos rfl] at hup
        have HUP : Hid (upto8 true false an bn (k + 1) = upto8 true false an bn k ++ [(k : Int)]) := hup
        clear hup hbit
        go_wp2_with (at_builtin; go_must (refine wpList_append_own _ rfl _ _ 37 rfl WF.heap.size 3 i0 (.int .i64 0) 1 8 Tryd.underlying37 hi hz0 hz1 hz2 rfl (by decide) _ _ _ rfl (hown.alloc _) ⟨_, 0, none⟩ 1 1 [.int .i64 k] rfl rfl (cell_one_new _ _ _) (one_cell _ _) (by unfold maxLen; omega) (by omega) (by simp; omega) ?_); intro v' w5 hown' hgrow _; have R := step_append hown hbe (Nat.le_refl _) hown' hgrow; clear hown' hgrow)
        rw [← HUP.out] at R
        go_roundw
        case rel => exact ⟨k + 1, by omega, by go_num, R.1, R.2⟩
        case measure => simp [intOf]; omega
      | false =>
        rw [hbit] at hck hup
        rw [if_neg (by simp)] at hup
        have HUP : Hid (upto8 true false an bn (k + 1) = upto8 true false an bn k) := hup
        clear hup hbit
        rw [← HUP.out] at hown
        go_wp2
        go_roundw
        case rel => exact ⟨k + 1, by omega, by go_num, hown, hbe⟩
        case measure => simp [intOf]; omega
    · obtain rfl : k = 8 := by omega
      have hszw := HWF.out.size
      go_wp2
      go_ret
      exact ⟨_, rfl, own_base hown hszw, HWF.out.trans (hbe.mono hszw)⟩

set_option maxRecDepth 100000 in
set_option maxHeartbeats 2000000 in
theorem reads_c12_g (d imm : Int) (an bn : Nat) (a b : Int) (w : World) (hr : rightB 12 d a b imm = true) (hs : sourceB 12 d a b imm = true) (hb8 : ¬ b < 8) (ha : a = (an : Int)) (ha7 : an ≤ 7) :
    Calls Tryd.prog 18 #[instV 12 d a b imm] w fun e w' => ∃ v, e = .returned v ∧ w'.ownsRow w.heap.size 3 1 v (upto8 true false an bn 8).length ((upto8 true false an bn 8).map (Value.int .i64)) ∧ Below w.heap.size w w' := by
  obtain ⟨i0, hi, hz0, hz1, hz2⟩ := info_parts Tryd.info3
  subst ha
  have hset : no8[an]? = some (.bool false) := no8_at an (by omega)
  unfold no8 at hset
  have hth : threeB 12 = false := rfl
  have hju : jumpB 12 = false := rfl
  go_enter Tryd.func18, Tryd.ntmps18
  go_wp2_with (first
    | (go_at_call 13; refine (right_any _ d _ _ imm _).mono ?_; rintro e w1 ⟨rfl, hbe⟩; have hB := box_below hbe; obtain ⟨c0, c1, c2, c3, c4⟩ := box_cell hbe; have hz : w.heap.size < w1.heap.size := (by have h := hbe.size; simp at h; omega); clear hbe)
    | (go_at_call 27; refine (three_any _ _).mono ?_; rintro e w' ⟨rfl, rfl⟩)
    | (go_at_call 28; refine (jump_any _ _).mono ?_; rintro e w' ⟨rfl, rfl⟩)
    | (go_at_call 16; go_must (refine (source_any _ d _ _ imm _).mono ?_); rintro e w2 ⟨rfl, hbe2⟩; go_must (obtain ⟨hcell8, hfz8, hb12, hz2'⟩ := cells8 (l := (no8.set an (.bool true))) hbe2; have hB2 := hB.trans (hb12.mono (by omega)); have d3 := (hb12.cell (p := ⟨w.heap.size, 3, none⟩) hz).trans c3; clear hbe2 c0 c1 c2 c3 c4; have HC8 : Hid (∀ r, w2.cell? ⟨w1.heap.size, r, none⟩ = (no8.set an (.bool true))[r]?) := hcell8; clear hcell8 hfz8)))
  obtain ⟨WF, HWE, hBF, hGF, HCF⟩ : ∃ WF, Hid (w2 = WF) ∧ Below w.heap.size w WF ∧ w1.heap.size < WF.heap.size ∧ Hid (∀ r, r < 8 → WF.cell? ⟨w1.heap.size, r, none⟩ = some (.bool ((true && decide (r = an)) || (false && decide (r = bn))))) :=
    ⟨_, rfl, hB2, hz2', fun r hr8 => by rw [HC8.out r, no8_set an r hr8]; simp⟩
  rw [HWE.out]
  clear HC8 d3 hB2 hB
  have HWF : Hid (Below w.heap.size w WF) := hBF
  clear hBF
  go_loopw [5, 6] (fun t i wr => ∃ k : Nat, k ≤ 8 ∧ i = .int .i64 k ∧ wr.ownsRow WF.heap.size 3 1 t (upto8 true false an bn k).length ((upto8 true false an bn k).map (Value.int .i64)) ∧ Below WF.heap.size WF wr) (fun _ i _ => 8 - (intOf i).toNat)
  case atStart => exact ⟨0, by omega, rfl, World.ownsRow_nil _ _ _ _, Below.refl _ _⟩
  case round =>
    obtain ⟨k, hk, rfl, hown, hbe⟩ := hrel
    have hszr := hbe.size
    by_cases hlt : k < 8
    · have hck : wr.cell? ⟨w1.heap.size, k, none⟩ = some (.bool ((true && decide (k = an)) || (false && decide (k = bn)))) := (hbe.cell (p := ⟨w1.heap.size, k, none⟩) hGF).trans (HCF.out k hlt)
      have hup := upto8_succ true false an bn k hlt
      have hul := upto8_len true false an bn k
      cases hbit : ((true && decide (k = an)) || (false && decide (k = bn))) with
      | true =>
        rw [hbit] at hck hup
        rw [if_pos rfl] at hup
        have HUP : Hid (upto8 true false an bn (k + 1) = upto8 true false an bn k ++ [(k : Int)]) := hup
        clear hup hbit
        go_wp2_with (at_builtin; go_must (refine wpList_append_own _ rfl _ _ 37 rfl WF.heap.size 3 i0 (.int .i64 0) 1 8 Tryd.underlying37 hi hz0 hz1 hz2 rfl (by decide) _ _ _ rfl (hown.alloc _) ⟨_, 0, none⟩ 1 1 [.int .i64 k] rfl rfl (cell_one_new _ _ _) (one_cell _ _) (by unfold maxLen; omega) (by omega) (by simp; omega) ?_); intro v' w5 hown' hgrow _; have R := step_append hown hbe (Nat.le_refl _) hown' hgrow; clear hown' hgrow)
        rw [← HUP.out] at R
        go_roundw
        case rel => exact ⟨k + 1, by omega, by go_num, R.1, R.2⟩
        case measure => simp [intOf]; omega
      | false =>
        rw [hbit] at hck hup
        rw [if_neg (by simp)] at hup
        have HUP : Hid (upto8 true false an bn (k + 1) = upto8 true false an bn k) := hup
        clear hup hbit
        rw [← HUP.out] at hown
        go_wp2
        go_roundw
        case rel => exact ⟨k + 1, by omega, by go_num, hown, hbe⟩
        case measure => simp [intOf]; omega
    · obtain rfl : k = 8 := by omega
      have hszw := HWF.out.size
      go_wp2
      go_ret
      exact ⟨_, rfl, own_base hown hszw, HWF.out.trans (hbe.mono hszw)⟩

set_option maxRecDepth 100000 in
set_option maxHeartbeats 2000000 in
theorem reads_c20_t (d imm : Int) (an bn : Nat) (a b : Int) (w : World) (hr : rightB 20 d a b imm = true) (hs : sourceB 20 d a b imm = true) (ha : a = (an : Int)) (ha7 : an ≤ 7) (hb : b = (bn : Int)) (hb7 : bn ≤ 7) :
    Calls Tryd.prog 18 #[instV 20 d a b imm] w fun e w' => ∃ v, e = .returned v ∧ w'.ownsRow w.heap.size 3 1 v (upto8 true true an bn 8).length ((upto8 true true an bn 8).map (Value.int .i64)) ∧ Below w.heap.size w w' := by
  obtain ⟨i0, hi, hz0, hz1, hz2⟩ := info_parts Tryd.info3
  subst ha
  have hset : no8[an]? = some (.bool false) := no8_at an (by omega)
  unfold no8 at hset
  subst hb
  have hlt8 : (bn : Int) < 8 := by omega
  have hth : threeB 20 = false := rfl
  have hju : jumpB 20 = false := rfl
  go_enter Tryd.func18, Tryd.ntmps18
  go_wp2_with (first
    | (go_at_call 13; refine (right_any _ d _ _ imm _).mono ?_; rintro e w1 ⟨rfl, hbe⟩; have hB := box_below hbe; obtain ⟨c0, c1, c2, c3, c4⟩ := box_cell hbe; have hz : w.heap.size < w1.heap.size := (by have h := hbe.size; simp at h; omega); clear hbe)
    | (go_at_call 27; refine (three_any _ _).mono ?_; rintro e w' ⟨rfl, rfl⟩)
    | (go_at_call 28; refine (jump_any _ _).mono ?_; rintro e w' ⟨rfl, rfl⟩)
    | (go_at_call 16; go_must (refine (source_any _ d _ _ imm _).mono ?_); rintro e w2 ⟨rfl, hbe2⟩; go_must (obtain ⟨hcell8, hfz8, hb12, hz2'⟩ := cells8 (l := (no8.set an (.bool true))) hbe2; have hB2 := hB.trans (hb12.mono (by omega)); have d3 := (hb12.cell (p := ⟨w.heap.size, 3, none⟩) hz).trans c3; clear hbe2 c0 c1 c2 c3 c4; have HC8 : Hid (∀ r, w2.cell? ⟨w1.heap.size, r, none⟩ = (no8.set an (.bool true))[r]?) := hcell8; have hcb : w2.cell? ⟨w1.heap.size, bn, none⟩ = some (.bool (decide (bn = an))) := (hcell8 bn).trans (no8_set an bn (by omega)); have hfb := hfz8 bn; clear hcell8 hfz8)))
  obtain ⟨WF, HWE, hBF, hGF, HCF⟩ : ∃ WF, Hid (w2.setCell ⟨w1.heap.size, bn, none⟩ (.bool true) = WF) ∧ Below w.heap.size w WF ∧ w1.heap.size < WF.heap.size ∧ Hid (∀ r, r < 8 → WF.cell? ⟨w1.heap.size, r, none⟩ = some (.bool ((true && decide (r = an)) || (true && decide (r = bn))))) :=
    ⟨_, rfl, hB2.setCell (show w.heap.size ≤ w1.heap.size by omega) _, by simpa using hz2', fun r hr8 => by
      by_cases e : r = bn
      · subst e; rw [World.cell?_setCell_same' _ _ _ (by rw [hcb]; rfl)]; simp
      · rw [World.cell?_setCell_other _ _ _ _ (by intro h; injection h with h1 h2; omega), HC8.out r, no8_set an r hr8]; simp [e]⟩
  rw [HWE.out]
  clear HC8 d3 hcb hfb hB2 hB
  have HWF : Hid (Below w.heap.size w WF) := hBF
  clear hBF
  go_loopw [5, 6] (fun t i wr => ∃ k : Nat, k ≤ 8 ∧ i = .int .i64 k ∧ wr.ownsRow WF.heap.size 3 1 t (upto8 true true an bn k).length ((upto8 true true an bn k).map (Value.int .i64)) ∧ Below WF.heap.size WF wr) (fun _ i _ => 8 - (intOf i).toNat)
  case atStart => exact ⟨0, by omega, rfl, World.ownsRow_nil _ _ _ _, Below.refl _ _⟩
  case round =>
    obtain ⟨k, hk, rfl, hown, hbe⟩ := hrel
    have hszr := hbe.size
    by_cases hlt : k < 8
    · have hck : wr.cell? ⟨w1.heap.size, k, none⟩ = some (.bool ((true && decide (k = an)) || (true && decide (k = bn)))) := (hbe.cell (p := ⟨w1.heap.size, k, none⟩) hGF).trans (HCF.out k hlt)
      have hup := upto8_succ true true an bn k hlt
      have hul := upto8_len true true an bn k
      cases hbit : ((true && decide (k = an)) || (true && decide (k = bn))) with
      | true =>
        rw [hbit] at hck hup
        rw [if_pos rfl] at hup
        have HUP : Hid (upto8 true true an bn (k + 1) = upto8 true true an bn k ++ [(k : Int)]) := hup
        clear hup hbit
        go_wp2_with (at_builtin; go_must (refine wpList_append_own _ rfl _ _ 37 rfl WF.heap.size 3 i0 (.int .i64 0) 1 8 Tryd.underlying37 hi hz0 hz1 hz2 rfl (by decide) _ _ _ rfl (hown.alloc _) ⟨_, 0, none⟩ 1 1 [.int .i64 k] rfl rfl (cell_one_new _ _ _) (one_cell _ _) (by unfold maxLen; omega) (by omega) (by simp; omega) ?_); intro v' w5 hown' hgrow _; have R := step_append hown hbe (Nat.le_refl _) hown' hgrow; clear hown' hgrow)
        rw [← HUP.out] at R
        go_roundw
        case rel => exact ⟨k + 1, by omega, by go_num, R.1, R.2⟩
        case measure => simp [intOf]; omega
      | false =>
        rw [hbit] at hck hup
        rw [if_neg (by simp)] at hup
        have HUP : Hid (upto8 true true an bn (k + 1) = upto8 true true an bn k) := hup
        clear hup hbit
        rw [← HUP.out] at hown
        go_wp2
        go_roundw
        case rel => exact ⟨k + 1, by omega, by go_num, hown, hbe⟩
        case measure => simp [intOf]; omega
    · obtain rfl : k = 8 := by omega
      have hszw := HWF.out.size
      go_wp2
      go_ret
      exact ⟨_, rfl, own_base hown hszw, HWF.out.trans (hbe.mono hszw)⟩

set_option maxRecDepth 100000 in
set_option maxHeartbeats 2000000 in
theorem reads_c20_f (d imm : Int) (an bn : Nat) (a b : Int) (w : World) (hr : rightB 20 d a b imm = true) (hs : sourceB 20 d a b imm = false) (ha : a = (an : Int)) (ha7 : an ≤ 7) :
    Calls Tryd.prog 18 #[instV 20 d a b imm] w fun e w' => ∃ v, e = .returned v ∧ w'.ownsRow w.heap.size 3 1 v (upto8 true false an bn 8).length ((upto8 true false an bn 8).map (Value.int .i64)) ∧ Below w.heap.size w w' := by
  obtain ⟨i0, hi, hz0, hz1, hz2⟩ := info_parts Tryd.info3
  subst ha
  have hset : no8[an]? = some (.bool false) := no8_at an (by omega)
  unfold no8 at hset
  have hth : threeB 20 = false := rfl
  have hju : jumpB 20 = false := rfl
  go_enter Tryd.func18, Tryd.ntmps18
  go_wp2_with (first
    | (go_at_call 13; refine (right_any _ d _ _ imm _).mono ?_; rintro e w1 ⟨rfl, hbe⟩; have hB := box_below hbe; obtain ⟨c0, c1, c2, c3, c4⟩ := box_cell hbe; have hz : w.heap.size < w1.heap.size := (by have h := hbe.size; simp at h; omega); clear hbe)
    | (go_at_call 27; refine (three_any _ _).mono ?_; rintro e w' ⟨rfl, rfl⟩)
    | (go_at_call 28; refine (jump_any _ _).mono ?_; rintro e w' ⟨rfl, rfl⟩)
    | (go_at_call 16; go_must (refine (source_any _ d _ _ imm _).mono ?_); rintro e w2 ⟨rfl, hbe2⟩; go_must (obtain ⟨hcell8, hfz8, hb12, hz2'⟩ := cells8 (l := (no8.set an (.bool true))) hbe2; have hB2 := hB.trans (hb12.mono (by omega)); have d3 := (hb12.cell (p := ⟨w.heap.size, 3, none⟩) hz).trans c3; clear hbe2 c0 c1 c2 c3 c4; have HC8 : Hid (∀ r, w2.cell? ⟨w1.heap.size, r, none⟩ = (no8.set an (.bool true))[r]?) := hcell8; clear hcell8 hfz8)))
  obtain ⟨WF, HWE, hBF, hGF, HCF⟩ : ∃ WF, Hid (w2 = WF) ∧ Below w.heap.size w WF ∧ w1.heap.size < WF.heap.size ∧ Hid (∀ r, r < 8 → WF.cell? ⟨w1.heap.size, r, none⟩ = some (.bool ((true && decide (r = an)) || (false && decide (r = bn))))) :=
    ⟨_, rfl, hB2, hz2', fun r hr8 => by rw [HC8.out r, no8_set an r hr8]; simp⟩
  rw [HWE.out]
  clear HC8 d3 hB2 hB
  have HWF : Hid (Below w.heap.size w WF) := hBF
  clear hBF
  go_loopw [5, 6] (fun t i wr => ∃ k : Nat, k ≤ 8 ∧ i = .int .i64 k ∧ wr.ownsRow WF.heap.size 3 1 t (upto8 true false an bn k).length ((upto8 true false an bn k).map (Value.int .i64)) ∧ Below WF.heap.size WF wr) (fun _ i _ => 8 - (intOf i).toNat)
  case atStart => exact ⟨0, by omega, rfl, World.ownsRow_nil _ _ _ _, Below.refl _ _⟩
  case round =>
    obtain ⟨k, hk, rfl, hown, hbe⟩ := hrel
    have hszr := hbe.size
    by_cases hlt : k < 8
    · have hck : wr.cell? ⟨w1.heap.size, k, none⟩ = some (.bool ((true && decide (k = an)) || (false && decide (k = bn)))) := (hbe.cell (p := ⟨w1.heap.size, k, none⟩) hGF).trans (HCF.out k hlt)
      have hup := upto8_succ true false an bn k hlt
      have hul := upto8_len true false an bn k
      cases hbit : ((true && decide (k = an)) || (false && decide (k = bn))) with
      | true =>
        rw [hbit] at hck hup
        rw [if_pos rfl] at hup
        have HUP : Hid (upto8 true false an bn (k + 1) = upto8 true false an bn k ++ [(k : Int)]) := hup
        clear hup hbit
        go_wp2_with (at_builtin; go_must (refine wpList_append_own _ rfl _ _ 37 rfl WF.heap.size 3 i0 (.int .i64 0) 1 8 Tryd.underlying37 hi hz0 hz1 hz2 rfl (by decide) _ _ _ rfl (hown.alloc _) ⟨_, 0, none⟩ 1 1 [.int .i64 k] rfl rfl (cell_one_new _ _ _) (one_cell _ _) (by unfold maxLen; omega) (by omega) (by simp; omega) ?_); intro v' w5 hown' hgrow _; have R := step_append hown hbe (Nat.le_refl _) hown' hgrow; clear hown' hgrow)
        rw [← HUP.out] at R
        go_roundw
        case rel => exact ⟨k + 1, by omega, by go_num, R.1, R.2⟩
        case measure => simp [intOf]; omega
      | false =>
        rw [hbit] at hck hup
        rw [if_neg (by simp)] at hup
        have HUP : Hid (upto8 true false an bn (k + 1) = upto8 true false an bn k) := hup
        clear hup hbit
        rw [← HUP.out] at hown
        go_wp2
        go_roundw
        case rel => exact ⟨k + 1, by omega, by go_num, hown, hbe⟩
        case measure => simp [intOf]; omega
    · obtain rfl : k = 8 := by omega
      have hszw := HWF.out.size
      go_wp2
      go_ret
      exact ⟨_, rfl, own_base hown hszw, HWF.out.trans (hbe.mono hszw)⟩

set_option maxRecDepth 100000 in
set_option maxHeartbeats 2000000 in
theorem reads_c20_g (d imm : Int) (an bn : Nat) (a b : Int) (w : World) (hr : rightB 20 d a b imm = true) (hs : sourceB 20 d a b imm = true) (hb8 : ¬ b < 8) (ha : a = (an : Int)) (ha7 : an ≤ 7) :
    Calls Tryd.prog 18 #[instV 20 d a b imm] w fun e w' => ∃ v, e = .returned v ∧ w'.ownsRow w.heap.size 3 1 v (upto8 true false an bn 8).length ((upto8 true false an bn 8).map (Value.int .i64)) ∧ Below w.heap.size w w' := by
  obtain ⟨i0, hi, hz0, hz1, hz2⟩ := info_parts Tryd.info3
  subst ha
  have hset : no8[an]? = some (.bool false) := no8_at an (by omega)
  unfold no8 at hset
  have hth : threeB 20 = false := rfl
  have hju : jumpB 20 = false := rfl
  go_enter Tryd.func18, Tryd.ntmps18
  go_wp2_with (first
    | (go_at_call 13; refine (right_any _ d _ _ imm _).mono ?_; rintro e w1 ⟨rfl, hbe⟩; have hB := box_below hbe; obtain ⟨c0, c1, c2, c3, c4⟩ := box_cell hbe; have hz : w.heap.size < w1.heap.size := (by have h := hbe.size; simp at h; omega); clear hbe)
    | (go_at_call 27; refine (three_any _ _).mono ?_; rintro e w' ⟨rfl, rfl⟩)
    | (go_at_call 28; refine (jump_any _ _).mono ?_; rintro e w' ⟨rfl, rfl⟩)
    | (go_at_call 16; go_must (refine (source_any _ d _ _ imm _).mono ?_); rintro e w2 ⟨rfl, hbe2⟩; go_must (obtain ⟨hcell8, hfz8, hb12, hz2'⟩ := cells8 (l := (no8.set an (.bool true))) hbe2; have hB2 := hB.trans (hb12.mono (by omega)); have d3 := (hb12.cell (p := ⟨w.heap.size, 3, none⟩) hz).trans c3; clear hbe2 c0 c1 c2 c3 c4; have HC8 : Hid (∀ r, w2.cell? ⟨w1.heap.size, r, none⟩ = (no8.set an (.bool true))[r]?) := hcell8; clear hcell8 hfz8)))
  obtain ⟨WF, HWE, hBF, hGF, HCF⟩ : ∃ WF, Hid (w2 = WF) ∧ Below w.heap.size w WF ∧ w1.heap.size < WF.heap.size ∧ Hid (∀ r, r < 8 → WF.cell? ⟨w1.heap.size, r, none⟩ = some (.bool ((true && decide (r = an)) || (false && decide (r = bn))))) :=
    ⟨_, rfl, hB2, hz2', fun r hr8 => by rw [HC8.out r, no8_set an r hr8]; simp⟩
  rw [HWE.out]
  clear HC8 d3 hB2 hB
  have HWF : Hid (Below w.heap.size w WF) := hBF
  clear hBF
  go_loopw [5, 6] (fun t i wr => ∃ k : Nat, k ≤ 8 ∧ i = .int .i64 k ∧ wr.ownsRow WF.heap.size 3 1 t (upto8 true false an bn k).length ((upto8 true false an bn k).map (Value.int .i64)) ∧ Below WF.heap.size WF wr) (fun _ i _ => 8 - (intOf i).toNat)
  case atStart => exact ⟨0, by omega, rfl, World.ownsRow_nil _ _ _ _, Below.refl _ _⟩
  case round =>
    obtain ⟨k, hk, rfl, hown, hbe⟩ := hrel
    have hszr := hbe.size
    by_cases hlt : k < 8
    · have hck : wr.cell? ⟨w1.heap.size, k, none⟩ = some (.bool ((true && decide (k = an)) || (false && decide (k = bn)))) := (hbe.cell (p := ⟨w1.heap.size, k, none⟩) hGF).trans (HCF.out k hlt)
      have hup := upto8_succ true false an bn k hlt
      have hul := upto8_len true false an bn k
      cases hbit : ((true && decide (k = an)) || (false && decide (k = bn))) with
      | true =>
        rw [hbit] at hck hup
        rw [if_pos rfl] at hup
        have HUP : Hid (upto8 true false an bn (k + 1) = upto8 true false an bn k ++ [(k : Int)]) := hup
        clear hup hbit
        go_wp2_with (at_builtin; go_must (refine wpList_append_own _ rfl _ _ 37 rfl WF.heap.size 3 i0 (.int .i64 0) 1 8 Tryd.underlying37 hi hz0 hz1 hz2 rfl (by decide) _ _ _ rfl (hown.alloc _) ⟨_, 0, none⟩ 1 1 [.int .i64 k] rfl rfl (cell_one_new _ _ _) (one_cell _ _) (by unfold maxLen; omega) (by omega) (by simp; omega) ?_); intro v' w5 hown' hgrow _; have R := step_append hown hbe (Nat.le_refl _) hown' hgrow; clear hown' hgrow)
        rw [← HUP.out] at R
        go_roundw
        case rel => exact ⟨k + 1, by omega, by go_num, R.1, R.2⟩
        case measure => simp [intOf]; omega
      | false =>
        rw [hbit] at hck hup
        rw [if_neg (by simp)] at hup
        have HUP : Hid (upto8 true false an bn (k + 1) = upto8 true false an bn k) := hup
        clear hup hbit
        rw [← HUP.out] at hown
        go_wp2
        go_roundw
        case rel => exact ⟨k + 1, by omega, by go_num, hown, hbe⟩
        case measure => simp [intOf]; omega
    · obtain rfl : k = 8 := by omega
      have hszw := HWF.out.size
      go_wp2
      go_ret
      exact ⟨_, rfl, own_base hown hszw, HWF.out.trans (hbe.mono hszw)⟩

set_option maxRecDepth 100000 in
set_option maxHeartbeats 2000000 in
theorem reads_c22_t (d imm : Int) (an bn : Nat) (a b : Int) (w : World) (hr : rightB 22 d a b imm = true) (hs : sourceB 22 d a b imm = true) (ha : a = (an : Int)) (ha7 : an ≤ 7) (hb : b = (bn : Int)) (hb7 : bn ≤ 7) :
    Calls Tryd.prog 18 #[instV 22 d a b imm] w fun e w' => ∃ v, e = .returned v ∧ w'.ownsRow w.heap.size 3 1 v (upto8 true true an bn 8).length ((upto8 true true an bn 8).map (Value.int .i64)) ∧ Below w.heap.size w w' := by
  obtain ⟨i0, hi, hz0, hz1, hz2⟩ := info_parts Tryd.info3
  subst ha
  have hset : no8[an]? = some (.bool false) := no8_at an (by omega)
  unfold no8 at hset
  subst hb
  have hlt8 : (bn : Int) < 8 := by omega
  have hth : threeB 22 = false := rfl
  have hju : jumpB 22 = false := rfl
  go_enter Tryd.func18, Tryd.ntmps18
  go_wp2_with (first
    | (go_at_call 13; refine (right_any _ d _ _ imm _).mono ?_; rintro e w1 ⟨rfl, hbe⟩; have hB := box_below hbe; obtain ⟨c0, c1, c2, c3, c4⟩ := box_cell hbe; have hz : w.heap.size < w1.heap.size := (by have h := hbe.size; simp at h; omega); clear hbe)
    | (go_at_call 27; refine (three_any _ _).mono ?_; rintro e w' ⟨rfl, rfl⟩)
    | (go_at_call 28; refine (jump_any _ _).mono ?_; rintro e w' ⟨rfl, rfl⟩)
    | (go_at_call 16; go_must (refine (source_any _ d _ _ imm _).mono ?_); rintro e w2 ⟨rfl, hbe2⟩; go_must (obtain ⟨hcell8, hfz8, hb12, hz2'⟩ := cells8 (l := (no8.set an (.bool true))) hbe2; have hB2 := hB.trans (hb12.mono (by omega)); have d3 := (hb12.cell (p := ⟨w.heap.size, 3, none⟩) hz).trans c3; clear hbe2 c0 c1 c2 c3 c4; have HC8 : Hid (∀ r, w2.cell? ⟨w1.heap.size, r, none⟩ = (no8.set an (.bool true))[r]?) := hcell8; have hcb : w2.cell? ⟨w1.heap.size, bn, none⟩ = some (.bool (decide (bn = an))) := (hcell8 bn).trans (no8_set an bn (by omega)); have hfb := hfz8 bn; clear hcell8 hfz8)))
  obtain ⟨WF, HWE, hBF, hGF, HCF⟩ : ∃ WF, Hid (w2.setCell ⟨w1.heap.size, bn, none⟩ (.bool true) = WF) ∧ Below w.heap.size w WF ∧ w1.heap.size < WF.heap.size ∧ Hid (∀ r, r < 8 → WF.cell? ⟨w1.heap.size, r, none⟩ = some (.bool ((true && decide (r = an)) || (true && decide (r = bn))))) :=
    ⟨_, rfl, hB2.setCell (show w.heap.size ≤ w1.heap.size by omega) _, by simpa using hz2', fun r hr8 => by
      by_cases e : r = bn
      · subst e; rw [World.cell?_setCell_same' _ _ _ (by rw [hcb]; rfl)]; simp
      · rw [World.cell?_setCell_other _ _ _ _ (by intro h; injection h with h1 h2; omega), HC8.out r, no8_set an r hr8]; simp [e]⟩
  rw [HWE.out]
  clear HC8 d3 hcb hfb hB2 hB
  have HWF : Hid (Below w.heap.size w WF) := hBF
  clear hBF
  go_loopw [5, 6] (fun t i wr => ∃ k : Nat, k ≤ 8 ∧ i = .int .i64 k ∧ wr.ownsRow WF.heap.size 3 1 t (upto8 true true an bn k).length ((upto8 true true an bn k).map (Value.int .i64)) ∧ Below WF.heap.size WF wr) (fun _ i _ => 8 - (intOf i).toNat)
  case atStart => exact ⟨0, by omega, rfl, World.ownsRow_nil _ _ _ _, Below.refl _ _⟩
  case round =>
    obtain ⟨k, hk, rfl, hown, hbe⟩ := hrel
    have hszr := hbe.size
    by_cases hlt : k < 8
    · have hck : wr.cell? ⟨w1.heap.size, k, none⟩ = some (.bool ((true && decide (k = an)) || (true && decide (k = bn)))) := (hbe.cell (p := ⟨w1.heap.size, k, none⟩) hGF).trans (HCF.out k hlt)
      have hup := upto8_succ true true an bn k hlt
      have hul := upto8_len true true an bn k
      cases hbit : ((true && decide (k = an)) || (true && decide (k = bn))) with
      | true =>
        rw [hbit] at hck hup
        rw [if_pos rfl] at hup
        have HUP : Hid (upto8 true true an bn (k + 1) = upto8 true true an bn k ++ [(k : Int)]) := hup
        clear hup hbit
        go_wp2_with (at_builtin; go_must (refine wpList_append_own _ rfl _ _ 37 rfl WF.heap.size 3 i0 (.int .i64 0) 1 8 Tryd.underlying37 hi hz0 hz1 hz2 rfl (by decide) _ _ _ rfl (hown.alloc _) ⟨_, 0, none⟩ 1 1 [.int .i64 k] rfl rfl (cell_one_new _ _ _) (one_cell _ _) (by unfold maxLen; omega) (by omega) (by simp; omega) ?_); intro v' w5 hown' hgrow _; have R := step_append hown hbe (Nat.le_refl _) hown' hgrow; clear hown' hgrow)
        rw [← HUP.out] at R
        go_roundw
        case rel => exact ⟨k + 1, by omega, by go_num, R.1, R.2⟩
        case measure => simp [intOf]; omega
      | false =>
        rw [hbit] at hck hup
        rw [if_neg (by simp)] at hup
        have HUP : Hid (upto8 true true an bn (k + 1) = upto8 true true an bn k) := hup
        clear hup hbit
        rw [← HUP.out] at hown
        go_wp2
        go_roundw
        case rel => exact ⟨k + 1, by omega, by go_num, hown, hbe⟩
        case measure => simp [intOf]; omega
    · obtain rfl : k = 8 := by omega
      have hszw := HWF.out.size
      go_wp2
      go_ret
      exact ⟨_, rfl, own_base hown hszw, HWF.out.trans (hbe.mono hszw)⟩

set_option maxRecDepth 100000 in
set_option maxHeartbeats 2000000 in
theorem reads_c22_f (d imm : Int) (an bn : Nat) (a b : Int) (w : World) (hr : rightB 22 d a b imm = true) (hs : sourceB 22 d a b imm = false) (ha : a = (an : Int)) (ha7 : an ≤ 7) :
    Calls Tryd.prog 18 #[instV 22 d a b imm] w fun e w' => ∃ v, e = .returned v ∧ w'.ownsRow w.heap.size 3 1 v (upto8 true false an bn 8).length ((upto8 true false an bn 8).map (Value.int .i64)) ∧ Below w.heap.size w w' := by
  obtain ⟨i0, hi, hz0, hz1, hz2⟩ := info_parts Tryd.info3
  subst ha
  have hset : no8[an]? = some (.bool false) := no8_at an (by omega)
  unfold no8 at hset
  have hth : threeB 22 = false := rfl
  have hju : jumpB 22 = false := rfl
  go_enter Tryd.func18, Tryd.ntmps18
  go_wp2_with (first
    | (go_at_call 13; refine (right_any _ d _ _ imm _).mono ?_; rintro e w1 ⟨rfl, hbe⟩; have hB := box_below hbe; obtain ⟨c0, c1, c2, c3, c4⟩ := box_cell hbe; have hz : w.heap.size < w1.heap.size := (by have h := hbe.size; simp at h; omega); clear hbe)
    | (go_at_call 27; refine (three_any _ _).mono ?_; rintro e w' ⟨rfl, rfl⟩)
    | (go_at_call 28; refine (jump_any _ _).mono ?_; rintro e w' ⟨rfl, rfl⟩)
    | (go_at_call 16; go_must (refine (source_any _ d _ _ imm _).mono ?_); rintro e w2 ⟨rfl, hbe2⟩; go_must (obtain ⟨hcell8, hfz8, hb12, hz2'⟩ := cells8 (l := (no8.set an (.bool true))) hbe2; have hB2 := hB.trans (hb12.mono (by omega)); have d3 := (hb12.cell (p := ⟨w.heap.size, 3, none⟩) hz).trans c3; clear hbe2 c0 c1 c2 c3 c4; have HC8 : Hid (∀ r, w2.cell? ⟨w1.heap.size, r, none⟩ = (no8.set an (.bool true))[r]?) := hcell8; clear hcell8 hfz8)))
  obtain ⟨WF, HWE, hBF, hGF, HCF⟩ : ∃ WF, Hid (w2 = WF) ∧ Below w.heap.size w WF ∧ w1.heap.size < WF.heap.size ∧ Hid (∀ r, r < 8 → WF.cell? ⟨w1.heap.size, r, none⟩ = some (.bool ((true && decide (r = an)) || (false && decide (r = bn))))) :=
    ⟨_, rfl, hB2, hz2', fun r hr8 => by rw [HC8.out r, no8_set an r hr8]; simp⟩
  rw [HWE.out]
  clear HC8 d3 hB2 hB
  have HWF : Hid (Below w.heap.size w WF) := hBF
  clear hBF
  go_loopw [5, 6] (fun t i wr => ∃ k : Nat, k ≤ 8 ∧ i = .int .i64 k ∧ wr.ownsRow WF.heap.size 3 1 t (upto8 true false an bn k).length ((upto8 true false an bn k).map (Value.int .i64)) ∧ Below WF.heap.size WF wr) (fun _ i _ => 8 - (intOf i).toNat)
  case atStart => exact ⟨0, by omega, rfl, World.ownsRow_nil _ _ _ _, Below.refl _ _⟩
  case round =>
    obtain ⟨k, hk, rfl, hown, hbe⟩ := hrel
    have hszr := hbe.size
    by_cases hlt : k < 8
    · have hck : wr.cell? ⟨w1.heap.size, k, none⟩ = some (.bool ((true && decide (k = an)) || (false && decide (k = bn)))) := (hbe.cell (p := ⟨w1.heap.size, k, none⟩) hGF).trans (HCF.out k hlt)
      have hup := upto8_succ true false an bn k hlt
      have hul := upto8_len true false an bn k
      cases hbit : ((true && decide (k = an)) || (false && decide (k = bn))) with
      | true =>
        rw [hbit] at hck hup
        rw [if_pos rfl] at hup
        have HUP : Hid (upto8 true false an bn (k + 1) = upto8 true false an bn k ++ [(k : Int)]) := hup
        clear hup hbit
        go_wp2_with (at_builtin; go_must (refine wpList_append_own _ rfl _ _ 37 rfl WF.heap.size 3 i0 (.int .i64 0) 1 8 Tryd.underlying37 hi hz0 hz1 hz2 rfl (by decide) _ _ _ rfl (hown.alloc _) ⟨_, 0, none⟩ 1 1 [.int .i64 k] rfl rfl (cell_one_new _ _ _) (one_cell _ _) (by unfold maxLen; omega) (by omega) (by simp; omega) ?_); intro v' w5 hown' hgrow _; have R := step_append hown hbe (Nat.le_refl _) hown' hgrow; clear hown' hgrow)
        rw [← HUP.out] at R
        go_roundw
        case rel => exact ⟨k + 1, by omega, by go_num, R.1, R.2⟩
        case measure => simp [intOf]; omega
      | false =>
        rw [hbit] at hck hup
        rw [if_neg (by simp)] at hup
        have HUP : Hid (upto8 true false an bn (k + 1) = upto8 true false an bn k) := hup
        clear hup hbit
        rw [← HUP.out] at hown
        go_wp2
        go_roundw
        case rel => exact ⟨k + 1, by omega, by go_num, hown, hbe⟩
        case measure => simp [intOf]; omega
    · obtain rfl : k = 8 := by omega
      have hszw := HWF.out.size
      go_wp2
      go_ret
      exact ⟨_, rfl, own_base hown hszw, HWF.out.trans (hbe.mono hszw)⟩

set_option maxRecDepth 100000 in
set_option maxHeartbeats 2000000 in
theorem reads_c22_g (d imm : Int) (an bn : Nat) (a b : Int) (w : World) (hr : rightB 22 d a b imm = true) (hs : sourceB 22 d a b imm = true) (hb8 : ¬ b < 8) (ha : a = (an : Int)) (ha7 : an ≤ 7) :
    Calls Tryd.prog 18 #[instV 22 d a b imm] w fun e w' => ∃ v, e = .returned v ∧ w'.ownsRow w.heap.size 3 1 v (upto8 true false an bn 8).length ((upto8 true false an bn 8).map (Value.int .i64)) ∧ Below w.heap.size w w' := by
  obtain ⟨i0, hi, hz0, hz1, hz2⟩ := info_parts Tryd.info3
  subst ha
  have hset : no8[an]? = some (.bool false) := no8_at an (by omega)
  unfold no8 at hset
  have hth : threeB 22 = false := rfl
  have hju : jumpB 22 = false := rfl
  go_enter Tryd.func18, Tryd.ntmps18
  go_wp2_with (first
    | (go_at_call 13; refine (right_any _ d _ _ imm _).mono ?_; rintro e w1 ⟨rfl, hbe⟩; have hB := box_below hbe; obtain ⟨c0, c1, c2, c3, c4⟩ := box_cell hbe; have hz : w.heap.size < w1.heap.size := (by have h := hbe.size; simp at h; omega); clear hbe)
    | (go_at_call 27; refine (three_any _ _).mono ?_; rintro e w' ⟨rfl, rfl⟩)
    | (go_at_call 28; refine (jump_any _ _).mono ?_; rintro e w' ⟨rfl, rfl⟩)
    | (go_at_call 16; go_must (refine (source_any _ d _ _ imm _).mono ?_); rintro e w2 ⟨rfl, hbe2⟩; go_must (obtain ⟨hcell8, hfz8, hb12, hz2'⟩ := cells8 (l := (no8.set an (.bool true))) hbe2; have hB2 := hB.trans (hb12.mono (by omega)); have d3 := (hb12.cell (p := ⟨w.heap.size, 3, none⟩) hz).trans c3; clear hbe2 c0 c1 c2 c3 c4; have HC8 : Hid (∀ r, w2.cell? ⟨w1.heap.size, r, none⟩ = (no8.set an (.bool true))[r]?) := hcell8; clear hcell8 hfz8)))
  obtain ⟨WF, HWE, hBF, hGF, HCF⟩ : ∃ WF, Hid (w2 = WF) ∧ Below w.heap.size w WF ∧ w1.heap.size < WF.heap.size ∧ Hid (∀ r, r < 8 → WF.cell? ⟨w1.heap.size, r, none⟩ = some (.bool ((true && decide (r = an)) || (false && decide (r = bn))))) :=
    ⟨_, rfl, hB2, hz2', fun r hr8 => by rw [HC8.out r, no8_set an r hr8]; simp⟩
  rw [HWE.out]
  clear HC8 d3 hB2 hB
  have HWF : Hid (Below w.heap.size w WF) := hBF
  clear hBF
  go_loopw [5, 6] (fun t i wr => ∃ k : Nat, k ≤ 8 ∧ i = .int .i64 k ∧ wr.ownsRow WF.heap.size 3 1 t (upto8 true false an bn k).length ((upto8 true false an bn k).map (Value.int .i64)) ∧ Below WF.heap.size WF wr) (fun _ i _ => 8 - (intOf i).toNat)
  case atStart => exact ⟨0, by omega, rfl, World.ownsRow_nil _ _ _ _, Below.refl _ _⟩
  case round =>
    obtain ⟨k, hk, rfl, hown, hbe⟩ := hrel
    have hszr := hbe.size
    by_cases hlt : k < 8
    · have hck : wr.cell? ⟨w1.heap.size, k, none⟩ = some (.bool ((true && decide (k = an)) || (false && decide (k = bn)))) := (hbe.cell (p := ⟨w1.heap.size, k, none⟩) hGF).trans (HCF.out k hlt)
      have hup := upto8_succ true false an bn k hlt
      have hul := upto8_len true false an bn k
      cases hbit : ((true && decide (k = an)) || (false && decide (k = bn))) with
      | true =>
        rw [hbit] at hck hup
        rw [if_pos rfl] at hup
        have HUP : Hid (upto8 true false an bn (k + 1) = upto8 true false an bn k ++ [(k : Int)]) := hup
        clear hup hbit
        go_wp2_with (at_builtin; go_must (refine wpList_append_own _ rfl _ _ 37 rfl WF.heap.size 3 i0 (.int .i64 0) 1 8 Tryd.underlying37 hi hz0 hz1 hz2 rfl (by decide) _ _ _ rfl (hown.alloc _) ⟨_, 0, none⟩ 1 1 [.int .i64 k] rfl rfl (cell_one_new _ _ _) (one_cell _ _) (by unfold maxLen; omega) (by omega) (by simp; omega) ?_); intro v' w5 hown' hgrow _; have R := step_append hown hbe (Nat.le_refl _) hown' hgrow; clear hown' hgrow)
        rw [← HUP.out] at R
        go_roundw
        case rel => exact ⟨k + 1, by omega, by go_num, R.1, R.2⟩
        case measure => simp [intOf]; omega
      | false =>
        rw [hbit] at hck hup
        rw [if_neg (by simp)] at hup
        have HUP : Hid (upto8 true false an bn (k + 1) = upto8 true false an bn k) := hup
        clear hup hbit
        rw [← HUP.out] at hown
        go_wp2
        go_roundw
        case rel => exact ⟨k + 1, by omega, by go_num, hown, hbe⟩
        case measure => simp [intOf]; omega
    · obtain rfl : k = 8 := by omega
      have hszw := HWF.out.size
      go_wp2
      go_ret
      exact ⟨_, rfl, own_base hown hszw, HWF.out.trans (hbe.mono hszw)⟩

set_option maxRecDepth 100000 in
set_option maxHeartbeats 2000000 in
theorem reads_none_t (op : Int) (d imm : Int) (an bn : Nat) (a b : Int) (w : World) (hr : rightB op d a b imm = true) (hth : threeB op = false) (h12 : (op == 12) = false) (hju : jumpB op = false) (h20 : (op == 20) = false) (h22 : (op == 22) = false) (hs : sourceB op d a b imm = true) (hb : b = (bn : Int)) (hb7 : bn ≤ 7) :
    Calls Tryd.prog 18 #[instV op d a b imm] w fun e w' => ∃ v, e = .returned v ∧ w'.ownsRow w.heap.size 3 1 v (upto8 false true an bn 8).length ((upto8 false true an bn 8).map (Value.int .i64)) ∧ Below w.heap.size w w' := by
  obtain ⟨i0, hi, hz0, hz1, hz2⟩ := info_parts Tryd.info3
  subst hb
  have hlt8 : (bn : Int) < 8 := by omega
  go_enter Tryd.func18, Tryd.ntmps18
  go_wp2_with (first
    | (go_at_call 13; refine (right_any _ d _ _ imm _).mono ?_; rintro e w1 ⟨rfl, hbe⟩; have hB := box_below hbe; obtain ⟨c0, c1, c2, c3, c4⟩ := box_cell hbe; have hz : w.heap.size < w1.heap.size := (by have h := hbe.size; simp at h; omega); clear hbe)
    | (go_at_call 27; refine (three_any _ _).mono ?_; rintro e w' ⟨rfl, rfl⟩)
    | (go_at_call 28; refine (jump_any _ _).mono ?_; rintro e w' ⟨rfl, rfl⟩)
    | (go_at_call 16; go_must (refine (source_any _ d _ _ imm _).mono ?_); rintro e w2 ⟨rfl, hbe2⟩; go_must (obtain ⟨hcell8, hfz8, hb12, hz2'⟩ := cells8 (l := no8) hbe2; have hB2 := hB.trans (hb12.mono (by omega)); have d3 := (hb12.cell (p := ⟨w.heap.size, 3, none⟩) hz).trans c3; clear hbe2 c0 c1 c2 c3 c4; have HC8 : Hid (∀ r, w2.cell? ⟨w1.heap.size, r, none⟩ = no8[r]?) := hcell8; have hcb : w2.cell? ⟨w1.heap.size, bn, none⟩ = some (.bool false) := (hcell8 bn).trans (no8_at bn (by omega)); have hfb := hfz8 bn; clear hcell8 hfz8)))
  obtain ⟨WF, HWE, hBF, hGF, HCF⟩ : ∃ WF, Hid (w2.setCell ⟨w1.heap.size, bn, none⟩ (.bool true) = WF) ∧ Below w.heap.size w WF ∧ w1.heap.size < WF.heap.size ∧ Hid (∀ r, r < 8 → WF.cell? ⟨w1.heap.size, r, none⟩ = some (.bool ((false && decide (r = an)) || (true && decide (r = bn))))) :=
    ⟨_, rfl, hB2.setCell (show w.heap.size ≤ w1.heap.size by omega) _, by simpa using hz2', fun r hr8 => by
      by_cases e : r = bn
      · subst e; rw [World.cell?_setCell_same' _ _ _ (by rw [hcb]; rfl)]; simp
      · rw [World.cell?_setCell_other _ _ _ _ (by intro h; injection h with h1 h2; omega), HC8.out r, no8_at r hr8]; simp [e]⟩
  rw [HWE.out]
  clear HC8 d3 hcb hfb hB2 hB
  have HWF : Hid (Below w.heap.size w WF) := hBF
  clear hBF
  go_loopw [5, 6] (fun t i wr => ∃ k : Nat, k ≤ 8 ∧ i = .int .i64 k ∧ wr.ownsRow WF.heap.size 3 1 t (upto8 false true an bn k).length ((upto8 false true an bn k).map (Value.int .i64)) ∧ Below WF.heap.size WF wr) (fun _ i _ => 8 - (intOf i).toNat)
  case atStart => exact ⟨0, by omega, rfl, World.ownsRow_nil _ _ _ _, Below.refl _ _⟩
  case round =>
    obtain ⟨k, hk, rfl, hown, hbe⟩ := hrel
    have hszr := hbe.size
    by_cases hlt : k < 8
    · have hck : wr.cell? ⟨w1.heap.size, k, none⟩ = some (.bool ((false && decide (k = an)) || (true && decide (k = bn)))) := (hbe.cell (p := ⟨w1.heap.size, k, none⟩) hGF).trans (HCF.out k hlt)
      have hup := upto8_succ false true an bn k hlt
      have hul := upto8_len false true an bn k
      cases hbit : ((false && decide (k = an)) || (true && decide (k = bn))) with
      | true =>
        rw [hbit] at hck hup
        rw [if_pos rfl] at hup
        have HUP : Hid (upto8 false true an bn (k + 1) = upto8 false true an bn k ++ [(k : Int)]) := hup
        clear hup hbit
        go_wp2_with (at_builtin; go_must (refine wpList_append_own _ rfl _ _ 37 rfl WF.heap.size 3 i0 (.int .i64 0) 1 8 Tryd.underlying37 hi hz0 hz1 hz2 rfl (by decide) _ _ _ rfl (hown.alloc _) ⟨_, 0, none⟩ 1 1 [.int .i64 k] rfl rfl (cell_one_new _ _ _) (one_cell _ _) (by unfold maxLen; omega) (by omega) (by simp; omega) ?_); intro v' w5 hown' hgrow _; have R := step_append hown hbe (Nat.le_refl _) hown' hgrow; clear hown' hgrow)
        rw [← HUP.out] at R
        go_roundw
        case rel => exact ⟨k + 1, by omega, by go_num, R.1, R.2⟩
        case measure => simp [intOf]; omega
      | false =>
        rw [hbit] at hck hup
        rw [if_neg (by simp)] at hup
        have HUP : Hid (upto8 false true an bn (k + 1) = upto8 false true an bn k) := hup
        clear hup hbit
        rw [← HUP.out] at hown
        go_wp2
        go_roundw
        case rel => exact ⟨k + 1, by omega, by go_num, hown, hbe⟩
        case measure => simp [intOf]; omega
    · obtain rfl : k = 8 := by omega
      have hszw := HWF.out.size
      go_wp2
      go_ret
      exact ⟨_, rfl, own_base hown hszw, HWF.out.trans (hbe.mono hszw)⟩

set_option maxRecDepth 100000 in
set_option maxHeartbeats 2000000 in
theorem reads_none_f (op : Int) (d imm : Int) (an bn : Nat) (a b : Int) (w : World) (hr : rightB op d a b imm = true) (hth : threeB op = false) (h12 : (op == 12) = false) (hju : jumpB op = false) (h20 : (op == 20) = false) (h22 : (op == 22) = false) (hs : sourceB op d a b imm = false) :
    Calls Tryd.prog 18 #[instV op d a b imm] w fun e w' => ∃ v, e = .returned v ∧ w'.ownsRow w.heap.size 3 1 v (upto8 false false an bn 8).length ((upto8 false false an bn 8).map (Value.int .i64)) ∧ Below w.heap.size w w' := by
  obtain ⟨i0, hi, hz0, hz1, hz2⟩ := info_parts Tryd.info3
  go_enter Tryd.func18, Tryd.ntmps18
  go_wp2_with (first
    | (go_at_call 13; refine (right_any _ d _ _ imm _).mono ?_; rintro e w1 ⟨rfl, hbe⟩; have hB := box_below hbe; obtain ⟨c0, c1, c2, c3, c4⟩ := box_cell hbe; have hz : w.heap.size < w1.heap.size := (by have h := hbe.size; simp at h; omega); clear hbe)
    | (go_at_call 27; refine (three_any _ _).mono ?_; rintro e w' ⟨rfl, rfl⟩)
    | (go_at_call 28; refine (jump_any _ _).mono ?_; rintro e w' ⟨rfl, rfl⟩)
    | (go_at_call 16; go_must (refine (source_any _ d _ _ imm _).mono ?_); rintro e w2 ⟨rfl, hbe2⟩; go_must (obtain ⟨hcell8, hfz8, hb12, hz2'⟩ := cells8 (l := no8) hbe2; have hB2 := hB.trans (hb12.mono (by omega)); have d3 := (hb12.cell (p := ⟨w.heap.size, 3, none⟩) hz).trans c3; clear hbe2 c0 c1 c2 c3 c4; have HC8 : Hid (∀ r, w2.cell? ⟨w1.heap.size, r, none⟩ = no8[r]?) := hcell8; clear hcell8 hfz8)))
  obtain ⟨WF, HWE, hBF, hGF, HCF⟩ : ∃ WF, Hid (w2 = WF) ∧ Below w.heap.size w WF ∧ w1.heap.size < WF.heap.size ∧ Hid (∀ r, r < 8 → WF.cell? ⟨w1.heap.size, r, none⟩ = some (.bool ((false && decide (r = an)) || (false && decide (r = bn))))) :=
    ⟨_, rfl, hB2, hz2', fun r hr8 => by rw [HC8.out r, no8_at r hr8]; simp⟩
  rw [HWE.out]
  clear HC8 d3 hB2 hB
  have HWF : Hid (Below w.heap.size w WF) := hBF
  clear hBF
  go_loopw [5, 6] (fun t i wr => ∃ k : Nat, k ≤ 8 ∧ i = .int .i64 k ∧ wr.ownsRow WF.heap.size 3 1 t (upto8 false false an bn k).length ((upto8 false false an bn k).map (Value.int .i64)) ∧ Below WF.heap.size WF wr) (fun _ i _ => 8 - (intOf i).toNat)
  case atStart => exact ⟨0, by omega, rfl, World.ownsRow_nil _ _ _ _, Below.refl _ _⟩
  case round =>
    obtain ⟨k, hk, rfl, hown, hbe⟩ := hrel
    have hszr := hbe.size
    by_cases hlt : k < 8
    · have hck : wr.cell? ⟨w1.heap.size, k, none⟩ = some (.bool ((false && decide (k = an)) || (false && decide (k = bn)))) := (hbe.cell (p := ⟨w1.heap.size, k, none⟩) hGF).trans (HCF.out k hlt)
      have hup := upto8_succ false false an bn k hlt
      have hul := upto8_len false false an bn k
      cases hbit : ((false && decide (k = an)) || (false && decide (k = bn))) with
      | true =>
        rw [hbit] at hck hup
        rw [if_pos rfl] at hup
        have HUP : Hid (upto8 false false an bn (k + 1) = upto8 false false an bn k ++ [(k : Int)]) := hup
        clear hup hbit
        go_wp2_with (at_builtin; go_must (refine wpList_append_own _ rfl _ _ 37 rfl WF.heap.size 3 i0 (.int .i64 0) 1 8 Tryd.underlying37 hi hz0 hz1 hz2 rfl (by decide) _ _ _ rfl (hown.alloc _) ⟨_, 0, none⟩ 1 1 [.int .i64 k] rfl rfl (cell_one_new _ _ _) (one_cell _ _) (by unfold maxLen; omega) (by omega) (by simp; omega) ?_); intro v' w5 hown' hgrow _; have R := step_append hown hbe (Nat.le_refl _) hown' hgrow; clear hown' hgrow)
        rw [← HUP.out] at R
        go_roundw
        case rel => exact ⟨k + 1, by omega, by go_num, R.1, R.2⟩
        case measure => simp [intOf]; omega
      | false =>
        rw [hbit] at hck hup
        rw [if_neg (by simp)] at hup
        have HUP : Hid (upto8 false false an bn (k + 1) = upto8 false false an bn k) := hup
        clear hup hbit
        rw [← HUP.out] at hown
        go_wp2
        go_roundw
        case rel => exact ⟨k + 1, by omega, by go_num, hown, hbe⟩
        case measure => simp [intOf]; omega
    · obtain rfl : k = 8 := by omega
      have hszw := HWF.out.size
      go_wp2
      go_ret
      exact ⟨_, rfl, own_base hown hszw, HWF.out.trans (hbe.mono hszw)⟩

set_option maxRecDepth 100000 in
set_option maxHeartbeats 2000000 in
theorem reads_none_g (op : Int) (d imm : Int) (an bn : Nat) (a b : Int) (w : World) (hr : rightB op d a b imm = true) (hth : threeB op = false) (h12 : (op == 12) = false) (hju : jumpB op = false) (h20 : (op == 20) = false) (h22 : (op == 22) = false) (hs : sourceB op d a b imm = true) (hb8 : ¬ b < 8) :
    Calls Tryd.prog 18 #[instV op d a b imm] w fun e w' => ∃ v, e = .returned v ∧ w'.ownsRow w.heap.size 3 1 v (upto8 false false an bn 8).length ((upto8 false false an bn 8).map (Value.int .i64)) ∧ Below w.heap.size w w' := by
  obtain ⟨i0, hi, hz0, hz1, hz2⟩ := info_parts Tryd.info3
  go_enter Tryd.func18, Tryd.ntmps18
  go_wp2_with (first
    | (go_at_call 13; refine (right_any _ d _ _ imm _).mono ?_; rintro e w1 ⟨rfl, hbe⟩; have hB := box_below hbe; obtain ⟨c0, c1, c2, c3, c4⟩ := box_cell hbe; have hz : w.heap.size < w1.heap.size := (by have h := hbe.size; simp at h; omega); clear hbe)
    | (go_at_call 27; refine (three_any _ _).mono ?_; rintro e w' ⟨rfl, rfl⟩)
    | (go_at_call 28; refine (jump_any _ _).mono ?_; rintro e w' ⟨rfl, rfl⟩)
    | (go_at_call 16; go_must (refine (source_any _ d _ _ imm _).mono ?_); rintro e w2 ⟨rfl, hbe2⟩; go_must (obtain ⟨hcell8, hfz8, hb12, hz2'⟩ := cells8 (l := no8) hbe2; have hB2 := hB.trans (hb12.mono (by omega)); have d3 := (hb12.cell (p := ⟨w.heap.size, 3, none⟩) hz).trans c3; clear hbe2 c0 c1 c2 c3 c4; have HC8 : Hid (∀ r, w2.cell? ⟨w1.heap.size, r, none⟩ = no8[r]?) := hcell8; clear hcell8 hfz8)))
  obtain ⟨WF, HWE, hBF, hGF, HCF⟩ : ∃ WF, Hid (w2 = WF) ∧ Below w.heap.size w WF ∧ w1.heap.size < WF.heap.size ∧ Hid (∀ r, r < 8 → WF.cell? ⟨w1.heap.size, r, none⟩ = some (.bool ((false && decide (r = an)) || (false && decide (r = bn))))) :=
    ⟨_, rfl, hB2, hz2', fun r hr8 => by rw [HC8.out r, no8_at r hr8]; simp⟩
  rw [HWE.out]
  clear HC8 d3 hB2 hB
  have HWF : Hid (Below w.heap.size w WF) := hBF
  clear hBF
  go_loopw [5, 6] (fun t i wr => ∃ k : Nat, k ≤ 8 ∧ i = .int .i64 k ∧ wr.ownsRow WF.heap.size 3 1 t (upto8 false false an bn k).length ((upto8 false false an bn k).map (Value.int .i64)) ∧ Below WF.heap.size WF wr) (fun _ i _ => 8 - (intOf i).toNat)
  case atStart => exact ⟨0, by omega, rfl, World.ownsRow_nil _ _ _ _, Below.refl _ _⟩
  case round =>
    obtain ⟨k, hk, rfl, hown, hbe⟩ := hrel
    have hszr := hbe.size
    by_cases hlt : k < 8
    · have hck : wr.cell? ⟨w1.heap.size, k, none⟩ = some (.bool ((false && decide (k = an)) || (false && decide (k = bn)))) := (hbe.cell (p := ⟨w1.heap.size, k, none⟩) hGF).trans (HCF.out k hlt)
      have hup := upto8_succ false false an bn k hlt
      have hul := upto8_len false false an bn k
      cases hbit : ((false && decide (k = an)) || (false && decide (k = bn))) with
      | true =>
        rw [hbit] at hck hup
        rw [if_pos rfl] at hup
        have HUP : Hid (upto8 false false an bn (k + 1) = upto8 false false an bn k ++ [(k : Int)]) := hup
        clear hup hbit
        go_wp2_with (at_builtin; go_must (refine wpList_append_own _ rfl _ _ 37 rfl WF.heap.size 3 i0 (.int .i64 0) 1 8 Tryd.underlying37 hi hz0 hz1 hz2 rfl (by decide) _ _ _ rfl (hown.alloc _) ⟨_, 0, none⟩ 1 1 [.int .i64 k] rfl rfl (cell_one_new _ _ _) (one_cell _ _) (by unfold maxLen; omega) (by omega) (by simp; omega) ?_); intro v' w5 hown' hgrow _; have R := step_append hown hbe (Nat.le_refl _) hown' hgrow; clear hown' hgrow)
        rw [← HUP.out] at R
        go_roundw
        case rel => exact ⟨k + 1, by omega, by go_num, R.1, R.2⟩
        case measure => simp [intOf]; omega
      | false =>
        rw [hbit] at hck hup
        rw [if_neg (by simp)] at hup
        have HUP : Hid (upto8 false false an bn (k + 1) = upto8 false false an bn k) := hup
        clear hup hbit
        rw [← HUP.out] at hown
        go_wp2
        go_roundw
        case rel => exact ⟨k + 1, by omega, by go_num, hown, hbe⟩
        case measure => simp [intOf]; omega
    · obtain rfl : k = 8 := by omega
      have hszw := HWF.out.size
      go_wp2
      go_ret
      exact ⟨_, rfl, own_base hown hszw, HWF.out.trans (hbe.mono hszw)⟩

/-- The registers that are read, rising. -/
def readsL (op d a b imm : Int) : List Int := if rightB op d a b imm = false then [] else upto8 (readsP op) (sourceB op d a b imm && decide (b < 8)) a.toNat b.toNat 8

theorem reads_not (op d a b imm : Int) (w : World) (hr : rightB op d a b imm = false) :
    Calls Tryd.prog 18 #[instV op d a b imm] w fun e w' => e = .returned (.slice none 0 0) ∧ Below w.heap.size w w' := by
  go_enter Tryd.func18, Tryd.ntmps18
  go_wp2_with (go_at_call 13; refine (right_any _ d _ _ imm _).mono ?_; rintro e w1 ⟨rfl, hbe⟩; have hB := box_below hbe; clear hbe)
  go_ret
  exact ⟨rfl, hB⟩

/-- The document's Reads. -/
theorem reads_any (op d a b imm : Int) (w : World) :
    Calls Tryd.prog 18 #[instV op d a b imm] w fun e w' => ∃ v, e = .returned v ∧ w'.ownsRow w.heap.size 3 1 v (readsL op d a b imm).length ((readsL op d a b imm).map (Value.int .i64)) ∧ Below w.heap.size w w' := by
  cases hr : rightB op d a b imm with
  | false =>
    refine (reads_not op d a b imm w hr).mono ?_
    rintro e w' ⟨rfl, hB⟩
    have e : readsL op d a b imm = [] := by unfold readsL; rw [if_pos hr]
    rw [e]
    exact ⟨_, rfl, World.ownsRow_nil _ _ _ _, hB⟩
  | true =>
    have er : readsL op d a b imm = upto8 (readsP op) (sourceB op d a b imm && decide (b < 8)) a.toNat b.toNat 8 := by unfold readsL; rw [if_neg (by simp [hr])]
    rw [er]
    have hop := right_op hr
    have ha : readsP op = true → a = (a.toNat : Int) ∧ a.toNat ≤ 7 := fun h => by have := right_a hr h; omega
    have hb : sourceB op d a b imm = true → b < 8 → b = (b.toNat : Int) ∧ b.toNat ≤ 7 := fun h h8 => by have := source_b h; omega
    by_cases h1 : 1 ≤ op ∧ op ≤ 10
    · have hth : threeB op = true := by simp [threeB]; omega
      have hp : readsP op = true := by simp [readsP, hth]
      rw [hp]
      cases hs : sourceB op d a b imm with
      | false => exact reads_three_f op d imm a.toNat b.toNat a b w hr hth hs (ha hp).1 (ha hp).2
      | true =>
        by_cases h8 : b < 8
        · rw [decide_eq_true h8]
          exact reads_three_t op d imm a.toNat b.toNat a b w hr hth hs (ha hp).1 (ha hp).2 (hb hs h8).1 (hb hs h8).2
        · rw [decide_eq_false h8]
          exact reads_three_g op d imm a.toNat b.toNat a b w hr hth hs h8 (ha hp).1 (ha hp).2
    have hth : threeB op = false := by simp [threeB]; omega
    by_cases h2 : 16 ≤ op ∧ op ≤ 19
    · have hju : jumpB op = true := by simp [jumpB]; omega
      have h12 : (op == 12) = false := by simp; omega
      have hp : readsP op = true := by simp [readsP, hju]
      rw [hp]
      cases hs : sourceB op d a b imm with
      | false => exact reads_jump_f op d imm a.toNat b.toNat a b w hr hth h12 hju hs (ha hp).1 (ha hp).2
      | true =>
        by_cases h8 : b < 8
        · rw [decide_eq_true h8]
          exact reads_jump_t op d imm a.toNat b.toNat a b w hr hth h12 hju hs (ha hp).1 (ha hp).2 (hb hs h8).1 (hb hs h8).2
        · rw [decide_eq_false h8]
          exact reads_jump_g op d imm a.toNat b.toNat a b w hr hth h12 hju hs h8 (ha hp).1 (ha hp).2
    have hju : jumpB op = false := by simp [jumpB]; omega
    by_cases e12 : op = 12
    · subst e12
      have hp : readsP 12 = true := by simp [readsP]
      rw [hp]
      cases hs : sourceB 12 d a b imm with
      | false => exact reads_c12_f d imm a.toNat b.toNat a b w hr hs (ha hp).1 (ha hp).2
      | true =>
        by_cases h8 : b < 8
        · rw [decide_eq_true h8]
          exact reads_c12_t d imm a.toNat b.toNat a b w hr hs (ha hp).1 (ha hp).2 (hb hs h8).1 (hb hs h8).2
        · rw [decide_eq_false h8]
          exact reads_c12_g d imm a.toNat b.toNat a b w hr hs h8 (ha hp).1 (ha hp).2
    by_cases e20 : op = 20
    · subst e20
      have hp : readsP 20 = true := by simp [readsP]
      rw [hp]
      cases hs : sourceB 20 d a b imm with
      | false => exact reads_c20_f d imm a.toNat b.toNat a b w hr hs (ha hp).1 (ha hp).2
      | true =>
        by_cases h8 : b < 8
        · rw [decide_eq_true h8]
          exact reads_c20_t d imm a.toNat b.toNat a b w hr hs (ha hp).1 (ha hp).2 (hb hs h8).1 (hb hs h8).2
        · rw [decide_eq_false h8]
          exact reads_c20_g d imm a.toNat b.toNat a b w hr hs h8 (ha hp).1 (ha hp).2
    by_cases e22 : op = 22
    · subst e22
      have hp : readsP 22 = true := by simp [readsP]
      rw [hp]
      cases hs : sourceB 22 d a b imm with
      | false => exact reads_c22_f d imm a.toNat b.toNat a b w hr hs (ha hp).1 (ha hp).2
      | true =>
        by_cases h8 : b < 8
        · rw [decide_eq_true h8]
          exact reads_c22_t d imm a.toNat b.toNat a b w hr hs (ha hp).1 (ha hp).2 (hb hs h8).1 (hb hs h8).2
        · rw [decide_eq_false h8]
          exact reads_c22_g d imm a.toNat b.toNat a b w hr hs h8 (ha hp).1 (ha hp).2
    have h12 : (op == 12) = false := by simp; omega
    have h20 : (op == 20) = false := by simp; omega
    have h22 : (op == 22) = false := by simp; omega
    have hp : readsP op = false := by simp [readsP, hth, hju, h12, h20, h22]
    rw [hp]
    cases hs : sourceB op d a b imm with
    | false => exact reads_none_f op d imm a.toNat b.toNat a b w hr hth h12 hju h20 h22 hs
    | true =>
      by_cases h8 : b < 8
      · rw [decide_eq_true h8]
        exact reads_none_t op d imm a.toNat b.toNat a b w hr hth h12 hju h20 h22 hs (hb hs h8).1 (hb hs h8).2
      · rw [decide_eq_false h8]
        exact reads_none_g op d imm a.toNat b.toNat a b w hr hth h12 hju h20 h22 hs h8

end Go.Proofs.YtheapkigeknjlaaDoor
