/-
  O2Small
  O2Fits
  O2Plain
-/
import Derived.Test.YtkondcjmhlppiaaGreatMW5
import Derived.Handy
namespace Go.Proofs.YtkondcjmhlppiaaGreat
open Go.RowKit
set_option linter.unusedVariables false
set_option maxHeartbeats 800000
theorem register_any (n : Int) (w : World) : Calls Tryz.prog 106 #[.int .i64 n] w fun e w' => e = .returned (.bool (regB n)) /\ w = w' := by
 unfold regB
 by_cases h : 0 <= n
 ·go_enter Tryz.func106, Tryz.ntmps106
  go_wp2
  go_ret
  exact ⟨r2b (by simp [h]; omega), rfl⟩
 ·go_enter Tryz.func106, Tryz.ntmps106
  go_wp2
  go_ret
  exact ⟨r2b (by simp; omega), rfl⟩

abbrev boundsV (l m : Int) : Value := .agg #[.int .i64 l, .int .i64 m]
abbrev boundsO (l m : Int) : Obj := .cells #[.int .i64 l, .int .i64 m] 180
def hasB (l m n : Int) : Bool := decide (l <= n) && decide (n <= m)
theorem has_any (l m n : Int) (w : World) : Calls Tryz.prog 107 #[boundsV l m, .int .i64 n] w fun e w' => e = .returned (.bool (hasB l m n)) /\ w.alloc (boundsO l m) = w' := by
 unfold hasB
 by_cases h : l <= n
 ·go_enter Tryz.func107, Tryz.ntmps107
  go_wp2
  go_ret
  exact ⟨r2b (by simp [h]), rfl⟩
 ·go_enter Tryz.func107, Tryz.ntmps107
  go_wp2
  go_ret
  exact ⟨r2b (by simp; omega), rfl⟩

structure Shape where
 dest : Bool
 first : Bool
 source : Bool
 farL : Int
 farM : Int
 immL : Int
 immM : Int
abbrev Shape.v (s : Shape) : Value := .agg #[.bool s.dest, .bool s.first, .bool s.source, .int .i64 s.farL, .int .i64 s.farM, .int .i64 s.immL, .int .i64 s.immM]
def shapeL (op : Int) : Shape :=
 if op = 0 ∨ op = 11 then ⟨true, false, true, 0, 0, 0, 0⟩
 else if 1 <= op /\ op <= 10 then ⟨true, true, true, 0, 0, 0, 0⟩
 else if op = 12 then ⟨false, true, true, 0, 0, 0, 0⟩
 else if op = 13 then ⟨true, false, false, 0, 0, 0, 1⟩
 else if op = 14 then ⟨true, false, false, 0, 0, 0, 3⟩
 else if op = 15 then ⟨false, false, false, 0, 63, 0, 0⟩
 else if 16 <= op /\ op <= 19 then ⟨false, true, true, 0, 63, 0, 0⟩
 else if op = 20 then ⟨false, true, false, 1, 63, 1, 255⟩
 else if op = 21 then ⟨false, false, false, 0, 0, 0, 6⟩
 else if op = 22 then ⟨false, true, false, 0, 0, 0, 0⟩
 else ⟨false, false, false, 0, 0, 0, 0⟩

theorem shapeOf_0 (w : World) : Calls Tryz.prog 81 #[.int .i64 0] w fun e w' => e = .returned (shapeL 0).v /\ Below w.heap.size w w' := by
 go_enter Tryz.func81, Tryz.ntmps81
 go_wp2
 go_returns
 exact ⟨rfl, by go_grown⟩
theorem shapeOf_1 (w : World) : Calls Tryz.prog 81 #[.int .i64 1] w fun e w' => e = .returned (shapeL 1).v /\ Below w.heap.size w w' := by
 go_enter Tryz.func81, Tryz.ntmps81
 go_wp2
 go_returns
 exact ⟨rfl, by go_grown⟩
theorem shapeOf_2 (w : World) : Calls Tryz.prog 81 #[.int .i64 2] w fun e w' => e = .returned (shapeL 2).v /\ Below w.heap.size w w' := by
 go_enter Tryz.func81, Tryz.ntmps81
 go_wp2
 go_returns
 exact ⟨rfl, by go_grown⟩
theorem shapeOf_3 (w : World) : Calls Tryz.prog 81 #[.int .i64 3] w fun e w' => e = .returned (shapeL 3).v /\ Below w.heap.size w w' := by
 go_enter Tryz.func81, Tryz.ntmps81
 go_wp2
 go_returns
 exact ⟨rfl, by go_grown⟩
theorem shapeOf_4 (w : World) : Calls Tryz.prog 81 #[.int .i64 4] w fun e w' => e = .returned (shapeL 4).v /\ Below w.heap.size w w' := by
 go_enter Tryz.func81, Tryz.ntmps81
 go_wp2
 go_returns
 exact ⟨rfl, by go_grown⟩
theorem shapeOf_5 (w : World) : Calls Tryz.prog 81 #[.int .i64 5] w fun e w' => e = .returned (shapeL 5).v /\ Below w.heap.size w w' := by
 go_enter Tryz.func81, Tryz.ntmps81
 go_wp2
 go_returns
 exact ⟨rfl, by go_grown⟩
theorem shapeOf_6 (w : World) : Calls Tryz.prog 81 #[.int .i64 6] w fun e w' => e = .returned (shapeL 6).v /\ Below w.heap.size w w' := by
 go_enter Tryz.func81, Tryz.ntmps81
 go_wp2
 go_returns
 exact ⟨rfl, by go_grown⟩
theorem shapeOf_7 (w : World) : Calls Tryz.prog 81 #[.int .i64 7] w fun e w' => e = .returned (shapeL 7).v /\ Below w.heap.size w w' := by
 go_enter Tryz.func81, Tryz.ntmps81
 go_wp2
 go_returns
 exact ⟨rfl, by go_grown⟩
theorem shapeOf_8 (w : World) : Calls Tryz.prog 81 #[.int .i64 8] w fun e w' => e = .returned (shapeL 8).v /\ Below w.heap.size w w' := by
 go_enter Tryz.func81, Tryz.ntmps81
 go_wp2
 go_returns
 exact ⟨rfl, by go_grown⟩
theorem shapeOf_9 (w : World) : Calls Tryz.prog 81 #[.int .i64 9] w fun e w' => e = .returned (shapeL 9).v /\ Below w.heap.size w w' := by
 go_enter Tryz.func81, Tryz.ntmps81
 go_wp2
 go_returns
 exact ⟨rfl, by go_grown⟩
theorem shapeOf_10 (w : World) : Calls Tryz.prog 81 #[.int .i64 10] w fun e w' => e = .returned (shapeL 10).v /\ Below w.heap.size w w' := by
 go_enter Tryz.func81, Tryz.ntmps81
 go_wp2
 go_returns
 exact ⟨rfl, by go_grown⟩
theorem shapeOf_11 (w : World) : Calls Tryz.prog 81 #[.int .i64 11] w fun e w' => e = .returned (shapeL 11).v /\ Below w.heap.size w w' := by
 go_enter Tryz.func81, Tryz.ntmps81
 go_wp2
 go_returns
 exact ⟨rfl, by go_grown⟩
theorem shapeOf_12 (w : World) : Calls Tryz.prog 81 #[.int .i64 12] w fun e w' => e = .returned (shapeL 12).v /\ Below w.heap.size w w' := by
 go_enter Tryz.func81, Tryz.ntmps81
 go_wp2
 go_returns
 exact ⟨rfl, by go_grown⟩
theorem shapeOf_13 (w : World) : Calls Tryz.prog 81 #[.int .i64 13] w fun e w' => e = .returned (shapeL 13).v /\ Below w.heap.size w w' := by
 go_enter Tryz.func81, Tryz.ntmps81
 go_wp2
 go_returns
 exact ⟨rfl, by go_grown⟩
theorem shapeOf_14 (w : World) : Calls Tryz.prog 81 #[.int .i64 14] w fun e w' => e = .returned (shapeL 14).v /\ Below w.heap.size w w' := by
 go_enter Tryz.func81, Tryz.ntmps81
 go_wp2
 go_returns
 exact ⟨rfl, by go_grown⟩
theorem shapeOf_15 (w : World) : Calls Tryz.prog 81 #[.int .i64 15] w fun e w' => e = .returned (shapeL 15).v /\ Below w.heap.size w w' := by
 go_enter Tryz.func81, Tryz.ntmps81
 go_wp2
 go_returns
 exact ⟨rfl, by go_grown⟩
theorem shapeOf_16 (w : World) : Calls Tryz.prog 81 #[.int .i64 16] w fun e w' => e = .returned (shapeL 16).v /\ Below w.heap.size w w' := by
 go_enter Tryz.func81, Tryz.ntmps81
 go_wp2
 go_returns
 exact ⟨rfl, by go_grown⟩
theorem shapeOf_17 (w : World) : Calls Tryz.prog 81 #[.int .i64 17] w fun e w' => e = .returned (shapeL 17).v /\ Below w.heap.size w w' := by
 go_enter Tryz.func81, Tryz.ntmps81
 go_wp2
 go_returns
 exact ⟨rfl, by go_grown⟩
theorem shapeOf_18 (w : World) : Calls Tryz.prog 81 #[.int .i64 18] w fun e w' => e = .returned (shapeL 18).v /\ Below w.heap.size w w' := by
 go_enter Tryz.func81, Tryz.ntmps81
 go_wp2
 go_returns
 exact ⟨rfl, by go_grown⟩
theorem shapeOf_19 (w : World) : Calls Tryz.prog 81 #[.int .i64 19] w fun e w' => e = .returned (shapeL 19).v /\ Below w.heap.size w w' := by
 go_enter Tryz.func81, Tryz.ntmps81
 go_wp2
 go_returns
 exact ⟨rfl, by go_grown⟩
theorem shapeOf_20 (w : World) : Calls Tryz.prog 81 #[.int .i64 20] w fun e w' => e = .returned (shapeL 20).v /\ Below w.heap.size w w' := by
 go_enter Tryz.func81, Tryz.ntmps81
 go_wp2
 go_returns
 exact ⟨rfl, by go_grown⟩
theorem shapeOf_21 (w : World) : Calls Tryz.prog 81 #[.int .i64 21] w fun e w' => e = .returned (shapeL 21).v /\ Below w.heap.size w w' := by
 go_enter Tryz.func81, Tryz.ntmps81
 go_wp2
 go_returns
 exact ⟨rfl, by go_grown⟩
theorem shapeOf_22 (w : World) : Calls Tryz.prog 81 #[.int .i64 22] w fun e w' => e = .returned (shapeL 22).v /\ Below w.heap.size w w' := by
 go_enter Tryz.func81, Tryz.ntmps81
 go_wp2
 go_returns
 exact ⟨rfl, by go_grown⟩
theorem shapeOf_none (op : Int) (w : World) (h0 : (op == 0) = false) (h1 : (op == 1) = false) (h2 : (op == 2) = false) (h3 : (op == 3) = false) (h4 : (op == 4) = false) (h5 : (op == 5) = false) (h6 : (op == 6) = false) (h7 : (op == 7) = false) (h8 : (op == 8) = false) (h9 : (op == 9) = false) (h10 : (op == 10) = false) (h11 : (op == 11) = false) (h12 : (op == 12) = false) (h13 : (op == 13) = false) (h14 : (op == 14) = false) (h15 : (op == 15) = false) (h16 : (op == 16) = false) (h17 : (op == 17) = false) (h18 : (op == 18) = false) (h19 : (op == 19) = false) (h20 : (op == 20) = false) (h21 : (op == 21) = false) (h22 : (op == 22) = false) : Calls Tryz.prog 81 #[.int .i64 op] w fun e w' => e = .returned (Shape.v ⟨false, false, false, 0, 0, 0, 0⟩) /\ Below w.heap.size w w' := by
 go_enter Tryz.func81, Tryz.ntmps81
 go_wp2
 go_returns
 exact ⟨rfl, by go_grown⟩
theorem shapeL_none {op : Int} (h : op < 0 ∨ 22 < op) : shapeL op = ⟨false, false, false, 0, 0, 0, 0⟩ := by
 unfold shapeL
 rw [if_neg (by omega), if_neg (by omega), if_neg (by omega), if_neg (by omega), if_neg (by omega), if_neg (by omega), if_neg (by omega), if_neg (by omega), if_neg (by omega), if_neg (by omega)]
theorem shapeOf_any (op : Int) (w : World) : Calls Tryz.prog 81 #[.int .i64 op] w fun e w' => e = .returned (shapeL op).v /\ Below w.heap.size w w' := by
 by_cases hx : op < 0 ∨ 22 < op
 ·rw [shapeL_none hx]
  exact shapeOf_none op w (by simp; omega) (by simp; omega) (by simp; omega) (by simp; omega) (by simp; omega) (by simp; omega) (by simp; omega) (by simp; omega) (by simp; omega) (by simp; omega) (by simp; omega) (by simp; omega) (by simp; omega) (by simp; omega) (by simp; omega) (by simp; omega) (by simp; omega) (by simp; omega) (by simp; omega) (by simp; omega) (by simp; omega) (by simp; omega) (by simp; omega)
 have : op = 0 ∨ op = 1 ∨ op = 2 ∨ op = 3 ∨ op = 4 ∨ op = 5 ∨ op = 6 ∨ op = 7 ∨ op = 8 ∨ op = 9 ∨ op = 10 ∨ op = 11 ∨ op = 12 ∨ op = 13 ∨ op = 14 ∨ op = 15 ∨ op = 16 ∨ op = 17 ∨ op = 18 ∨ op = 19 ∨ op = 20 ∨ op = 21 ∨ op = 22 := by omega
 rcases this with rfl | rfl | rfl | rfl | rfl | rfl | rfl | rfl | rfl | rfl | rfl | rfl | rfl | rfl | rfl | rfl | rfl | rfl | rfl | rfl | rfl | rfl | rfl
 ·exact shapeOf_0 w
 ·exact shapeOf_1 w
 ·exact shapeOf_2 w
 ·exact shapeOf_3 w
 ·exact shapeOf_4 w
 ·exact shapeOf_5 w
 ·exact shapeOf_6 w
 ·exact shapeOf_7 w
 ·exact shapeOf_8 w
 ·exact shapeOf_9 w
 ·exact shapeOf_10 w
 ·exact shapeOf_11 w
 ·exact shapeOf_12 w
 ·exact shapeOf_13 w
 ·exact shapeOf_14 w
 ·exact shapeOf_15 w
 ·exact shapeOf_16 w
 ·exact shapeOf_17 w
 ·exact shapeOf_18 w
 ·exact shapeOf_19 w
 ·exact shapeOf_20 w
 ·exact shapeOf_21 w
 ·exact shapeOf_22 w
def fitsB (dest source : Bool) (fl fm il im d a b imm : Int) : Bool := (if dest then regB d else hasB fl fm d) && (regB a && (regB b || b == 8)) && (source || hasB il im imm)

theorem fits_t0 (fi so : Bool) (fl fm il im op d a b imm : Int) (w : World) (hX : (regB d) = false) : Calls Tryz.prog 97 #[Shape.v ⟨true, fi, so, fl, fm, il, im⟩, instV op d a b imm] w fun e w' => e = .returned (.bool (fitsB true so fl fm il im d a b imm)) /\ Below w.heap.size w w' := by
  go_enter Tryz.func97, Tryz.ntmps97
  go_wp2_with (first
   | (go_at_call 106; refine (register_any _ _).mono ?_; rintro e w' ⟨rfl, rfl⟩)
   | (go_at_call 107; refine (has_any _ _ _ _).mono ?_; rintro e w' ⟨rfl, rfl⟩))
  go_returns
  exact ⟨r2b (by simp [*, fitsB]), by go_grown⟩
theorem fits_t1 (fi so : Bool) (fl fm il im op d a b imm : Int) (w : World) (hX : (regB d) = true) (ha : regB a = false) : Calls Tryz.prog 97 #[Shape.v ⟨true, fi, so, fl, fm, il, im⟩, instV op d a b imm] w fun e w' => e = .returned (.bool (fitsB true so fl fm il im d a b imm)) /\ Below w.heap.size w w' := by
  go_enter Tryz.func97, Tryz.ntmps97
  go_wp2_with (first
   | (go_at_call 106; refine (register_any _ _).mono ?_; rintro e w' ⟨rfl, rfl⟩)
   | (go_at_call 107; refine (has_any _ _ _ _).mono ?_; rintro e w' ⟨rfl, rfl⟩))
  go_returns
  exact ⟨r2b (by simp [*, fitsB]), by go_grown⟩
theorem fits_t2t (fi so : Bool) (fl fm il im op d a b imm : Int) (w : World) (hX : (regB d) = true) (ha : regB a = true) (hb : regB b = true) : Calls Tryz.prog 97 #[Shape.v ⟨true, fi, true, fl, fm, il, im⟩, instV op d a b imm] w fun e w' => e = .returned (.bool (fitsB true true fl fm il im d a b imm)) /\ Below w.heap.size w w' := by
  go_enter Tryz.func97, Tryz.ntmps97
  go_wp2_with (first
   | (go_at_call 106; refine (register_any _ _).mono ?_; rintro e w' ⟨rfl, rfl⟩)
   | (go_at_call 107; refine (has_any _ _ _ _).mono ?_; rintro e w' ⟨rfl, rfl⟩))
  go_returns
  exact ⟨r2b (by simp [*, fitsB]), by go_grown⟩
theorem fits_t3t (fi so : Bool) (fl fm il im op d a b imm : Int) (w : World) (hX : (regB d) = true) (ha : regB a = true) (hb : regB b = false) (h8 : (b == 8) = true) : Calls Tryz.prog 97 #[Shape.v ⟨true, fi, true, fl, fm, il, im⟩, instV op d a b imm] w fun e w' => e = .returned (.bool (fitsB true true fl fm il im d a b imm)) /\ Below w.heap.size w w' := by
  go_enter Tryz.func97, Tryz.ntmps97
  go_wp2_with (first
   | (go_at_call 106; refine (register_any _ _).mono ?_; rintro e w' ⟨rfl, rfl⟩)
   | (go_at_call 107; refine (has_any _ _ _ _).mono ?_; rintro e w' ⟨rfl, rfl⟩))
  go_returns
  exact ⟨r2b (by simp [*, fitsB]), by go_grown⟩
theorem fits_t2f (fi so : Bool) (fl fm il im op d a b imm : Int) (w : World) (hX : (regB d) = true) (ha : regB a = true) (hb : regB b = true) : Calls Tryz.prog 97 #[Shape.v ⟨true, fi, false, fl, fm, il, im⟩, instV op d a b imm] w fun e w' => e = .returned (.bool (fitsB true false fl fm il im d a b imm)) /\ Below w.heap.size w w' := by
  go_enter Tryz.func97, Tryz.ntmps97
  go_wp2_with (first
   | (go_at_call 106; refine (register_any _ _).mono ?_; rintro e w' ⟨rfl, rfl⟩)
   | (go_at_call 107; refine (has_any _ _ _ _).mono ?_; rintro e w' ⟨rfl, rfl⟩))
  go_returns
  exact ⟨r2b (by simp [*, fitsB]), by go_grown⟩
theorem fits_t3f (fi so : Bool) (fl fm il im op d a b imm : Int) (w : World) (hX : (regB d) = true) (ha : regB a = true) (hb : regB b = false) (h8 : (b == 8) = true) : Calls Tryz.prog 97 #[Shape.v ⟨true, fi, false, fl, fm, il, im⟩, instV op d a b imm] w fun e w' => e = .returned (.bool (fitsB true false fl fm il im d a b imm)) /\ Below w.heap.size w w' := by
  go_enter Tryz.func97, Tryz.ntmps97
  go_wp2_with (first
   | (go_at_call 106; refine (register_any _ _).mono ?_; rintro e w' ⟨rfl, rfl⟩)
   | (go_at_call 107; refine (has_any _ _ _ _).mono ?_; rintro e w' ⟨rfl, rfl⟩))
  go_returns
  exact ⟨r2b (by simp [*, fitsB]), by go_grown⟩
theorem fits_t4 (fi so : Bool) (fl fm il im op d a b imm : Int) (w : World) (hX : (regB d) = true) (ha : regB a = true) (hb : regB b = false) (h8 : (b == 8) = false) : Calls Tryz.prog 97 #[Shape.v ⟨true, fi, so, fl, fm, il, im⟩, instV op d a b imm] w fun e w' => e = .returned (.bool (fitsB true so fl fm il im d a b imm)) /\ Below w.heap.size w w' := by
  go_enter Tryz.func97, Tryz.ntmps97
  go_wp2_with (first
   | (go_at_call 106; refine (register_any _ _).mono ?_; rintro e w' ⟨rfl, rfl⟩)
   | (go_at_call 107; refine (has_any _ _ _ _).mono ?_; rintro e w' ⟨rfl, rfl⟩))
  go_returns
  exact ⟨r2b (by simp [*, fitsB]), by go_grown⟩
theorem fits_f0 (fi so : Bool) (fl fm il im op d a b imm : Int) (w : World) (hX : (hasB fl fm d) = false) : Calls Tryz.prog 97 #[Shape.v ⟨false, fi, so, fl, fm, il, im⟩, instV op d a b imm] w fun e w' => e = .returned (.bool (fitsB false so fl fm il im d a b imm)) /\ Below w.heap.size w w' := by
  go_enter Tryz.func97, Tryz.ntmps97
  go_wp2_with (first
   | (go_at_call 106; refine (register_any _ _).mono ?_; rintro e w' ⟨rfl, rfl⟩)
   | (go_at_call 107; refine (has_any _ _ _ _).mono ?_; rintro e w' ⟨rfl, rfl⟩))
  go_returns
  exact ⟨r2b (by simp [*, fitsB]), by go_grown⟩
theorem fits_f1 (fi so : Bool) (fl fm il im op d a b imm : Int) (w : World) (hX : (hasB fl fm d) = true) (ha : regB a = false) : Calls Tryz.prog 97 #[Shape.v ⟨false, fi, so, fl, fm, il, im⟩, instV op d a b imm] w fun e w' => e = .returned (.bool (fitsB false so fl fm il im d a b imm)) /\ Below w.heap.size w w' := by
  go_enter Tryz.func97, Tryz.ntmps97
  go_wp2_with (first
   | (go_at_call 106; refine (register_any _ _).mono ?_; rintro e w' ⟨rfl, rfl⟩)
   | (go_at_call 107; refine (has_any _ _ _ _).mono ?_; rintro e w' ⟨rfl, rfl⟩))
  go_returns
  exact ⟨r2b (by simp [*, fitsB]), by go_grown⟩
theorem fits_f2t (fi so : Bool) (fl fm il im op d a b imm : Int) (w : World) (hX : (hasB fl fm d) = true) (ha : regB a = true) (hb : regB b = true) : Calls Tryz.prog 97 #[Shape.v ⟨false, fi, true, fl, fm, il, im⟩, instV op d a b imm] w fun e w' => e = .returned (.bool (fitsB false true fl fm il im d a b imm)) /\ Below w.heap.size w w' := by
  go_enter Tryz.func97, Tryz.ntmps97
  go_wp2_with (first
   | (go_at_call 106; refine (register_any _ _).mono ?_; rintro e w' ⟨rfl, rfl⟩)
   | (go_at_call 107; refine (has_any _ _ _ _).mono ?_; rintro e w' ⟨rfl, rfl⟩))
  go_returns
  exact ⟨r2b (by simp [*, fitsB]), by go_grown⟩
theorem fits_f3t (fi so : Bool) (fl fm il im op d a b imm : Int) (w : World) (hX : (hasB fl fm d) = true) (ha : regB a = true) (hb : regB b = false) (h8 : (b == 8) = true) : Calls Tryz.prog 97 #[Shape.v ⟨false, fi, true, fl, fm, il, im⟩, instV op d a b imm] w fun e w' => e = .returned (.bool (fitsB false true fl fm il im d a b imm)) /\ Below w.heap.size w w' := by
  go_enter Tryz.func97, Tryz.ntmps97
  go_wp2_with (first
   | (go_at_call 106; refine (register_any _ _).mono ?_; rintro e w' ⟨rfl, rfl⟩)
   | (go_at_call 107; refine (has_any _ _ _ _).mono ?_; rintro e w' ⟨rfl, rfl⟩))
  go_returns
  exact ⟨r2b (by simp [*, fitsB]), by go_grown⟩
theorem fits_f2f (fi so : Bool) (fl fm il im op d a b imm : Int) (w : World) (hX : (hasB fl fm d) = true) (ha : regB a = true) (hb : regB b = true) : Calls Tryz.prog 97 #[Shape.v ⟨false, fi, false, fl, fm, il, im⟩, instV op d a b imm] w fun e w' => e = .returned (.bool (fitsB false false fl fm il im d a b imm)) /\ Below w.heap.size w w' := by
  go_enter Tryz.func97, Tryz.ntmps97
  go_wp2_with (first
   | (go_at_call 106; refine (register_any _ _).mono ?_; rintro e w' ⟨rfl, rfl⟩)
   | (go_at_call 107; refine (has_any _ _ _ _).mono ?_; rintro e w' ⟨rfl, rfl⟩))
  go_returns
  exact ⟨r2b (by simp [*, fitsB]), by go_grown⟩
theorem fits_f3f (fi so : Bool) (fl fm il im op d a b imm : Int) (w : World) (hX : (hasB fl fm d) = true) (ha : regB a = true) (hb : regB b = false) (h8 : (b == 8) = true) : Calls Tryz.prog 97 #[Shape.v ⟨false, fi, false, fl, fm, il, im⟩, instV op d a b imm] w fun e w' => e = .returned (.bool (fitsB false false fl fm il im d a b imm)) /\ Below w.heap.size w w' := by
  go_enter Tryz.func97, Tryz.ntmps97
  go_wp2_with (first
   | (go_at_call 106; refine (register_any _ _).mono ?_; rintro e w' ⟨rfl, rfl⟩)
   | (go_at_call 107; refine (has_any _ _ _ _).mono ?_; rintro e w' ⟨rfl, rfl⟩))
  go_returns
  exact ⟨r2b (by simp [*, fitsB]), by go_grown⟩
theorem fits_f4 (fi so : Bool) (fl fm il im op d a b imm : Int) (w : World) (hX : (hasB fl fm d) = true) (ha : regB a = true) (hb : regB b = false) (h8 : (b == 8) = false) : Calls Tryz.prog 97 #[Shape.v ⟨false, fi, so, fl, fm, il, im⟩, instV op d a b imm] w fun e w' => e = .returned (.bool (fitsB false so fl fm il im d a b imm)) /\ Below w.heap.size w w' := by
  go_enter Tryz.func97, Tryz.ntmps97
  go_wp2_with (first
   | (go_at_call 106; refine (register_any _ _).mono ?_; rintro e w' ⟨rfl, rfl⟩)
   | (go_at_call 107; refine (has_any _ _ _ _).mono ?_; rintro e w' ⟨rfl, rfl⟩))
  go_returns
  exact ⟨r2b (by simp [*, fitsB]), by go_grown⟩
theorem fits_any (s : Shape) (op d a b imm : Int) (w : World) : Calls Tryz.prog 97 #[s.v, instV op d a b imm] w fun e w' => e = .returned (.bool (fitsB s.dest s.source s.farL s.farM s.immL s.immM d a b imm)) /\ Below w.heap.size w w' := by
 obtain ⟨de, fi, so, fl, fm, il, im⟩ := s
 cases de
 ·cases hX : hasB fl fm d
  ·exact fits_f0 fi so fl fm il im op d a b imm w hX
  ·cases ha : regB a
   ·exact fits_f1 fi so fl fm il im op d a b imm w hX ha
   ·cases hb : regB b
    ·cases h8 : (b == 8)
     ·exact fits_f4 fi so fl fm il im op d a b imm w hX ha hb h8
     ·cases so
      ·exact fits_f3f fi false fl fm il im op d a b imm w hX ha hb h8
      ·exact fits_f3t fi true fl fm il im op d a b imm w hX ha hb h8
    ·cases so
     ·exact fits_f2f fi false fl fm il im op d a b imm w hX ha hb
     ·exact fits_f2t fi true fl fm il im op d a b imm w hX ha hb
 ·cases hX : regB d
  ·exact fits_t0 fi so fl fm il im op d a b imm w hX
  ·cases ha : regB a
   ·exact fits_t1 fi so fl fm il im op d a b imm w hX ha
   ·cases hb : regB b
    ·cases h8 : (b == 8)
     ·exact fits_t4 fi so fl fm il im op d a b imm w hX ha hb h8
     ·cases so
      ·exact fits_t3f fi false fl fm il im op d a b imm w hX ha hb h8
      ·exact fits_t3t fi true fl fm il im op d a b imm w hX ha hb h8
    ·cases so
     ·exact fits_t2f fi false fl fm il im op d a b imm w hX ha hb
     ·exact fits_t2t fi true fl fm il im op d a b imm w hX ha hb
theorem shape_A {op : Int} (h : op = 0 ∨ op = 11) : shapeL op = ⟨true, false, true, 0, 0, 0, 0⟩ := by unfold shapeL; rw [if_pos h]
theorem shape_B {op : Int} (h : 1 <= op /\ op <= 10) : shapeL op = ⟨true, true, true, 0, 0, 0, 0⟩ := by unfold shapeL; rw [if_neg (by omega), if_pos h]
theorem shape_G {op : Int} (h : 16 <= op /\ op <= 19) : shapeL op = ⟨false, true, true, 0, 63, 0, 0⟩ := by unfold shapeL; rw [if_neg (by omega), if_neg (by omega), if_neg (by omega), if_neg (by omega), if_neg (by omega), if_neg (by omega), if_pos h]
theorem right_A {op d a b imm : Int} (h : op = 0 ∨ op = 11) : rightB op d a b imm = ((a == 0 && (b == 8 || imm == 0)) && fitsB true true 0 0 0 0 d a b imm) := by
 rcases h with rfl | rfl
 all_goals
  simp only [rightB_0, rightB_11, regB, sourcedB, fitsB, hasB]; rw [Bool.eq_iff_iff]; simp; omega
theorem right_B {op d a b imm : Int} (h : 1 <= op /\ op <= 10) : rightB op d a b imm = ((b == 8 || imm == 0) && fitsB true true 0 0 0 0 d a b imm) := by
 rw [rightB_three h]; simp only [regB, sourcedB, fitsB, hasB]; rw [Bool.eq_iff_iff]; simp; omega
theorem right_C {d a b imm : Int} : rightB 12 d a b imm = ((d == 0 && (b == 8 || imm == 0)) && fitsB false true 0 0 0 0 d a b imm) := by
 simp only [rightB_12, regB, sourcedB, fitsB, hasB]; rw [Bool.eq_iff_iff]; simp; omega
theorem right_D {d a b imm : Int} : rightB 13 d a b imm = ((a == 0 && b == 0) && fitsB true false 0 0 0 1 d a b imm) := by
 simp only [rightB_13, regB, fitsB, hasB]; rw [Bool.eq_iff_iff]; simp; omega
theorem right_E {d a b imm : Int} : rightB 14 d a b imm = ((a == 0 && b == 0) && fitsB true false 0 0 0 3 d a b imm) := by
 simp only [rightB_14, regB, fitsB, hasB]; rw [Bool.eq_iff_iff]; simp; omega
theorem right_F {d a b imm : Int} : rightB 15 d a b imm = ((a == 0 && (b == 0 && imm == 0)) && fitsB false false 0 63 0 0 d a b imm) := by
 simp only [rightB_15, regB, fitsB, hasB]; rw [Bool.eq_iff_iff]; simp; omega
theorem right_G {op d a b imm : Int} (h : 16 <= op /\ op <= 19) : rightB op d a b imm = ((b == 8 || imm == 0) && fitsB false true 0 63 0 0 d a b imm) := by
 rw [rightB_jump h]; simp only [regB, sourcedB, fitsB, hasB]; rw [Bool.eq_iff_iff]; simp; omega
theorem right_H {d a b imm : Int} : rightB 20 d a b imm = ((b == 0) && fitsB false false 1 63 1 255 d a b imm) := by
 simp only [rightB_20, regB, fitsB, hasB]; rw [Bool.eq_iff_iff]; simp; omega
theorem right_I {d a b imm : Int} : rightB 21 d a b imm = ((d == 0 && (a == 0 && b == 0)) && fitsB false false 0 0 0 6 d a b imm) := by
 simp only [rightB_21, regB, fitsB, hasB]; rw [Bool.eq_iff_iff]; simp; omega
theorem right_J {d a b imm : Int} : rightB 22 d a b imm = ((d == 0 && (b == 0 && imm == 0)) && fitsB false false 0 0 0 0 d a b imm) := by
 simp only [rightB_22, regB, fitsB, hasB]; rw [Bool.eq_iff_iff]; simp; omega

def Shape.zero (s : Shape) : Bool := s.dest == false && (s.first == false && (s.source == false && (decide (s.farL = 0) && (decide (s.farM = 0) && (decide (s.immL = 0) && decide (s.immM = 0))))))
structure In where
 op : Int
 d : Int
 a : Int
 b : Int
 imm : Int
def In.nil : In := ⟨0, 0, 0, 0, 0⟩
abbrev In.v (i : In) : Value := instV i.op i.d i.a i.b i.imm
def In.right (i : In) : Bool := rightB i.op i.d i.a i.b i.imm
def In.wf (i : In) : Prop := (Lit.int .i64 i.op).wf = true /\ (Lit.int .i64 i.d).wf = true /\ (Lit.int .i64 i.a).wf = true /\ (Lit.int .i64 i.b).wf = true /\ (Lit.int .i64 i.imm).wf = true
def At (w : World) (b off : Nat) (i : In) : Prop := w.cell? ⟨b, off, none⟩ = some (.int .i64 i.op) /\ w.cell? ⟨b, off + 1, none⟩ = some (.int .i64 i.d) /\ w.cell? ⟨b, off + 2, none⟩ = some (.int .i64 i.a) /\ w.cell? ⟨b, off + 3, none⟩ = some (.int .i64 i.b) /\ w.cell? ⟨b, off + 4, none⟩ = some (.int .i64 i.imm)
theorem At.below {w w' : World} {b off B : Nat} {i : In} (h : At w b off i) (hb : Below B w w') (hB : b < B) : At w' b off i := by
 unfold At
 rw [hb.cell (p := ⟨b, off, none⟩) hB, hb.cell (p := ⟨b, off + 1, none⟩) hB, hb.cell (p := ⟨b, off + 2, none⟩) hB, hb.cell (p := ⟨b, off + 3, none⟩) hB, hb.cell (p := ⟨b, off + 4, none⟩) hB]
 exact h
def SeesI (w : World) (v : Value) (xs : List In) : Prop :=
 ∃ a cap, v = .slice a xs.length cap /\ xs.length <= cap /\ cap <= maxLen /\ (a = none -> cap = 0) /\
  (xs ≠ [] -> ∃ b off, a = some ⟨b, off, none⟩ /\ b < w.heap.size /\ ∀ k, k < xs.length -> At w b (off + k * 5) (xs.getD k In.nil))
theorem SeesI.below {w w' : World} {v : Value} {xs : List In} (h : SeesI w v xs) (hb : Below w.heap.size w w') : SeesI w' v xs := by
 obtain ⟨a, cap, rfl, h1, h2, h3, h4⟩ := h
 refine ⟨a, cap, rfl, h1, h2, h3, fun hne => ?_⟩
 obtain ⟨b, off, rfl, hlt, hat⟩ := h4 hne
 exact ⟨b, off, rfl, Nat.lt_of_lt_of_le hlt hb.size, fun k hk => (hat k hk).below hb hlt⟩
theorem zero_run {α : Type} (s : Shape) (f : Bool -> α) : (if s.dest = true then f false else if s.first = true then f false else if s.source = true then f false else if s.farL = 0 then (if s.farM = 0 then (if s.immL = 0 then (if s.immM = 0 then f true else f false) else f false) else f false) else f false) = f s.zero := by
 obtain ⟨de, fi, so, fl, fm, il, im⟩ := s
 by_cases h1 : fl = 0 <;> by_cases h2 : fm = 0 <;> by_cases h3 : il = 0 <;> by_cases h4 : im = 0 <;> cases de <;> cases fi <;> cases so <;> simp [Shape.zero, h1, h2, h3, h4]
def neI (i j : In) : Bool := !(i.op == j.op && (i.d == j.d && (i.a == j.a && (i.b == j.b && i.imm == j.imm))))
theorem ne_run {α : Type} (i j : In) (f : Bool -> α) : (if i.op = j.op then (if i.d = j.d then (if i.a = j.a then (if i.b = j.b then (if i.imm = j.imm then f false else f true) else f true) else f true) else f true) else f true) = f (neI i j) := by
  by_cases h0 : i.op = j.op
  case neg => rw [if_neg h0]; have e : (i.op == j.op) = false := by simp [h0]
              simp [neI, e]
  rw [if_pos h0]
  have e0 : (i.op == j.op) = true := by simp [h0]
  by_cases h1 : i.d = j.d
  case neg => rw [if_neg h1]; have e : (i.d == j.d) = false := by simp [h1]
              simp [neI, e]
  rw [if_pos h1]
  have e1 : (i.d == j.d) = true := by simp [h1]
  by_cases h2 : i.a = j.a
  case neg => rw [if_neg h2]; have e : (i.a == j.a) = false := by simp [h2]
              simp [neI, e]
  rw [if_pos h2]
  have e2 : (i.a == j.a) = true := by simp [h2]
  by_cases h3 : i.b = j.b
  case neg => rw [if_neg h3]; have e : (i.b == j.b) = false := by simp [h3]
              simp [neI, e]
  rw [if_pos h3]
  have e3 : (i.b == j.b) = true := by simp [h3]
  by_cases h4 : i.imm = j.imm
  case neg => rw [if_neg h4]; have e : (i.imm == j.imm) = false := by simp [h4]
              simp [neI, e]
  rw [if_pos h4]
  have e4 : (i.imm == j.imm) = true := by simp [h4]
  simp [neI, e0, e1, e2, e3, e4]
abbrev Held (n4 n5 : Nat) (op d a b imm : Int) (s : Shape) (w : World) : Prop := (w.cell? ⟨n4, 0, none⟩ = some (.int .i64 op) /\ w.cell? ⟨n4, 1, none⟩ = some (.int .i64 d) /\ w.cell? ⟨n4, 2, none⟩ = some (.int .i64 a) /\ w.cell? ⟨n4, 3, none⟩ = some (.int .i64 b) /\ w.cell? ⟨n4, 4, none⟩ = some (.int .i64 imm)) /\
 w.cell? ⟨n5, 0, none⟩ = some (.bool s.dest) /\ w.cell? ⟨n5, 1, none⟩ = some (.bool s.first) /\ w.cell? ⟨n5, 2, none⟩ = some (.bool s.source) /\ w.cell? ⟨n5, 3, none⟩ = some (.int .i64 s.farL) /\ w.cell? ⟨n5, 4, none⟩ = some (.int .i64 s.farM) /\ w.cell? ⟨n5, 5, none⟩ = some (.int .i64 s.immL) /\ w.cell? ⟨n5, 6, none⟩ = some (.int .i64 s.immM)
theorem Held.below {n4 n5 B : Nat} {op d a b imm : Int} {s : Shape} {w w' : World} (h : Held n4 n5 op d a b imm s w) (hb : Below B w w') (h4 : n4 < B) (h5 : n5 < B) : Held n4 n5 op d a b imm s w' := by
 unfold Held
 rw [hb.cell (p := ⟨n4, 0, none⟩) h4, hb.cell (p := ⟨n4, 1, none⟩) h4, hb.cell (p := ⟨n4, 2, none⟩) h4, hb.cell (p := ⟨n4, 3, none⟩) h4, hb.cell (p := ⟨n4, 4, none⟩) h4, hb.cell (p := ⟨n5, 0, none⟩) h5, hb.cell (p := ⟨n5, 1, none⟩) h5, hb.cell (p := ⟨n5, 2, none⟩) h5, hb.cell (p := ⟨n5, 3, none⟩) h5, hb.cell (p := ⟨n5, 4, none⟩) h5, hb.cell (p := ⟨n5, 5, none⟩) h5, hb.cell (p := ⟨n5, 6, none⟩) h5]
 exact h
theorem all_take {xs : List In} {k : Nat} (hk : k < xs.length) : (xs.take (k + 1)).all In.right = ((xs.take k).all In.right && (xs.getD k In.nil).right) := by
 have e : xs.getD k In.nil = xs[k] := by simp [hk]
 rw [e, List.take_succ_eq_append_getElem hk, List.all_append]
 simp only [List.all_cons, List.all_nil, Bool.and_true]
theorem all_false {xs : List In} {k : Nat} (hk : k < xs.length) (h : (xs.getD k In.nil).right = false) : xs.all In.right = false := by
 have e : xs.getD k In.nil = xs[k] := by simp [hk]
 rw [e] at h
 rw [Bool.eq_false_iff]
 intro hall
 rw [List.all_eq_true.1 hall _ (List.getElem_mem hk)] at h
 cases h
end Go.Proofs.YtkondcjmhlppiaaGreat
