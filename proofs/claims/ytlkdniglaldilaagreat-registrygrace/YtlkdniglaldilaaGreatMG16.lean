/-
  O2Small
  O2Fits
  O2Plain
  F7Plain
  F7RPlain
  O2Named
  O2Like
-/
import Derived.Test.YtlkdniglaldilaaGreatMG5
import Derived.Handy
namespace Go.Proofs.YtlkdniglaldilaaGreat
open Go.RowKit
set_option linter.unusedVariables false
set_option maxHeartbeats 800000
set_option linter.unusedSimpArgs false
theorem register_any (n : Int) (w : World) : Calls Tryz.prog 132 #[.int .i64 n] w fun e w' => e = .returned (.bool (regB n)) /\ w = w' := by
 unfold regB
 by_cases h : 0 <= n
 ·go_enter Tryz.func132, Tryz.ntmps132
  go_wp2
  go_ret
  exact ⟨r2b (by simp [h]; omega), rfl⟩
 ·go_enter Tryz.func132, Tryz.ntmps132
  go_wp2
  go_ret
  exact ⟨r2b (by simp; omega), rfl⟩

abbrev boundsV (l m : Int) : Value := .agg #[.int .i64 l, .int .i64 m]
abbrev boundsO (l m : Int) : Obj := .cells #[.int .i64 l, .int .i64 m] 188
def hasB (l m n : Int) : Bool := decide (l <= n) && decide (n <= m)
theorem has_any (l m n : Int) (w : World) : Calls Tryz.prog 133 #[boundsV l m, .int .i64 n] w fun e w' => e = .returned (.bool (hasB l m n)) /\ w.alloc (boundsO l m) = w' := by
 unfold hasB
 by_cases h : l <= n
 ·go_enter Tryz.func133, Tryz.ntmps133
  go_wp2
  go_ret
  exact ⟨r2b (by simp [h]), rfl⟩
 ·go_enter Tryz.func133, Tryz.ntmps133
  go_wp2
  go_ret
  exact ⟨r2b (by simp; omega), rfl⟩

structure Shape where
 dest : Bool
 first : Bool
 source : Bool
 farL : Int
 farM : Int
 immL : Int
 immM : Int
abbrev Shape.v (s : Shape) : Value := .agg #[.bool s.dest, .bool s.first, .bool s.source, .int .i64 s.farL, .int .i64 s.farM, .int .i64 s.immL, .int .i64 s.immM]
def shapeL (op : Int) : Shape :=
 if op = 0 ∨ op = 11 then ⟨true, false, true, 0, 0, 0, 0⟩
 else if 1 <= op /\ op <= 10 then ⟨true, true, true, 0, 0, 0, 0⟩
 else if op = 12 then ⟨false, true, true, 0, 0, 0, 0⟩
 else if op = 13 then ⟨true, false, false, 0, 0, 0, 1⟩
 else if op = 14 then ⟨true, false, false, 0, 0, 0, 3⟩
 else if op = 15 then ⟨false, false, false, 0, 63, 0, 0⟩
 else if 16 <= op /\ op <= 19 then ⟨false, true, true, 0, 63, 0, 0⟩
 else if op = 20 then ⟨false, true, false, 1, 63, 1, 255⟩
 else if op = 21 then ⟨false, false, false, 0, 0, 0, 6⟩
 else if op = 22 then ⟨false, true, false, 0, 0, 0, 0⟩
 else ⟨false, false, false, 0, 0, 0, 0⟩

theorem shapeOf_0 (w : World) : Calls Tryz.prog 114 #[.int .i64 0] w fun e w' => e = .returned (shapeL 0).v /\ Below w.heap.size w w' := by
 go_enter Tryz.func114, Tryz.ntmps114
 go_wp2
 go_returns
 exact ⟨rfl, by go_grown⟩
theorem shapeOf_1 (w : World) : Calls Tryz.prog 114 #[.int .i64 1] w fun e w' => e = .returned (shapeL 1).v /\ Below w.heap.size w w' := by
 go_enter Tryz.func114, Tryz.ntmps114
 go_wp2
 go_returns
 exact ⟨rfl, by go_grown⟩
theorem shapeOf_2 (w : World) : Calls Tryz.prog 114 #[.int .i64 2] w fun e w' => e = .returned (shapeL 2).v /\ Below w.heap.size w w' := by
 go_enter Tryz.func114, Tryz.ntmps114
 go_wp2
 go_returns
 exact ⟨rfl, by go_grown⟩
theorem shapeOf_3 (w : World) : Calls Tryz.prog 114 #[.int .i64 3] w fun e w' => e = .returned (shapeL 3).v /\ Below w.heap.size w w' := by
 go_enter Tryz.func114, Tryz.ntmps114
 go_wp2
 go_returns
 exact ⟨rfl, by go_grown⟩
theorem shapeOf_4 (w : World) : Calls Tryz.prog 114 #[.int .i64 4] w fun e w' => e = .returned (shapeL 4).v /\ Below w.heap.size w w' := by
 go_enter Tryz.func114, Tryz.ntmps114
 go_wp2
 go_returns
 exact ⟨rfl, by go_grown⟩
theorem shapeOf_5 (w : World) : Calls Tryz.prog 114 #[.int .i64 5] w fun e w' => e = .returned (shapeL 5).v /\ Below w.heap.size w w' := by
 go_enter Tryz.func114, Tryz.ntmps114
 go_wp2
 go_returns
 exact ⟨rfl, by go_grown⟩
theorem shapeOf_6 (w : World) : Calls Tryz.prog 114 #[.int .i64 6] w fun e w' => e = .returned (shapeL 6).v /\ Below w.heap.size w w' := by
 go_enter Tryz.func114, Tryz.ntmps114
 go_wp2
 go_returns
 exact ⟨rfl, by go_grown⟩
theorem shapeOf_7 (w : World) : Calls Tryz.prog 114 #[.int .i64 7] w fun e w' => e = .returned (shapeL 7).v /\ Below w.heap.size w w' := by
 go_enter Tryz.func114, Tryz.ntmps114
 go_wp2
 go_returns
 exact ⟨rfl, by go_grown⟩
theorem shapeOf_8 (w : World) : Calls Tryz.prog 114 #[.int .i64 8] w fun e w' => e = .returned (shapeL 8).v /\ Below w.heap.size w w' := by
 go_enter Tryz.func114, Tryz.ntmps114
 go_wp2
 go_returns
 exact ⟨rfl, by go_grown⟩
theorem shapeOf_9 (w : World) : Calls Tryz.prog 114 #[.int .i64 9] w fun e w' => e = .returned (shapeL 9).v /\ Below w.heap.size w w' := by
 go_enter Tryz.func114, Tryz.ntmps114
 go_wp2
 go_returns
 exact ⟨rfl, by go_grown⟩
theorem shapeOf_10 (w : World) : Calls Tryz.prog 114 #[.int .i64 10] w fun e w' => e = .returned (shapeL 10).v /\ Below w.heap.size w w' := by
 go_enter Tryz.func114, Tryz.ntmps114
 go_wp2
 go_returns
 exact ⟨rfl, by go_grown⟩
theorem shapeOf_11 (w : World) : Calls Tryz.prog 114 #[.int .i64 11] w fun e w' => e = .returned (shapeL 11).v /\ Below w.heap.size w w' := by
 go_enter Tryz.func114, Tryz.ntmps114
 go_wp2
 go_returns
 exact ⟨rfl, by go_grown⟩
theorem shapeOf_12 (w : World) : Calls Tryz.prog 114 #[.int .i64 12] w fun e w' => e = .returned (shapeL 12).v /\ Below w.heap.size w w' := by
 go_enter Tryz.func114, Tryz.ntmps114
 go_wp2
 go_returns
 exact ⟨rfl, by go_grown⟩
theorem shapeOf_13 (w : World) : Calls Tryz.prog 114 #[.int .i64 13] w fun e w' => e = .returned (shapeL 13).v /\ Below w.heap.size w w' := by
 go_enter Tryz.func114, Tryz.ntmps114
 go_wp2
 go_returns
 exact ⟨rfl, by go_grown⟩
theorem shapeOf_14 (w : World) : Calls Tryz.prog 114 #[.int .i64 14] w fun e w' => e = .returned (shapeL 14).v /\ Below w.heap.size w w' := by
 go_enter Tryz.func114, Tryz.ntmps114
 go_wp2
 go_returns
 exact ⟨rfl, by go_grown⟩
theorem shapeOf_15 (w : World) : Calls Tryz.prog 114 #[.int .i64 15] w fun e w' => e = .returned (shapeL 15).v /\ Below w.heap.size w w' := by
 go_enter Tryz.func114, Tryz.ntmps114
 go_wp2
 go_returns
 exact ⟨rfl, by go_grown⟩
theorem shapeOf_16 (w : World) : Calls Tryz.prog 114 #[.int .i64 16] w fun e w' => e = .returned (shapeL 16).v /\ Below w.heap.size w w' := by
 go_enter Tryz.func114, Tryz.ntmps114
 go_wp2
 go_returns
 exact ⟨rfl, by go_grown⟩
theorem shapeOf_17 (w : World) : Calls Tryz.prog 114 #[.int .i64 17] w fun e w' => e = .returned (shapeL 17).v /\ Below w.heap.size w w' := by
 go_enter Tryz.func114, Tryz.ntmps114
 go_wp2
 go_returns
 exact ⟨rfl, by go_grown⟩
theorem shapeOf_18 (w : World) : Calls Tryz.prog 114 #[.int .i64 18] w fun e w' => e = .returned (shapeL 18).v /\ Below w.heap.size w w' := by
 go_enter Tryz.func114, Tryz.ntmps114
 go_wp2
 go_returns
 exact ⟨rfl, by go_grown⟩
theorem shapeOf_19 (w : World) : Calls Tryz.prog 114 #[.int .i64 19] w fun e w' => e = .returned (shapeL 19).v /\ Below w.heap.size w w' := by
 go_enter Tryz.func114, Tryz.ntmps114
 go_wp2
 go_returns
 exact ⟨rfl, by go_grown⟩
theorem shapeOf_20 (w : World) : Calls Tryz.prog 114 #[.int .i64 20] w fun e w' => e = .returned (shapeL 20).v /\ Below w.heap.size w w' := by
 go_enter Tryz.func114, Tryz.ntmps114
 go_wp2
 go_returns
 exact ⟨rfl, by go_grown⟩
theorem shapeOf_21 (w : World) : Calls Tryz.prog 114 #[.int .i64 21] w fun e w' => e = .returned (shapeL 21).v /\ Below w.heap.size w w' := by
 go_enter Tryz.func114, Tryz.ntmps114
 go_wp2
 go_returns
 exact ⟨rfl, by go_grown⟩
theorem shapeOf_22 (w : World) : Calls Tryz.prog 114 #[.int .i64 22] w fun e w' => e = .returned (shapeL 22).v /\ Below w.heap.size w w' := by
 go_enter Tryz.func114, Tryz.ntmps114
 go_wp2
 go_returns
 exact ⟨rfl, by go_grown⟩
theorem shapeOf_none (op : Int) (w : World) (h0 : (op == 0) = false) (h1 : (op == 1) = false) (h2 : (op == 2) = false) (h3 : (op == 3) = false) (h4 : (op == 4) = false) (h5 : (op == 5) = false) (h6 : (op == 6) = false) (h7 : (op == 7) = false) (h8 : (op == 8) = false) (h9 : (op == 9) = false) (h10 : (op == 10) = false) (h11 : (op == 11) = false) (h12 : (op == 12) = false) (h13 : (op == 13) = false) (h14 : (op == 14) = false) (h15 : (op == 15) = false) (h16 : (op == 16) = false) (h17 : (op == 17) = false) (h18 : (op == 18) = false) (h19 : (op == 19) = false) (h20 : (op == 20) = false) (h21 : (op == 21) = false) (h22 : (op == 22) = false) : Calls Tryz.prog 114 #[.int .i64 op] w fun e w' => e = .returned (Shape.v ⟨false, false, false, 0, 0, 0, 0⟩) /\ Below w.heap.size w w' := by
 go_enter Tryz.func114, Tryz.ntmps114
 go_wp2
 go_returns
 exact ⟨rfl, by go_grown⟩
theorem shapeL_none {op : Int} (h : op < 0 ∨ 22 < op) : shapeL op = ⟨false, false, false, 0, 0, 0, 0⟩ := by
 unfold shapeL
 rw [if_neg (by omega), if_neg (by omega), if_neg (by omega), if_neg (by omega), if_neg (by omega), if_neg (by omega), if_neg (by omega), if_neg (by omega), if_neg (by omega), if_neg (by omega)]
theorem shapeOf_any (op : Int) (w : World) : Calls Tryz.prog 114 #[.int .i64 op] w fun e w' => e = .returned (shapeL op).v /\ Below w.heap.size w w' := by
 by_cases hx : op < 0 ∨ 22 < op
 ·rw [shapeL_none hx]
  exact shapeOf_none op w (by simp; omega) (by simp; omega) (by simp; omega) (by simp; omega) (by simp; omega) (by simp; omega) (by simp; omega) (by simp; omega) (by simp; omega) (by simp; omega) (by simp; omega) (by simp; omega) (by simp; omega) (by simp; omega) (by simp; omega) (by simp; omega) (by simp; omega) (by simp; omega) (by simp; omega) (by simp; omega) (by simp; omega) (by simp; omega) (by simp; omega)
 have : op = 0 ∨ op = 1 ∨ op = 2 ∨ op = 3 ∨ op = 4 ∨ op = 5 ∨ op = 6 ∨ op = 7 ∨ op = 8 ∨ op = 9 ∨ op = 10 ∨ op = 11 ∨ op = 12 ∨ op = 13 ∨ op = 14 ∨ op = 15 ∨ op = 16 ∨ op = 17 ∨ op = 18 ∨ op = 19 ∨ op = 20 ∨ op = 21 ∨ op = 22 := by omega
 rcases this with rfl | rfl | rfl | rfl | rfl | rfl | rfl | rfl | rfl | rfl | rfl | rfl | rfl | rfl | rfl | rfl | rfl | rfl | rfl | rfl | rfl | rfl | rfl
 ·exact shapeOf_0 w
 ·exact shapeOf_1 w
 ·exact shapeOf_2 w
 ·exact shapeOf_3 w
 ·exact shapeOf_4 w
 ·exact shapeOf_5 w
 ·exact shapeOf_6 w
 ·exact shapeOf_7 w
 ·exact shapeOf_8 w
 ·exact shapeOf_9 w
 ·exact shapeOf_10 w
 ·exact shapeOf_11 w
 ·exact shapeOf_12 w
 ·exact shapeOf_13 w
 ·exact shapeOf_14 w
 ·exact shapeOf_15 w
 ·exact shapeOf_16 w
 ·exact shapeOf_17 w
 ·exact shapeOf_18 w
 ·exact shapeOf_19 w
 ·exact shapeOf_20 w
 ·exact shapeOf_21 w
 ·exact shapeOf_22 w
def fitsB (dest source : Bool) (fl fm il im d a b imm : Int) : Bool := (if dest then regB d else hasB fl fm d) && (regB a && (regB b || b == 8)) && (source || hasB il im imm)

theorem fits_t0 (fi so : Bool) (fl fm il im op d a b imm : Int) (w : World) (hX : (regB d) = false) : Calls Tryz.prog 116 #[Shape.v ⟨true, fi, so, fl, fm, il, im⟩, instV op d a b imm] w fun e w' => e = .returned (.bool (fitsB true so fl fm il im d a b imm)) /\ Below w.heap.size w w' := by
  go_enter Tryz.func116, Tryz.ntmps116
  go_wp2_with (first
   | (go_at_call 132; refine (register_any _ _).mono ?_; rintro e w' ⟨rfl, rfl⟩)
   | (go_at_call 133; refine (has_any _ _ _ _).mono ?_; rintro e w' ⟨rfl, rfl⟩))
  go_returns
  exact ⟨r2b (by simp [*, fitsB]), by go_grown⟩
theorem fits_t1 (fi so : Bool) (fl fm il im op d a b imm : Int) (w : World) (hX : (regB d) = true) (ha : regB a = false) : Calls Tryz.prog 116 #[Shape.v ⟨true, fi, so, fl, fm, il, im⟩, instV op d a b imm] w fun e w' => e = .returned (.bool (fitsB true so fl fm il im d a b imm)) /\ Below w.heap.size w w' := by
  go_enter Tryz.func116, Tryz.ntmps116
  go_wp2_with (first
   | (go_at_call 132; refine (register_any _ _).mono ?_; rintro e w' ⟨rfl, rfl⟩)
   | (go_at_call 133; refine (has_any _ _ _ _).mono ?_; rintro e w' ⟨rfl, rfl⟩))
  go_returns
  exact ⟨r2b (by simp [*, fitsB]), by go_grown⟩
theorem fits_t2t (fi so : Bool) (fl fm il im op d a b imm : Int) (w : World) (hX : (regB d) = true) (ha : regB a = true) (hb : regB b = true) : Calls Tryz.prog 116 #[Shape.v ⟨true, fi, true, fl, fm, il, im⟩, instV op d a b imm] w fun e w' => e = .returned (.bool (fitsB true true fl fm il im d a b imm)) /\ Below w.heap.size w w' := by
  go_enter Tryz.func116, Tryz.ntmps116
  go_wp2_with (first
   | (go_at_call 132; refine (register_any _ _).mono ?_; rintro e w' ⟨rfl, rfl⟩)
   | (go_at_call 133; refine (has_any _ _ _ _).mono ?_; rintro e w' ⟨rfl, rfl⟩))
  go_returns
  exact ⟨r2b (by simp [*, fitsB]), by go_grown⟩
theorem fits_t3t (fi so : Bool) (fl fm il im op d a b imm : Int) (w : World) (hX : (regB d) = true) (ha : regB a = true) (hb : regB b = false) (h8 : (b == 8) = true) : Calls Tryz.prog 116 #[Shape.v ⟨true, fi, true, fl, fm, il, im⟩, instV op d a b imm] w fun e w' => e = .returned (.bool (fitsB true true fl fm il im d a b imm)) /\ Below w.heap.size w w' := by
  go_enter Tryz.func116, Tryz.ntmps116
  go_wp2_with (first
   | (go_at_call 132; refine (register_any _ _).mono ?_; rintro e w' ⟨rfl, rfl⟩)
   | (go_at_call 133; refine (has_any _ _ _ _).mono ?_; rintro e w' ⟨rfl, rfl⟩))
  go_returns
  exact ⟨r2b (by simp [*, fitsB]), by go_grown⟩
theorem fits_t2f (fi so : Bool) (fl fm il im op d a b imm : Int) (w : World) (hX : (regB d) = true) (ha : regB a = true) (hb : regB b = true) : Calls Tryz.prog 116 #[Shape.v ⟨true, fi, false, fl, fm, il, im⟩, instV op d a b imm] w fun e w' => e = .returned (.bool (fitsB true false fl fm il im d a b imm)) /\ Below w.heap.size w w' := by
  go_enter Tryz.func116, Tryz.ntmps116
  go_wp2_with (first
   | (go_at_call 132; refine (register_any _ _).mono ?_; rintro e w' ⟨rfl, rfl⟩)
   | (go_at_call 133; refine (has_any _ _ _ _).mono ?_; rintro e w' ⟨rfl, rfl⟩))
  go_returns
  exact ⟨r2b (by simp [*, fitsB]), by go_grown⟩
theorem fits_t3f (fi so : Bool) (fl fm il im op d a b imm : Int) (w : World) (hX : (regB d) = true) (ha : regB a = true) (hb : regB b = false) (h8 : (b == 8) = true) : Calls Tryz.prog 116 #[Shape.v ⟨true, fi, false, fl, fm, il, im⟩, instV op d a b imm] w fun e w' => e = .returned (.bool (fitsB true false fl fm il im d a b imm)) /\ Below w.heap.size w w' := by
  go_enter Tryz.func116, Tryz.ntmps116
  go_wp2_with (first
   | (go_at_call 132; refine (register_any _ _).mono ?_; rintro e w' ⟨rfl, rfl⟩)
   | (go_at_call 133; refine (has_any _ _ _ _).mono ?_; rintro e w' ⟨rfl, rfl⟩))
  go_returns
  exact ⟨r2b (by simp [*, fitsB]), by go_grown⟩
theorem fits_t4 (fi so : Bool) (fl fm il im op d a b imm : Int) (w : World) (hX : (regB d) = true) (ha : regB a = true) (hb : regB b = false) (h8 : (b == 8) = false) : Calls Tryz.prog 116 #[Shape.v ⟨true, fi, so, fl, fm, il, im⟩, instV op d a b imm] w fun e w' => e = .returned (.bool (fitsB true so fl fm il im d a b imm)) /\ Below w.heap.size w w' := by
  go_enter Tryz.func116, Tryz.ntmps116
  go_wp2_with (first
   | (go_at_call 132; refine (register_any _ _).mono ?_; rintro e w' ⟨rfl, rfl⟩)
   | (go_at_call 133; refine (has_any _ _ _ _).mono ?_; rintro e w' ⟨rfl, rfl⟩))
  go_returns
  exact ⟨r2b (by simp [*, fitsB]), by go_grown⟩
theorem fits_f0 (fi so : Bool) (fl fm il im op d a b imm : Int) (w : World) (hX : (hasB fl fm d) = false) : Calls Tryz.prog 116 #[Shape.v ⟨false, fi, so, fl, fm, il, im⟩, instV op d a b imm] w fun e w' => e = .returned (.bool (fitsB false so fl fm il im d a b imm)) /\ Below w.heap.size w w' := by
  go_enter Tryz.func116, Tryz.ntmps116
  go_wp2_with (first
   | (go_at_call 132; refine (register_any _ _).mono ?_; rintro e w' ⟨rfl, rfl⟩)
   | (go_at_call 133; refine (has_any _ _ _ _).mono ?_; rintro e w' ⟨rfl, rfl⟩))
  go_returns
  exact ⟨r2b (by simp [*, fitsB]), by go_grown⟩
theorem fits_f1 (fi so : Bool) (fl fm il im op d a b imm : Int) (w : World) (hX : (hasB fl fm d) = true) (ha : regB a = false) : Calls Tryz.prog 116 #[Shape.v ⟨false, fi, so, fl, fm, il, im⟩, instV op d a b imm] w fun e w' => e = .returned (.bool (fitsB false so fl fm il im d a b imm)) /\ Below w.heap.size w w' := by
  go_enter Tryz.func116, Tryz.ntmps116
  go_wp2_with (first
   | (go_at_call 132; refine (register_any _ _).mono ?_; rintro e w' ⟨rfl, rfl⟩)
   | (go_at_call 133; refine (has_any _ _ _ _).mono ?_; rintro e w' ⟨rfl, rfl⟩))
  go_returns
  exact ⟨r2b (by simp [*, fitsB]), by go_grown⟩
theorem fits_f2t (fi so : Bool) (fl fm il im op d a b imm : Int) (w : World) (hX : (hasB fl fm d) = true) (ha : regB a = true) (hb : regB b = true) : Calls Tryz.prog 116 #[Shape.v ⟨false, fi, true, fl, fm, il, im⟩, instV op d a b imm] w fun e w' => e = .returned (.bool (fitsB false true fl fm il im d a b imm)) /\ Below w.heap.size w w' := by
  go_enter Tryz.func116, Tryz.ntmps116
  go_wp2_with (first
   | (go_at_call 132; refine (register_any _ _).mono ?_; rintro e w' ⟨rfl, rfl⟩)
   | (go_at_call 133; refine (has_any _ _ _ _).mono ?_; rintro e w' ⟨rfl, rfl⟩))
  go_returns
  exact ⟨r2b (by simp [*, fitsB]), by go_grown⟩
theorem fits_f3t (fi so : Bool) (fl fm il im op d a b imm : Int) (w : World) (hX : (hasB fl fm d) = true) (ha : regB a = true) (hb : regB b = false) (h8 : (b == 8) = true) : Calls Tryz.prog 116 #[Shape.v ⟨false, fi, true, fl, fm, il, im⟩, instV op d a b imm] w fun e w' => e = .returned (.bool (fitsB false true fl fm il im d a b imm)) /\ Below w.heap.size w w' := by
  go_enter Tryz.func116, Tryz.ntmps116
  go_wp2_with (first
   | (go_at_call 132; refine (register_any _ _).mono ?_; rintro e w' ⟨rfl, rfl⟩)
   | (go_at_call 133; refine (has_any _ _ _ _).mono ?_; rintro e w' ⟨rfl, rfl⟩))
  go_returns
  exact ⟨r2b (by simp [*, fitsB]), by go_grown⟩
theorem fits_f2f (fi so : Bool) (fl fm il im op d a b imm : Int) (w : World) (hX : (hasB fl fm d) = true) (ha : regB a = true) (hb : regB b = true) : Calls Tryz.prog 116 #[Shape.v ⟨false, fi, false, fl, fm, il, im⟩, instV op d a b imm] w fun e w' => e = .returned (.bool (fitsB false false fl fm il im d a b imm)) /\ Below w.heap.size w w' := by
  go_enter Tryz.func116, Tryz.ntmps116
  go_wp2_with (first
   | (go_at_call 132; refine (register_any _ _).mono ?_; rintro e w' ⟨rfl, rfl⟩)
   | (go_at_call 133; refine (has_any _ _ _ _).mono ?_; rintro e w' ⟨rfl, rfl⟩))
  go_returns
  exact ⟨r2b (by simp [*, fitsB]), by go_grown⟩
theorem fits_f3f (fi so : Bool) (fl fm il im op d a b imm : Int) (w : World) (hX : (hasB fl fm d) = true) (ha : regB a = true) (hb : regB b = false) (h8 : (b == 8) = true) : Calls Tryz.prog 116 #[Shape.v ⟨false, fi, false, fl, fm, il, im⟩, instV op d a b imm] w fun e w' => e = .returned (.bool (fitsB false false fl fm il im d a b imm)) /\ Below w.heap.size w w' := by
  go_enter Tryz.func116, Tryz.ntmps116
  go_wp2_with (first
   | (go_at_call 132; refine (register_any _ _).mono ?_; rintro e w' ⟨rfl, rfl⟩)
   | (go_at_call 133; refine (has_any _ _ _ _).mono ?_; rintro e w' ⟨rfl, rfl⟩))
  go_returns
  exact ⟨r2b (by simp [*, fitsB]), by go_grown⟩
theorem fits_f4 (fi so : Bool) (fl fm il im op d a b imm : Int) (w : World) (hX : (hasB fl fm d) = true) (ha : regB a = true) (hb : regB b = false) (h8 : (b == 8) = false) : Calls Tryz.prog 116 #[Shape.v ⟨false, fi, so, fl, fm, il, im⟩, instV op d a b imm] w fun e w' => e = .returned (.bool (fitsB false so fl fm il im d a b imm)) /\ Below w.heap.size w w' := by
  go_enter Tryz.func116, Tryz.ntmps116
  go_wp2_with (first
   | (go_at_call 132; refine (register_any _ _).mono ?_; rintro e w' ⟨rfl, rfl⟩)
   | (go_at_call 133; refine (has_any _ _ _ _).mono ?_; rintro e w' ⟨rfl, rfl⟩))
  go_returns
  exact ⟨r2b (by simp [*, fitsB]), by go_grown⟩
theorem fits_any (s : Shape) (op d a b imm : Int) (w : World) : Calls Tryz.prog 116 #[s.v, instV op d a b imm] w fun e w' => e = .returned (.bool (fitsB s.dest s.source s.farL s.farM s.immL s.immM d a b imm)) /\ Below w.heap.size w w' := by
 obtain ⟨de, fi, so, fl, fm, il, im⟩ := s
 cases de
 ·cases hX : hasB fl fm d
  ·exact fits_f0 fi so fl fm il im op d a b imm w hX
  ·cases ha : regB a
   ·exact fits_f1 fi so fl fm il im op d a b imm w hX ha
   ·cases hb : regB b
    ·cases h8 : (b == 8)
     ·exact fits_f4 fi so fl fm il im op d a b imm w hX ha hb h8
     ·cases so
      ·exact fits_f3f fi false fl fm il im op d a b imm w hX ha hb h8
      ·exact fits_f3t fi true fl fm il im op d a b imm w hX ha hb h8
    ·cases so
     ·exact fits_f2f fi false fl fm il im op d a b imm w hX ha hb
     ·exact fits_f2t fi true fl fm il im op d a b imm w hX ha hb
 ·cases hX : regB d
  ·exact fits_t0 fi so fl fm il im op d a b imm w hX
  ·cases ha : regB a
   ·exact fits_t1 fi so fl fm il im op d a b imm w hX ha
   ·cases hb : regB b
    ·cases h8 : (b == 8)
     ·exact fits_t4 fi so fl fm il im op d a b imm w hX ha hb h8
     ·cases so
      ·exact fits_t3f fi false fl fm il im op d a b imm w hX ha hb h8
      ·exact fits_t3t fi true fl fm il im op d a b imm w hX ha hb h8
    ·cases so
     ·exact fits_t2f fi false fl fm il im op d a b imm w hX ha hb
     ·exact fits_t2t fi true fl fm il im op d a b imm w hX ha hb
theorem shape_A {op : Int} (h : op = 0 ∨ op = 11) : shapeL op = ⟨true, false, true, 0, 0, 0, 0⟩ := by unfold shapeL; rw [if_pos h]
theorem shape_B {op : Int} (h : 1 <= op /\ op <= 10) : shapeL op = ⟨true, true, true, 0, 0, 0, 0⟩ := by unfold shapeL; rw [if_neg (by omega), if_pos h]
theorem shape_G {op : Int} (h : 16 <= op /\ op <= 19) : shapeL op = ⟨false, true, true, 0, 63, 0, 0⟩ := by unfold shapeL; rw [if_neg (by omega), if_neg (by omega), if_neg (by omega), if_neg (by omega), if_neg (by omega), if_neg (by omega), if_pos h]
theorem right_A {op d a b imm : Int} (h : op = 0 ∨ op = 11) : rightB op d a b imm = ((a == 0 && (b == 8 || imm == 0)) && fitsB true true 0 0 0 0 d a b imm) := by
 rcases h with rfl | rfl
 all_goals
  simp only [rightB_0, rightB_11, regB, sourcedB, fitsB, hasB]; rw [Bool.eq_iff_iff]; simp; omega
theorem right_B {op d a b imm : Int} (h : 1 <= op /\ op <= 10) : rightB op d a b imm = ((b == 8 || imm == 0) && fitsB true true 0 0 0 0 d a b imm) := by
 rw [rightB_three h]; simp only [regB, sourcedB, fitsB, hasB]; rw [Bool.eq_iff_iff]; simp; omega
theorem right_C {d a b imm : Int} : rightB 12 d a b imm = ((d == 0 && (b == 8 || imm == 0)) && fitsB false true 0 0 0 0 d a b imm) := by
 simp only [rightB_12, regB, sourcedB, fitsB, hasB]; rw [Bool.eq_iff_iff]; simp; omega
theorem right_D {d a b imm : Int} : rightB 13 d a b imm = ((a == 0 && b == 0) && fitsB true false 0 0 0 1 d a b imm) := by
 simp only [rightB_13, regB, fitsB, hasB]; rw [Bool.eq_iff_iff]; simp; omega
theorem right_E {d a b imm : Int} : rightB 14 d a b imm = ((a == 0 && b == 0) && fitsB true false 0 0 0 3 d a b imm) := by
 simp only [rightB_14, regB, fitsB, hasB]; rw [Bool.eq_iff_iff]; simp; omega
theorem right_F {d a b imm : Int} : rightB 15 d a b imm = ((a == 0 && (b == 0 && imm == 0)) && fitsB false false 0 63 0 0 d a b imm) := by
 simp only [rightB_15, regB, fitsB, hasB]; rw [Bool.eq_iff_iff]; simp; omega
theorem right_G {op d a b imm : Int} (h : 16 <= op /\ op <= 19) : rightB op d a b imm = ((b == 8 || imm == 0) && fitsB false true 0 63 0 0 d a b imm) := by
 rw [rightB_jump h]; simp only [regB, sourcedB, fitsB, hasB]; rw [Bool.eq_iff_iff]; simp; omega
theorem right_H {d a b imm : Int} : rightB 20 d a b imm = ((b == 0) && fitsB false false 1 63 1 255 d a b imm) := by
 simp only [rightB_20, regB, fitsB, hasB]; rw [Bool.eq_iff_iff]; simp; omega
theorem right_I {d a b imm : Int} : rightB 21 d a b imm = ((d == 0 && (a == 0 && b == 0)) && fitsB false false 0 0 0 6 d a b imm) := by
 simp only [rightB_21, regB, fitsB, hasB]; rw [Bool.eq_iff_iff]; simp; omega
theorem right_J {d a b imm : Int} : rightB 22 d a b imm = ((d == 0 && (b == 0 && imm == 0)) && fitsB false false 0 0 0 0 d a b imm) := by
 simp only [rightB_22, regB, fitsB, hasB]; rw [Bool.eq_iff_iff]; simp; omega

def Shape.zero (s : Shape) : Bool := s.dest == false && (s.first == false && (s.source == false && (decide (s.farL = 0) && (decide (s.farM = 0) && (decide (s.immL = 0) && decide (s.immM = 0))))))
structure In where
 op : Int
 d : Int
 a : Int
 b : Int
 imm : Int
def In.nil : In := ⟨0, 0, 0, 0, 0⟩
abbrev In.v (i : In) : Value := instV i.op i.d i.a i.b i.imm
def In.right (i : In) : Bool := rightB i.op i.d i.a i.b i.imm
def In.wf (i : In) : Prop := (Lit.int .i64 i.op).wf = true /\ (Lit.int .i64 i.d).wf = true /\ (Lit.int .i64 i.a).wf = true /\ (Lit.int .i64 i.b).wf = true /\ (Lit.int .i64 i.imm).wf = true
def At (w : World) (b off : Nat) (i : In) : Prop := w.cell? ⟨b, off, none⟩ = some (.int .i64 i.op) /\ w.cell? ⟨b, off + 1, none⟩ = some (.int .i64 i.d) /\ w.cell? ⟨b, off + 2, none⟩ = some (.int .i64 i.a) /\ w.cell? ⟨b, off + 3, none⟩ = some (.int .i64 i.b) /\ w.cell? ⟨b, off + 4, none⟩ = some (.int .i64 i.imm)
theorem At.below {w w' : World} {b off B : Nat} {i : In} (h : At w b off i) (hb : Below B w w') (hB : b < B) : At w' b off i := by
 unfold At
 rw [hb.cell (p := ⟨b, off, none⟩) hB, hb.cell (p := ⟨b, off + 1, none⟩) hB, hb.cell (p := ⟨b, off + 2, none⟩) hB, hb.cell (p := ⟨b, off + 3, none⟩) hB, hb.cell (p := ⟨b, off + 4, none⟩) hB]
 exact h
def SeesI (w : World) (v : Value) (xs : List In) : Prop :=
 ∃ a cap, v = .slice a xs.length cap /\ xs.length <= cap /\ cap <= maxLen /\ (a = none -> cap = 0) /\
  (xs ≠ [] -> ∃ b off, a = some ⟨b, off, none⟩ /\ b < w.heap.size /\ ∀ k, k < xs.length -> At w b (off + k * 5) (xs.getD k In.nil))
theorem SeesI.below {w w' : World} {v : Value} {xs : List In} (h : SeesI w v xs) (hb : Below w.heap.size w w') : SeesI w' v xs := by
 obtain ⟨a, cap, rfl, h1, h2, h3, h4⟩ := h
 refine ⟨a, cap, rfl, h1, h2, h3, fun hne => ?_⟩
 obtain ⟨b, off, rfl, hlt, hat⟩ := h4 hne
 exact ⟨b, off, rfl, Nat.lt_of_lt_of_le hlt hb.size, fun k hk => (hat k hk).below hb hlt⟩
theorem zero_run {α : Type} (s : Shape) (f : Bool -> α) : (if s.dest = true then f false else if s.first = true then f false else if s.source = true then f false else if s.farL = 0 then (if s.farM = 0 then (if s.immL = 0 then (if s.immM = 0 then f true else f false) else f false) else f false) else f false) = f s.zero := by
 obtain ⟨de, fi, so, fl, fm, il, im⟩ := s
 by_cases h1 : fl = 0 <;> by_cases h2 : fm = 0 <;> by_cases h3 : il = 0 <;> by_cases h4 : im = 0 <;> cases de <;> cases fi <;> cases so <;> simp [Shape.zero, h1, h2, h3, h4]
def neI (i j : In) : Bool := !(i.op == j.op && (i.d == j.d && (i.a == j.a && (i.b == j.b && i.imm == j.imm))))
theorem ne_run {α : Type} (i j : In) (f : Bool -> α) : (if i.op = j.op then (if i.d = j.d then (if i.a = j.a then (if i.b = j.b then (if i.imm = j.imm then f false else f true) else f true) else f true) else f true) else f true) = f (neI i j) := by
  by_cases h0 : i.op = j.op
  case neg => rw [if_neg h0]; have e : (i.op == j.op) = false := by simp [h0]
              simp [neI, e]
  rw [if_pos h0]
  have e0 : (i.op == j.op) = true := by simp [h0]
  by_cases h1 : i.d = j.d
  case neg => rw [if_neg h1]; have e : (i.d == j.d) = false := by simp [h1]
              simp [neI, e]
  rw [if_pos h1]
  have e1 : (i.d == j.d) = true := by simp [h1]
  by_cases h2 : i.a = j.a
  case neg => rw [if_neg h2]; have e : (i.a == j.a) = false := by simp [h2]
              simp [neI, e]
  rw [if_pos h2]
  have e2 : (i.a == j.a) = true := by simp [h2]
  by_cases h3 : i.b = j.b
  case neg => rw [if_neg h3]; have e : (i.b == j.b) = false := by simp [h3]
              simp [neI, e]
  rw [if_pos h3]
  have e3 : (i.b == j.b) = true := by simp [h3]
  by_cases h4 : i.imm = j.imm
  case neg => rw [if_neg h4]; have e : (i.imm == j.imm) = false := by simp [h4]
              simp [neI, e]
  rw [if_pos h4]
  have e4 : (i.imm == j.imm) = true := by simp [h4]
  simp [neI, e0, e1, e2, e3, e4]
abbrev Held (n4 n5 : Nat) (op d a b imm : Int) (s : Shape) (w : World) : Prop := (w.cell? ⟨n4, 0, none⟩ = some (.int .i64 op) /\ w.cell? ⟨n4, 1, none⟩ = some (.int .i64 d) /\ w.cell? ⟨n4, 2, none⟩ = some (.int .i64 a) /\ w.cell? ⟨n4, 3, none⟩ = some (.int .i64 b) /\ w.cell? ⟨n4, 4, none⟩ = some (.int .i64 imm)) /\
 w.cell? ⟨n5, 0, none⟩ = some (.bool s.dest) /\ w.cell? ⟨n5, 1, none⟩ = some (.bool s.first) /\ w.cell? ⟨n5, 2, none⟩ = some (.bool s.source) /\ w.cell? ⟨n5, 3, none⟩ = some (.int .i64 s.farL) /\ w.cell? ⟨n5, 4, none⟩ = some (.int .i64 s.farM) /\ w.cell? ⟨n5, 5, none⟩ = some (.int .i64 s.immL) /\ w.cell? ⟨n5, 6, none⟩ = some (.int .i64 s.immM)
theorem Held.below {n4 n5 B : Nat} {op d a b imm : Int} {s : Shape} {w w' : World} (h : Held n4 n5 op d a b imm s w) (hb : Below B w w') (h4 : n4 < B) (h5 : n5 < B) : Held n4 n5 op d a b imm s w' := by
 unfold Held
 rw [hb.cell (p := ⟨n4, 0, none⟩) h4, hb.cell (p := ⟨n4, 1, none⟩) h4, hb.cell (p := ⟨n4, 2, none⟩) h4, hb.cell (p := ⟨n4, 3, none⟩) h4, hb.cell (p := ⟨n4, 4, none⟩) h4, hb.cell (p := ⟨n5, 0, none⟩) h5, hb.cell (p := ⟨n5, 1, none⟩) h5, hb.cell (p := ⟨n5, 2, none⟩) h5, hb.cell (p := ⟨n5, 3, none⟩) h5, hb.cell (p := ⟨n5, 4, none⟩) h5, hb.cell (p := ⟨n5, 5, none⟩) h5, hb.cell (p := ⟨n5, 6, none⟩) h5]
 exact h
theorem all_take {xs : List In} {k : Nat} (hk : k < xs.length) : (xs.take (k + 1)).all In.right = ((xs.take k).all In.right && (xs.getD k In.nil).right) := by
 have e : xs.getD k In.nil = xs[k] := by simp [hk]
 rw [e, List.take_succ_eq_append_getElem hk, List.all_append]
 simp only [List.all_cons, List.all_nil, Bool.and_true]
theorem all_false {xs : List In} {k : Nat} (hk : k < xs.length) (h : (xs.getD k In.nil).right = false) : xs.all In.right = false := by
 have e : xs.getD k In.nil = xs[k] := by simp [hk]
 rw [e] at h
 rw [Bool.eq_false_iff]
 intro hall
 rw [List.all_eq_true.1 hall _ (List.getElem_mem hk)] at h
 cases h
def In.far (i : In) : Int := (goesL i.op i.d i.a i.b i.imm).1
def In.leads (i : In) : Bool := (goesL i.op i.d i.a i.b i.imm).2.1
def In.on (i : In) : Bool := (goesL i.op i.d i.a i.b i.imm).2.2
theorem goes_parts (i : In) : (i.right = false /\ i.far = 0 /\ i.leads = false /\ i.on = false) ∨ (i.right = true /\ 15 <= i.op /\ i.op <= 19 /\ i.far = i.d + 1 /\ i.leads = true /\ i.on = decide (i.op ≠ 15) /\ 0 <= i.d /\ i.d <= 63) ∨
  (i.right = true /\ i.op = 20 /\ i.far = -i.d /\ i.leads = true /\ i.on = true /\ 1 <= i.d /\ i.d <= 63 /\ 1 <= i.imm /\ i.imm <= 255) ∨ (i.right = true /\ (i.op < 15 ∨ 20 < i.op) /\ i.far = 0 /\ i.leads = false /\ i.on = decide (i.op ≠ 22)) := by
 obtain ⟨op, d, a, b, imm⟩ := i
 unfold In.far In.leads In.on In.right
 cases hr : rightB op d a b imm
 ·left; simp [goesL, hr]
 right
 by_cases h1 : op = 15
 ·subst h1; left
  have := right_far hr (by omega)
  simp [goesL, hr]; omega
 by_cases h2 : 16 <= op /\ op <= 19
 ·left
  have := right_far hr (by omega)
  simp [goesL, hr, h1, h2]; omega
 by_cases h3 : op = 20
 ·subst h3; right; left
  have h := hr
  rw [rightB_20] at h
  simp at h
  simp [goesL, hr]; omega
 ·right; right
  unfold goesL
  rw [if_neg (by simp [hr]), if_neg h1, if_neg h2, if_neg h3]
  refine ⟨rfl, by show op < 15 ∨ 20 < op; omega, rfl, rfl, ?_⟩
  by_cases h4 : op = 22 <;> simp [h4]
theorem far_bd (i : In) : -63 <= i.far /\ i.far <= 64 := by
 rcases goes_parts i with h | h | h | h <;> omega
def first (p : Nat -> Bool) (n : Nat) : Option Nat := (List.range n).find? p
theorem first_some {p : Nat -> Bool} {n k : Nat} (h : ∀ j, j < k -> p j = false) (hk : k < n) (hp : p k = true) : first p n = some k := by
 unfold first
 have e : List.range n = List.range k ++ (List.range' k (n - k)) := by
  have e := @List.range'_append_1 0 k (n - k)
  rw [List.range_eq_range', List.range_eq_range', Nat.zero_add] at *
  rw [e]; congr 1; omega
 rw [e, List.find?_append]
 have h1 : (List.range k).find? p = none := by
  rw [List.find?_eq_none]; intro x hx; rw [List.mem_range] at hx; simp [h x hx]
 rw [h1]
 obtain ⟨m, hm⟩ : ∃ m, n - k = m + 1 := ⟨n - k - 1, by omega⟩
 rw [hm, List.range'_succ]
 simp [hp]
theorem first_none {p : Nat -> Bool} {n : Nat} (h : ∀ j, j < n -> p j = false) : first p n = none := by
 unfold first
 rw [List.find?_eq_none]; intro x hx; rw [List.mem_range] at hx; simp [h x hx]
theorem first_cases (p : Nat -> Bool) (n : Nat) : (first p n = none /\ ∀ j, j < n -> p j = false) ∨ ∃ k, first p n = some k /\ k < n /\ p k = true /\ ∀ j, j < k -> p j = false := by
 by_cases h : ∃ k, k < n /\ p k = true
 ·have hw : ∃ k, k < n /\ p k = true /\ ∀ j, j < k -> p j = false := by
   obtain ⟨k, hk, hp⟩ := h
   induction k using Nat.strongRecOn with
   | _ k ih =>
    by_cases hj : ∃ j, j < k /\ p j = true
    ·obtain ⟨j, hj, hpj⟩ := hj
     exact ih j hj (by omega) hpj
    ·refine ⟨k, hk, hp, fun j hjk => ?_⟩
     cases hpj : p j
     ·rfl
     ·exact absurd ⟨j, hjk, hpj⟩ hj
  obtain ⟨k, hk, hp, hf⟩ := hw
  exact .inr ⟨k, first_some hf hk hp, hk, hp, hf⟩
 ·refine .inl ⟨first_none fun j hj => ?_, fun j hj => ?_⟩ <;>
  ·cases hpj : p j
   ·rfl
   ·exact absurd ⟨j, hj, hpj⟩ h
structure Lp where
 h : Int
 t : Int
 b : Int
def Lp.nil : Lp := ⟨0, 0, 0⟩
def inLpB (l : Lp) (p : Int) : Bool := decide (l.h <= p) && decide (p <= l.t)
def entersB (l : Lp) (p q : Int) : Bool := !inLpB l p && (inLpB l q && decide (q ≠ l.h))
theorem within_iff {l : Lp} {p : Int} : inLpB l p = true ↔ l.h <= p /\ p <= l.t := by simp [inLpB]
theorem within_no {l : Lp} {p : Int} : inLpB l p = false ↔ ¬ (l.h <= p /\ p <= l.t) := by rw [<- within_iff]; simp
abbrev nth (xs : List In) (k : Nat) : In := xs.getD k In.nil
def lpAt (xs : List In) (k : Nat) : Lp := ⟨k + (nth xs k).far, k, (nth xs k).imm⟩
def lps (xs : List In) (k : Nat) : List Lp := if (nth xs k).op = 20 then [lpAt xs k] else []
def loopsU (xs : List In) : Nat -> List Lp
 | 0 => []
 | n + 1 => loopsU xs n ++ lps xs n
def loopsL (xs : List In) : List Lp := loopsU xs xs.length
theorem loopsU_mem {xs : List In} {n : Nat} {l : Lp} : l ∈ loopsU xs n ↔ ∃ k, k < n /\ (nth xs k).op = 20 /\ l = lpAt xs k := by
 induction n with
 | zero => simp [loopsU]
 | succ n ih =>
  rw [loopsU, List.mem_append, ih]
  constructor
  ·rintro (⟨k, h1, h2, h3⟩ | h)
   ·exact ⟨k, by omega, h2, h3⟩
   ·unfold lps at h
    split at h
    ·rename_i h20
     simp at h
     exact ⟨n, by omega, h20, h⟩
    ·simp at h
  ·rintro ⟨k, h1, h2, h3⟩
   by_cases hk : k < n
   ·exact .inl ⟨k, hk, h2, h3⟩
   ·obtain rfl : k = n := by omega
    right; unfold lps; rw [if_pos h2, h3]; simp
theorem loopsU_len (xs : List In) (n : Nat) : (loopsU xs n).length <= n := by
 induction n with
 | zero => simp [loopsU]
 | succ n ih => rw [loopsU, List.length_append]; unfold lps; split <;> simp <;> omega
def crossF : List Lp -> List Lp -> Option Int
 | _, [] => none
 | prev, l :: r => if prev.any (fun e => entersB e l.t l.h) then some l.t else crossF (prev ++ [l]) r
def intrB (xs : List In) (ls : List Lp) (k : Nat) : Bool := (nth xs k).leads && ls.any (fun l => entersB l k (k + (nth xs k).far))
def placeE (xs : List In) (k : Nat) : Int :=
 if (nth xs k).right = false then 12 else if (k : Int) + (nth xs k).far < 0 ∨ (xs.length : Int) <= k + (nth xs k).far then 30 else if (nth xs k).on = true /\ k + 1 = xs.length then 36 else 0
def placeB (xs : List In) (k : Nat) : Bool := decide (placeE xs k ≠ 0)
def timesT (p : Int) : List Lp -> Int -> Int
 | [], t => t
 | l :: r, t => timesT p r (if inLpB l p then t * (l.b + 1) else t)
def timesC (p : Int) : List Lp -> Int -> Int
 | [], t => t
 | l :: r, t => timesC p r (if inLpB l p then min (t * (l.b + 1)) 257 else t)
def costC (ls : List Lp) : Nat -> Int
 | 0 => 0
 | n + 1 => costC ls n + timesC n ls 1
def checkL (xs : List In) : Int × Int :=
 if xs.length = 0 then (0, 10) else if 64 < xs.length then (0, 11) else
 match first (placeB xs) xs.length with
 | some k => (k, placeE xs k)
 | none => match crossF [] (loopsL xs) with
  | some t => (t, 31)
  | none => match first (intrB xs (loopsL xs)) xs.length with
   | some p => (p, 31)
   | none => if 256 < costC (loopsL xs) xs.length then (0, 32) else (0, 0)
def Bnd (ls : List Lp) : Prop := ∀ l ∈ ls, 1 <= l.b /\ l.b <= 255
theorem mul_grow {t b : Int} (ht : 1 <= t) (hb : 0 <= b) : t <= t * (b + 1) := by
 have : 0 <= t * b := Int.mul_nonneg (by omega) hb
 rw [Int.mul_add]; omega
theorem timesT_ge {p : Int} : ∀ {ls : List Lp} {t : Int}, Bnd ls -> 1 <= t -> t <= timesT p ls t
 | [], t, _, _ => Int.le_refl _
 | l :: r, t, hb, ht => by
  have h1 := hb l (by simp)
  rw [timesT]
  split
  ·exact Int.le_trans (mul_grow ht (by omega)) (timesT_ge (fun x hx => hb x (by simp [hx])) (Int.le_trans ht (mul_grow ht (by omega))))
  ·exact timesT_ge (fun x hx => hb x (by simp [hx])) ht
theorem timesC_min {p : Int} : ∀ {ls : List Lp} {t : Int}, Bnd ls -> 1 <= t -> timesC p ls (min t 257) = min (timesT p ls t) 257
 | [], t, _, _ => rfl
 | l :: r, t, hb, ht => by
  have h1 := hb l (by simp)
  rw [timesC, timesT]
  have hr : Bnd r := fun x hx => hb x (by simp [hx])
  split
  ·have hg := mul_grow ht (show 0 <= l.b by omega)
   have e : min (min t 257 * (l.b + 1)) 257 = min (t * (l.b + 1)) 257 := by
    by_cases h : t <= 257
    ·rw [Int.min_eq_left h]
    ·have : min t 257 = 257 := by omega
     rw [this]; omega
   rw [e]
   exact timesC_min hr (by omega)
  ·exact timesC_min hr ht
theorem timesC_eq {p : Int} {ls : List Lp} (hb : Bnd ls) : timesC p ls 1 = min (timesT p ls 1) 257 := timesC_min (t := 1) hb (by omega)
structure Taken (xs : List In) : Prop where
 pos : 0 < xs.length
 top : xs.length <= 64
 place : ∀ k, k < xs.length -> placeB xs k = false
 cross : crossF [] (loopsL xs) = none
 intr : ∀ k, k < xs.length -> intrB xs (loopsL xs) k = false
 cost : costC (loopsL xs) xs.length <= 256
theorem check_ok {xs : List In} : (checkL xs).2 = 0 ↔ Taken xs := by
 unfold checkL
 constructor
 ·intro h
  split at h
  ·cases h
  split at h
  ·cases h
  split at h
  ·rename_i k hk
   rcases first_cases (placeB xs) xs.length with ⟨h1, _⟩ | ⟨j, h1, _, h2, _⟩
   ·rw [h1] at hk; cases hk
   ·rw [h1] at hk
    injection hk with hk
    subst hk
    unfold placeB at h2
    simp only [decide_eq_true_eq] at h2
    exact absurd h h2
  rename_i hp
  split at h
  ·cases h
  rename_i hc
  split at h
  ·cases h
  rename_i hi
  split at h
  ·cases h
  refine ⟨by omega, by omega, ?_, hc, ?_, by omega⟩
  ·rcases first_cases (placeB xs) xs.length with ⟨_, h2⟩ | ⟨k, h1, _⟩
   ·exact h2
   ·rw [h1] at hp; cases hp
  ·rcases first_cases (intrB xs (loopsL xs)) xs.length with ⟨_, h2⟩ | ⟨k, h1, _⟩
   ·exact h2
   ·rw [h1] at hi; cases hi
 ·intro h
  have := h.pos
  have := h.top
  have := h.cost
  rw [if_neg (by omega), if_neg (by omega), first_none h.place, h.cross, first_none h.intr]
  dsimp only
  rw [if_neg (by omega)]
theorem place_ok {xs : List In} {k : Nat} (hk : k < xs.length) (h : placeB xs k = false) : (nth xs k).right = true /\ 0 <= (k : Int) + (nth xs k).far /\ (k : Int) + (nth xs k).far < xs.length /\ ((nth xs k).on = true -> k + 1 < xs.length) := by
 unfold placeB placeE at h
 simp only [decide_eq_false_iff_not, ne_eq, Decidable.not_not] at h
 split at h
 ·omega
 split at h
 ·omega
 split at h
 ·omega
 rename_i h1 h2 h3
 refine ⟨by simpa using h1, by omega, by omega, fun hon => ?_⟩
 have : ¬ k + 1 = xs.length := fun e => h3 ⟨hon, e⟩
 omega
def Placed (xs : List In) : Prop := ∀ k, k < xs.length -> placeB xs k = false
theorem loop_ok {xs : List In} (h : Placed xs) {l : Lp} (hl : l ∈ loopsL xs) : ∃ k : Nat, k < xs.length /\ (nth xs k).op = 20 /\ l = ⟨k - (nth xs k).d, k, (nth xs k).imm⟩ /\ 0 <= l.h /\ l.h < l.t /\ l.t < xs.length /\ 1 <= l.b /\ l.b <= 255 := by
 obtain ⟨k, hk, h20, rfl⟩ := loopsU_mem.1 hl
 obtain ⟨hr, h0, h1, _⟩ := place_ok hk (h k hk)
 have hg := goes_parts (nth xs k)
 refine ⟨k, hk, h20, ?_, ?_, ?_, ?_, ?_, ?_⟩
 ·unfold lpAt
  rcases hg with h | h | h | h
  ·rw [h.1] at hr; cases hr
  ·omega
  ·rw [h.2.2.1]; rfl
  ·omega
 all_goals
  show _
  simp only [lpAt]
  rcases hg with h | h | h | h
  ·rw [h.1] at hr; cases hr
  ·omega
  ·omega
  ·omega
theorem bnd_ok {xs : List In} (h : Placed xs) : Bnd (loopsL xs) := fun l hl => by
 obtain ⟨k, _, _, _, _, _, _, h1, h2⟩ := loop_ok h hl
 exact ⟨h1, h2⟩
def memB (l : List Int) (n : Int) : Bool := decide (n ∈ l)
theorem has_iff {l : List Int} {n : Int} : memB l n = true ↔ n ∈ l := by simp [memB]
theorem has_no {l : List Int} {n : Int} : memB l n = false ↔ n ∉ l := by simp [memB]
abbrev row (rows : List (List Int)) (p : Nat) : List Int := rows.getD p []
theorem named_A8 (op d a b imm : Int) (w : World) (h8 : (b == 8) = true) : Calls Tryz.prog 115 #[Shape.v ⟨true, false, true, 0, 0, 0, 0⟩, instV op d a b imm] w fun e w' => e = .returned (instV op d 0 b imm) /\ Below w.heap.size w w' := by
 go_enter Tryz.func115, Tryz.ntmps115
 go_wp2
 go_returns
 exact ⟨rfl, by go_grown⟩
theorem named_Ar (op d a b imm : Int) (w : World) (h8 : (b == 8) = false) : Calls Tryz.prog 115 #[Shape.v ⟨true, false, true, 0, 0, 0, 0⟩, instV op d a b imm] w fun e w' => e = .returned (instV op d 0 b 0) /\ Below w.heap.size w w' := by
 go_enter Tryz.func115, Tryz.ntmps115
 go_wp2
 go_returns
 exact ⟨rfl, by go_grown⟩
theorem named_B8 (op d a b imm : Int) (w : World) (h8 : (b == 8) = true) : Calls Tryz.prog 115 #[Shape.v ⟨true, true, true, 0, 0, 0, 0⟩, instV op d a b imm] w fun e w' => e = .returned (instV op d a b imm) /\ Below w.heap.size w w' := by
 go_enter Tryz.func115, Tryz.ntmps115
 go_wp2
 go_returns
 exact ⟨rfl, by go_grown⟩
theorem named_Br (op d a b imm : Int) (w : World) (h8 : (b == 8) = false) : Calls Tryz.prog 115 #[Shape.v ⟨true, true, true, 0, 0, 0, 0⟩, instV op d a b imm] w fun e w' => e = .returned (instV op d a b 0) /\ Below w.heap.size w w' := by
 go_enter Tryz.func115, Tryz.ntmps115
 go_wp2
 go_returns
 exact ⟨rfl, by go_grown⟩
theorem named_C8 (op d a b imm : Int) (w : World) (h8 : (b == 8) = true) : Calls Tryz.prog 115 #[Shape.v ⟨false, true, true, 0, 0, 0, 0⟩, instV op d a b imm] w fun e w' => e = .returned (instV op 0 a b imm) /\ Below w.heap.size w w' := by
 go_enter Tryz.func115, Tryz.ntmps115
 go_wp2
 go_returns
 exact ⟨rfl, by go_grown⟩
theorem named_Cr (op d a b imm : Int) (w : World) (h8 : (b == 8) = false) : Calls Tryz.prog 115 #[Shape.v ⟨false, true, true, 0, 0, 0, 0⟩, instV op d a b imm] w fun e w' => e = .returned (instV op 0 a b 0) /\ Below w.heap.size w w' := by
 go_enter Tryz.func115, Tryz.ntmps115
 go_wp2
 go_returns
 exact ⟨rfl, by go_grown⟩
theorem named_D (op d a b imm : Int) (w : World) : Calls Tryz.prog 115 #[Shape.v ⟨true, false, false, 0, 0, 0, 1⟩, instV op d a b imm] w fun e w' => e = .returned (instV op d 0 0 imm) /\ Below w.heap.size w w' := by
 go_enter Tryz.func115, Tryz.ntmps115
 go_wp2
 go_returns
 exact ⟨rfl, by go_grown⟩
theorem named_E (op d a b imm : Int) (w : World) : Calls Tryz.prog 115 #[Shape.v ⟨true, false, false, 0, 0, 0, 3⟩, instV op d a b imm] w fun e w' => e = .returned (instV op d 0 0 imm) /\ Below w.heap.size w w' := by
 go_enter Tryz.func115, Tryz.ntmps115
 go_wp2
 go_returns
 exact ⟨rfl, by go_grown⟩
theorem named_F (op d a b imm : Int) (w : World) : Calls Tryz.prog 115 #[Shape.v ⟨false, false, false, 0, 63, 0, 0⟩, instV op d a b imm] w fun e w' => e = .returned (instV op d 0 0 0) /\ Below w.heap.size w w' := by
 go_enter Tryz.func115, Tryz.ntmps115
 go_wp2
 go_returns
 exact ⟨rfl, by go_grown⟩
theorem named_G8 (op d a b imm : Int) (w : World) (h8 : (b == 8) = true) : Calls Tryz.prog 115 #[Shape.v ⟨false, true, true, 0, 63, 0, 0⟩, instV op d a b imm] w fun e w' => e = .returned (instV op d a b imm) /\ Below w.heap.size w w' := by
 go_enter Tryz.func115, Tryz.ntmps115
 go_wp2
 go_returns
 exact ⟨rfl, by go_grown⟩
theorem named_Gr (op d a b imm : Int) (w : World) (h8 : (b == 8) = false) : Calls Tryz.prog 115 #[Shape.v ⟨false, true, true, 0, 63, 0, 0⟩, instV op d a b imm] w fun e w' => e = .returned (instV op d a b 0) /\ Below w.heap.size w w' := by
 go_enter Tryz.func115, Tryz.ntmps115
 go_wp2
 go_returns
 exact ⟨rfl, by go_grown⟩
theorem named_H (op d a b imm : Int) (w : World) : Calls Tryz.prog 115 #[Shape.v ⟨false, true, false, 1, 63, 1, 255⟩, instV op d a b imm] w fun e w' => e = .returned (instV op d a 0 imm) /\ Below w.heap.size w w' := by
 go_enter Tryz.func115, Tryz.ntmps115
 go_wp2
 go_returns
 exact ⟨rfl, by go_grown⟩
theorem named_I (op d a b imm : Int) (w : World) : Calls Tryz.prog 115 #[Shape.v ⟨false, false, false, 0, 0, 0, 6⟩, instV op d a b imm] w fun e w' => e = .returned (instV op 0 0 0 imm) /\ Below w.heap.size w w' := by
 go_enter Tryz.func115, Tryz.ntmps115
 go_wp2
 go_returns
 exact ⟨rfl, by go_grown⟩
theorem named_J (op d a b imm : Int) (w : World) : Calls Tryz.prog 115 #[Shape.v ⟨false, true, false, 0, 0, 0, 0⟩, instV op d a b imm] w fun e w' => e = .returned (instV op 0 a 0 0) /\ Below w.heap.size w w' := by
 go_enter Tryz.func115, Tryz.ntmps115
 go_wp2
 go_returns
 exact ⟨rfl, by go_grown⟩
theorem zero_op {op : Int} (h : (shapeL op).zero = false) : 0 <= op /\ op <= 22 := by
 by_cases hx : op < 0 ∨ 22 < op
 ·rw [shapeL_none hx] at h; cases h
 ·omega
theorem cases_op {op : Int} (h : 0 <= op /\ op <= 22) : (op = 0 ∨ op = 11) ∨ (1 <= op /\ op <= 10) ∨ op = 12 ∨ op = 13 ∨ op = 14 ∨ op = 15 ∨ (16 <= op /\ op <= 19) ∨ op = 20 ∨ op = 21 ∨ op = 22 := by omega
theorem zero_right {op d a b imm : Int} (h : (shapeL op).zero = true) : rightB op d a b imm = false := by
 by_cases hx : op < 0 ∨ 22 < op
 ·exact rightB_none hx
 ·exfalso
  rcases cases_op (op := op) (by omega) with hop | hop | rfl | rfl | rfl | rfl | hop | rfl | rfl | rfl
  ·rw [shape_A hop] at h; cases h
  ·rw [shape_B hop] at h; cases h
  ·cases h
  ·cases h
  ·cases h
  ·cases h
  ·rw [shape_G hop] at h; cases h
  ·cases h
  ·cases h
  ·cases h
theorem named_any (op d a b imm : Int) (w : World) (ho : 0 <= op /\ op <= 22) : Calls Tryz.prog 115 #[(shapeL op).v, instV op d a b imm] w fun e w' =>
  ∃ j : In, e = .returned j.v /\ Below w.heap.size w w' /\ rightB op d a b imm = (!neI ⟨op, d, a, b, imm⟩ j && fitsB (shapeL op).dest (shapeL op).source (shapeL op).farL (shapeL op).farM (shapeL op).immL (shapeL op).immM d a b imm) := by
 rcases cases_op ho with hop | hop | rfl | rfl | rfl | rfl | hop | rfl | rfl | rfl
 ·rw [shape_A hop]
  cases h8 : (b == 8)
  ·exact ((named_Ar op d a b imm w h8).mono fun e w1 ⟨he, hb⟩ => ⟨⟨op, d, 0, b, 0⟩, he, hb, by rw [right_A hop]; simp [neI, h8]⟩)
  ·exact ((named_A8 op d a b imm w h8).mono fun e w1 ⟨he, hb⟩ => ⟨⟨op, d, 0, b, imm⟩, he, hb, by rw [right_A hop]; simp [neI, h8]⟩)
 ·rw [shape_B hop]
  cases h8 : (b == 8)
  ·exact ((named_Br op d a b imm w h8).mono fun e w1 ⟨he, hb⟩ => ⟨⟨op, d, a, b, 0⟩, he, hb, by rw [right_B hop]; simp [neI, h8]⟩)
  ·exact ((named_B8 op d a b imm w h8).mono fun e w1 ⟨he, hb⟩ => ⟨⟨op, d, a, b, imm⟩, he, hb, by rw [right_B hop]; simp [neI, h8]⟩)
 ·skip
  cases h8 : (b == 8)
  ·exact ((named_Cr 12 d a b imm w h8).mono fun e w1 ⟨he, hb⟩ => ⟨⟨12, 0, a, b, 0⟩, he, hb, by refine (right_C).trans ?_; simp [neI, h8]; rfl⟩)
  ·exact ((named_C8 12 d a b imm w h8).mono fun e w1 ⟨he, hb⟩ => ⟨⟨12, 0, a, b, imm⟩, he, hb, by refine (right_C).trans ?_; simp [neI, h8]; rfl⟩)
 ·exact ((named_D 13 d a b imm w).mono fun e w1 ⟨he, hb⟩ => ⟨⟨13, d, 0, 0, imm⟩, he, hb, by refine (right_D).trans ?_; simp [neI]; rfl⟩)
 ·exact ((named_E 14 d a b imm w).mono fun e w1 ⟨he, hb⟩ => ⟨⟨14, d, 0, 0, imm⟩, he, hb, by refine (right_E).trans ?_; simp [neI]; rfl⟩)
 ·exact ((named_F 15 d a b imm w).mono fun e w1 ⟨he, hb⟩ => ⟨⟨15, d, 0, 0, 0⟩, he, hb, by refine (right_F).trans ?_; simp [neI]; rfl⟩)
 ·rw [shape_G hop]
  cases h8 : (b == 8)
  ·exact ((named_Gr op d a b imm w h8).mono fun e w1 ⟨he, hb⟩ => ⟨⟨op, d, a, b, 0⟩, he, hb, by rw [right_G hop]; simp [neI, h8]⟩)
  ·exact ((named_G8 op d a b imm w h8).mono fun e w1 ⟨he, hb⟩ => ⟨⟨op, d, a, b, imm⟩, he, hb, by rw [right_G hop]; simp [neI, h8]⟩)
 ·exact ((named_H 20 d a b imm w).mono fun e w1 ⟨he, hb⟩ => ⟨⟨20, d, a, 0, imm⟩, he, hb, by refine (right_H).trans ?_; simp [neI]; rfl⟩)
 ·exact ((named_I 21 d a b imm w).mono fun e w1 ⟨he, hb⟩ => ⟨⟨21, 0, 0, 0, imm⟩, he, hb, by refine (right_I).trans ?_; simp [neI]; rfl⟩)
 ·exact ((named_J 22 d a b imm w).mono fun e w1 ⟨he, hb⟩ => ⟨⟨22, 0, a, 0, 0⟩, he, hb, by refine (right_J).trans ?_; simp [neI]; rfl⟩)
end Go.Proofs.YtlkdniglaldilaaGreat
