/-
  O2Small
  O2Fits
-/
import Derived.Test.YtkcofelpndlplaaML5
import Derived.Handy
/-
  What the project's register, bounds.has and shapeOf do. No condition beyond the numbers' kinds.
-/
namespace Go.Proofs.Ytkcofelpndlplaa
open Go.RowKit
set_option linter.unusedVariables false

theorem register_any (n : Int) (w : World) : Calls Try.prog 67 #[.int .i64 n] w fun e w' => e = .returned (.bool (regB n)) ∧ w = w' := by
  unfold regB
  by_cases h : 0 ≤ n
  · go_enter Try.func67, Try.ntmps67
    go_wp2
    go_ret
    exact ⟨r2b (by simp [h]; omega), rfl⟩
  · go_enter Try.func67, Try.ntmps67
    go_wp2
    go_ret
    exact ⟨r2b (by simp; omega), rfl⟩

abbrev boundsV (l m : Int) : Value := .agg #[.int .i64 l, .int .i64 m]
abbrev boundsO (l m : Int) : Obj := .cells #[.int .i64 l, .int .i64 m] 100
def hasB (l m n : Int) : Bool := decide (l ≤ n) && decide (n ≤ m)
theorem has_any (l m n : Int) (w : World) : Calls Try.prog 68 #[boundsV l m, .int .i64 n] w fun e w' => e = .returned (.bool (hasB l m n)) ∧ w.alloc (boundsO l m) = w' := by
  unfold hasB
  by_cases h : l ≤ n
  · go_enter Try.func68, Try.ntmps68
    go_wp2
    go_ret
    exact ⟨r2b (by simp [h]), rfl⟩
  · go_enter Try.func68, Try.ntmps68
    go_wp2
    go_ret
    exact ⟨r2b (by simp; omega), rfl⟩

/-- An operation's shape. -/
structure Shape where
  dest : Bool
  first : Bool
  source : Bool
  farL : Int
  farM : Int
  immL : Int
  immM : Int
abbrev Shape.v (s : Shape) : Value := .agg #[.bool s.dest, .bool s.first, .bool s.source, .int .i64 s.farL, .int .i64 s.farM, .int .i64 s.immL, .int .i64 s.immM]
def shapeL (op : Int) : Shape :=
  if op = 0 ∨ op = 11 then ⟨true, false, true, 0, 0, 0, 0⟩
  else if 1 ≤ op ∧ op ≤ 10 then ⟨true, true, true, 0, 0, 0, 0⟩
  else if op = 12 then ⟨false, true, true, 0, 0, 0, 0⟩
  else if op = 13 then ⟨true, false, false, 0, 0, 0, 1⟩
  else if op = 14 then ⟨true, false, false, 0, 0, 0, 3⟩
  else if op = 15 then ⟨false, false, false, 0, 63, 0, 0⟩
  else if 16 ≤ op ∧ op ≤ 19 then ⟨false, true, true, 0, 63, 0, 0⟩
  else if op = 20 then ⟨false, true, false, 1, 63, 1, 255⟩
  else if op = 21 then ⟨false, false, false, 0, 0, 0, 6⟩
  else if op = 22 then ⟨false, true, false, 0, 0, 0, 0⟩
  else ⟨false, false, false, 0, 0, 0, 0⟩

theorem shapeOf_0 (w : World) : Calls Try.prog 48 #[.int .i64 0] w fun e w' => e = .returned (shapeL 0).v ∧ Below w.heap.size w w' := by
  go_enter Try.func48, Try.ntmps48
  go_wp2
  go_returns
  exact ⟨rfl, by go_grown⟩
theorem shapeOf_1 (w : World) : Calls Try.prog 48 #[.int .i64 1] w fun e w' => e = .returned (shapeL 1).v ∧ Below w.heap.size w w' := by
  go_enter Try.func48, Try.ntmps48
  go_wp2
  go_returns
  exact ⟨rfl, by go_grown⟩
theorem shapeOf_2 (w : World) : Calls Try.prog 48 #[.int .i64 2] w fun e w' => e = .returned (shapeL 2).v ∧ Below w.heap.size w w' := by
  go_enter Try.func48, Try.ntmps48
  go_wp2
  go_returns
  exact ⟨rfl, by go_grown⟩
theorem shapeOf_3 (w : World) : Calls Try.prog 48 #[.int .i64 3] w fun e w' => e = .returned (shapeL 3).v ∧ Below w.heap.size w w' := by
  go_enter Try.func48, Try.ntmps48
  go_wp2
  go_returns
  exact ⟨rfl, by go_grown⟩
theorem shapeOf_4 (w : World) : Calls Try.prog 48 #[.int .i64 4] w fun e w' => e = .returned (shapeL 4).v ∧ Below w.heap.size w w' := by
  go_enter Try.func48, Try.ntmps48
  go_wp2
  go_returns
  exact ⟨rfl, by go_grown⟩
theorem shapeOf_5 (w : World) : Calls Try.prog 48 #[.int .i64 5] w fun e w' => e = .returned (shapeL 5).v ∧ Below w.heap.size w w' := by
  go_enter Try.func48, Try.ntmps48
  go_wp2
  go_returns
  exact ⟨rfl, by go_grown⟩
theorem shapeOf_6 (w : World) : Calls Try.prog 48 #[.int .i64 6] w fun e w' => e = .returned (shapeL 6).v ∧ Below w.heap.size w w' := by
  go_enter Try.func48, Try.ntmps48
  go_wp2
  go_returns
  exact ⟨rfl, by go_grown⟩
theorem shapeOf_7 (w : World) : Calls Try.prog 48 #[.int .i64 7] w fun e w' => e = .returned (shapeL 7).v ∧ Below w.heap.size w w' := by
  go_enter Try.func48, Try.ntmps48
  go_wp2
  go_returns
  exact ⟨rfl, by go_grown⟩
theorem shapeOf_8 (w : World) : Calls Try.prog 48 #[.int .i64 8] w fun e w' => e = .returned (shapeL 8).v ∧ Below w.heap.size w w' := by
  go_enter Try.func48, Try.ntmps48
  go_wp2
  go_returns
  exact ⟨rfl, by go_grown⟩
theorem shapeOf_9 (w : World) : Calls Try.prog 48 #[.int .i64 9] w fun e w' => e = .returned (shapeL 9).v ∧ Below w.heap.size w w' := by
  go_enter Try.func48, Try.ntmps48
  go_wp2
  go_returns
  exact ⟨rfl, by go_grown⟩
theorem shapeOf_10 (w : World) : Calls Try.prog 48 #[.int .i64 10] w fun e w' => e = .returned (shapeL 10).v ∧ Below w.heap.size w w' := by
  go_enter Try.func48, Try.ntmps48
  go_wp2
  go_returns
  exact ⟨rfl, by go_grown⟩
theorem shapeOf_11 (w : World) : Calls Try.prog 48 #[.int .i64 11] w fun e w' => e = .returned (shapeL 11).v ∧ Below w.heap.size w w' := by
  go_enter Try.func48, Try.ntmps48
  go_wp2
  go_returns
  exact ⟨rfl, by go_grown⟩
theorem shapeOf_12 (w : World) : Calls Try.prog 48 #[.int .i64 12] w fun e w' => e = .returned (shapeL 12).v ∧ Below w.heap.size w w' := by
  go_enter Try.func48, Try.ntmps48
  go_wp2
  go_returns
  exact ⟨rfl, by go_grown⟩
theorem shapeOf_13 (w : World) : Calls Try.prog 48 #[.int .i64 13] w fun e w' => e = .returned (shapeL 13).v ∧ Below w.heap.size w w' := by
  go_enter Try.func48, Try.ntmps48
  go_wp2
  go_returns
  exact ⟨rfl, by go_grown⟩
theorem shapeOf_14 (w : World) : Calls Try.prog 48 #[.int .i64 14] w fun e w' => e = .returned (shapeL 14).v ∧ Below w.heap.size w w' := by
  go_enter Try.func48, Try.ntmps48
  go_wp2
  go_returns
  exact ⟨rfl, by go_grown⟩
theorem shapeOf_15 (w : World) : Calls Try.prog 48 #[.int .i64 15] w fun e w' => e = .returned (shapeL 15).v ∧ Below w.heap.size w w' := by
  go_enter Try.func48, Try.ntmps48
  go_wp2
  go_returns
  exact ⟨rfl, by go_grown⟩
theorem shapeOf_16 (w : World) : Calls Try.prog 48 #[.int .i64 16] w fun e w' => e = .returned (shapeL 16).v ∧ Below w.heap.size w w' := by
  go_enter Try.func48, Try.ntmps48
  go_wp2
  go_returns
  exact ⟨rfl, by go_grown⟩
theorem shapeOf_17 (w : World) : Calls Try.prog 48 #[.int .i64 17] w fun e w' => e = .returned (shapeL 17).v ∧ Below w.heap.size w w' := by
  go_enter Try.func48, Try.ntmps48
  go_wp2
  go_returns
  exact ⟨rfl, by go_grown⟩
theorem shapeOf_18 (w : World) : Calls Try.prog 48 #[.int .i64 18] w fun e w' => e = .returned (shapeL 18).v ∧ Below w.heap.size w w' := by
  go_enter Try.func48, Try.ntmps48
  go_wp2
  go_returns
  exact ⟨rfl, by go_grown⟩
theorem shapeOf_19 (w : World) : Calls Try.prog 48 #[.int .i64 19] w fun e w' => e = .returned (shapeL 19).v ∧ Below w.heap.size w w' := by
  go_enter Try.func48, Try.ntmps48
  go_wp2
  go_returns
  exact ⟨rfl, by go_grown⟩
theorem shapeOf_20 (w : World) : Calls Try.prog 48 #[.int .i64 20] w fun e w' => e = .returned (shapeL 20).v ∧ Below w.heap.size w w' := by
  go_enter Try.func48, Try.ntmps48
  go_wp2
  go_returns
  exact ⟨rfl, by go_grown⟩
theorem shapeOf_21 (w : World) : Calls Try.prog 48 #[.int .i64 21] w fun e w' => e = .returned (shapeL 21).v ∧ Below w.heap.size w w' := by
  go_enter Try.func48, Try.ntmps48
  go_wp2
  go_returns
  exact ⟨rfl, by go_grown⟩
theorem shapeOf_22 (w : World) : Calls Try.prog 48 #[.int .i64 22] w fun e w' => e = .returned (shapeL 22).v ∧ Below w.heap.size w w' := by
  go_enter Try.func48, Try.ntmps48
  go_wp2
  go_returns
  exact ⟨rfl, by go_grown⟩
theorem shapeOf_none (op : Int) (w : World) (h0 : (op == 0) = false) (h1 : (op == 1) = false) (h2 : (op == 2) = false) (h3 : (op == 3) = false) (h4 : (op == 4) = false) (h5 : (op == 5) = false) (h6 : (op == 6) = false) (h7 : (op == 7) = false) (h8 : (op == 8) = false) (h9 : (op == 9) = false) (h10 : (op == 10) = false) (h11 : (op == 11) = false) (h12 : (op == 12) = false) (h13 : (op == 13) = false) (h14 : (op == 14) = false) (h15 : (op == 15) = false) (h16 : (op == 16) = false) (h17 : (op == 17) = false) (h18 : (op == 18) = false) (h19 : (op == 19) = false) (h20 : (op == 20) = false) (h21 : (op == 21) = false) (h22 : (op == 22) = false) : Calls Try.prog 48 #[.int .i64 op] w fun e w' => e = .returned (Shape.v ⟨false, false, false, 0, 0, 0, 0⟩) ∧ Below w.heap.size w w' := by
  go_enter Try.func48, Try.ntmps48
  go_wp2
  go_returns
  exact ⟨rfl, by go_grown⟩
theorem shapeL_none {op : Int} (h : op < 0 ∨ 22 < op) : shapeL op = ⟨false, false, false, 0, 0, 0, 0⟩ := by
  unfold shapeL
  rw [if_neg (by omega), if_neg (by omega), if_neg (by omega), if_neg (by omega), if_neg (by omega), if_neg (by omega), if_neg (by omega), if_neg (by omega), if_neg (by omega), if_neg (by omega)]
/-- Every operation's shape. -/
theorem shapeOf_any (op : Int) (w : World) : Calls Try.prog 48 #[.int .i64 op] w fun e w' => e = .returned (shapeL op).v ∧ Below w.heap.size w w' := by
  by_cases hx : op < 0 ∨ 22 < op
  · rw [shapeL_none hx]
    exact shapeOf_none op w (by simp; omega) (by simp; omega) (by simp; omega) (by simp; omega) (by simp; omega) (by simp; omega) (by simp; omega) (by simp; omega) (by simp; omega) (by simp; omega) (by simp; omega) (by simp; omega) (by simp; omega) (by simp; omega) (by simp; omega) (by simp; omega) (by simp; omega) (by simp; omega) (by simp; omega) (by simp; omega) (by simp; omega) (by simp; omega) (by simp; omega)
  have : op = 0 ∨ op = 1 ∨ op = 2 ∨ op = 3 ∨ op = 4 ∨ op = 5 ∨ op = 6 ∨ op = 7 ∨ op = 8 ∨ op = 9 ∨ op = 10 ∨ op = 11 ∨ op = 12 ∨ op = 13 ∨ op = 14 ∨ op = 15 ∨ op = 16 ∨ op = 17 ∨ op = 18 ∨ op = 19 ∨ op = 20 ∨ op = 21 ∨ op = 22 := by omega
  rcases this with rfl | rfl | rfl | rfl | rfl | rfl | rfl | rfl | rfl | rfl | rfl | rfl | rfl | rfl | rfl | rfl | rfl | rfl | rfl | rfl | rfl | rfl | rfl
  · exact shapeOf_0 w
  · exact shapeOf_1 w
  · exact shapeOf_2 w
  · exact shapeOf_3 w
  · exact shapeOf_4 w
  · exact shapeOf_5 w
  · exact shapeOf_6 w
  · exact shapeOf_7 w
  · exact shapeOf_8 w
  · exact shapeOf_9 w
  · exact shapeOf_10 w
  · exact shapeOf_11 w
  · exact shapeOf_12 w
  · exact shapeOf_13 w
  · exact shapeOf_14 w
  · exact shapeOf_15 w
  · exact shapeOf_16 w
  · exact shapeOf_17 w
  · exact shapeOf_18 w
  · exact shapeOf_19 w
  · exact shapeOf_20 w
  · exact shapeOf_21 w
  · exact shapeOf_22 w
end Go.Proofs.Ytkcofelpndlplaa
/-
  What the project's shape.fits does, at every shape. No condition beyond the numbers' kinds.
-/
namespace Go.Proofs.Ytkcofelpndlplaa
open Go.RowKit
set_option linter.unusedVariables false
set_option maxHeartbeats 800000

def fitsB (dest source : Bool) (fl fm il im d a b imm : Int) : Bool := (if dest then regB d else hasB fl fm d) && (regB a && (regB b || b == 8)) && (source || hasB il im imm)

theorem fits_t0 (fi so : Bool) (fl fm il im op d a b imm : Int) (w : World) (hX : (regB d) = false) : Calls Try.prog 59 #[Shape.v ⟨true, fi, so, fl, fm, il, im⟩, instV op d a b imm] w fun e w' => e = .returned (.bool (fitsB true so fl fm il im d a b imm)) ∧ Below w.heap.size w w' := by
    go_enter Try.func59, Try.ntmps59
    go_wp2_with (first
      | (go_at_call 67; refine (register_any _ _).mono ?_; rintro e w' ⟨rfl, rfl⟩)
      | (go_at_call 68; refine (has_any _ _ _ _).mono ?_; rintro e w' ⟨rfl, rfl⟩))
    go_returns
    exact ⟨r2b (by simp [*, fitsB]), by go_grown⟩
theorem fits_t1 (fi so : Bool) (fl fm il im op d a b imm : Int) (w : World) (hX : (regB d) = true) (ha : regB a = false) : Calls Try.prog 59 #[Shape.v ⟨true, fi, so, fl, fm, il, im⟩, instV op d a b imm] w fun e w' => e = .returned (.bool (fitsB true so fl fm il im d a b imm)) ∧ Below w.heap.size w w' := by
    go_enter Try.func59, Try.ntmps59
    go_wp2_with (first
      | (go_at_call 67; refine (register_any _ _).mono ?_; rintro e w' ⟨rfl, rfl⟩)
      | (go_at_call 68; refine (has_any _ _ _ _).mono ?_; rintro e w' ⟨rfl, rfl⟩))
    go_returns
    exact ⟨r2b (by simp [*, fitsB]), by go_grown⟩
theorem fits_t2t (fi so : Bool) (fl fm il im op d a b imm : Int) (w : World) (hX : (regB d) = true) (ha : regB a = true) (hb : regB b = true) : Calls Try.prog 59 #[Shape.v ⟨true, fi, true, fl, fm, il, im⟩, instV op d a b imm] w fun e w' => e = .returned (.bool (fitsB true true fl fm il im d a b imm)) ∧ Below w.heap.size w w' := by
    go_enter Try.func59, Try.ntmps59
    go_wp2_with (first
      | (go_at_call 67; refine (register_any _ _).mono ?_; rintro e w' ⟨rfl, rfl⟩)
      | (go_at_call 68; refine (has_any _ _ _ _).mono ?_; rintro e w' ⟨rfl, rfl⟩))
    go_returns
    exact ⟨r2b (by simp [*, fitsB]), by go_grown⟩
theorem fits_t3t (fi so : Bool) (fl fm il im op d a b imm : Int) (w : World) (hX : (regB d) = true) (ha : regB a = true) (hb : regB b = false) (h8 : (b == 8) = true) : Calls Try.prog 59 #[Shape.v ⟨true, fi, true, fl, fm, il, im⟩, instV op d a b imm] w fun e w' => e = .returned (.bool (fitsB true true fl fm il im d a b imm)) ∧ Below w.heap.size w w' := by
    go_enter Try.func59, Try.ntmps59
    go_wp2_with (first
      | (go_at_call 67; refine (register_any _ _).mono ?_; rintro e w' ⟨rfl, rfl⟩)
      | (go_at_call 68; refine (has_any _ _ _ _).mono ?_; rintro e w' ⟨rfl, rfl⟩))
    go_returns
    exact ⟨r2b (by simp [*, fitsB]), by go_grown⟩
theorem fits_t2f (fi so : Bool) (fl fm il im op d a b imm : Int) (w : World) (hX : (regB d) = true) (ha : regB a = true) (hb : regB b = true) : Calls Try.prog 59 #[Shape.v ⟨true, fi, false, fl, fm, il, im⟩, instV op d a b imm] w fun e w' => e = .returned (.bool (fitsB true false fl fm il im d a b imm)) ∧ Below w.heap.size w w' := by
    go_enter Try.func59, Try.ntmps59
    go_wp2_with (first
      | (go_at_call 67; refine (register_any _ _).mono ?_; rintro e w' ⟨rfl, rfl⟩)
      | (go_at_call 68; refine (has_any _ _ _ _).mono ?_; rintro e w' ⟨rfl, rfl⟩))
    go_returns
    exact ⟨r2b (by simp [*, fitsB]), by go_grown⟩
theorem fits_t3f (fi so : Bool) (fl fm il im op d a b imm : Int) (w : World) (hX : (regB d) = true) (ha : regB a = true) (hb : regB b = false) (h8 : (b == 8) = true) : Calls Try.prog 59 #[Shape.v ⟨true, fi, false, fl, fm, il, im⟩, instV op d a b imm] w fun e w' => e = .returned (.bool (fitsB true false fl fm il im d a b imm)) ∧ Below w.heap.size w w' := by
    go_enter Try.func59, Try.ntmps59
    go_wp2_with (first
      | (go_at_call 67; refine (register_any _ _).mono ?_; rintro e w' ⟨rfl, rfl⟩)
      | (go_at_call 68; refine (has_any _ _ _ _).mono ?_; rintro e w' ⟨rfl, rfl⟩))
    go_returns
    exact ⟨r2b (by simp [*, fitsB]), by go_grown⟩
theorem fits_t4 (fi so : Bool) (fl fm il im op d a b imm : Int) (w : World) (hX : (regB d) = true) (ha : regB a = true) (hb : regB b = false) (h8 : (b == 8) = false) : Calls Try.prog 59 #[Shape.v ⟨true, fi, so, fl, fm, il, im⟩, instV op d a b imm] w fun e w' => e = .returned (.bool (fitsB true so fl fm il im d a b imm)) ∧ Below w.heap.size w w' := by
    go_enter Try.func59, Try.ntmps59
    go_wp2_with (first
      | (go_at_call 67; refine (register_any _ _).mono ?_; rintro e w' ⟨rfl, rfl⟩)
      | (go_at_call 68; refine (has_any _ _ _ _).mono ?_; rintro e w' ⟨rfl, rfl⟩))
    go_returns
    exact ⟨r2b (by simp [*, fitsB]), by go_grown⟩
theorem fits_f0 (fi so : Bool) (fl fm il im op d a b imm : Int) (w : World) (hX : (hasB fl fm d) = false) : Calls Try.prog 59 #[Shape.v ⟨false, fi, so, fl, fm, il, im⟩, instV op d a b imm] w fun e w' => e = .returned (.bool (fitsB false so fl fm il im d a b imm)) ∧ Below w.heap.size w w' := by
    go_enter Try.func59, Try.ntmps59
    go_wp2_with (first
      | (go_at_call 67; refine (register_any _ _).mono ?_; rintro e w' ⟨rfl, rfl⟩)
      | (go_at_call 68; refine (has_any _ _ _ _).mono ?_; rintro e w' ⟨rfl, rfl⟩))
    go_returns
    exact ⟨r2b (by simp [*, fitsB]), by go_grown⟩
theorem fits_f1 (fi so : Bool) (fl fm il im op d a b imm : Int) (w : World) (hX : (hasB fl fm d) = true) (ha : regB a = false) : Calls Try.prog 59 #[Shape.v ⟨false, fi, so, fl, fm, il, im⟩, instV op d a b imm] w fun e w' => e = .returned (.bool (fitsB false so fl fm il im d a b imm)) ∧ Below w.heap.size w w' := by
    go_enter Try.func59, Try.ntmps59
    go_wp2_with (first
      | (go_at_call 67; refine (register_any _ _).mono ?_; rintro e w' ⟨rfl, rfl⟩)
      | (go_at_call 68; refine (has_any _ _ _ _).mono ?_; rintro e w' ⟨rfl, rfl⟩))
    go_returns
    exact ⟨r2b (by simp [*, fitsB]), by go_grown⟩
theorem fits_f2t (fi so : Bool) (fl fm il im op d a b imm : Int) (w : World) (hX : (hasB fl fm d) = true) (ha : regB a = true) (hb : regB b = true) : Calls Try.prog 59 #[Shape.v ⟨false, fi, true, fl, fm, il, im⟩, instV op d a b imm] w fun e w' => e = .returned (.bool (fitsB false true fl fm il im d a b imm)) ∧ Below w.heap.size w w' := by
    go_enter Try.func59, Try.ntmps59
    go_wp2_with (first
      | (go_at_call 67; refine (register_any _ _).mono ?_; rintro e w' ⟨rfl, rfl⟩)
      | (go_at_call 68; refine (has_any _ _ _ _).mono ?_; rintro e w' ⟨rfl, rfl⟩))
    go_returns
    exact ⟨r2b (by simp [*, fitsB]), by go_grown⟩
theorem fits_f3t (fi so : Bool) (fl fm il im op d a b imm : Int) (w : World) (hX : (hasB fl fm d) = true) (ha : regB a = true) (hb : regB b = false) (h8 : (b == 8) = true) : Calls Try.prog 59 #[Shape.v ⟨false, fi, true, fl, fm, il, im⟩, instV op d a b imm] w fun e w' => e = .returned (.bool (fitsB false true fl fm il im d a b imm)) ∧ Below w.heap.size w w' := by
    go_enter Try.func59, Try.ntmps59
    go_wp2_with (first
      | (go_at_call 67; refine (register_any _ _).mono ?_; rintro e w' ⟨rfl, rfl⟩)
      | (go_at_call 68; refine (has_any _ _ _ _).mono ?_; rintro e w' ⟨rfl, rfl⟩))
    go_returns
    exact ⟨r2b (by simp [*, fitsB]), by go_grown⟩
theorem fits_f2f (fi so : Bool) (fl fm il im op d a b imm : Int) (w : World) (hX : (hasB fl fm d) = true) (ha : regB a = true) (hb : regB b = true) : Calls Try.prog 59 #[Shape.v ⟨false, fi, false, fl, fm, il, im⟩, instV op d a b imm] w fun e w' => e = .returned (.bool (fitsB false false fl fm il im d a b imm)) ∧ Below w.heap.size w w' := by
    go_enter Try.func59, Try.ntmps59
    go_wp2_with (first
      | (go_at_call 67; refine (register_any _ _).mono ?_; rintro e w' ⟨rfl, rfl⟩)
      | (go_at_call 68; refine (has_any _ _ _ _).mono ?_; rintro e w' ⟨rfl, rfl⟩))
    go_returns
    exact ⟨r2b (by simp [*, fitsB]), by go_grown⟩
theorem fits_f3f (fi so : Bool) (fl fm il im op d a b imm : Int) (w : World) (hX : (hasB fl fm d) = true) (ha : regB a = true) (hb : regB b = false) (h8 : (b == 8) = true) : Calls Try.prog 59 #[Shape.v ⟨false, fi, false, fl, fm, il, im⟩, instV op d a b imm] w fun e w' => e = .returned (.bool (fitsB false false fl fm il im d a b imm)) ∧ Below w.heap.size w w' := by
    go_enter Try.func59, Try.ntmps59
    go_wp2_with (first
      | (go_at_call 67; refine (register_any _ _).mono ?_; rintro e w' ⟨rfl, rfl⟩)
      | (go_at_call 68; refine (has_any _ _ _ _).mono ?_; rintro e w' ⟨rfl, rfl⟩))
    go_returns
    exact ⟨r2b (by simp [*, fitsB]), by go_grown⟩
theorem fits_f4 (fi so : Bool) (fl fm il im op d a b imm : Int) (w : World) (hX : (hasB fl fm d) = true) (ha : regB a = true) (hb : regB b = false) (h8 : (b == 8) = false) : Calls Try.prog 59 #[Shape.v ⟨false, fi, so, fl, fm, il, im⟩, instV op d a b imm] w fun e w' => e = .returned (.bool (fitsB false so fl fm il im d a b imm)) ∧ Below w.heap.size w w' := by
    go_enter Try.func59, Try.ntmps59
    go_wp2_with (first
      | (go_at_call 67; refine (register_any _ _).mono ?_; rintro e w' ⟨rfl, rfl⟩)
      | (go_at_call 68; refine (has_any _ _ _ _).mono ?_; rintro e w' ⟨rfl, rfl⟩))
    go_returns
    exact ⟨r2b (by simp [*, fitsB]), by go_grown⟩
theorem fits_any (s : Shape) (op d a b imm : Int) (w : World) : Calls Try.prog 59 #[s.v, instV op d a b imm] w fun e w' => e = .returned (.bool (fitsB s.dest s.source s.farL s.farM s.immL s.immM d a b imm)) ∧ Below w.heap.size w w' := by
  obtain ⟨de, fi, so, fl, fm, il, im⟩ := s
  cases de
  · cases hX : hasB fl fm d
    · exact fits_f0 fi so fl fm il im op d a b imm w hX
    · cases ha : regB a
      · exact fits_f1 fi so fl fm il im op d a b imm w hX ha
      · cases hb : regB b
        · cases h8 : (b == 8)
          · exact fits_f4 fi so fl fm il im op d a b imm w hX ha hb h8
          · cases so
            · exact fits_f3f fi false fl fm il im op d a b imm w hX ha hb h8
            · exact fits_f3t fi true fl fm il im op d a b imm w hX ha hb h8
        · cases so
          · exact fits_f2f fi false fl fm il im op d a b imm w hX ha hb
          · exact fits_f2t fi true fl fm il im op d a b imm w hX ha hb
  · cases hX : regB d
    · exact fits_t0 fi so fl fm il im op d a b imm w hX
    · cases ha : regB a
      · exact fits_t1 fi so fl fm il im op d a b imm w hX ha
      · cases hb : regB b
        · cases h8 : (b == 8)
          · exact fits_t4 fi so fl fm il im op d a b imm w hX ha hb h8
          · cases so
            · exact fits_t3f fi false fl fm il im op d a b imm w hX ha hb h8
            · exact fits_t3t fi true fl fm il im op d a b imm w hX ha hb h8
        · cases so
          · exact fits_t2f fi false fl fm il im op d a b imm w hX ha hb
          · exact fits_t2t fi true fl fm il im op d a b imm w hX ha hb
end Go.Proofs.Ytkcofelpndlplaa
