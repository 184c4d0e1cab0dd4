/-
  What the project's shape.fits does, at every shape. No condition beyond the numbers' kinds.
-/
import Derived.Test.YtfmibjgihicedaaO2Small
namespace Go.Proofs.Ytfmibjgihicedaa
open Go.RowKit
set_option linter.unusedVariables false
set_option maxHeartbeats 800000

def fitsB (dest source : Bool) (fl fm il im d a b imm : Int) : Bool := (if dest then regB d else hasB fl fm d) && (regB a && (regB b || b == 8)) && (source || hasB il im imm)

theorem fits_t0 (fi so : Bool) (fl fm il im op d a b imm : Int) (w : World) (hX : (regB d) = false) : Calls Try.prog 45 #[Shape.v ⟨true, fi, so, fl, fm, il, im⟩, instV op d a b imm] w fun e w' => e = .returned (.bool (fitsB true so fl fm il im d a b imm)) ∧ Below w.heap.size w w' := by
    go_enter Try.func45, Try.ntmps45
    go_wp2_with (first
      | (go_at_call 46; refine (register_any _ _).mono ?_; rintro e w' ⟨rfl, rfl⟩)
      | (go_at_call 47; refine (has_any _ _ _ _).mono ?_; rintro e w' ⟨rfl, rfl⟩))
    go_returns
    exact ⟨r2b (by simp [*, fitsB]), by go_grown⟩
theorem fits_t1 (fi so : Bool) (fl fm il im op d a b imm : Int) (w : World) (hX : (regB d) = true) (ha : regB a = false) : Calls Try.prog 45 #[Shape.v ⟨true, fi, so, fl, fm, il, im⟩, instV op d a b imm] w fun e w' => e = .returned (.bool (fitsB true so fl fm il im d a b imm)) ∧ Below w.heap.size w w' := by
    go_enter Try.func45, Try.ntmps45
    go_wp2_with (first
      | (go_at_call 46; refine (register_any _ _).mono ?_; rintro e w' ⟨rfl, rfl⟩)
      | (go_at_call 47; refine (has_any _ _ _ _).mono ?_; rintro e w' ⟨rfl, rfl⟩))
    go_returns
    exact ⟨r2b (by simp [*, fitsB]), by go_grown⟩
theorem fits_t2t (fi so : Bool) (fl fm il im op d a b imm : Int) (w : World) (hX : (regB d) = true) (ha : regB a = true) (hb : regB b = true) : Calls Try.prog 45 #[Shape.v ⟨true, fi, true, fl, fm, il, im⟩, instV op d a b imm] w fun e w' => e = .returned (.bool (fitsB true true fl fm il im d a b imm)) ∧ Below w.heap.size w w' := by
    go_enter Try.func45, Try.ntmps45
    go_wp2_with (first
      | (go_at_call 46; refine (register_any _ _).mono ?_; rintro e w' ⟨rfl, rfl⟩)
      | (go_at_call 47; refine (has_any _ _ _ _).mono ?_; rintro e w' ⟨rfl, rfl⟩))
    go_returns
    exact ⟨r2b (by simp [*, fitsB]), by go_grown⟩
theorem fits_t3t (fi so : Bool) (fl fm il im op d a b imm : Int) (w : World) (hX : (regB d) = true) (ha : regB a = true) (hb : regB b = false) (h8 : (b == 8) = true) : Calls Try.prog 45 #[Shape.v ⟨true, fi, true, fl, fm, il, im⟩, instV op d a b imm] w fun e w' => e = .returned (.bool (fitsB true true fl fm il im d a b imm)) ∧ Below w.heap.size w w' := by
    go_enter Try.func45, Try.ntmps45
    go_wp2_with (first
      | (go_at_call 46; refine (register_any _ _).mono ?_; rintro e w' ⟨rfl, rfl⟩)
      | (go_at_call 47; refine (has_any _ _ _ _).mono ?_; rintro e w' ⟨rfl, rfl⟩))
    go_returns
    exact ⟨r2b (by simp [*, fitsB]), by go_grown⟩
theorem fits_t2f (fi so : Bool) (fl fm il im op d a b imm : Int) (w : World) (hX : (regB d) = true) (ha : regB a = true) (hb : regB b = true) : Calls Try.prog 45 #[Shape.v ⟨true, fi, false, fl, fm, il, im⟩, instV op d a b imm] w fun e w' => e = .returned (.bool (fitsB true false fl fm il im d a b imm)) ∧ Below w.heap.size w w' := by
    go_enter Try.func45, Try.ntmps45
    go_wp2_with (first
      | (go_at_call 46; refine (register_any _ _).mono ?_; rintro e w' ⟨rfl, rfl⟩)
      | (go_at_call 47; refine (has_any _ _ _ _).mono ?_; rintro e w' ⟨rfl, rfl⟩))
    go_returns
    exact ⟨r2b (by simp [*, fitsB]), by go_grown⟩
theorem fits_t3f (fi so : Bool) (fl fm il im op d a b imm : Int) (w : World) (hX : (regB d) = true) (ha : regB a = true) (hb : regB b = false) (h8 : (b == 8) = true) : Calls Try.prog 45 #[Shape.v ⟨true, fi, false, fl, fm, il, im⟩, instV op d a b imm] w fun e w' => e = .returned (.bool (fitsB true false fl fm il im d a b imm)) ∧ Below w.heap.size w w' := by
    go_enter Try.func45, Try.ntmps45
    go_wp2_with (first
      | (go_at_call 46; refine (register_any _ _).mono ?_; rintro e w' ⟨rfl, rfl⟩)
      | (go_at_call 47; refine (has_any _ _ _ _).mono ?_; rintro e w' ⟨rfl, rfl⟩))
    go_returns
    exact ⟨r2b (by simp [*, fitsB]), by go_grown⟩
theorem fits_t4 (fi so : Bool) (fl fm il im op d a b imm : Int) (w : World) (hX : (regB d) = true) (ha : regB a = true) (hb : regB b = false) (h8 : (b == 8) = false) : Calls Try.prog 45 #[Shape.v ⟨true, fi, so, fl, fm, il, im⟩, instV op d a b imm] w fun e w' => e = .returned (.bool (fitsB true so fl fm il im d a b imm)) ∧ Below w.heap.size w w' := by
    go_enter Try.func45, Try.ntmps45
    go_wp2_with (first
      | (go_at_call 46; refine (register_any _ _).mono ?_; rintro e w' ⟨rfl, rfl⟩)
      | (go_at_call 47; refine (has_any _ _ _ _).mono ?_; rintro e w' ⟨rfl, rfl⟩))
    go_returns
    exact ⟨r2b (by simp [*, fitsB]), by go_grown⟩
theorem fits_f0 (fi so : Bool) (fl fm il im op d a b imm : Int) (w : World) (hX : (hasB fl fm d) = false) : Calls Try.prog 45 #[Shape.v ⟨false, fi, so, fl, fm, il, im⟩, instV op d a b imm] w fun e w' => e = .returned (.bool (fitsB false so fl fm il im d a b imm)) ∧ Below w.heap.size w w' := by
    go_enter Try.func45, Try.ntmps45
    go_wp2_with (first
      | (go_at_call 46; refine (register_any _ _).mono ?_; rintro e w' ⟨rfl, rfl⟩)
      | (go_at_call 47; refine (has_any _ _ _ _).mono ?_; rintro e w' ⟨rfl, rfl⟩))
    go_returns
    exact ⟨r2b (by simp [*, fitsB]), by go_grown⟩
theorem fits_f1 (fi so : Bool) (fl fm il im op d a b imm : Int) (w : World) (hX : (hasB fl fm d) = true) (ha : regB a = false) : Calls Try.prog 45 #[Shape.v ⟨false, fi, so, fl, fm, il, im⟩, instV op d a b imm] w fun e w' => e = .returned (.bool (fitsB false so fl fm il im d a b imm)) ∧ Below w.heap.size w w' := by
    go_enter Try.func45, Try.ntmps45
    go_wp2_with (first
      | (go_at_call 46; refine (register_any _ _).mono ?_; rintro e w' ⟨rfl, rfl⟩)
      | (go_at_call 47; refine (has_any _ _ _ _).mono ?_; rintro e w' ⟨rfl, rfl⟩))
    go_returns
    exact ⟨r2b (by simp [*, fitsB]), by go_grown⟩
theorem fits_f2t (fi so : Bool) (fl fm il im op d a b imm : Int) (w : World) (hX : (hasB fl fm d) = true) (ha : regB a = true) (hb : regB b = true) : Calls Try.prog 45 #[Shape.v ⟨false, fi, true, fl, fm, il, im⟩, instV op d a b imm] w fun e w' => e = .returned (.bool (fitsB false true fl fm il im d a b imm)) ∧ Below w.heap.size w w' := by
    go_enter Try.func45, Try.ntmps45
    go_wp2_with (first
      | (go_at_call 46; refine (register_any _ _).mono ?_; rintro e w' ⟨rfl, rfl⟩)
      | (go_at_call 47; refine (has_any _ _ _ _).mono ?_; rintro e w' ⟨rfl, rfl⟩))
    go_returns
    exact ⟨r2b (by simp [*, fitsB]), by go_grown⟩
theorem fits_f3t (fi so : Bool) (fl fm il im op d a b imm : Int) (w : World) (hX : (hasB fl fm d) = true) (ha : regB a = true) (hb : regB b = false) (h8 : (b == 8) = true) : Calls Try.prog 45 #[Shape.v ⟨false, fi, true, fl, fm, il, im⟩, instV op d a b imm] w fun e w' => e = .returned (.bool (fitsB false true fl fm il im d a b imm)) ∧ Below w.heap.size w w' := by
    go_enter Try.func45, Try.ntmps45
    go_wp2_with (first
      | (go_at_call 46; refine (register_any _ _).mono ?_; rintro e w' ⟨rfl, rfl⟩)
      | (go_at_call 47; refine (has_any _ _ _ _).mono ?_; rintro e w' ⟨rfl, rfl⟩))
    go_returns
    exact ⟨r2b (by simp [*, fitsB]), by go_grown⟩
theorem fits_f2f (fi so : Bool) (fl fm il im op d a b imm : Int) (w : World) (hX : (hasB fl fm d) = true) (ha : regB a = true) (hb : regB b = true) : Calls Try.prog 45 #[Shape.v ⟨false, fi, false, fl, fm, il, im⟩, instV op d a b imm] w fun e w' => e = .returned (.bool (fitsB false false fl fm il im d a b imm)) ∧ Below w.heap.size w w' := by
    go_enter Try.func45, Try.ntmps45
    go_wp2_with (first
      | (go_at_call 46; refine (register_any _ _).mono ?_; rintro e w' ⟨rfl, rfl⟩)
      | (go_at_call 47; refine (has_any _ _ _ _).mono ?_; rintro e w' ⟨rfl, rfl⟩))
    go_returns
    exact ⟨r2b (by simp [*, fitsB]), by go_grown⟩
theorem fits_f3f (fi so : Bool) (fl fm il im op d a b imm : Int) (w : World) (hX : (hasB fl fm d) = true) (ha : regB a = true) (hb : regB b = false) (h8 : (b == 8) = true) : Calls Try.prog 45 #[Shape.v ⟨false, fi, false, fl, fm, il, im⟩, instV op d a b imm] w fun e w' => e = .returned (.bool (fitsB false false fl fm il im d a b imm)) ∧ Below w.heap.size w w' := by
    go_enter Try.func45, Try.ntmps45
    go_wp2_with (first
      | (go_at_call 46; refine (register_any _ _).mono ?_; rintro e w' ⟨rfl, rfl⟩)
      | (go_at_call 47; refine (has_any _ _ _ _).mono ?_; rintro e w' ⟨rfl, rfl⟩))
    go_returns
    exact ⟨r2b (by simp [*, fitsB]), by go_grown⟩
theorem fits_f4 (fi so : Bool) (fl fm il im op d a b imm : Int) (w : World) (hX : (hasB fl fm d) = true) (ha : regB a = true) (hb : regB b = false) (h8 : (b == 8) = false) : Calls Try.prog 45 #[Shape.v ⟨false, fi, so, fl, fm, il, im⟩, instV op d a b imm] w fun e w' => e = .returned (.bool (fitsB false so fl fm il im d a b imm)) ∧ Below w.heap.size w w' := by
    go_enter Try.func45, Try.ntmps45
    go_wp2_with (first
      | (go_at_call 46; refine (register_any _ _).mono ?_; rintro e w' ⟨rfl, rfl⟩)
      | (go_at_call 47; refine (has_any _ _ _ _).mono ?_; rintro e w' ⟨rfl, rfl⟩))
    go_returns
    exact ⟨r2b (by simp [*, fitsB]), by go_grown⟩
theorem fits_any (s : Shape) (op d a b imm : Int) (w : World) : Calls Try.prog 45 #[s.v, instV op d a b imm] w fun e w' => e = .returned (.bool (fitsB s.dest s.source s.farL s.farM s.immL s.immM d a b imm)) ∧ Below w.heap.size w w' := by
  obtain ⟨de, fi, so, fl, fm, il, im⟩ := s
  cases de
  · cases hX : hasB fl fm d
    · exact fits_f0 fi so fl fm il im op d a b imm w hX
    · cases ha : regB a
      · exact fits_f1 fi so fl fm il im op d a b imm w hX ha
      · cases hb : regB b
        · cases h8 : (b == 8)
          · exact fits_f4 fi so fl fm il im op d a b imm w hX ha hb h8
          · cases so
            · exact fits_f3f fi false fl fm il im op d a b imm w hX ha hb h8
            · exact fits_f3t fi true fl fm il im op d a b imm w hX ha hb h8
        · cases so
          · exact fits_f2f fi false fl fm il im op d a b imm w hX ha hb
          · exact fits_f2t fi true fl fm il im op d a b imm w hX ha hb
  · cases hX : regB d
    · exact fits_t0 fi so fl fm il im op d a b imm w hX
    · cases ha : regB a
      · exact fits_t1 fi so fl fm il im op d a b imm w hX ha
      · cases hb : regB b
        · cases h8 : (b == 8)
          · exact fits_t4 fi so fl fm il im op d a b imm w hX ha hb h8
          · cases so
            · exact fits_t3f fi false fl fm il im op d a b imm w hX ha hb h8
            · exact fits_t3t fi true fl fm il im op d a b imm w hX ha hb h8
        · cases so
          · exact fits_t2f fi false fl fm il im op d a b imm w hX ha hb
          · exact fits_t2t fi true fl fm il im op d a b imm w hX ha hb
end Go.Proofs.Ytfmibjgihicedaa
