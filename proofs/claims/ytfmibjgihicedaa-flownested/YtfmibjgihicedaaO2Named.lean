/-
  What the project's shape.named and shape.fits do, at the ten shapes that there are. No condition beyond the numbers' kinds.
-/
import Derived.Test.YtfmibjgihicedaaO2Small
namespace Go.Proofs.Ytfmibjgihicedaa
open Go.RowKit
set_option linter.unusedVariables false
set_option maxHeartbeats 800000

theorem named_A8 (op d a b imm : Int) (w : World) (h8 : (b == 8) = true) : Calls Try.prog 44 #[Shape.v ⟨true, false, true, 0, 0, 0, 0⟩, instV op d a b imm] w fun e w' => e = .returned (instV op d 0 b imm) ∧ Below w.heap.size w w' := by
  go_enter Try.func44, Try.ntmps44
  go_wp2
  go_returns
  exact ⟨rfl, by go_grown⟩
theorem named_Ar (op d a b imm : Int) (w : World) (h8 : (b == 8) = false) : Calls Try.prog 44 #[Shape.v ⟨true, false, true, 0, 0, 0, 0⟩, instV op d a b imm] w fun e w' => e = .returned (instV op d 0 b 0) ∧ Below w.heap.size w w' := by
  go_enter Try.func44, Try.ntmps44
  go_wp2
  go_returns
  exact ⟨rfl, by go_grown⟩
theorem named_B8 (op d a b imm : Int) (w : World) (h8 : (b == 8) = true) : Calls Try.prog 44 #[Shape.v ⟨true, true, true, 0, 0, 0, 0⟩, instV op d a b imm] w fun e w' => e = .returned (instV op d a b imm) ∧ Below w.heap.size w w' := by
  go_enter Try.func44, Try.ntmps44
  go_wp2
  go_returns
  exact ⟨rfl, by go_grown⟩
theorem named_Br (op d a b imm : Int) (w : World) (h8 : (b == 8) = false) : Calls Try.prog 44 #[Shape.v ⟨true, true, true, 0, 0, 0, 0⟩, instV op d a b imm] w fun e w' => e = .returned (instV op d a b 0) ∧ Below w.heap.size w w' := by
  go_enter Try.func44, Try.ntmps44
  go_wp2
  go_returns
  exact ⟨rfl, by go_grown⟩
theorem named_C8 (op d a b imm : Int) (w : World) (h8 : (b == 8) = true) : Calls Try.prog 44 #[Shape.v ⟨false, true, true, 0, 0, 0, 0⟩, instV op d a b imm] w fun e w' => e = .returned (instV op 0 a b imm) ∧ Below w.heap.size w w' := by
  go_enter Try.func44, Try.ntmps44
  go_wp2
  go_returns
  exact ⟨rfl, by go_grown⟩
theorem named_Cr (op d a b imm : Int) (w : World) (h8 : (b == 8) = false) : Calls Try.prog 44 #[Shape.v ⟨false, true, true, 0, 0, 0, 0⟩, instV op d a b imm] w fun e w' => e = .returned (instV op 0 a b 0) ∧ Below w.heap.size w w' := by
  go_enter Try.func44, Try.ntmps44
  go_wp2
  go_returns
  exact ⟨rfl, by go_grown⟩
theorem named_D (op d a b imm : Int) (w : World) : Calls Try.prog 44 #[Shape.v ⟨true, false, false, 0, 0, 0, 1⟩, instV op d a b imm] w fun e w' => e = .returned (instV op d 0 0 imm) ∧ Below w.heap.size w w' := by
  go_enter Try.func44, Try.ntmps44
  go_wp2
  go_returns
  exact ⟨rfl, by go_grown⟩
theorem named_E (op d a b imm : Int) (w : World) : Calls Try.prog 44 #[Shape.v ⟨true, false, false, 0, 0, 0, 3⟩, instV op d a b imm] w fun e w' => e = .returned (instV op d 0 0 imm) ∧ Below w.heap.size w w' := by
  go_enter Try.func44, Try.ntmps44
  go_wp2
  go_returns
  exact ⟨rfl, by go_grown⟩
theorem named_F (op d a b imm : Int) (w : World) : Calls Try.prog 44 #[Shape.v ⟨false, false, false, 0, 63, 0, 0⟩, instV op d a b imm] w fun e w' => e = .returned (instV op d 0 0 0) ∧ Below w.heap.size w w' := by
  go_enter Try.func44, Try.ntmps44
  go_wp2
  go_returns
  exact ⟨rfl, by go_grown⟩
theorem named_G8 (op d a b imm : Int) (w : World) (h8 : (b == 8) = true) : Calls Try.prog 44 #[Shape.v ⟨false, true, true, 0, 63, 0, 0⟩, instV op d a b imm] w fun e w' => e = .returned (instV op d a b imm) ∧ Below w.heap.size w w' := by
  go_enter Try.func44, Try.ntmps44
  go_wp2
  go_returns
  exact ⟨rfl, by go_grown⟩
theorem named_Gr (op d a b imm : Int) (w : World) (h8 : (b == 8) = false) : Calls Try.prog 44 #[Shape.v ⟨false, true, true, 0, 63, 0, 0⟩, instV op d a b imm] w fun e w' => e = .returned (instV op d a b 0) ∧ Below w.heap.size w w' := by
  go_enter Try.func44, Try.ntmps44
  go_wp2
  go_returns
  exact ⟨rfl, by go_grown⟩
theorem named_H (op d a b imm : Int) (w : World) : Calls Try.prog 44 #[Shape.v ⟨false, true, false, 1, 63, 1, 255⟩, instV op d a b imm] w fun e w' => e = .returned (instV op d a 0 imm) ∧ Below w.heap.size w w' := by
  go_enter Try.func44, Try.ntmps44
  go_wp2
  go_returns
  exact ⟨rfl, by go_grown⟩
theorem named_I (op d a b imm : Int) (w : World) : Calls Try.prog 44 #[Shape.v ⟨false, false, false, 0, 0, 0, 6⟩, instV op d a b imm] w fun e w' => e = .returned (instV op 0 0 0 imm) ∧ Below w.heap.size w w' := by
  go_enter Try.func44, Try.ntmps44
  go_wp2
  go_returns
  exact ⟨rfl, by go_grown⟩
theorem named_J (op d a b imm : Int) (w : World) : Calls Try.prog 44 #[Shape.v ⟨false, true, false, 0, 0, 0, 0⟩, instV op d a b imm] w fun e w' => e = .returned (instV op 0 a 0 0) ∧ Below w.heap.size w w' := by
  go_enter Try.func44, Try.ntmps44
  go_wp2
  go_returns
  exact ⟨rfl, by go_grown⟩
end Go.Proofs.Ytfmibjgihicedaa
