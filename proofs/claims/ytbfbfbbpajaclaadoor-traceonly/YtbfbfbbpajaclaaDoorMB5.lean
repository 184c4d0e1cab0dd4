
/-
  Layer 26, landed: the listed package-level variables: what the condition gives the walks, that it outlives whatever leaves old memory alone, and that the program's own start-up meets it.
-/
import Derived.Test.YtbfbfbbpajaclaaDoorRows
import Derived.ProofKit
import Derived.LaidMore
import Derived.OpenShut
import Derived.Stop.Joined
import Derived.Stop.LaidErr
import Derived.Lib.LaidTab
import Derived.Lib.ItoaNum
import Derived.WalkSmall
import Derived.ShapedOpen
import Derived.JoinedCond
import Derived.SizedLaws
import Derived.LaidLaws
import Derived.Shelf.Vars
namespace Go.Proofs.YtbfbfbbpajaclaaDoor
open Go.ChangeShapes Go.WideShapes Go.ChangeAt Go.WideMaps Go.WideElems Go.RowKit
set_option linter.unusedVariables false
set_option maxRecDepth 100000

theorem gPow : Tryd.prog.globalNamed "internal/strconv.uint64pow10" = some 1 := by kernel_rfl
theorem tPow : (Tryd.prog.globals[1]?).map (·.type) = some 122 := by kernel_rfl
theorem gSyn : Tryd.prog.globalNamed "strconv.ErrSyntax" = some 2 := by kernel_rfl
theorem tSyn : (Tryd.prog.globals[2]?).map (·.type) = some 66 := by kernel_rfl
theorem gRan : Tryd.prog.globalNamed "strconv.ErrRange" = some 3 := by kernel_rfl
theorem tRan : (Tryd.prog.globals[3]?).map (·.type) = some 66 := by kernel_rfl
/-- What is listed. -/
abbrev laidAll : List (String × DataW Unit) := [("math/bits.deBruijn32tab", Rows.laid_math_bits_deBruijn32tab), ("math/bits.deBruijn64tab", Rows.laid_math_bits_deBruijn64tab), ("internal/strconv.uint64pow10", Rows.laid_internal_strconv_uint64pow10), ("strconv.ErrRange", Rows.laid_strconv_ErrRange), ("strconv.ErrSyntax", Rows.laid_strconv_ErrSyntax)]
theorem pow_eq : (Rows.laid_internal_strconv_uint64pow10 : DataW Unit) = Lib.tabData .u64 Lib.pow10Tab := by kernel_rfl

/-- What the walks want to know of the package-level variables. -/
def Laid (w : World) : Prop := 5 < w.heap.size ∧ Lib.TabIs Tryd.prog w "internal/strconv.uint64pow10" .u64 Lib.pow10Tab ∧ (∃ tp p, w.var? Tryd.prog "strconv.ErrSyntax" = some #[.iface tp p]) ∧ (∃ tp p, w.var? Tryd.prog "strconv.ErrRange" = some #[.iface tp p])
theorem Laid.below {w w' : World} {B : Nat} (h : Laid w) (hb : Below B w w') (hB : 5 < B) : Laid w' := by
  obtain ⟨h0, h2, ⟨t3, p3, h3⟩, t4, p4, h4⟩ := h
  exact ⟨Nat.lt_of_lt_of_le h0 hb.size, var?_below hb gPow (by omega) h2, ⟨t3, p3, var?_below hb gSyn (by omega) h3⟩, t4, p4, var?_below hb gRan (by omega) h4⟩
theorem laid_keeps (w w' : World) (h : Laid w) (hb : Below w.heap.size w w') : Laid w' := h.below hb h.1
theorem laid_keepsB {B : Nat} {w w' : World} (h : Laid w) (hb : Below w.heap.size w w') : Laid w' := h.below hb h.1

/-- The door's own heap meets the condition. -/
theorem door_met (os : Os) (args : Array Value) : laidMetH Tryd.prog laidAll ((World.doorLaid Tryd.prog 400 os).forCall (fun _ _ => 0) ⟨#[], args, []⟩).memory :=
  laidMetH_of_parts3 (fuel := 8) (laidMet_of_run' 8 (by kernel_rfl) (by kernel_rfl)) (by kernel_rfl) (by kernel_rfl)

theorem star_err : "*" ++ "errors.errorString" = "*errors.errorString" := by decide
theorem only_row {u : TypeId} (h : Tryd.prog.typeName? 3 u = some "*errors.errorString") : u = 131 :=
  typeName_ptr_named (nm := "errors.errorString") (by rw [star_err]; kernel_rfl) (by kernel_rfl) (by decide) u (by rw [star_err]; exact h)
theorem heap_of {W : World} (h : W.ShapedOpen Tryd.prog) : 5 < W.heap.size := by
  have hi : (((begin Tryd.prog (fun _ _ => 0) default).world.heap[5]?).bind Obj.row?).isSome = true := by kernel_rfl
  obtain ⟨⟨z, t⟩, hz⟩ := Option.isSome_iff_exists.1 hi
  obtain ⟨cs, hh, _⟩ := h.1 5 z t (of_decide_eq_true (by kernel_rfl)) hz
  exact (Array.getElem?_eq_some_iff.1 hh).1
/-- What the condition gives the walks. -/
theorem of_laid {W : World} (h : laidMetH Tryd.prog laidAll W) (hs : W.ShapedOpen Tryd.prog) : Laid W := by
  rw [MakeChecks.laidMetH_plain _ _ _ (by kernel_rfl)] at h
  have h2 := h.tail.tail
  have h4 := h2.tail
  have h5 := h4.tail
  have m6 := heap_of hs
  rw [pow_eq] at h2
  obtain ⟨a4, s4, e4, _⟩ := laid_sentinel h4 gRan tRan Tryd.underlying66 (fun u => only_row) Tryd.underlying131 Tryd.underlying133 rfl rfl Tryd.underlying9 (by kernel_rfl) (by kernel_rfl)
  obtain ⟨a5, s5, e5, _⟩ := laid_sentinel h5 gSyn tSyn Tryd.underlying66 (fun u => only_row) Tryd.underlying131 Tryd.underlying133 rfl rfl Tryd.underlying9 (by kernel_rfl) (by kernel_rfl)
  exact ⟨m6, Lib.tabIs_of_head gPow tPow Tryd.underlying122 Tryd.underlying29 (by kernel_rfl) (by kernel_rfl) h2, ⟨_, _, e5⟩, ⟨_, _, e4⟩⟩
end Go.Proofs.YtbfbfbbpajaclaaDoor
