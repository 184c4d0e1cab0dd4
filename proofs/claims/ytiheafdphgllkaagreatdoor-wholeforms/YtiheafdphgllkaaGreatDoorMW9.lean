
/-
 The listed package-level variables: what the condition gives the walks, that it outlives whatever leaves old memory alone, and that the program's own start-up meets it.
-/
import Derived.Test.YtiheafdphgllkaaGreatDoorMW8
import Derived.ProofKit
import Derived.LaidMore
import Derived.OpenShut
import Derived.Stop.Joined
import Derived.Stop.LaidErr
import Derived.Lib.LaidTab
import Derived.Lib.ItoaNum
import Derived.WalkSmall
import Derived.ShapedOpen
import Derived.JoinedCond
import Derived.SizedLaws
import Derived.LaidLaws
import Derived.Shelf.Vars
namespace Go.Proofs.YtiheafdphgllkaaGreatDoor
open Go.ChangeShapes Go.WideShapes Go.ChangeAt Go.WideMaps Go.WideElems Go.RowKit
set_option linter.unusedVariables false
set_option maxRecDepth 100000

theorem gNames : Tryz.prog.globalNamed "tappet/ops.names" = some 0 := by kernel_rfl
theorem tNames : (Tryz.prog.globals[0]?).map (·.type) = some 166 := by kernel_rfl
theorem gSyn : Tryz.prog.globalNamed "strconv.ErrSyntax" = some 2 := by kernel_rfl
theorem tSyn : (Tryz.prog.globals[2]?).map (·.type) = some 65 := by kernel_rfl
theorem gRan : Tryz.prog.globalNamed "strconv.ErrRange" = some 3 := by kernel_rfl
theorem tRan : (Tryz.prog.globals[3]?).map (·.type) = some 65 := by kernel_rfl
theorem gPow : Tryz.prog.globalNamed "internal/strconv.uint64pow10" = some 4 := by kernel_rfl
theorem tPow : (Tryz.prog.globals[4]?).map (·.type) = some 270 := by kernel_rfl
abbrev laidAll : List (String × DataW Unit) := [("math/bits.deBruijn32tab", Rows.laid_math_bits_deBruijn32tab), ("math/bits.deBruijn64tab", Rows.laid_math_bits_deBruijn64tab), ("internal/strconv.uint64pow10", Rows.laid_internal_strconv_uint64pow10), ("tappet/ops.names", Rows.laid_tappet_ops_names), ("strconv.ErrRange", Rows.laid_strconv_ErrRange), ("strconv.ErrSyntax", Rows.laid_strconv_ErrSyntax)]
theorem names_eq : (Rows.laid_tappet_ops_names : DataW Unit) = .agg (nameL.map fun s => .lit (.string s.data.toList)) := rfl
theorem pow_eq : (Rows.laid_internal_strconv_uint64pow10 : DataW Unit) = Lib.tabData .u64 Lib.pow10Tab := by kernel_rfl

def Laid (w : World) : Prop := 6 < w.heap.size /\ Named_l w /\ Lib.TabIs Tryz.prog w "internal/strconv.uint64pow10" .u64 Lib.pow10Tab /\ (∃ tp p, w.var? Tryz.prog "strconv.ErrSyntax" = some #[.iface tp p]) /\ (∃ tp p, w.var? Tryz.prog "strconv.ErrRange" = some #[.iface tp p]) /\ ∃ m, w.cell? ⟨1, 0, none⟩ = some (.int .i64 m)
theorem Laid.below {w w' : World} {B : Nat} (h : Laid w) (hb : Below B w w') (hB : 6 < B) : Laid w' := by
 obtain ⟨h0, h1, h2, ⟨t3, p3, h3⟩, ⟨t4, p4, h4⟩, m, h5⟩ := h
 exact ⟨Nat.lt_of_lt_of_le h0 hb.size, h1.below hb (by omega), var?_below hb gPow (by omega) h2, ⟨t3, p3, var?_below hb gSyn (by omega) h3⟩, ⟨t4, p4, var?_below hb gRan (by omega) h4⟩, m, (hb.cell (p := ⟨1, 0, none⟩) (by show 1 < B; omega)).trans h5⟩
theorem laid_keeps (w w' : World) (h : Laid w) (hb : Below w.heap.size w w') : Laid w' := h.below hb h.1

theorem door_met (os : Os) (args : Array Value) : laidMetH Tryz.prog laidAll ((World.doorLaid Tryz.prog 400 os).forCall (fun _ _ => 0) ⟨#[], args, []⟩).memory :=
 laidMetH_of_parts3 (fuel := 8) (laidMet_of_run' 8 (by kernel_rfl) (by kernel_rfl)) (by kernel_rfl) (by kernel_rfl)

theorem star_err : "*" ++ "errors.errorString" = "*errors.errorString" := by decide
theorem only_row {u : TypeId} (h : Tryz.prog.typeName? 3 u = some "*errors.errorString") : u = 273 :=
 typeName_ptr_named (nm := "errors.errorString") (by rw [star_err]; kernel_rfl) (by kernel_rfl) (by decide) u (by rw [star_err]; exact h)
theorem names_of {W : World} {r : List (String × DataW Unit)} (h : laidMet Tryz.prog (("tappet/ops.names", Rows.laid_tappet_ops_names) :: r) W) : Named_l W := by
 obtain ⟨ps, ⟨g0, t0, cs0, f0, p0, q0, hg0, ht0, hv0, hd0, _, _⟩, _⟩ := h
 obtain rfl := Option.some.inj (gNames.symm.trans hg0)
 obtain rfl := Option.some.inj (tNames.symm.trans ht0)
 obtain ⟨xs, m1, rfl, hx1, hlen, hn, hel⟩ := DataW.trod_array Tryz.underlying166 hd0
 have c9 : Tryz.prog.cellsOf 9 = 1 := by kernel_rfl
 simp only [Prod.mk.injEq] at hx1
 have hx := hx1.1
 rw [names_eq] at hx
 injection hx with hx
 have main : ∀ k, k < 23 -> W.cell? ⟨0, k, none⟩ = some (.string (nameS k)) := by
  intro k hk
  have h1 := hel k hk
  have hkx : k < xs.length := by omega
  rw [List.getElem?_eq_getElem hkx] at h1
  obtain ⟨s, e1, e2, _⟩ := DataW.trod_string Tryz.underlying9 h1
  have hb : s = nameS k := by
   have h2 : (nameL.map fun s => (DataW.lit (.string s.data.toList) : DataW Unit))[k]? = (xs.map (·.1))[k]? := by rw [hx]
   have hkn : k < nameL.length := hk
   rw [List.getElem?_map, List.getElem?_map, List.getElem?_eq_getElem hkx, List.getElem?_eq_getElem hkn, e2] at h2
   simp only [Option.map_some, Option.some.injEq, DataW.lit.injEq, Lit.string.injEq] at h2
   have h3 : s = nameL[k] := bytes_inj h2.symm
   rw [h3, nameS]
   simp [List.getD, hkn]
  rw [World.var?_cell hg0 hv0 k, <- hb]
  rw [c9, Nat.mul_one] at e1
  have h4 : ((cs0.toList.drop k).take 1)[0]? = some (.string s) := by rw [e1]; rfl
  simpa using h4
 exact ⟨Nat.lt_of_le_of_lt (Nat.zero_le _) (World.block_lt_of_cell? W ⟨0, 0, none⟩ (main 0 (by omega))), main⟩
theorem max_of {W : World} (h : W.ShapedOpen Tryz.prog) : 6 < W.heap.size /\ ∃ m, W.cell? ⟨1, 0, none⟩ = some (.int .i64 m) := by
 refine ⟨?_, ?_⟩
 ·have hi : (((begin Tryz.prog (fun _ _ => 0) default).world.heap[6]?).bind Obj.row?).isSome = true := by kernel_rfl
  obtain ⟨⟨z, t⟩, hz⟩ := Option.isSome_iff_exists.1 hi
  obtain ⟨cs, hh, _⟩ := h.1 6 z t (of_decide_eq_true (by kernel_rfl)) hz
  exact (Array.getElem?_eq_some_iff.1 hh).1
 ·exact cell_of_shapedOpen_int (k := .i64) (t := 3) (zero := #[.int .i64 0]) h (of_decide_eq_true (by kernel_rfl)) (by kernel_rfl) (by kernel_rfl) (by kernel_rfl) (by kernel_rfl) (by kernel_rfl)
theorem of_laid {W : World} (h : laidMetH Tryz.prog laidAll W) (hs : W.ShapedOpen Tryz.prog) : Laid W := by
 rw [MakeChecks.laidMetH_plain _ _ _ (by kernel_rfl)] at h
 have h2 := h.tail.tail
 have h3 := h2.tail
 have h4 := h3.tail
 have h5 := h4.tail
 obtain ⟨m6, mm⟩ := max_of hs
 rw [pow_eq] at h2
 obtain ⟨a4, s4, e4, _⟩ := laid_sentinel h4 gRan tRan Tryz.underlying65 (fun u => only_row) Tryz.underlying273 Tryz.underlying275 rfl rfl Tryz.underlying9 (by kernel_rfl) (by kernel_rfl)
 obtain ⟨a5, s5, e5, _⟩ := laid_sentinel h5 gSyn tSyn Tryz.underlying65 (fun u => only_row) Tryz.underlying273 Tryz.underlying275 rfl rfl Tryz.underlying9 (by kernel_rfl) (by kernel_rfl)
 exact ⟨m6, names_of h3, Lib.tabIs_of_head gPow tPow Tryz.underlying270 Tryz.underlying26 (by kernel_rfl) (by kernel_rfl) h2, ⟨_, _, e5⟩, ⟨_, _, e4⟩, mm⟩
end Go.Proofs.YtiheafdphgllkaaGreatDoor
