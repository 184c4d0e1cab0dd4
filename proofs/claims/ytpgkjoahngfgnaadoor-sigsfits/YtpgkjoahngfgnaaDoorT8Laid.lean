/-
  The listed package-level variable: what the condition gives the walks, and that the program's own start-up meets it.
-/
import Derived.Test.YtpgkjoahngfgnaaDoorT8Names
import Derived.ProofKit
import Derived.LaidMore
import Derived.OpenShut
import Derived.Stop.Joined
namespace Go.Proofs.YtpgkjoahngfgnaaDoor
open Go.ChangeShapes Go.WideShapes Go.ChangeAt Go.WideMaps Go.WideElems Go.RowKit
set_option linter.unusedVariables false

theorem gNames : Tryd.prog.globalNamed "tappet/sigs.names" = some 0 := by kernel_rfl
theorem tNames : (Tryd.prog.globals[0]?).map (·.type) = some 52 := by kernel_rfl
/-- What is listed. -/
abbrev laidNames : List (String × DataW Unit) := [("tappet/sigs.names", Rows.laid_tappet_sigs_names)]
theorem laid_eq : (Rows.laid_tappet_sigs_names : DataW Unit) = .agg (nameL.map fun s => .lit (.string s.data.toList)) := rfl

/-- The door's own heap meets the condition. -/
theorem door_met (os : Os) (args : Array Value) : laidMetH Tryd.prog laidNames ((World.doorLaid Tryd.prog 400 os).forCall (fun _ _ => 0) ⟨#[], args, []⟩).memory :=
  laidMetH_of_parts3 (fuel := 8) (laidMet_of_run' 8 (by kernel_rfl) (by kernel_rfl)) (by kernel_rfl) (by kernel_rfl)

/-- What the condition gives the walks. -/
theorem of_laid {W : World} (h : laidMetH Tryd.prog laidNames W) : Named W := by
  rw [MakeChecks.laidMetH_plain _ _ _ (by kernel_rfl)] at h
  obtain ⟨ps, ⟨g0, t0, cs0, f0, p0, q0, hg0, ht0, hv0, hd0, _⟩, _, _⟩ := h
  obtain rfl := Option.some.inj (gNames.symm.trans hg0)
  obtain rfl := Option.some.inj (tNames.symm.trans ht0)
  obtain ⟨xs, m1, rfl, hx1, hlen, hn, hel⟩ := DataW.trod_array Tryd.underlying52 hd0
  have c9 : Tryd.prog.cellsOf 9 = 1 := by kernel_rfl
  simp only [Prod.mk.injEq] at hx1
  have hx := hx1.1
  rw [laid_eq] at hx
  injection hx with hx
  have main : ∀ k, k < 7 → W.cell? ⟨0, k, none⟩ = some (.string (nameS k)) := by
    intro k hk
    have h1 := hel k hk
    have hkx : k < xs.length := by omega
    rw [List.getElem?_eq_getElem hkx] at h1
    obtain ⟨s, e1, e2, _⟩ := DataW.trod_string Tryd.underlying9 h1
    have hb : s = nameS k := by
      have h2 : (nameL.map fun s => (DataW.lit (.string s.data.toList) : DataW Unit))[k]? = (xs.map (·.1))[k]? := by rw [hx]
      have hkn : k < nameL.length := hk
      rw [List.getElem?_map, List.getElem?_map, List.getElem?_eq_getElem hkx, List.getElem?_eq_getElem hkn, e2] at h2
      simp only [Option.map_some, Option.some.injEq, DataW.lit.injEq, Lit.string.injEq] at h2
      have h3 : s = nameL[k] := bytes_inj h2.symm
      rw [h3, nameS]
      simp [List.getD, hkn]
    rw [World.var?_cell hg0 hv0 k, ← hb]
    rw [c9, Nat.mul_one] at e1
    have h4 : ((cs0.toList.drop k).take 1)[0]? = some (.string s) := by rw [e1]; rfl
    simpa using h4
  exact ⟨Nat.lt_of_le_of_lt (Nat.zero_le _) (World.block_lt_of_cell? W ⟨0, 0, none⟩ (main 0 (by omega))), main⟩
end Go.Proofs.YtpgkjoahngfgnaaDoor
