
/-
  Layer 26: the laws' own example, plain. No Go text in sight.
-/
import Derived.Test.YtbfbfbbpajaclaaDoorX26Text
namespace Go.Proofs.YtbfbfbbpajaclaaDoor
open Go.RowKit
set_option linter.unusedVariables false
set_option linter.unusedSimpArgs false
set_option maxRecDepth 100000
def ex1 : En := ⟨1, 0, 0, 2, 0, 0, 0, 0, 0, 0, 0, 0, 0, 0, 0, false, 0, false, 0, 0, 0, 0⟩
def ex2 : En := ⟨2, 1, 0, 0, 0, 0, 0, 0, 0, 0, 0, 0, 0, 0, 0, false, 0, false, 0, 0, 0, 40⟩
def ex3 : En := ⟨17, 2, 0, 0, 0, 7, 0, 1, 3, 4, 0, 0, 0, 0, 0, false, 0, true, 8, 2, 0, 0⟩
theorem ex1_wf : ex1.wf := wf_en (by omega) (by omega) (by omega) (by omega) (by omega) (by omega) (by omega) (by omega) (by omega) (by omega) (by omega) (by omega) (by omega) (by omega) (by omega) (by omega) (by omega) (by omega) (by omega) (by omega)
theorem ex2_wf : ex2.wf := wf_en (by omega) (by omega) (by omega) (by omega) (by omega) (by omega) (by omega) (by omega) (by omega) (by omega) (by omega) (by omega) (by omega) (by omega) (by omega) (by omega) (by omega) (by omega) (by omega) (by omega)
theorem ex3_wf : ex3.wf := wf_en (by omega) (by omega) (by omega) (by omega) (by omega) (by omega) (by omega) (by omega) (by omega) (by omega) (by omega) (by omega) (by omega) (by omega) (by omega) (by omega) (by omega) (by omega) (by omega) (by omega)
theorem ex12_print : printE [ex1, ex2] = ([99, 97, 108, 108, 32, 116, 48, 32, 99, 50, 10, 114, 101, 116, 117, 114, 110, 32, 116, 49, 32, 99, 48, 32, 120, 52, 48, 32, 110, 48, 10], 0) := by decide +kernel
theorem ex3_text : textE [ex3] = [98, 97, 99, 107, 32, 116, 50, 32, 101, 55, 32, 112, 49, 32, 118, 51, 32, 97, 52, 32, 121, 48, 32, 98, 48, 32, 114, 48, 32, 79, 56, 32, 86, 50, 10] := by decide +kernel
theorem ex3_plain : plainE ex3 = true := by decide +kernel
theorem ex3_parse : parE [98, 97, 99, 107, 32, 116, 50, 32, 101, 55, 32, 112, 49, 32, 118, 51, 32, 97, 52, 32, 121, 48, 32, 98, 48, 32, 114, 48, 32, 79, 56, 32, 86, 50, 10] = ([ex3], 0, 0) := by
  rw [← ex3_text]
  exact par26_print (fun i hi => by
    have e : i = ex3 := by simpa using hi
    subst e
    exact ⟨ex3_plain, ex3_wf⟩)
end Go.Proofs.YtbfbfbbpajaclaaDoor
