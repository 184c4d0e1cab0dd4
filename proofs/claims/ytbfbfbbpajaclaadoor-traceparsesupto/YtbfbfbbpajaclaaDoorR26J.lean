
/-
  What the document's Read does behind the name: fields, word by word. Condition: the words lie in a row of their own.
-/
import Derived.Test.YtbfbfbbpajaclaaDoorR26G
import Derived.Test.YtbfbfbbpajaclaaDoorX26Rd
namespace Go.Proofs.YtbfbfbbpajaclaaDoor
open Go.RowKit
set_option linter.unusedVariables false
set_option linter.unusedSimpArgs false
set_option maxRecDepth 1000000
def headR26 : Code → Nat
  | .region i _ _ => i
  | .seq a _ => headR26 a
  | .block _ a => headR26 a
  | .scope a => headR26 a
  | .cond _ a _ => 100000
  | .loop a => headR26 a
  | _ => 100000
/-- The sequence that begins with a region. -/
def seqAt26 (k : Nat) : Code → Option Code
  | .seq a b => if headR26 a = k then some (.seq a b) else match seqAt26 k a with
    | some x => some x
    | none => seqAt26 k b
  | .block _ a => seqAt26 k a
  | .scope a => seqAt26 k a
  | .loop a => seqAt26 k a
  | .cond _ a b => match seqAt26 k a with
    | some x => some x
    | none => seqAt26 k b
  | _ => none
noncomputable def tailR26 : Code := ((Tryd.f32.body.bind (seqAt26 18)).getD .skip)
theorem unE_wf {e : En} (h : e.wf) (c : Nat) : 0 ≤ (unE e c).1 ∧ (unE e c).1 < 18446744073709551616 := h.un c
theorem wrap64_bd (n : Int) : -9223372036854775808 ≤ wrap64 n ∧ wrap64 n ≤ 9223372036854775807 := by
  unfold wrap64
  omega
theorem startM_wf {m : Int} (hm : 1 ≤ m ∧ m ≤ 17) (o : Bool) : (startM m o).wf := by
  refine ⟨fun c => ?_, fun c => ?_, by show _ ≤ m ∧ m ≤ _; omega⟩
  · have h : sgE (startM m o) c = 0 := by unfold sgE startM En.nil; simp
    rw [h]; omega
  · have h : (unE (startM m o) c).1 = 0 := by unfold unE startM En.nil; simp only; repeat' split
                                              all_goals rfl
    rw [h]; omega
theorem new_en (w : World) (e : En) : ∃ X Y, Hid (w.alloc (.cells (enC En.nil).toArray 36) = X) ∧ Hid (X.setCells w.heap.size 0 (enC e).toArray.toList = Y) ∧ Hid (Hp X w.heap.size 36 (enC En.nil)) ∧ Hid (Hp Y w.heap.size 36 (enC e)) ∧ Hid (Below w.heap.size w Y) := by
  have h1 := Hp.new w (enC En.nil) 36
  exact ⟨_, _, rfl, rfl, h1, setsEn e h1, (below_allocG w _).trans (grown_to_below (grown_sets w.heap.size (enC e).toArray.toList _ 0) (Nat.le_refl _) (by simp))⟩
end Go.Proofs.YtbfbfbbpajaclaaDoor
