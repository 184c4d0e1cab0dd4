
/-
  The landed map of layer 15: its shape, Do. Condition: it lies where the pointer says.
-/
import Derived.Test.YtpbfgebecgikjaaC15Sh
namespace Go.Proofs.Ytpbfgebecgikjaa
open Go.RowKit
set_option linter.unusedVariables false
set_option linter.unusedSimpArgs false
set_option maxRecDepth 100000

abbrev ifC (v : Value) : List Value := [v]
theorem ifC_len (v : Value) : (ifC v).length = 1 := rfl
theorem infoIf : (Try.prog.info? 69).map (fun i => (i.zero, i.size, i.bytes)) = some (some .nilIface, 1, 16) := by kernel_rfl
def footN (m : Nat) (rv : Value) (n : Nat) (F : Nat → Ft) : Ft := fun k => k = m ∨ rv.ownBlock = some k ∨ unF n F k
section
variable {w w' : World} {B m cap : Nat} {κ : Bool} {k : Int} {rv : Value} {vs : List Value} {st : List Sr} {F : Nat → Ft}
end
theorem res_endL (P : World → Ft → Prop) (hk : ∀ {w w' : World} {F G : Ft}, P w F → Chg w w' G → Apt G F → P w' F) {w X w1 W7 : World} {F F' : Ft} {cs : List Value} (hbX : Below w.heap.size w X) (hzX : X.heap.size = w.heap.size + 1) (hF : Lies w F) (Hr : Hp w1 w.heap.size 47 cs) (hl : cs.length = 6) (hP : P w1 F') (hn : Nx X w1 F F') {E x k u : Int} {f o : Bool} {fn : Func} {tmps : Array Value} {pt : Tmp} (hW : W7 = ((((((w1.setCell ⟨w.heap.size, 0, none⟩ (.int .i64 E)).setCell ⟨w.heap.size, 1, none⟩ (.bool f)).setCell ⟨w.heap.size, 2, none⟩ (.int .u64 x)).setCell ⟨w.heap.size, 3, none⟩ (.bool o)).setCell ⟨w.heap.size, 4, none⟩ (.int .u64 k)).setCell ⟨w.heap.size, 5, none⟩ (.int .u64 u))) (hr : fn.results = #[.cell pt 47] := by rfl) (hp : tmps.getD pt undef = .pointer (some ⟨w.heap.size, 0, none⟩) := by rfl) :
    bodyPost Try.prog fn (fun e w' => e = .returned (resG E f x o k u) ∧ ∃ F', P w' F' ∧ Nx w w' F F') .ret ⟨tmps, []⟩ W7 := by
  obtain ⟨hs, hg⟩ := six_sets (E := E) (f := f) (v := x) (o := o) (k := k) (u := u) Hr hl
  have hc := Chg.of_grown (S := fun k => k = w.heap.size) hg rfl
  have hn0 := (Nx.below (F := F) hbX).trans hn
  have hnot : ¬ F' w.heap.size := fun e => by
    rcases hn.new _ e with g | g
    · have := hF _ g; omega
    · omega
  rw [hW]
  exact res_ret hr hp hs ⟨rfl, F', hk hP hc (fun k e hf => by subst e; exact hnot hf), ⟨hn0.chg.trans hc (fun k hk e => by omega), hn0.new⟩⟩
section
variable {w w' : World} {B m n cap : Nat} {κ : Bool} {k : Int} {st : List Sr} {G H : Ft}
end
end Go.Proofs.Ytpbfgebecgikjaa
