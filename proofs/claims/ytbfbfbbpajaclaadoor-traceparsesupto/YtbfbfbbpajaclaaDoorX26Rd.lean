
/-
  Layer 26's plain side: a line read whole, a text read. No Go text in sight.
-/
import Derived.Test.YtbfbfbbpajaclaaDoorX26Read
namespace Go.Proofs.YtbfbfbbpajaclaaDoor
open Go.RowKit
set_option linter.unusedVariables false
set_option linter.unusedSimpArgs false
/-- Fields set, word by word. -/
def goE : En → List UInt8 → List (List UInt8) → Option En
  | e, [], _ => some e
  | e, c :: f, ts => if (setE e c (ts.getD 0 [])).2 = true then goE (setE e c (ts.getD 0 [])).1 f (ts.drop 1) else none
/-- Does a Res with Out stand in these words? -/
def outB (m : Int) (ts : List (List UInt8)) : Bool := (ts.length + 1 == (fldL m false).length + 3) && inL26 (fldL m false) 121
def startM (m : Int) (o : Bool) : En := { En.nil with wh := m, ou := o }
/-- A line whose name is mark m's. -/
def readM (m : Int) (ts : List (List UInt8)) (s : List UInt8) : Option En :=
  if ts.length = (fldL m (outB m ts)).length then
    match goE (startM m (outB m ts)) (fldL m (outB m ts)) ts with
    | none => none
    | some e => if lineE e = s then some e else none
  else none
/-- The first mark from m on of a name, among k. -/
def markF (w0 : List UInt8) : Nat → Nat → Option Nat
  | _, 0 => none
  | m, k + 1 => if nmE m = w0 then some m else markF w0 (m + 1) k
def readE (s : List UInt8) : Option En :=
  match markF ((wordsL s).headD []) 1 17 with
  | none => none
  | some m => readM m ((wordsL s).drop 1) s
end Go.Proofs.YtbfbfbbpajaclaaDoor
