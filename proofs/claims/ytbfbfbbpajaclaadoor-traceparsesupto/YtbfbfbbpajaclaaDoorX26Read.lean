
/-
  Layer 26's plain side: a line read, as the document reads it. No Go text in sight.
-/
import Derived.Test.YtbfbfbbpajaclaaDoorX26Plain
namespace Go.Proofs.YtbfbfbbpajaclaaDoor
open Go.RowKit
set_option linter.unusedVariables false
set_option linter.unusedSimpArgs false
/-- Digits, one behind the other, wrapping. -/
def accL : Int → List UInt8 → Option Int
  | U, [] => some U
  | U, c :: r => if c.toNat < 48 ∨ 57 < c.toNat then none else accL (IntKind.u64.wrap (IntKind.u64.wrap (10 * U) + ((c.toNat : Int) - 48))) r
/-- A field of 64 bits, set. -/
def brE (e : En) (c : Nat) (n : Int) : En :=
  if c = 110 then { e with va := n } else if c = 107 then { e with ky := n } else if c = 119 then { e with vl := n } else if c = 114 then { e with rv := n } else if c = 79 then { e with ok := n } else if c = 86 then { e with ov := n } else e
/-- A field, set. -/
def putE (e : En) (c : Nat) (k n : Int) : En :=
  if c = 116 then { e with ta := k } else if c = 102 then { e with fr := k } else if c = 99 then { e with cm := k } else if c = 103 then { e with tg := k } else if c = 101 then { e with ev := k } else if c = 104 then { e with hk := k } else if c = 112 then { e with pg := k }
  else if c = 118 then { e with ve := k } else if c = 97 then { e with pc := k } else if c = 120 then { e with xe := k } else if c = 109 then { e with mp := k } else if c = 111 then { e with op := k } else if c = 121 then { e with er := k } else if c = 98 then { e with fo := k == 1 } else brE e c n
def negL (l : List UInt8) : Bool := (l.getD 1 0).toNat == 45
def kE (l : List UInt8) (n : Int) : Int := if negL l = true then wrap64 (IntKind.u64.wrap (-n)) else wrap64 n
def setN (e : En) (c : Nat) (l : List UInt8) : Option Int → En × Bool
  | none => (e, false)
  | some n => (putE e c (kE l n) n, true)
def setE (e : En) (c : UInt8) (l : List UInt8) : En × Bool :=
  if l.length < 2 then (e, false) else if ¬ l.getD 0 0 = c then (e, false) else setN e c.toNat l (accL 0 (if negL l = true then l.drop 2 else l.drop 1))
end Go.Proofs.YtbfbfbbpajaclaaDoor
