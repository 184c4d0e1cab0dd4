
/-
  Layer 26's plain side: an entry, its line, and what a text says. No Go text in sight.
-/
import Derived.Test.YtbfbfbbpajaclaaDoorKR3Back
namespace Go.Proofs.YtbfbfbbpajaclaaDoor
open Go.RowKit
set_option linter.unusedVariables false
set_option linter.unusedSimpArgs false
/-- An entry. -/
structure En where
  wh : Int
  ta : Int
  fr : Int
  cm : Int
  tg : Int
  ev : Int
  hk : Int
  pg : Int
  ve : Int
  pc : Int
  mp : Int
  op : Int
  ky : Int
  vl : Int
  er : Int
  fo : Bool
  rv : Int
  ou : Bool
  ok : Int
  ov : Int
  va : Int
  xe : Int
def En.nil : En := ⟨0, 0, 0, 0, 0, 0, 0, 0, 0, 0, 0, 0, 0, 0, 0, false, 0, false, 0, 0, 0, 0⟩
def enV (e : En) : Value := .agg #[.int .i64 e.wh, .int .i64 e.ta, .int .i64 e.fr, .int .i64 e.cm, .int .i64 e.tg, .int .i64 e.ev, .int .i64 e.hk, .int .i64 e.pg, .int .i64 e.ve, .int .i64 e.pc, .int .i64 e.mp, .int .i64 e.op, .int .u64 e.ky, .int .u64 e.vl, .int .i64 e.er, .bool e.fo, .int .u64 e.rv, .bool e.ou, .int .u64 e.ok, .int .u64 e.ov, .int .u64 e.va, .int .i64 e.xe]
abbrev enC (e : En) : List Value := [.int .i64 e.wh, .int .i64 e.ta, .int .i64 e.fr, .int .i64 e.cm, .int .i64 e.tg, .int .i64 e.ev, .int .i64 e.hk, .int .i64 e.pg, .int .i64 e.ve, .int .i64 e.pc, .int .i64 e.mp, .int .i64 e.op, .int .u64 e.ky, .int .u64 e.vl, .int .i64 e.er, .bool e.fo, .int .u64 e.rv, .bool e.ou, .int .u64 e.ok, .int .u64 e.ov, .int .u64 e.va, .int .i64 e.xe]
/-- The marks' names. -/
def nmT : List (List UInt8) := [[], [99, 97, 108, 108], [114, 101, 116, 117, 114, 110], [97, 112, 112, 108, 121], [97, 99, 99, 101, 112, 116], [116, 97, 107, 101], [101, 110, 116, 101, 114], [114, 97, 110], [110, 111, 116, 101], [100, 111, 110, 101], [100, 114, 111, 112], [112, 117, 98, 108, 105, 115, 104], [108, 111, 97, 100, 101, 100], [114, 101, 116, 105, 114, 101, 100], [99, 108, 111, 115, 101, 100], [101, 110, 100], [97, 115, 107], [98, 97, 99, 107]]
def nmE (m : Int) : List UInt8 := if 1 ≤ m ∧ m ≤ 17 then nmT.getD m.toNat [] else []
/-- The letters of a mark's line. -/
def resL (o : Bool) : List UInt8 := if o then [121, 98, 114, 79, 86] else [121, 98, 114]
def fldL (m : Int) (o : Bool) : List UInt8 :=
  if m = 1 then [116, 99] else if m = 2 then [116, 99, 120, 110] else if m = 3 then [116, 102, 99, 103, 101, 109, 111, 107, 119] ++ resL o
  else if m = 4 then [116, 99, 104, 101] else if m = 5 ∨ m = 10 then [116, 104, 101] else if m = 6 then [116, 104, 101, 112, 118]
  else if m = 7 ∨ m = 8 then [116, 101, 112, 118, 97, 110] else if m = 9 then [116, 104, 101, 112, 118, 97, 110] else if m = 11 then [116, 104, 112, 118]
  else if m = 12 ∨ m = 13 then [116, 112] else if m = 16 then [116, 101, 112, 118, 97, 109, 111, 107, 119] else if m = 17 then [116, 101, 112, 118, 97] ++ resL o else [116]
/-- A field that is an int. -/
def sgE (e : En) (c : Nat) : Int :=
  if c = 116 then e.ta else if c = 102 then e.fr else if c = 99 then e.cm else if c = 103 then e.tg else if c = 101 then e.ev else if c = 104 then e.hk else if c = 112 then e.pg
  else if c = 118 then e.ve else if c = 97 then e.pc else if c = 120 then e.xe else if c = 109 then e.mp else if c = 111 then e.op else if c = 121 then e.er else if e.fo = true then 1 else 0
/-- A field of 64 bits, if it is one. -/
def unE (e : En) (c : Nat) : Int × Bool :=
  if c = 110 then (e.va, true) else if c = 107 then (e.ky, true) else if c = 119 then (e.vl, true) else if c = 114 then (e.rv, true) else if c = 79 then (e.ok, true) else if c = 86 then (e.ov, true) else (0, false)
/-- A field's word, with the blank ahead. -/
def wdE (e : En) (c : UInt8) : List UInt8 := 32 :: c :: (if (unE e c.toNat).2 = true then digF 20 (unE e c.toNat).1.toNat else numL (sgE e c.toNat))
def lineE (e : En) : List UInt8 := nmE e.wh ++ (fldL e.wh e.ou).flatMap (wdE e)
def allL : List UInt8 := [116, 102, 99, 103, 101, 104, 112, 118, 97, 120, 109, 111, 121, 98, 110, 107, 119, 114, 79, 86]
def inL26 (f : List UInt8) (c : UInt8) : Bool := f.contains c
/-- Is a field zero, where it isn't shown? -/
def zeroE (e : En) (f : List UInt8) (c : UInt8) : Bool := inL26 f c || (if (unE e c.toNat).2 = true then (unE e c.toNat).1 == 0 else sgE e c.toNat == 0)
def plainE (e : En) : Bool := decide (1 ≤ e.wh ∧ e.wh ≤ 17) && allL.all (zeroE e (fldL e.wh e.ou)) && (!e.ou || inL26 (fldL e.wh e.ou) 121)
def textE (es : List En) : List UInt8 := es.flatMap (fun e => lineE e ++ [10])
def printE (es : List En) : List UInt8 × Int := if es.all plainE = true then (textE es, 0) else ([], 12)
/-- An entry whose fields are of their kinds. -/
structure En.wf (e : En) : Prop where
  si : ∀ c, -9223372036854775808 ≤ sgE e c ∧ sgE e c ≤ 9223372036854775807
  un : ∀ c, 0 ≤ (unE e c).1 ∧ (unE e c).1 < 18446744073709551616
  wh : -9223372036854775808 ≤ e.wh ∧ e.wh ≤ 9223372036854775807
end Go.Proofs.YtbfbfbbpajaclaaDoor
