/-
  X26Plain
  KR3Number
  X26Read
  X26Rd
  X26Wf
  T26Dg
-/
import Derived.Test.YtbfbfbbpajaclaaDoorMB10
import Derived.Test.YtbfbfbbpajaclaaDoorMB7
import Derived.Handy
/-
  Layer 26's plain side: an entry, its line, and what a text says. No Go text in sight.
-/
namespace Go.Proofs.YtbfbfbbpajaclaaDoor
open Go.RowKit
set_option linter.unusedVariables false
set_option linter.unusedSimpArgs false
/-- An entry. -/
structure En where
  wh : Int
  ta : Int
  fr : Int
  cm : Int
  tg : Int
  ev : Int
  hk : Int
  pg : Int
  ve : Int
  pc : Int
  mp : Int
  op : Int
  ky : Int
  vl : Int
  er : Int
  fo : Bool
  rv : Int
  ou : Bool
  ok : Int
  ov : Int
  va : Int
  xe : Int
def En.nil : En := ⟨0, 0, 0, 0, 0, 0, 0, 0, 0, 0, 0, 0, 0, 0, 0, false, 0, false, 0, 0, 0, 0⟩
def enV (e : En) : Value := .agg #[.int .i64 e.wh, .int .i64 e.ta, .int .i64 e.fr, .int .i64 e.cm, .int .i64 e.tg, .int .i64 e.ev, .int .i64 e.hk, .int .i64 e.pg, .int .i64 e.ve, .int .i64 e.pc, .int .i64 e.mp, .int .i64 e.op, .int .u64 e.ky, .int .u64 e.vl, .int .i64 e.er, .bool e.fo, .int .u64 e.rv, .bool e.ou, .int .u64 e.ok, .int .u64 e.ov, .int .u64 e.va, .int .i64 e.xe]
abbrev enC (e : En) : List Value := [.int .i64 e.wh, .int .i64 e.ta, .int .i64 e.fr, .int .i64 e.cm, .int .i64 e.tg, .int .i64 e.ev, .int .i64 e.hk, .int .i64 e.pg, .int .i64 e.ve, .int .i64 e.pc, .int .i64 e.mp, .int .i64 e.op, .int .u64 e.ky, .int .u64 e.vl, .int .i64 e.er, .bool e.fo, .int .u64 e.rv, .bool e.ou, .int .u64 e.ok, .int .u64 e.ov, .int .u64 e.va, .int .i64 e.xe]
/-- The marks' names. -/
def nmT : List (List UInt8) := [[], [99, 97, 108, 108], [114, 101, 116, 117, 114, 110], [97, 112, 112, 108, 121], [97, 99, 99, 101, 112, 116], [116, 97, 107, 101], [101, 110, 116, 101, 114], [114, 97, 110], [110, 111, 116, 101], [100, 111, 110, 101], [100, 114, 111, 112], [112, 117, 98, 108, 105, 115, 104], [108, 111, 97, 100, 101, 100], [114, 101, 116, 105, 114, 101, 100], [99, 108, 111, 115, 101, 100], [101, 110, 100], [97, 115, 107], [98, 97, 99, 107]]
def nmE (m : Int) : List UInt8 := if 1 ≤ m ∧ m ≤ 17 then nmT.getD m.toNat [] else []
/-- The letters of a mark's line. -/
def resL (o : Bool) : List UInt8 := if o then [121, 98, 114, 79, 86] else [121, 98, 114]
def fldL (m : Int) (o : Bool) : List UInt8 :=
  if m = 1 then [116, 99] else if m = 2 then [116, 99, 120, 110] else if m = 3 then [116, 102, 99, 103, 101, 109, 111, 107, 119] ++ resL o
  else if m = 4 then [116, 99, 104, 101] else if m = 5 ∨ m = 10 then [116, 104, 101] else if m = 6 then [116, 104, 101, 112, 118]
  else if m = 7 ∨ m = 8 then [116, 101, 112, 118, 97, 110] else if m = 9 then [116, 104, 101, 112, 118, 97, 110] else if m = 11 then [116, 104, 112, 118]
  else if m = 12 ∨ m = 13 then [116, 112] else if m = 16 then [116, 101, 112, 118, 97, 109, 111, 107, 119] else if m = 17 then [116, 101, 112, 118, 97] ++ resL o else [116]
/-- A field that is an int. -/
def sgE (e : En) (c : Nat) : Int :=
  if c = 116 then e.ta else if c = 102 then e.fr else if c = 99 then e.cm else if c = 103 then e.tg else if c = 101 then e.ev else if c = 104 then e.hk else if c = 112 then e.pg
  else if c = 118 then e.ve else if c = 97 then e.pc else if c = 120 then e.xe else if c = 109 then e.mp else if c = 111 then e.op else if c = 121 then e.er else if e.fo = true then 1 else 0
/-- A field of 64 bits, if it is one. -/
def unE (e : En) (c : Nat) : Int × Bool :=
  if c = 110 then (e.va, true) else if c = 107 then (e.ky, true) else if c = 119 then (e.vl, true) else if c = 114 then (e.rv, true) else if c = 79 then (e.ok, true) else if c = 86 then (e.ov, true) else (0, false)
/-- A field's word, with the blank ahead. -/
def wdE (e : En) (c : UInt8) : List UInt8 := 32 :: c :: (if (unE e c.toNat).2 = true then digF 20 (unE e c.toNat).1.toNat else numL (sgE e c.toNat))
def lineE (e : En) : List UInt8 := nmE e.wh ++ (fldL e.wh e.ou).flatMap (wdE e)
def allL : List UInt8 := [116, 102, 99, 103, 101, 104, 112, 118, 97, 120, 109, 111, 121, 98, 110, 107, 119, 114, 79, 86]
def inL26 (f : List UInt8) (c : UInt8) : Bool := f.contains c
/-- Is a field zero, where it isn't shown? -/
def zeroE (e : En) (f : List UInt8) (c : UInt8) : Bool := inL26 f c || (if (unE e c.toNat).2 = true then (unE e c.toNat).1 == 0 else sgE e c.toNat == 0)
def plainE (e : En) : Bool := decide (1 ≤ e.wh ∧ e.wh ≤ 17) && allL.all (zeroE e (fldL e.wh e.ou)) && (!e.ou || inL26 (fldL e.wh e.ou) 121)
def textE (es : List En) : List UInt8 := es.flatMap (fun e => lineE e ++ [10])
def printE (es : List En) : List UInt8 × Int := if es.all plainE = true then (textE es, 0) else ([], 12)
/-- An entry whose fields are of their kinds. -/
structure En.wf (e : En) : Prop where
  si : ∀ c, -9223372036854775808 ≤ sgE e c ∧ sgE e c ≤ 9223372036854775807
  un : ∀ c, 0 ≤ (unE e c).1 ∧ (unE e c).1 < 18446744073709551616
  wh : -9223372036854775808 ≤ e.wh ∧ e.wh ≤ 9223372036854775807
end Go.Proofs.YtbfbfbbpajaclaaDoor
/-
  What the document's Number does: the number in decimal digits. Condition: the number is of its kind.
-/
namespace Go.Proofs.YtbfbfbbpajaclaaDoor
open Go.RowKit
set_option linter.unusedVariables false

theorem digit_at (k : Nat) (h : k < 10) : (⟨#[48, 49, 50, 51, 52, 53, 54, 55, 56, 57]⟩ : ByteArray).extract k (k + 1) = str [dig k] := by
  have hc : k = 0 ∨ k = 1 ∨ k = 2 ∨ k = 3 ∨ k = 4 ∨ k = 5 ∨ k = 6 ∨ k = 7 ∨ k = 8 ∨ k = 9 := by omega
  rcases hc with rfl | rfl | rfl | rfl | rfl | rfl | rfl | rfl | rfl | rfl <;> rfl

set_option maxHeartbeats 800000 in
theorem number_any_l (n : Int) (w : World) (hn : -9223372036854775808 ≤ n ∧ n ≤ 9223372036854775807) : Calls Tryd.prog 43 #[.int .i64 n] w fun e w' => e = .returned (.string (str (numL n))) ∧ w = w' := by
  by_cases h0 : n < 0
  · have HN : Hid (numL n = 45 :: digF 20 (-n).toNat) := by show _ = _; unfold numL; rw [if_pos h0]
    go_enter Tryd.func43, Tryd.ntmps43
    go_wp2_with fail
    go_loop [3, 4] (fun u s => ∃ (f U : Nat) (acc : List UInt8), u = .int .u64 (U : Int) ∧ s = .string (str acc) ∧ U < 10 ^ (f + 1) ∧ acc.length + f < 20 ∧ U < 18446744073709551616 ∧ digF 20 (-n).toNat = digF (f + 1) U ++ acc) (fun u _ => (intOf u).toNat)
    case atStart => exact ⟨19, (-n).toNat, [], by rw [show (IntKind.u64.wrap (-IntKind.u64.wrap n)) = (((-n).toNat : Nat) : Int) by go_arith], rfl, by omega, by simp, by omega, by simp⟩
    case round =>
      obtain ⟨f, U, acc, rfl, rfl, hU, hf, hU64, hT⟩ := hrel
      have HT : Hid (digF 20 (-n).toNat = digF (f + 1) U ++ acc) := hT
      have hal : acc.length < 20 := by omega
      have hd := digit_at (U % 10) (by omega)
      clear hT
      by_cases hq : U / 10 = 0
      · have h10 : (((U : Nat) : Int) / 10 == 0) = true := by simp; omega
        have HE : Hid (digF 20 (-n).toNat = dig (U % 10) :: acc) := by show _ = _; rw [HT.out, digF_last hq]; rfl
        clear hq
        go_wp2_with fail
        go_ret
        exact ⟨rets (by rw [str_app, str_app, HN.out, HE.out]; rfl), rfl⟩
      · have h10 : (((U : Nat) : Int) / 10 == 0) = false := by simp; omega
        have hpos : 10 ≤ U := by omega
        cases f with
        | zero => exfalso; omega
        | succ f =>
          have HE : Hid (digF 20 (-n).toNat = digF (f + 1) (U / 10) ++ (dig (U % 10) :: acc)) := by show _ = _; rw [HT.out, digF_more hq, List.append_assoc]; rfl
          clear hq
          go_wp2_with fail
          go_round
          case rel => exact ⟨f, U / 10, dig (U % 10) :: acc, by simp, by rw [str_app]; rfl, by rw [Nat.pow_succ] at hU; omega, by simp; omega, by omega, HE.out⟩
          case measure => simp [intOf]; omega
  · have HN : Hid (numL n = digF 20 n.toNat) := by show _ = _; unfold numL; rw [if_neg h0]
    go_enter Tryd.func43, Tryd.ntmps43
    go_wp2_with fail
    go_loop [3, 4] (fun u s => ∃ (f U : Nat) (acc : List UInt8), u = .int .u64 (U : Int) ∧ s = .string (str acc) ∧ U < 10 ^ (f + 1) ∧ acc.length + f < 20 ∧ U < 18446744073709551616 ∧ digF 20 n.toNat = digF (f + 1) U ++ acc) (fun u _ => (intOf u).toNat)
    case atStart => exact ⟨19, n.toNat, [], by congr 1; omega, rfl, by omega, by simp, by omega, by simp⟩
    case round =>
      obtain ⟨f, U, acc, rfl, rfl, hU, hf, hU64, hT⟩ := hrel
      have HT : Hid (digF 20 n.toNat = digF (f + 1) U ++ acc) := hT
      have hal : acc.length < 20 := by omega
      have hd := digit_at (U % 10) (by omega)
      clear hT
      by_cases hq : U / 10 = 0
      · have h10 : (((U : Nat) : Int) / 10 == 0) = true := by simp; omega
        have HE : Hid (digF 20 n.toNat = dig (U % 10) :: acc) := by show _ = _; rw [HT.out, digF_last hq]; rfl
        clear hq
        go_wp2_with fail
        go_ret
        exact ⟨rets (by rw [str_app, HN.out, HE.out]; rfl), rfl⟩
      · have h10 : (((U : Nat) : Int) / 10 == 0) = false := by simp; omega
        have hpos : 10 ≤ U := by omega
        cases f with
        | zero => exfalso; omega
        | succ f =>
          have HE : Hid (digF 20 n.toNat = digF (f + 1) (U / 10) ++ (dig (U % 10) :: acc)) := by show _ = _; rw [HT.out, digF_more hq, List.append_assoc]; rfl
          clear hq
          go_wp2_with fail
          go_round
          case rel => exact ⟨f, U / 10, dig (U % 10) :: acc, by simp, by rw [str_app]; rfl, by rw [Nat.pow_succ] at hU; omega, by simp; omega, by omega, HE.out⟩
          case measure => simp [intOf]; omega
end Go.Proofs.YtbfbfbbpajaclaaDoor
/-
  Layer 26's plain side: a line read, as the document reads it. No Go text in sight.
-/
namespace Go.Proofs.YtbfbfbbpajaclaaDoor
open Go.RowKit
set_option linter.unusedVariables false
set_option linter.unusedSimpArgs false
/-- Digits, one behind the other, wrapping. -/
def accL : Int → List UInt8 → Option Int
  | U, [] => some U
  | U, c :: r => if c.toNat < 48 ∨ 57 < c.toNat then none else accL (IntKind.u64.wrap (IntKind.u64.wrap (10 * U) + ((c.toNat : Int) - 48))) r
/-- A field of 64 bits, set. -/
def brE (e : En) (c : Nat) (n : Int) : En :=
  if c = 110 then { e with va := n } else if c = 107 then { e with ky := n } else if c = 119 then { e with vl := n } else if c = 114 then { e with rv := n } else if c = 79 then { e with ok := n } else if c = 86 then { e with ov := n } else e
/-- A field, set. -/
def putE (e : En) (c : Nat) (k n : Int) : En :=
  if c = 116 then { e with ta := k } else if c = 102 then { e with fr := k } else if c = 99 then { e with cm := k } else if c = 103 then { e with tg := k } else if c = 101 then { e with ev := k } else if c = 104 then { e with hk := k } else if c = 112 then { e with pg := k }
  else if c = 118 then { e with ve := k } else if c = 97 then { e with pc := k } else if c = 120 then { e with xe := k } else if c = 109 then { e with mp := k } else if c = 111 then { e with op := k } else if c = 121 then { e with er := k } else if c = 98 then { e with fo := k == 1 } else brE e c n
def negL (l : List UInt8) : Bool := (l.getD 1 0).toNat == 45
def kE (l : List UInt8) (n : Int) : Int := if negL l = true then wrap64 (IntKind.u64.wrap (-n)) else wrap64 n
def setN (e : En) (c : Nat) (l : List UInt8) : Option Int → En × Bool
  | none => (e, false)
  | some n => (putE e c (kE l n) n, true)
def setE (e : En) (c : UInt8) (l : List UInt8) : En × Bool :=
  if l.length < 2 then (e, false) else if ¬ l.getD 0 0 = c then (e, false) else setN e c.toNat l (accL 0 (if negL l = true then l.drop 2 else l.drop 1))
end Go.Proofs.YtbfbfbbpajaclaaDoor
/-
  Layer 26's plain side: a line read whole, a text read. No Go text in sight.
-/
namespace Go.Proofs.YtbfbfbbpajaclaaDoor
open Go.RowKit
set_option linter.unusedVariables false
set_option linter.unusedSimpArgs false
/-- Fields set, word by word. -/
def goE : En → List UInt8 → List (List UInt8) → Option En
  | e, [], _ => some e
  | e, c :: f, ts => if (setE e c (ts.getD 0 [])).2 = true then goE (setE e c (ts.getD 0 [])).1 f (ts.drop 1) else none
/-- Does a Res with Out stand in these words? -/
def outB (m : Int) (ts : List (List UInt8)) : Bool := (ts.length + 1 == (fldL m false).length + 3) && inL26 (fldL m false) 121
def startM (m : Int) (o : Bool) : En := { En.nil with wh := m, ou := o }
/-- A line whose name is mark m's. -/
def readM (m : Int) (ts : List (List UInt8)) (s : List UInt8) : Option En :=
  if ts.length = (fldL m (outB m ts)).length then
    match goE (startM m (outB m ts)) (fldL m (outB m ts)) ts with
    | none => none
    | some e => if lineE e = s then some e else none
  else none
/-- The first mark from m on of a name, among k. -/
def markF (w0 : List UInt8) : Nat → Nat → Option Nat
  | _, 0 => none
  | m, k + 1 => if nmE m = w0 then some m else markF w0 (m + 1) k
def readE (s : List UInt8) : Option En :=
  match markF ((wordsL s).headD []) 1 17 with
  | none => none
  | some m => readM m ((wordsL s).drop 1) s
end Go.Proofs.YtbfbfbbpajaclaaDoor
/-
  Entries whose fields are of their kinds. No Go text in sight.
-/
namespace Go.Proofs.YtbfbfbbpajaclaaDoor
open Go.RowKit
set_option linter.unusedVariables false
set_option linter.unusedSimpArgs false
theorem wf_en {wh ta fr cm tg ev hk pg ve pc mp op ky vl er : Int} {fo : Bool} {rv : Int} {ou : Bool} {ok ov va xe : Int} (g_wh : -9223372036854775808 ≤ wh ∧ wh ≤ 9223372036854775807) (g_ta : -9223372036854775808 ≤ ta ∧ ta ≤ 9223372036854775807) (g_fr : -9223372036854775808 ≤ fr ∧ fr ≤ 9223372036854775807) (g_cm : -9223372036854775808 ≤ cm ∧ cm ≤ 9223372036854775807) (g_tg : -9223372036854775808 ≤ tg ∧ tg ≤ 9223372036854775807) (g_ev : -9223372036854775808 ≤ ev ∧ ev ≤ 9223372036854775807) (g_hk : -9223372036854775808 ≤ hk ∧ hk ≤ 9223372036854775807) (g_pg : -9223372036854775808 ≤ pg ∧ pg ≤ 9223372036854775807) (g_ve : -9223372036854775808 ≤ ve ∧ ve ≤ 9223372036854775807) (g_pc : -9223372036854775808 ≤ pc ∧ pc ≤ 9223372036854775807) (g_mp : -9223372036854775808 ≤ mp ∧ mp ≤ 9223372036854775807) (g_op : -9223372036854775808 ≤ op ∧ op ≤ 9223372036854775807) (g_er : -9223372036854775808 ≤ er ∧ er ≤ 9223372036854775807) (g_xe : -9223372036854775808 ≤ xe ∧ xe ≤ 9223372036854775807) (g_ky : 0 ≤ ky ∧ ky ≤ 18446744073709551615) (g_vl : 0 ≤ vl ∧ vl ≤ 18446744073709551615) (g_rv : 0 ≤ rv ∧ rv ≤ 18446744073709551615) (g_ok : 0 ≤ ok ∧ ok ≤ 18446744073709551615) (g_ov : 0 ≤ ov ∧ ov ≤ 18446744073709551615) (g_va : 0 ≤ va ∧ va ≤ 18446744073709551615) : (⟨wh, ta, fr, cm, tg, ev, hk, pg, ve, pc, mp, op, ky, vl, er, fo, rv, ou, ok, ov, va, xe⟩ : En).wf := by
  refine ⟨fun c => ?_, fun c => ?_, g_wh⟩
  · unfold sgE
    simp only
    by_cases h : c = 116
    · rw [if_pos h]; exact g_ta
    rw [if_neg h]; clear h
    by_cases h : c = 102
    · rw [if_pos h]; exact g_fr
    rw [if_neg h]; clear h
    by_cases h : c = 99
    · rw [if_pos h]; exact g_cm
    rw [if_neg h]; clear h
    by_cases h : c = 103
    · rw [if_pos h]; exact g_tg
    rw [if_neg h]; clear h
    by_cases h : c = 101
    · rw [if_pos h]; exact g_ev
    rw [if_neg h]; clear h
    by_cases h : c = 104
    · rw [if_pos h]; exact g_hk
    rw [if_neg h]; clear h
    by_cases h : c = 112
    · rw [if_pos h]; exact g_pg
    rw [if_neg h]; clear h
    by_cases h : c = 118
    · rw [if_pos h]; exact g_ve
    rw [if_neg h]; clear h
    by_cases h : c = 97
    · rw [if_pos h]; exact g_pc
    rw [if_neg h]; clear h
    by_cases h : c = 120
    · rw [if_pos h]; exact g_xe
    rw [if_neg h]; clear h
    by_cases h : c = 109
    · rw [if_pos h]; exact g_mp
    rw [if_neg h]; clear h
    by_cases h : c = 111
    · rw [if_pos h]; exact g_op
    rw [if_neg h]; clear h
    by_cases h : c = 121
    · rw [if_pos h]; exact g_er
    rw [if_neg h]; clear h
    cases fo <;> simp
  · unfold unE
    simp only
    by_cases h : c = 110
    · rw [if_pos h]; show 0 ≤ va ∧ va < _; omega
    rw [if_neg h]; clear h
    by_cases h : c = 107
    · rw [if_pos h]; show 0 ≤ ky ∧ ky < _; omega
    rw [if_neg h]; clear h
    by_cases h : c = 119
    · rw [if_pos h]; show 0 ≤ vl ∧ vl < _; omega
    rw [if_neg h]; clear h
    by_cases h : c = 114
    · rw [if_pos h]; show 0 ≤ rv ∧ rv < _; omega
    rw [if_neg h]; clear h
    by_cases h : c = 79
    · rw [if_pos h]; show 0 ≤ ok ∧ ok < _; omega
    rw [if_neg h]; clear h
    by_cases h : c = 86
    · rw [if_pos h]; show 0 ≤ ov ∧ ov < _; omega
    rw [if_neg h]; clear h
    decide
theorem brE_wf {e : En} (h : e.wf) (c : Nat) {n : Int} (hn : 0 ≤ n ∧ n ≤ 18446744073709551615) : (brE e c n).wf := by
  obtain ⟨wh, ta, fr, cm, tg, ev, hk, pg, ve, pc, mp, op, ky, vl, er, fo, rv, ou, ok, ov, va, xe⟩ := e
  have g_wh := h.wh
  have g_ta : -9223372036854775808 ≤ ta ∧ ta ≤ 9223372036854775807 := h.si 116
  have g_fr : -9223372036854775808 ≤ fr ∧ fr ≤ 9223372036854775807 := h.si 102
  have g_cm : -9223372036854775808 ≤ cm ∧ cm ≤ 9223372036854775807 := h.si 99
  have g_tg : -9223372036854775808 ≤ tg ∧ tg ≤ 9223372036854775807 := h.si 103
  have g_ev : -9223372036854775808 ≤ ev ∧ ev ≤ 9223372036854775807 := h.si 101
  have g_hk : -9223372036854775808 ≤ hk ∧ hk ≤ 9223372036854775807 := h.si 104
  have g_pg : -9223372036854775808 ≤ pg ∧ pg ≤ 9223372036854775807 := h.si 112
  have g_ve : -9223372036854775808 ≤ ve ∧ ve ≤ 9223372036854775807 := h.si 118
  have g_pc : -9223372036854775808 ≤ pc ∧ pc ≤ 9223372036854775807 := h.si 97
  have g_mp : -9223372036854775808 ≤ mp ∧ mp ≤ 9223372036854775807 := h.si 109
  have g_op : -9223372036854775808 ≤ op ∧ op ≤ 9223372036854775807 := h.si 111
  have g_er : -9223372036854775808 ≤ er ∧ er ≤ 9223372036854775807 := h.si 121
  have g_xe : -9223372036854775808 ≤ xe ∧ xe ≤ 9223372036854775807 := h.si 120
  have g_ky : 0 ≤ ky ∧ ky ≤ 18446744073709551615 := by have g : 0 ≤ ky ∧ ky < 18446744073709551616 := h.un 107; omega
  have g_vl : 0 ≤ vl ∧ vl ≤ 18446744073709551615 := by have g : 0 ≤ vl ∧ vl < 18446744073709551616 := h.un 119; omega
  have g_rv : 0 ≤ rv ∧ rv ≤ 18446744073709551615 := by have g : 0 ≤ rv ∧ rv < 18446744073709551616 := h.un 114; omega
  have g_ok : 0 ≤ ok ∧ ok ≤ 18446744073709551615 := by have g : 0 ≤ ok ∧ ok < 18446744073709551616 := h.un 79; omega
  have g_ov : 0 ≤ ov ∧ ov ≤ 18446744073709551615 := by have g : 0 ≤ ov ∧ ov < 18446744073709551616 := h.un 86; omega
  have g_va : 0 ≤ va ∧ va ≤ 18446744073709551615 := by have g : 0 ≤ va ∧ va < 18446744073709551616 := h.un 110; omega
  unfold brE
  by_cases k : c = 110
  · rw [if_pos k]; exact wf_en g_wh g_ta g_fr g_cm g_tg g_ev g_hk g_pg g_ve g_pc g_mp g_op g_er g_xe g_ky g_vl g_rv g_ok g_ov hn
  rw [if_neg k]; clear k
  by_cases k : c = 107
  · rw [if_pos k]; exact wf_en g_wh g_ta g_fr g_cm g_tg g_ev g_hk g_pg g_ve g_pc g_mp g_op g_er g_xe hn g_vl g_rv g_ok g_ov g_va
  rw [if_neg k]; clear k
  by_cases k : c = 119
  · rw [if_pos k]; exact wf_en g_wh g_ta g_fr g_cm g_tg g_ev g_hk g_pg g_ve g_pc g_mp g_op g_er g_xe g_ky hn g_rv g_ok g_ov g_va
  rw [if_neg k]; clear k
  by_cases k : c = 114
  · rw [if_pos k]; exact wf_en g_wh g_ta g_fr g_cm g_tg g_ev g_hk g_pg g_ve g_pc g_mp g_op g_er g_xe g_ky g_vl hn g_ok g_ov g_va
  rw [if_neg k]; clear k
  by_cases k : c = 79
  · rw [if_pos k]; exact wf_en g_wh g_ta g_fr g_cm g_tg g_ev g_hk g_pg g_ve g_pc g_mp g_op g_er g_xe g_ky g_vl g_rv hn g_ov g_va
  rw [if_neg k]; clear k
  by_cases k : c = 86
  · rw [if_pos k]; exact wf_en g_wh g_ta g_fr g_cm g_tg g_ev g_hk g_pg g_ve g_pc g_mp g_op g_er g_xe g_ky g_vl g_rv g_ok hn g_va
  rw [if_neg k]; clear k
  exact h
theorem putE_wf {e : En} (h : e.wf) (c : Nat) {k n : Int} (hkk : -9223372036854775808 ≤ k ∧ k ≤ 9223372036854775807) (hn : 0 ≤ n ∧ n ≤ 18446744073709551615) : (putE e c k n).wf := by
  have hb := brE_wf h c hn
  obtain ⟨wh, ta, fr, cm, tg, ev, hk, pg, ve, pc, mp, op, ky, vl, er, fo, rv, ou, ok, ov, va, xe⟩ := e
  have g_wh := h.wh
  have g_ta : -9223372036854775808 ≤ ta ∧ ta ≤ 9223372036854775807 := h.si 116
  have g_fr : -9223372036854775808 ≤ fr ∧ fr ≤ 9223372036854775807 := h.si 102
  have g_cm : -9223372036854775808 ≤ cm ∧ cm ≤ 9223372036854775807 := h.si 99
  have g_tg : -9223372036854775808 ≤ tg ∧ tg ≤ 9223372036854775807 := h.si 103
  have g_ev : -9223372036854775808 ≤ ev ∧ ev ≤ 9223372036854775807 := h.si 101
  have g_hk : -9223372036854775808 ≤ hk ∧ hk ≤ 9223372036854775807 := h.si 104
  have g_pg : -9223372036854775808 ≤ pg ∧ pg ≤ 9223372036854775807 := h.si 112
  have g_ve : -9223372036854775808 ≤ ve ∧ ve ≤ 9223372036854775807 := h.si 118
  have g_pc : -9223372036854775808 ≤ pc ∧ pc ≤ 9223372036854775807 := h.si 97
  have g_mp : -9223372036854775808 ≤ mp ∧ mp ≤ 9223372036854775807 := h.si 109
  have g_op : -9223372036854775808 ≤ op ∧ op ≤ 9223372036854775807 := h.si 111
  have g_er : -9223372036854775808 ≤ er ∧ er ≤ 9223372036854775807 := h.si 121
  have g_xe : -9223372036854775808 ≤ xe ∧ xe ≤ 9223372036854775807 := h.si 120
  have g_ky : 0 ≤ ky ∧ ky ≤ 18446744073709551615 := by have g : 0 ≤ ky ∧ ky < 18446744073709551616 := h.un 107; omega
  have g_vl : 0 ≤ vl ∧ vl ≤ 18446744073709551615 := by have g : 0 ≤ vl ∧ vl < 18446744073709551616 := h.un 119; omega
  have g_rv : 0 ≤ rv ∧ rv ≤ 18446744073709551615 := by have g : 0 ≤ rv ∧ rv < 18446744073709551616 := h.un 114; omega
  have g_ok : 0 ≤ ok ∧ ok ≤ 18446744073709551615 := by have g : 0 ≤ ok ∧ ok < 18446744073709551616 := h.un 79; omega
  have g_ov : 0 ≤ ov ∧ ov ≤ 18446744073709551615 := by have g : 0 ≤ ov ∧ ov < 18446744073709551616 := h.un 86; omega
  have g_va : 0 ≤ va ∧ va ≤ 18446744073709551615 := by have g : 0 ≤ va ∧ va < 18446744073709551616 := h.un 110; omega
  unfold putE
  by_cases q : c = 116
  · rw [if_pos q]; exact wf_en g_wh hkk g_fr g_cm g_tg g_ev g_hk g_pg g_ve g_pc g_mp g_op g_er g_xe g_ky g_vl g_rv g_ok g_ov g_va
  rw [if_neg q]; clear q
  by_cases q : c = 102
  · rw [if_pos q]; exact wf_en g_wh g_ta hkk g_cm g_tg g_ev g_hk g_pg g_ve g_pc g_mp g_op g_er g_xe g_ky g_vl g_rv g_ok g_ov g_va
  rw [if_neg q]; clear q
  by_cases q : c = 99
  · rw [if_pos q]; exact wf_en g_wh g_ta g_fr hkk g_tg g_ev g_hk g_pg g_ve g_pc g_mp g_op g_er g_xe g_ky g_vl g_rv g_ok g_ov g_va
  rw [if_neg q]; clear q
  by_cases q : c = 103
  · rw [if_pos q]; exact wf_en g_wh g_ta g_fr g_cm hkk g_ev g_hk g_pg g_ve g_pc g_mp g_op g_er g_xe g_ky g_vl g_rv g_ok g_ov g_va
  rw [if_neg q]; clear q
  by_cases q : c = 101
  · rw [if_pos q]; exact wf_en g_wh g_ta g_fr g_cm g_tg hkk g_hk g_pg g_ve g_pc g_mp g_op g_er g_xe g_ky g_vl g_rv g_ok g_ov g_va
  rw [if_neg q]; clear q
  by_cases q : c = 104
  · rw [if_pos q]; exact wf_en g_wh g_ta g_fr g_cm g_tg g_ev hkk g_pg g_ve g_pc g_mp g_op g_er g_xe g_ky g_vl g_rv g_ok g_ov g_va
  rw [if_neg q]; clear q
  by_cases q : c = 112
  · rw [if_pos q]; exact wf_en g_wh g_ta g_fr g_cm g_tg g_ev g_hk hkk g_ve g_pc g_mp g_op g_er g_xe g_ky g_vl g_rv g_ok g_ov g_va
  rw [if_neg q]; clear q
  by_cases q : c = 118
  · rw [if_pos q]; exact wf_en g_wh g_ta g_fr g_cm g_tg g_ev g_hk g_pg hkk g_pc g_mp g_op g_er g_xe g_ky g_vl g_rv g_ok g_ov g_va
  rw [if_neg q]; clear q
  by_cases q : c = 97
  · rw [if_pos q]; exact wf_en g_wh g_ta g_fr g_cm g_tg g_ev g_hk g_pg g_ve hkk g_mp g_op g_er g_xe g_ky g_vl g_rv g_ok g_ov g_va
  rw [if_neg q]; clear q
  by_cases q : c = 120
  · rw [if_pos q]; exact wf_en g_wh g_ta g_fr g_cm g_tg g_ev g_hk g_pg g_ve g_pc g_mp g_op g_er hkk g_ky g_vl g_rv g_ok g_ov g_va
  rw [if_neg q]; clear q
  by_cases q : c = 109
  · rw [if_pos q]; exact wf_en g_wh g_ta g_fr g_cm g_tg g_ev g_hk g_pg g_ve g_pc hkk g_op g_er g_xe g_ky g_vl g_rv g_ok g_ov g_va
  rw [if_neg q]; clear q
  by_cases q : c = 111
  · rw [if_pos q]; exact wf_en g_wh g_ta g_fr g_cm g_tg g_ev g_hk g_pg g_ve g_pc g_mp hkk g_er g_xe g_ky g_vl g_rv g_ok g_ov g_va
  rw [if_neg q]; clear q
  by_cases q : c = 121
  · rw [if_pos q]; exact wf_en g_wh g_ta g_fr g_cm g_tg g_ev g_hk g_pg g_ve g_pc g_mp g_op hkk g_xe g_ky g_vl g_rv g_ok g_ov g_va
  rw [if_neg q]; clear q
  by_cases q : c = 98
  · rw [if_pos q]; exact wf_en g_wh g_ta g_fr g_cm g_tg g_ev g_hk g_pg g_ve g_pc g_mp g_op g_er g_xe g_ky g_vl g_rv g_ok g_ov g_va
  rw [if_neg q]; clear q
  exact hb
end Go.Proofs.YtbfbfbbpajaclaaDoor
/-
  Layer 26, landed, plain: a field's digits. No Go text in sight.
-/
namespace Go.Proofs.YtbfbfbbpajaclaaDoor
open Go.RowKit
/-- A field's digits. -/
def dgE (e : En) (c : UInt8) : List UInt8 := if (unE e c.toNat).2 = true then digF 20 (unE e c.toNat).1.toNat else numL (sgE e c.toNat)
end Go.Proofs.YtbfbfbbpajaclaaDoor
