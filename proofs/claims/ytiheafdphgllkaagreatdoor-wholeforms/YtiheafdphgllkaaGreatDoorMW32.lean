
/-
 The project's way to read a line (words taken loosely, then held against what is written of them), with no Go text in sight: it reads just what the document's way reads. No condition.
-/
import Derived.Test.YtiheafdphgllkaaGreatDoorMW31
import Derived.Lib.ParseIntBCases
import Derived.Lib.ItoaNum
import Derived.Lib.IndexMore
import Derived.Lib.IndexBytes
import Derived.Lib.Strings
import Derived.Lib.Join
namespace Go.Proofs.YtiheafdphgllkaaGreatDoor
open Go.RowKit
set_option linter.unusedVariables false
set_option linter.unusedSimpArgs false

def cutL_l (c : UInt8) : List UInt8 -> List UInt8 × List UInt8 × Bool
 | [] => ([], [], false)
 | x :: r => if x = c then ([], r, true) else (x :: (cutL_l c r).1, (cutL_l c r).2)
theorem cutL_none (c : UInt8) : ∀ l : List UInt8, (∀ x ∈ l, x ≠ c) -> cutL_l c l = (l, [], false)
 | [], _ => rfl
 | x :: r, h => by
  have e := cutL_none c r fun y hy => h y (by simp [hy])
  simp [cutL_l, h x (by simp), e]
theorem cutL_some (c : UInt8) : ∀ a r : List UInt8, (∀ x ∈ a, x ≠ c) -> cutL_l c (a ++ c :: r) = (a, r, true)
 | [], r, _ => by simp [cutL_l]
 | x :: a, r, h => by
  have e := cutL_some c a r fun y hy => h y (by simp [hy])
  simp [cutL_l, h x (by simp), e]
theorem cutL_split (c : UInt8) : ∀ l : List UInt8, (∀ x ∈ (cutL_l c l).1, x ≠ c) /\ (((cutL_l c l).2.2 = true /\ l = (cutL_l c l).1 ++ c :: (cutL_l c l).2.1) ∨ ((cutL_l c l).2.2 = false /\ l = (cutL_l c l).1 /\ (cutL_l c l).2.1 = []))
 | [] => by simp [cutL_l]
 | x :: r => by
  obtain ⟨h1, h2⟩ := cutL_split c r
  unfold cutL_l
  by_cases h : x = c
  ·rw [if_pos h]; subst h; simp
  ·rw [if_neg h]
   refine ⟨fun y hy => ?_, ?_⟩
   ·simp only [List.mem_cons] at hy
    rcases hy with rfl | hy
    ·exact h
    ·exact h1 y hy
   ·rcases h2 with ⟨e, h2⟩ | ⟨e, h2, h3⟩
    ·exact .inl ⟨e, by simp only [List.cons_append, List.cons.injEq, true_and]; exact h2⟩
    ·exact .inr ⟨e, by simp only [List.cons.injEq, true_and]; exact h2, h3⟩
theorem indexByte_ge (l : List UInt8) (c : UInt8) : -1 <= Lib.indexByte l c := by rw [<- Lib.index_one]; exact Lib.index_ge _ _
theorem cut_eq (c : UInt8) : ∀ l : List UInt8, Lib.cut l [c] = cutL_l c l
 | [] => by simp [Lib.cut, Lib.index, cutL_l]
 | x :: r => by
  have ih := cut_eq c r
  unfold Lib.cut at ih ⊢
  rw [Lib.index_one] at ih ⊢
  unfold cutL_l
  have hg := indexByte_ge r c
  by_cases h : x = c
  ·subst h
   simp [Lib.indexByte]
  ·have hb : (x == c) = false := by simp [h]
   rw [if_neg h]
   by_cases hn : Lib.indexByte r c = -1
   ·rw [if_neg (by omega)] at ih
    have e : Lib.indexByte (x :: r) c = -1 := by simp [Lib.indexByte, hb, hn]
    rw [e, if_neg (by omega), <- ih]
   ·have hb2 : (Lib.indexByte r c == -1) = false := by simp [hn]
    have e : Lib.indexByte (x :: r) c = Lib.indexByte r c + 1 := by simp [Lib.indexByte, hb, hb2]
    rw [if_pos (by omega)] at ih
    rw [e, if_pos (by omega), <- ih]
    have e2 : (Lib.indexByte r c + 1).toNat = (Lib.indexByte r c).toNat + 1 := by omega
    simp only [e2, List.length_singleton]
    rfl
theorem cutL_len (c : UInt8) (l : List UInt8) : (cutL_l c l).1.length <= l.length /\ (cutL_l c l).2.1.length <= l.length := by
 obtain ⟨_, ⟨_, h⟩ | ⟨_, h, h'⟩⟩ := cutL_split c l
 ·have := congrArg List.length h; simp at this; omega
 ·rw [h']; rw [<- h]; simp

theorem digF_dec : ∀ f u : Nat, u < 10 ^ (f + 1) -> digF (f + 1) u = Lib.decDigits u
 | 0, u, h => by
  have h10 : u < 10 := by simpa using h
  rw [Lib.decDigits_one h10, digF_last (by omega)]
  rw [Nat.mod_eq_of_lt h10]; rfl
 | f + 1, u, h => by
  by_cases h10 : u < 10
  ·rw [Lib.decDigits_one h10, digF_last (by omega), Nat.mod_eq_of_lt h10]; rfl
  ·have h1 : u / 10 < 10 ^ (f + 1) := by rw [Nat.pow_succ] at h; omega
   rw [digF_more (by omega), digF_dec f (u / 10) h1, Lib.decDigits.eq_1 u, dif_neg h10]; rfl
theorem num_itoa {n : Int} (h : -9223372036854775808 <= n /\ n <= 9223372036854775807) : Lib.itoa n = numL n := by
 unfold Lib.itoa numL
 have hp : (9223372036854775808 : Nat) < 10 ^ 20 := by decide
 split
 ·rw [show (20 : Nat) = 19 + 1 by rfl, digF_dec 19 _ (Nat.lt_of_le_of_lt (by omega) hp), show n.natAbs = (-n).toNat by omega]
 ·rw [show (20 : Nat) = 19 + 1 by rfl, digF_dec 19 _ (Nat.lt_of_le_of_lt (by omega) hp)]

theorem parseM_app (M : Nat) : ∀ (a : List UInt8) (c : UInt8) (acc u : Nat), Lib.parseUintM M acc a = .ok u -> Lib.parseUintM M acc (a ++ [c]) = Lib.parseUintM M u [c]
 | [], c, acc, u, h => by simp only [Lib.parseUintM] at h; injection h with h; subst h; rfl
 | x :: a, c, acc, u, h => by
  simp only [Lib.parseUintM, List.cons_append] at h ⊢
  split at h
  ·rename_i h1
   rw [if_pos h1]
   split at h
   ·cases h
   ·rename_i h2
    rw [if_neg h2]
    split at h
    ·cases h
    ·rename_i h3
     rw [if_neg h3]
     exact parseM_app M a c _ u h
  ·cases h
theorem parseM_dig : ∀ (f u : Nat), u <= 9223372036854775808 -> u < 10 ^ (f + 1) -> Lib.parseUintM (2 ^ 64 - 1) 0 (digF (f + 1) u) = .ok u
 | 0, u, h, h1 => by
  have h10 : u < 10 := by simpa using h1
  have hd : (dig u).toNat = 48 + u := dig_nat h10
  rw [digF_last (by omega), Nat.mod_eq_of_lt h10]
  simp only [Lib.parseUintM, hd]
  rw [if_pos (by omega), if_neg (by omega), if_neg (by omega)]
  simp
 | f + 1, u, h, h1 => by
  have hd : (dig (u % 10)).toNat = 48 + u % 10 := dig_nat (by omega)
  by_cases h10 : u < 10
  ·rw [digF_last (by omega)]
   simp only [Lib.parseUintM, hd]
   rw [if_pos (by omega), if_neg (by omega), if_neg (by omega)]
   simp; omega
  ·have h2 : u / 10 < 10 ^ (f + 1) := by rw [Nat.pow_succ] at h1; omega
   rw [digF_more (by omega), parseM_app _ _ _ _ _ (parseM_dig f (u / 10) (by omega) h2)]
   simp only [Lib.parseUintM, hd]
   rw [if_pos (by omega), if_neg (by omega), if_neg (by omega)]
   simp; omega
theorem parse_num {n : Int} (h : -9223372036854775808 <= n /\ n <= 9223372036854775807) : Lib.parseIntB 64 (numL n) = .ok n := by
 have hp : (9223372036854775808 : Nat) < 10 ^ 20 := by decide
 have hB : ∀ u : Nat, u <= 9223372036854775808 -> Lib.parseUintB 64 (digF 20 u) = .ok u := fun u hu => by
  unfold Lib.parseUintB
  rw [if_neg (digF_ne 19 u), show (20 : Nat) = 19 + 1 by rfl, parseM_dig 19 u hu (Nat.lt_of_le_of_lt hu hp)]
 unfold numL
 by_cases h0 : n < 0
 ·rw [if_pos h0, Lib.parseIntB_minus, hB _ (by omega)]
  simp only [Lib.signedC]
  rw [if_neg (by omega)]
  congr 1; omega
 ·rw [if_neg h0]
  have hne := digF_ne 19 n.toNat
  have hdg := digF_dig 20 n.toNat
  rcases hd : digF 20 n.toNat with _ | ⟨c, r⟩
  ·exact absurd hd hne
  ·have hc := hdg c (by rw [hd]; simp)
   rw [Lib.parseIntB_plain 64 c r (by omega) (by omega), <- hd, hB _ (by omega)]
   simp only [Lib.signlessC]
   rw [if_neg (by omega)]
   congr 1; omega
theorem pre_r (n : Int) : Lib.hasPrefix (rL n) [114] = true /\ Lib.trimPrefix (rL n) [114] = numL n := by
 have e : Lib.hasPrefix (rL n) [114] = true := by simp [Lib.hasPrefix, rL, List.isPrefixOf]
 exact ⟨e, by unfold Lib.trimPrefix; rw [e]; simp [rL]⟩
theorem numL_r (n : Int) : ∀ c ∈ numL n, c ≠ 114 := by
 intro c hc
 unfold numL at hc
 have key : ∀ u, c ∈ digF 20 u -> c ≠ 114 := fun u h e => by have := digF_dig 20 u c h; rw [e] at this; exact absurd this (by decide)
 split at hc
 ·simp only [List.mem_cons] at hc
  rcases hc with rfl | hc
  ·decide
  ·exact key _ hc
 ·exact key _ hc
theorem pre_num (n : Int) : Lib.hasPrefix (numL n) [114] = false /\ Lib.trimPrefix (numL n) [114] = numL n := by
 have e : Lib.hasPrefix (numL n) [114] = false := by
  have h := numL_r n
  unfold Lib.hasPrefix
  rcases hd : numL n with _ | ⟨c, r⟩
  ·rfl
  ·have hc := h c (by rw [hd]; simp)
   have : ((114 : UInt8) == c) = false := by simp; exact fun e => hc e.symm
   simp [List.isPrefixOf, this]
 exact ⟨e, by unfold Lib.trimPrefix; rw [e]; simp⟩

def partsL (op : Int) : List Int :=
 if op = 0 ∨ op = 11 then [0, 2] else if op = 12 then [1, 2] else if op = 13 ∨ op = 14 then [0, 4] else if op = 15 then [3]
 else if op = 16 ∨ op = 17 ∨ op = 18 ∨ op = 19 then [1, 2, 3] else if op = 20 then [1, 3, 4] else if op = 21 then [4] else if op = 22 then [1] else [0, 1, 2]
def wordL (p : Int) (i : In) : List UInt8 := if p = 0 then rL i.d else if p = 1 then rL i.a else if p = 2 /\ i.b ≠ 8 then rL i.b else if p = 3 then numL i.d else numL i.imm
theorem wordL_len (p : Int) (i : In) : (wordL p i).length <= 22 := by
 have h1 := rL_len i.d; have h2 := rL_len i.a; have h3 := rL_len i.b; have h4 := numL_len i.d; have h5 := numL_len i.imm
 unfold wordL
 repeat' split
 all_goals omega
theorem partsL_len (op : Int) : (partsL op).length <= 3 := by
 unfold partsL
 repeat' split
 all_goals simp
theorem partsL_mem {op p : Int} (h : p ∈ partsL op) : 0 <= p /\ p <= 4 := by
 unfold partsL at h
 repeat' split at h
 all_goals (simp at h; omega)
theorem word_src (i : In) : wordL 2 i = srcL i.b i.imm := by
 unfold wordL srcL
 by_cases h : i.b = 8 <;> simp [h]
theorem join_line {i : In} (h : 0 <= i.op /\ i.op <= 22) : Lib.join (nmL i.op :: (partsL i.op).map fun p => wordL p i) [32] = i.line := by
 have h0 : wordL 0 i = rL i.d := by simp [wordL]
 have h1 : wordL 1 i = rL i.a := by simp [wordL]
 have h2 := word_src i
 have h3 : wordL 3 i = numL i.d := by simp [wordL]
 have h4 : wordL 4 i = numL i.imm := by simp [wordL]
 obtain ⟨op, d, a, b, imm⟩ := i
 simp only at h h0 h1 h2 h3 h4 ⊢
 unfold In.line lineL tailL partsL
 simp only
 rcases cases_op h with h | h | rfl | rfl | rfl | rfl | h | rfl | rfl | rfl
 ·rw [if_pos h, if_pos h]; simp [Lib.join_cons, Lib.joinTail, h0, h2]
 ·rw [if_neg (by omega), if_neg (by omega), if_neg (by omega), if_neg (by omega), if_neg (by omega), if_neg (by omega), if_neg (by omega), if_neg (by omega), if_neg (by omega), if_pos (by omega)]; simp [Lib.join_cons, Lib.joinTail, h0, h1, h2]
 ·simp [Lib.join_cons, Lib.joinTail, h1, h2]
 ·simp [Lib.join_cons, Lib.joinTail, h0, h4]
 ·simp [Lib.join_cons, Lib.joinTail, h0, h4]
 ·simp [Lib.join_cons, Lib.joinTail, h3]
 ·rw [if_neg (by omega), if_neg (by omega), if_neg (by omega), if_neg (by omega), if_pos (by omega), if_neg (by omega), if_neg (by omega), if_neg (by omega), if_neg (by omega), if_neg (by omega), if_pos (by omega)]; simp [Lib.join_cons, Lib.joinTail, h1, h2, h3]
 ·simp [Lib.join_cons, Lib.joinTail, h1, h3, h4]
 ·simp [Lib.join_cons, Lib.joinTail, h4]
 ·simp [Lib.join_cons, Lib.joinTail, h1]

def setL (p : Int) (named : Bool) (n : Int) (i : In) : In :=
 if p = 0 ∨ p = 3 then ⟨i.op, n, i.a, i.b, i.imm⟩ else if p = 1 then ⟨i.op, i.d, n, i.b, i.imm⟩ else if p = 2 /\ named = true then ⟨i.op, i.d, i.a, n, i.imm⟩ else if p = 2 then ⟨i.op, i.d, i.a, 8, n⟩ else ⟨i.op, i.d, i.a, i.b, n⟩
def takeL (p : Int) (word : List UInt8) (i : In) : Option In :=
 match Lib.parseIntB 64 (Lib.trimPrefix word [114]) with
 | .ok n => some (setL p (Lib.hasPrefix word [114]) n i)
 | .syntax => none
 | .range => none
def looseF : List Int -> List UInt8 -> In -> Option In
 | [], _, i => some i
 | p :: ps, behind, i => match takeL p (cutL_l 32 behind).1 i with
  | none => none
  | some j => looseF ps (cutL_l 32 behind).2.1 j
def looseL (text : List UInt8) : Option In :=
 if (findL (str (cutL_l 32 text).1)).2 = true then looseF (partsL (findL (str (cutL_l 32 text).1)).1) (cutL_l 32 text).2.1 ⟨(findL (str (cutL_l 32 text).1)).1, 0, 0, 0, 0⟩ else none
def tightL (text : List UInt8) : Option In :=
 match looseL text with
 | none => none
 | some i => if i.right = true /\ i.line = text then some i else none

theorem take_r (p n : Int) (h : -9223372036854775808 <= n /\ n <= 9223372036854775807) (i : In) : takeL p (rL n) i = some (setL p true n i) := by
 unfold takeL; rw [(pre_r n).1, (pre_r n).2, parse_num h]
theorem take_num (p n : Int) (h : -9223372036854775808 <= n /\ n <= 9223372036854775807) (i : In) : takeL p (numL n) i = some (setL p false n i) := by
 unfold takeL; rw [(pre_num n).1, (pre_num n).2, parse_num h]
theorem take_src (b imm : Int) (hb : -9223372036854775808 <= b /\ b <= 9223372036854775807) (hi : -9223372036854775808 <= imm /\ imm <= 9223372036854775807) (i : In) : takeL 2 (srcL b imm) i = some (if b = 8 then ⟨i.op, i.d, i.a, 8, imm⟩ else ⟨i.op, i.d, i.a, b, i.imm⟩) := by
 unfold srcL
 by_cases h : b = 8
 ·rw [if_pos h, if_pos h, take_num 2 imm hi]; simp [setL]
 ·rw [if_neg h, if_neg h, take_r 2 b hb]; simp [setL]
theorem loose_more {p : Int} {ps : List Int} {a r : List UInt8} {i j : In} (h : ∀ c ∈ a, c ≠ 32) (ht : takeL p a i = some j) : looseF (p :: ps) (a ++ 32 :: r) i = looseF ps r j := by
 simp only [looseF, cutL_some 32 a r h, ht]
theorem loose_last {p : Int} {a : List UInt8} {i j : In} (h : ∀ c ∈ a, c ≠ 32) (ht : takeL p a i = some j) : looseF [p] a i = some j := by
 simp only [looseF, cutL_none 32 a h, ht]
theorem loose_line {i : In} (hr : i.right = true) (hwf : i.wf) : looseL i.line = some i := by
 obtain ⟨op, d, a, b, imm⟩ := i
 have bd : ∀ x : Int, (Lit.int .i64 x).wf = true -> -9223372036854775808 <= x /\ x <= 9223372036854775807 := fun x hx => bounds_i64 hx
 obtain ⟨w0, w1, w2, w3, w4⟩ := hwf
 simp only at w0 w1 w2 w3 w4
 have b1 := bd _ w1; have b2 := bd _ w2; have b3 := bd _ w3; have b4 := bd _ w4
 simp only [In.right] at hr
 have ho : 0 <= op /\ op <= 22 := by
  by_cases hz : (shapeL op).zero = true
  ·rw [zero_right hz] at hr; cases hr
  ·exact zero_op (by simpa using hz)
 have hn := nmL_sp ho
 have hf := find_nm ho
 have hc : cutL_l 32 (lineL op d a b imm) = (nmL op, tailL op d a b imm, true) := cutL_some 32 _ _ hn
 show looseL (lineL op d a b imm) = _
 unfold looseL
 rw [hc]
 simp only [hf]
 rw [if_pos trivial]
 unfold partsL tailL
 rcases cases_op ho with h | h | rfl | rfl | rfl | rfl | h | rfl | rfl | rfl
 ·rw [right_A h] at hr
  simp only [Bool.and_eq_true, Bool.or_eq_true, beq_iff_eq] at hr
  rw [if_pos h, if_pos h, loose_more (rL_sp d) (take_r 0 d b1 _), loose_last (srcL_sp b imm) (take_src b imm b3 b4 _)]
  simp only [setL]
  obtain ⟨⟨rfl, h8⟩, _⟩ := hr
  by_cases e : b = 8
  ·simp [e]
  ·obtain rfl : imm = 0 := h8.resolve_left e
   simp [e]
 ·rw [right_B h] at hr
  simp only [Bool.and_eq_true, Bool.or_eq_true, beq_iff_eq] at hr
  rw [if_neg (by omega), if_neg (by omega), if_neg (by omega), if_neg (by omega), if_neg (by omega), if_neg (by omega), if_neg (by omega), if_neg (by omega), if_neg (by omega), if_pos (by omega), loose_more (rL_sp d) (take_r 0 d b1 _), loose_more (rL_sp a) (take_r 1 a b2 _), loose_last (srcL_sp b imm) (take_src b imm b3 b4 _)]
  simp only [setL]
  obtain ⟨h8, _⟩ := hr
  by_cases e : b = 8
  ·simp [e]
  ·obtain rfl : imm = 0 := h8.resolve_left e
   simp [e]
 ·rw [right_C] at hr
  simp only [Bool.and_eq_true, Bool.or_eq_true, beq_iff_eq] at hr
  rw [if_neg (by omega), if_pos (by omega), if_neg (by omega), if_neg (by omega), if_pos (by omega), loose_more (rL_sp a) (take_r 1 a b2 _), loose_last (srcL_sp b imm) (take_src b imm b3 b4 _)]
  simp only [setL]
  obtain ⟨⟨rfl, h8⟩, _⟩ := hr
  by_cases e : b = 8
  ·simp [e]
  ·obtain rfl : imm = 0 := h8.resolve_left e
   simp [e]
 ·rw [right_D] at hr
  simp only [Bool.and_eq_true, Bool.or_eq_true, beq_iff_eq] at hr
  rw [if_neg (by omega), if_neg (by omega), if_pos (by omega), if_neg (by omega), if_neg (by omega), if_neg (by omega), if_pos (by omega), loose_more (rL_sp d) (take_r 0 d b1 _), loose_last (numL_sp imm) (take_num 4 imm b4 _)]
  obtain ⟨⟨rfl, rfl⟩, _⟩ := hr
  simp [setL]
 ·rw [right_E] at hr
  simp only [Bool.and_eq_true, Bool.or_eq_true, beq_iff_eq] at hr
  rw [if_neg (by omega), if_neg (by omega), if_pos (by omega), if_neg (by omega), if_neg (by omega), if_neg (by omega), if_pos (by omega), loose_more (rL_sp d) (take_r 0 d b1 _), loose_last (numL_sp imm) (take_num 4 imm b4 _)]
  obtain ⟨⟨rfl, rfl⟩, _⟩ := hr
  simp [setL]
 ·rw [right_F] at hr
  simp only [Bool.and_eq_true, Bool.or_eq_true, beq_iff_eq] at hr
  rw [if_neg (by omega), if_neg (by omega), if_neg (by omega), if_pos (by omega), if_neg (by omega), if_neg (by omega), if_neg (by omega), if_neg (by omega), if_pos (by omega), loose_last (numL_sp d) (take_num 3 d b1 _)]
  obtain ⟨⟨rfl, rfl, rfl⟩, _⟩ := hr
  simp [setL]
 ·rw [right_G h] at hr
  simp only [Bool.and_eq_true, Bool.or_eq_true, beq_iff_eq] at hr
  rw [if_neg (by omega), if_neg (by omega), if_neg (by omega), if_neg (by omega), if_pos (by omega), if_neg (by omega), if_neg (by omega), if_neg (by omega), if_neg (by omega), if_neg (by omega), if_pos (by omega), loose_more (rL_sp a) (take_r 1 a b2 _), loose_more (srcL_sp b imm) (take_src b imm b3 b4 _), loose_last (numL_sp d) (take_num 3 d b1 _)]
  simp only [setL]
  obtain ⟨h8, _⟩ := hr
  by_cases e : b = 8
  ·simp [e]
  ·obtain rfl : imm = 0 := h8.resolve_left e
   simp [e]
 ·rw [right_H] at hr
  simp only [Bool.and_eq_true, Bool.or_eq_true, beq_iff_eq] at hr
  rw [if_neg (by omega), if_neg (by omega), if_neg (by omega), if_neg (by omega), if_neg (by omega), if_pos (by omega), if_neg (by omega), if_neg (by omega), if_neg (by omega), if_neg (by omega), if_neg (by omega), if_neg (by omega), if_pos (by omega), loose_more (rL_sp a) (take_r 1 a b2 _), loose_more (numL_sp d) (take_num 3 d b1 _), loose_last (numL_sp imm) (take_num 4 imm b4 _)]
  obtain ⟨rfl, _⟩ := hr
  simp [setL]
 ·rw [right_I] at hr
  simp only [Bool.and_eq_true, Bool.or_eq_true, beq_iff_eq] at hr
  rw [if_neg (by omega), if_neg (by omega), if_neg (by omega), if_neg (by omega), if_neg (by omega), if_neg (by omega), if_pos (by omega), if_neg (by omega), if_neg (by omega), if_neg (by omega), if_neg (by omega), if_neg (by omega), if_neg (by omega), if_neg (by omega), if_pos (by omega), loose_last (numL_sp imm) (take_num 4 imm b4 _)]
  obtain ⟨⟨rfl, rfl, rfl⟩, _⟩ := hr
  simp [setL]
 ·rw [right_J] at hr
  simp only [Bool.and_eq_true, Bool.or_eq_true, beq_iff_eq] at hr
  rw [if_neg (by omega), if_neg (by omega), if_neg (by omega), if_neg (by omega), if_neg (by omega), if_neg (by omega), if_neg (by omega), if_pos (by omega), if_neg (by omega), if_neg (by omega), if_neg (by omega), if_neg (by omega), if_neg (by omega), if_neg (by omega), if_neg (by omega), if_neg (by omega), loose_last (rL_sp a) (take_r 1 a b2 _)]
  obtain ⟨⟨rfl, rfl, rfl⟩, _⟩ := hr
  simp [setL]

theorem parse_wf {l : List UInt8} {n : Int} (h : Lib.parseIntB 64 l = .ok n) : -9223372036854775808 <= n /\ n <= 9223372036854775807 := by
 cases l with
 | nil => simp [Lib.parseIntB] at h
 | cons c r =>
  simp only [Lib.parseIntB] at h
  split at h
  ·cases h
  ·cases h
  ·rename_i u hu
   split at h
   ·cases h
   ·rename_i g1
    split at h
    ·cases h
    ·rename_i g2
     injection h with h
     have e63 : (2 : Nat) ^ (64 - 1) = 9223372036854775808 := by decide
     rw [e63] at g1 g2
     by_cases hc : c.toNat = 45
     ·rw [if_pos hc] at h; subst h
      have : ¬ 9223372036854775808 < u := fun x => g2 ⟨hc, x⟩
      omega
     ·rw [if_neg hc] at h; subst h
      have : ¬ 9223372036854775808 <= u := fun x => g1 ⟨hc, x⟩
      omega
abbrev In.fit (i : In) : Prop := (0 <= i.op /\ i.op <= 23) /\ (-9223372036854775808 <= i.d /\ i.d <= 9223372036854775807) /\ (-9223372036854775808 <= i.a /\ i.a <= 9223372036854775807) /\ (-9223372036854775808 <= i.b /\ i.b <= 9223372036854775807) /\ (-9223372036854775808 <= i.imm /\ i.imm <= 9223372036854775807)
theorem setL_fit {p n : Int} {b : Bool} {i : In} (h : i.fit) (hn : -9223372036854775808 <= n /\ n <= 9223372036854775807) : (setL p b n i).fit := by
 obtain ⟨h0, h1, h2, h3, h4⟩ := h
 unfold setL
 repeat' split
 ·exact ⟨h0, hn, h2, h3, h4⟩
 ·exact ⟨h0, h1, hn, h3, h4⟩
 ·exact ⟨h0, h1, h2, hn, h4⟩
 ·exact ⟨h0, h1, h2, (⟨by omega, by omega⟩ : -9223372036854775808 <= (8 : Int) /\ (8 : Int) <= 9223372036854775807), hn⟩
 ·exact ⟨h0, h1, h2, h3, hn⟩
theorem takeL_fit {p : Int} {l : List UInt8} {i j : In} (h : i.fit) (ht : takeL p l i = some j) : j.fit /\ j.op = i.op := by
 unfold takeL at ht
 split at ht
 ·rename_i n hn
  injection ht with ht
  subst ht
  refine ⟨setL_fit h (parse_wf hn), ?_⟩
  unfold setL
  repeat' split
  all_goals rfl
 ·cases ht
 ·cases ht
theorem looseF_fit : ∀ (ps : List Int) (l : List UInt8) (i j : In), i.fit -> looseF ps l i = some j -> j.fit /\ j.op = i.op
 | [], l, i, j, h, hl => by simp only [looseF, Option.some.injEq] at hl; subst hl; exact ⟨h, rfl⟩
 | p :: ps, l, i, j, h, hl => by
  simp only [looseF] at hl
  split at hl
  ·cases hl
  ·rename_i k hk
   obtain ⟨h1, h2⟩ := takeL_fit h hk
   obtain ⟨h3, h4⟩ := looseF_fit ps _ k j h1 hl
   exact ⟨h3, h4.trans h2⟩
theorem find_op (s : ByteArray) : 0 <= (findL s).1 /\ (findL s).1 <= 23 := by
 have := findF_bd s 23 0
 exact ⟨this.1, by have := this.2; unfold findL; omega⟩
theorem looseL_fit {t : List UInt8} {i : In} (h : looseL t = some i) : i.fit := by
 unfold looseL at h
 split at h
 ·exact (looseF_fit _ _ _ _ ⟨find_op _, by simp, by simp, by simp, by simp⟩ h).1
 ·cases h
theorem fit_wf {i : In} (h : i.fit) : i.wf := by
 obtain ⟨h0, h1, h2, h3, h4⟩ := h
 exact ⟨WalkArith.wf_i64 (by omega), WalkArith.wf_i64 (by omega), WalkArith.wf_i64 (by omega), WalkArith.wf_i64 (by omega), WalkArith.wf_i64 (by omega)⟩
theorem tight_eq (t : List UInt8) : tightL t = readL t := by
 rcases hr : readL t with _ | i
 ·rcases hl : looseL t with _ | j
  ·simp [tightL, hl]
  ·simp only [tightL, hl]
   rw [if_neg]
   rintro ⟨h1, h2⟩
   have h3 := readL_line h1 (fit_wf (looseL_fit hl))
   have h4 : readL t = some j := by rw [<- h2]; exact h3
   rw [hr] at h4; cases h4
 ·obtain ⟨h1, h2⟩ := readL_some hr
  have h3 := loose_line h1 (readL_wf hr)
  rw [h2] at h3
  simp only [tightL, h3]
  rw [if_pos ⟨h1, h2⟩]
end Go.Proofs.YtiheafdphgllkaaGreatDoor
