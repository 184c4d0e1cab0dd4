
/-
  A line read back, with no Go text in sight: a line is cut at its blanks, a word's digits are its number, and what an instruction's line says is that instruction.
-/
import Derived.Test.YtbfbfbbpajaclaaDoorMB7
import Derived.Test.YtbfbfbbpajaclaaDoorMB9
namespace Go.Proofs.YtbfbfbbpajaclaaDoor
open Go.RowKit
set_option linter.unusedVariables false
set_option linter.unusedSimpArgs false

/-! ### Words -/
def wordsF (acc : List UInt8) : List UInt8 → List (List UInt8)
  | [] => [acc]
  | c :: r => if c = 32 then acc :: wordsF [] r else wordsF (acc ++ [c]) r
/-- A line cut at each blank. -/
def wordsL (l : List UInt8) : List (List UInt8) := wordsF [] l
theorem wordsF_word : ∀ (a acc r : List UInt8), (∀ c ∈ a, c ≠ 32) → wordsF acc (a ++ 32 :: r) = (acc ++ a) :: wordsF [] r
  | [], acc, r, _ => by simp [wordsF]
  | c :: a, acc, r, h => by
    have hc : c ≠ 32 := h c (by simp)
    simp only [List.cons_append, wordsF, if_neg hc]
    rw [wordsF_word a (acc ++ [c]) r (fun x hx => h x (by simp [hx]))]
    simp
theorem wordsF_end : ∀ (a acc : List UInt8), (∀ c ∈ a, c ≠ 32) → wordsF acc a = [acc ++ a]
  | [], acc, _ => by simp [wordsF]
  | c :: a, acc, h => by
    have hc : c ≠ 32 := h c (by simp)
    simp only [wordsF, if_neg hc]
    rw [wordsF_end a (acc ++ [c]) (fun x hx => h x (by simp [hx]))]
    simp
theorem wordsL_cons {a r : List UInt8} (h : ∀ c ∈ a, c ≠ 32) : wordsL (a ++ 32 :: r) = a :: wordsL r := by unfold wordsL; rw [wordsF_word a [] r h]; simp
theorem wordsL_one {a : List UInt8} (h : ∀ c ∈ a, c ≠ 32) : wordsL a = [a] := by unfold wordsL; rw [wordsF_end a [] h]; simp

/-! ### Digits -/
theorem dig_nat {k : Nat} (h : k < 10) : (dig k).toNat = 48 + k := by
  unfold dig
  have : (48 + k).toUInt8.toNat = (48 + k) % 256 := rfl
  rw [this]; omega
theorem digF_dig : ∀ (f u : Nat) (c : UInt8), c ∈ digF f u → 48 ≤ c.toNat ∧ c.toNat ≤ 57
  | 0, u, c, h => by simp [digF] at h
  | f + 1, u, c, h => by
    unfold digF at h
    rw [List.mem_append] at h
    rcases h with h | h
    · split at h
      · simp at h
      · exact digF_dig f _ c h
    · simp at h
      subst h
      rw [dig_nat (by omega)]; omega
theorem numL_sp (n : Int) : ∀ c ∈ numL n, c ≠ 32 := by
  intro c hc he
  subst he
  unfold numL at hc
  split at hc
  · rcases List.mem_cons.1 hc with h | h
    · exact absurd h (by decide)
    · have := digF_dig _ _ _ h; revert this; decide
  · have := digF_dig _ _ _ hc; revert this; decide
theorem rL_sp (n : Int) : ∀ c ∈ rL n, c ≠ 32 := by
  intro c hc
  rcases List.mem_cons.1 hc with h | h
  · subst h; decide
  · exact numL_sp n c h
theorem srcL_sp (b imm : Int) : ∀ c ∈ srcL b imm, c ≠ 32 := by
  unfold srcL
  split
  · exact numL_sp imm
  · exact rL_sp b
theorem nameS_sp : ∀ k : Fin 23, ((nameS k.val).data.toList.all fun c => c != 32) = true := by decide +kernel
theorem nmL_sp {op : Int} (h : 0 ≤ op ∧ op ≤ 22) : ∀ c ∈ nmL op, c ≠ 32 := by
  intro c hc
  unfold nmL nameF at hc
  rw [if_pos (by omega)] at hc
  have := List.all_eq_true.1 (nameS_sp ⟨op.toNat, by omega⟩) c hc
  simpa using this

/-- The digits of a word, from one on. -/
def goL (first : Bool) (U : Int) (N : Nat) : List UInt8 → Option (Int × Nat)
  | [] => some (U, N)
  | c :: r =>
    if c.toNat = 45 ∧ first = true then goL false U N r
    else if c.toNat < 48 ∨ 57 < c.toNat then none
    else goL false (IntKind.u64.wrap (IntKind.u64.wrap (10 * U) + ((c.toNat : Int) - 48))) (N + 1) r
/-- A word's number, and whether it has one. -/
def valueL (l : List UInt8) : Int × Bool :=
  match goL true 0 0 l with
  | none => (0, false)
  | some (U, N) => if N = 0 then (0, false) else (wrap64 (if (l.headD 0).toNat = 45 then IntKind.u64.wrap (-U) else U), true)
theorem goL_app : ∀ (a b : List UInt8) (U : Int) (N : Nat), (∀ c ∈ a, 48 ≤ c.toNat ∧ c.toNat ≤ 57) → goL false U N (a ++ b) = (goL false U N a).bind fun x => goL false x.1 x.2 b
  | [], b, U, N, _ => rfl
  | c :: a, b, U, N, h => by
    have hc := h c (by simp)
    simp only [List.cons_append, goL]
    rw [if_neg (by simp), if_neg (by omega), if_neg (by simp), if_neg (by omega)]
    exact goL_app a b _ _ (fun x hx => h x (by simp [hx]))
theorem goL_dig : ∀ (f u : Nat), u < 10 ^ (f + 1) → u < 18446744073709551616 → ∃ N, goL false 0 0 (digF (f + 1) u) = some ((u : Int), N + 1)
  | 0, u, h, _ => by
    have h10 : u / 10 = 0 := by omega
    refine ⟨0, ?_⟩
    rw [digF_last h10]
    have := dig_nat (k := u % 10) (by omega)
    simp only [goL]
    rw [if_neg (by simp), if_neg (by omega), this]
    congr 2
    go_arith
  | f + 1, u, h, h64 => by
    by_cases h10 : u / 10 = 0
    · refine ⟨0, ?_⟩
      rw [digF_last h10]
      have := dig_nat (k := u % 10) (by omega)
      simp only [goL]
      rw [if_neg (by simp), if_neg (by omega), this]
      congr 2
      go_arith
    · obtain ⟨N, hN⟩ := goL_dig f (u / 10) (by rw [Nat.pow_succ] at h; omega) (by omega)
      refine ⟨N + 1, ?_⟩
      rw [digF_more h10, goL_app _ _ _ _ (fun c hc => digF_dig _ _ c hc), hN]
      have := dig_nat (k := u % 10) (by omega)
      simp only [Option.bind_some, goL]
      rw [if_neg (by simp), if_neg (by omega), this]
      congr 2
      go_arith
theorem goL_first {l : List UInt8} {U : Int} {N : Nat} (h : (l.headD 0).toNat ≠ 45) : goL true U N l = goL false U N l := by
  cases l with
  | nil => rfl
  | cons c r =>
    simp only [List.headD_cons] at h
    simp only [goL]
    rw [if_neg (fun x => h x.1), if_neg (show ¬ (c.toNat = 45 ∧ false = true) by simp)]
theorem digF_ne (f u : Nat) : digF (f + 1) u ≠ [] := by unfold digF; simp
theorem headD_mem {l : List UInt8} (h : l ≠ []) : l.headD 0 ∈ l := by cases l with | nil => exact absurd rfl h | cons c r => simp
/-- A number is read back. -/
theorem value_num {n : Int} (hn : -9223372036854775808 ≤ n ∧ n ≤ 9223372036854775807) : valueL (numL n) = (n, true) := by
  unfold numL
  split
  · rename_i h0
    obtain ⟨N, hN⟩ := goL_dig 19 (-n).toNat (by omega) (by omega)
    have e : goL true 0 0 (45 :: digF 20 (-n).toNat) = some (((-n).toNat : Int), N + 1) := by
      rw [← hN]
      show (if (45 : UInt8).toNat = 45 ∧ true = true then _ else _) = _
      rw [if_pos (by decide)]
    unfold valueL
    rw [e]
    simp only []
    rw [if_neg (by omega), if_pos (show ((45 :: digF 20 (-n).toNat).headD 0).toNat = 45 from rfl)]
    congr 1
    go_arith
  · rename_i h0
    obtain ⟨N, hN⟩ := goL_dig 19 n.toNat (by omega) (by omega)
    have hh := digF_dig 20 n.toNat _ (headD_mem (digF_ne 19 n.toNat))
    unfold valueL
    rw [goL_first (by omega), hN]
    simp only []
    rw [if_neg (by omega), if_neg (by omega)]
    congr 1
    go_arith

/-! ### A word as a register or a number -/
def regW (w : List UInt8) : Bool := decide (w.length = 2) && decide ((w.getD 0 0).toNat = 114)
def nW (w : List UInt8) : Int := if regW w = true then ((w.getD 1 0).toNat : Int) - 48 else 0
def mW (w : List UInt8) : Int := if regW w = true then 0 else (valueL w).1
def okW (w : List UInt8) : Bool := regW w || (valueL w).2
theorem rL_small {d : Int} (h : 0 ≤ d ∧ d ≤ 7) : rL d = [114, dig d.toNat] := by
  unfold rL numL
  rw [if_neg (by omega), digF_last (f := 19) (by omega)]
  congr 2
  congr 1
  omega
theorem reg_r {d : Int} (h : 0 ≤ d ∧ d ≤ 7) : regW (rL d) = true := by rw [rL_small h]; rfl
theorem n_r {d : Int} (h : 0 ≤ d ∧ d ≤ 7) : nW (rL d) = d := by
  unfold nW
  rw [if_pos (reg_r h), rL_small h]
  show ((dig d.toNat).toNat : Int) - 48 = d
  rw [dig_nat (by omega)]
  omega
theorem m_r {d : Int} (h : 0 ≤ d ∧ d ≤ 7) : mW (rL d) = 0 := by unfold mW; rw [if_pos (reg_r h)]
theorem ok_r {d : Int} (h : 0 ≤ d ∧ d ≤ 7) : okW (rL d) = true := by unfold okW; rw [reg_r h]; rfl
theorem reg_num (n : Int) : regW (numL n) = false := by
  unfold regW
  rw [Bool.and_eq_false_iff]
  right
  simp only [decide_eq_false_iff_not]
  intro h
  unfold numL at h
  split at h
  · revert h; simp
  · have hm : (digF 20 n.toNat).getD 0 0 ∈ digF 20 n.toNat := by
      have := headD_mem (digF_ne 19 n.toNat)
      cases hd : digF 20 n.toNat with
      | nil => exact absurd hd (digF_ne 19 n.toNat)
      | cons c r => simp
    have := digF_dig _ _ _ hm
    omega
theorem n_num (n : Int) : nW (numL n) = 0 := by unfold nW; rw [if_neg (by rw [reg_num]; simp)]
theorem m_num {n : Int} (hn : -9223372036854775808 ≤ n ∧ n ≤ 9223372036854775807) : mW (numL n) = n := by unfold mW; rw [if_neg (by rw [reg_num]; simp), value_num hn]
theorem ok_num {n : Int} (hn : -9223372036854775808 ≤ n ∧ n ≤ 9223372036854775807) : okW (numL n) = true := by unfold okW; rw [value_num hn]; simp

/-- What the words behind the name say. -/
def candI (op : Int) (ws : List (List UInt8)) : In :=
  if op = 0 ∨ op = 11 then ⟨op, nW (ws.getD 0 []), 0, if regW (ws.getD 1 []) = true then nW (ws.getD 1 []) else 8, mW (ws.getD 1 [])⟩
  else if op ≤ 10 then ⟨op, nW (ws.getD 0 []), nW (ws.getD 1 []), if regW (ws.getD 2 []) = true then nW (ws.getD 2 []) else 8, mW (ws.getD 2 [])⟩
  else if op = 12 then ⟨op, 0, nW (ws.getD 0 []), if regW (ws.getD 1 []) = true then nW (ws.getD 1 []) else 8, mW (ws.getD 1 [])⟩
  else if op = 13 ∨ op = 14 then ⟨op, nW (ws.getD 0 []), 0, 0, mW (ws.getD 1 [])⟩
  else if op = 15 then ⟨op, mW (ws.getD 0 []), 0, 0, 0⟩
  else if op ≤ 19 then ⟨op, mW (ws.getD 2 []), nW (ws.getD 0 []), if regW (ws.getD 1 []) = true then nW (ws.getD 1 []) else 8, mW (ws.getD 1 [])⟩
  else if op = 20 then ⟨op, mW (ws.getD 1 []), nW (ws.getD 0 []), 0, mW (ws.getD 2 [])⟩
  else if op = 21 then ⟨op, 0, 0, 0, mW (ws.getD 0 [])⟩
  else ⟨op, 0, nW (ws.getD 0 []), 0, 0⟩
theorem src_back {b imm : Int} (hi : -9223372036854775808 ≤ imm ∧ imm ≤ 9223372036854775807) (hb : (0 ≤ b ∧ b ≤ 7) ∨ b = 8) (h0 : b = 8 ∨ imm = 0) :
    (if regW (srcL b imm) = true then nW (srcL b imm) else 8) = b ∧ mW (srcL b imm) = imm ∧ okW (srcL b imm) = true := by
  by_cases h8 : b = 8
  · subst h8
    have e : srcL 8 imm = numL imm := by unfold srcL; rw [if_pos rfl]
    rw [e, if_neg (by rw [reg_num]; simp)]
    exact ⟨rfl, m_num hi, ok_num hi⟩
  · have e : srcL b imm = rL b := by unfold srcL; rw [if_neg h8]
    have hr : 0 ≤ b ∧ b ≤ 7 := by omega
    have hz : imm = 0 := by omega
    rw [e, if_pos (reg_r hr)]
    exact ⟨n_r hr, by rw [m_r hr, hz], ok_r hr⟩
/-- What a name that was looked up and the words behind it say of a line. -/
def readW (f : Int × Bool) (ws : List (List UInt8)) (s : List UInt8) : Option In :=
  if f.2 = false ∨ 3 < ws.length then none
  else if (ws.all okW) = false then none
  else if ((candI f.1 ws).right && decide (lineL (candI f.1 ws).op (candI f.1 ws).d (candI f.1 ws).a (candI f.1 ws).b (candI f.1 ws).imm = s)) = true then some (candI f.1 ws) else none
/-- The line's instruction, if it is one's. -/
def readL (s : List UInt8) : Option In := readW (findL (str ((wordsL s).headD []))) (wordsL s).tail s
theorem find_nm {op : Int} (h : 0 ≤ op ∧ op ≤ 22) : findL (str (nmL op)) = (op, true) := by
  rw [nmL_str]
  have hk : ∀ k : Fin 23, findL (nameF (k.val : Int)) = ((k.val : Int), true) := by decide +kernel
  have := hk ⟨op.toNat, by omega⟩
  have e : ((op.toNat : Nat) : Int) = op := by omega
  simp only [e] at this
  exact this
/-- Whatever the words: it is read back if they say it. -/
theorem readL_of {i : In} {ws : List (List UInt8)} (ho : 0 ≤ i.op ∧ i.op ≤ 22) (hr : i.right = true) (hw : wordsL (lineL i.op i.d i.a i.b i.imm) = nmL i.op :: ws) (hl : ws.length ≤ 3) (hok : ws.all okW = true) (hc : candI i.op ws = i) : readL (lineL i.op i.d i.a i.b i.imm) = some i := by
  unfold readL
  rw [hw]
  show readW (findL (str (nmL i.op))) ws _ = some i
  rw [find_nm ho]
  unfold readW
  rw [if_neg (by simp; omega), if_neg (by rw [hok]; simp), hc, hr]
  simp
/-- An instruction's line is read back. -/
theorem readL_line {i : In} (hr : i.right = true) (hwf : i.wf) : readL (lineL i.op i.d i.a i.b i.imm) = some i := by
  obtain ⟨op, d, a, b, imm⟩ := i
  obtain ⟨_, w1, w2, w3, w4⟩ := hwf
  have bd := bounds_i64 w1
  have ba := bounds_i64 w2
  have bb := bounds_i64 w3
  have bi := bounds_i64 w4
  have hr' : rightB op d a b imm = true := hr
  simp only at bd ba bb bi
  have ho := right_op hr'
  rcases cases_op ho with hop | hop | rfl | rfl | rfl | rfl | hop | rfl | rfl | rfl
  · rw [right_A hop] at hr'
    simp [fitsB] at hr'
    have hd := regB_bd hr'.2.1
    have hs := src_back (b := b) (imm := imm) bi (by rcases hr'.2.2.2 with h | h; exact .inl (regB_bd h); exact .inr h) hr'.1.2
    have et : tailL op d a b imm = rL d ++ 32 :: srcL b imm := by unfold tailL; rw [if_pos hop]
    refine readL_of (i := ⟨op, d, a, b, imm⟩) (ws := [rL d, srcL b imm]) ho hr ?_ (by simp) (by simp [ok_r hd, hs.2.2]) ?_
    · unfold lineL; rw [et, wordsL_cons (nmL_sp ho), wordsL_cons (rL_sp d), wordsL_one (srcL_sp b imm)]
    · show candI op [rL d, srcL b imm] = ⟨op, d, a, b, imm⟩; unfold candI; rw [if_pos hop]; simp only [List.getD_cons_zero, List.getD_cons_succ]; rw [n_r hd, hs.1, hs.2.1, hr'.1.1]
  · rw [right_B hop] at hr'
    simp [fitsB] at hr'
    have hd := regB_bd hr'.2.1
    have ha := regB_bd hr'.2.2.1
    have hs := src_back (b := b) (imm := imm) bi (by rcases hr'.2.2.2 with h | h; exact .inl (regB_bd h); exact .inr h) hr'.1
    have et : tailL op d a b imm = rL d ++ 32 :: (rL a ++ 32 :: srcL b imm) := by unfold tailL; rw [if_neg (by omega), if_pos hop.2]
    refine readL_of (i := ⟨op, d, a, b, imm⟩) (ws := [rL d, rL a, srcL b imm]) ho hr ?_ (by simp) (by simp [ok_r hd, ok_r ha, hs.2.2]) ?_
    · unfold lineL; rw [et, wordsL_cons (nmL_sp ho), wordsL_cons (rL_sp d), wordsL_cons (rL_sp a), wordsL_one (srcL_sp b imm)]
    · show candI op [rL d, rL a, srcL b imm] = ⟨op, d, a, b, imm⟩; unfold candI; rw [if_neg (by omega), if_pos hop.2]; simp only [List.getD_cons_zero, List.getD_cons_succ]; rw [n_r hd, n_r ha, hs.1, hs.2.1]
  · rw [right_C] at hr'
    simp [fitsB, hasB] at hr'
    have ha := regB_bd hr'.2.2.1
    have hs := src_back (b := b) (imm := imm) bi (by rcases hr'.2.2.2 with h | h; exact .inl (regB_bd h); exact .inr h) hr'.1.2
    have et : tailL 12 d a b imm = rL a ++ 32 :: srcL b imm := by unfold tailL; rw [if_neg (by omega), if_neg (by omega), if_pos rfl]
    refine readL_of (i := ⟨12, d, a, b, imm⟩) (ws := [rL a, srcL b imm]) ho hr ?_ (by simp) (by simp [ok_r ha, hs.2.2]) ?_
    · unfold lineL; rw [et, wordsL_cons (nmL_sp ho), wordsL_cons (rL_sp a), wordsL_one (srcL_sp b imm)]
    · show candI 12 [rL a, srcL b imm] = ⟨12, d, a, b, imm⟩; unfold candI; rw [if_neg (by omega), if_neg (by omega), if_pos rfl]; simp only [List.getD_cons_zero, List.getD_cons_succ]; rw [n_r ha, hs.1, hs.2.1, hr'.1.1]
  · rw [right_D] at hr'
    simp [fitsB, hasB] at hr'
    have hd := regB_bd hr'.2.1.1
    have et : tailL 13 d a b imm = rL d ++ 32 :: numL imm := by unfold tailL; rw [if_neg (by omega), if_neg (by omega), if_neg (by omega), if_pos (by omega)]
    refine readL_of (i := ⟨13, d, a, b, imm⟩) (ws := [rL d, numL imm]) ho hr ?_ (by simp) (by simp [ok_r hd, ok_num bi]) ?_
    · unfold lineL; rw [et, wordsL_cons (nmL_sp ho), wordsL_cons (rL_sp d), wordsL_one (numL_sp imm)]
    · show candI 13 [rL d, numL imm] = ⟨13, d, a, b, imm⟩; unfold candI; rw [if_neg (by omega), if_neg (by omega), if_neg (by omega), if_pos (by omega)]; simp only [List.getD_cons_zero, List.getD_cons_succ]; rw [n_r hd, m_num bi, hr'.1.1, hr'.1.2]
  · rw [right_E] at hr'
    simp [fitsB, hasB] at hr'
    have hd := regB_bd hr'.2.1.1
    have et : tailL 14 d a b imm = rL d ++ 32 :: numL imm := by unfold tailL; rw [if_neg (by omega), if_neg (by omega), if_neg (by omega), if_pos (by omega)]
    refine readL_of (i := ⟨14, d, a, b, imm⟩) (ws := [rL d, numL imm]) ho hr ?_ (by simp) (by simp [ok_r hd, ok_num bi]) ?_
    · unfold lineL; rw [et, wordsL_cons (nmL_sp ho), wordsL_cons (rL_sp d), wordsL_one (numL_sp imm)]
    · show candI 14 [rL d, numL imm] = ⟨14, d, a, b, imm⟩; unfold candI; rw [if_neg (by omega), if_neg (by omega), if_neg (by omega), if_pos (by omega)]; simp only [List.getD_cons_zero, List.getD_cons_succ]; rw [n_r hd, m_num bi, hr'.1.1, hr'.1.2]
  · rw [right_F] at hr'
    simp [fitsB, hasB] at hr'
    have et : tailL 15 d a b imm = numL d := by unfold tailL; rw [if_neg (by omega), if_neg (by omega), if_neg (by omega), if_neg (by omega), if_pos rfl]
    refine readL_of (i := ⟨15, d, a, b, imm⟩) (ws := [numL d]) ho hr ?_ (by simp) (by simp [ok_num bd]) ?_
    · unfold lineL; rw [et, wordsL_cons (nmL_sp ho), wordsL_one (numL_sp d)]
    · show candI 15 [numL d] = ⟨15, d, a, b, imm⟩; unfold candI; rw [if_neg (by omega), if_neg (by omega), if_neg (by omega), if_neg (by omega), if_pos rfl]; simp only [List.getD_cons_zero, List.getD_cons_succ]; rw [m_num bd, hr'.1.1, hr'.1.2.1, hr'.1.2.2]
  · rw [right_G hop] at hr'
    simp [fitsB, hasB] at hr'
    have ha := regB_bd hr'.2.2.1
    have hs := src_back (b := b) (imm := imm) bi (by rcases hr'.2.2.2 with h | h; exact .inl (regB_bd h); exact .inr h) hr'.1
    have et : tailL op d a b imm = rL a ++ 32 :: (srcL b imm ++ 32 :: numL d) := by unfold tailL; rw [if_neg (by omega), if_neg (by omega), if_neg (by omega), if_neg (by omega), if_neg (by omega), if_pos hop.2]
    refine readL_of (i := ⟨op, d, a, b, imm⟩) (ws := [rL a, srcL b imm, numL d]) ho hr ?_ (by simp) (by simp [ok_r ha, hs.2.2, ok_num bd]) ?_
    · unfold lineL; rw [et, wordsL_cons (nmL_sp ho), wordsL_cons (rL_sp a), wordsL_cons (srcL_sp b imm), wordsL_one (numL_sp d)]
    · show candI op [rL a, srcL b imm, numL d] = ⟨op, d, a, b, imm⟩; unfold candI; rw [if_neg (by omega), if_neg (by omega), if_neg (by omega), if_neg (by omega), if_neg (by omega), if_pos hop.2]; simp only [List.getD_cons_zero, List.getD_cons_succ]; rw [m_num bd, n_r ha, hs.1, hs.2.1]
  · rw [right_H] at hr'
    simp [fitsB, hasB] at hr'
    have ha := regB_bd hr'.2.1.2.1
    have et : tailL 20 d a b imm = rL a ++ 32 :: (numL d ++ 32 :: numL imm) := by unfold tailL; rw [if_neg (by omega), if_neg (by omega), if_neg (by omega), if_neg (by omega), if_neg (by omega), if_neg (by omega), if_pos rfl]
    refine readL_of (i := ⟨20, d, a, b, imm⟩) (ws := [rL a, numL d, numL imm]) ho hr ?_ (by simp) (by simp [ok_r ha, ok_num bd, ok_num bi]) ?_
    · unfold lineL; rw [et, wordsL_cons (nmL_sp ho), wordsL_cons (rL_sp a), wordsL_cons (numL_sp d), wordsL_one (numL_sp imm)]
    · show candI 20 [rL a, numL d, numL imm] = ⟨20, d, a, b, imm⟩; unfold candI; rw [if_neg (by omega), if_neg (by omega), if_neg (by omega), if_neg (by omega), if_neg (by omega), if_neg (by omega), if_pos rfl]; simp only [List.getD_cons_zero, List.getD_cons_succ]; rw [m_num bd, n_r ha, m_num bi, hr'.1]
  · rw [right_I] at hr'
    simp [fitsB, hasB] at hr'
    have et : tailL 21 d a b imm = numL imm := by unfold tailL; rw [if_neg (by omega), if_neg (by omega), if_neg (by omega), if_neg (by omega), if_neg (by omega), if_neg (by omega), if_neg (by omega), if_pos rfl]
    refine readL_of (i := ⟨21, d, a, b, imm⟩) (ws := [numL imm]) ho hr ?_ (by simp) (by simp [ok_num bi]) ?_
    · unfold lineL; rw [et, wordsL_cons (nmL_sp ho), wordsL_one (numL_sp imm)]
    · show candI 21 [numL imm] = ⟨21, d, a, b, imm⟩; unfold candI; rw [if_neg (by omega), if_neg (by omega), if_neg (by omega), if_neg (by omega), if_neg (by omega), if_neg (by omega), if_neg (by omega), if_pos rfl]; simp only [List.getD_cons_zero, List.getD_cons_succ]; rw [m_num bi, hr'.1.1, hr'.1.2.1, hr'.1.2.2]
  · rw [right_J] at hr'
    simp [fitsB, hasB] at hr'
    have ha := regB_bd hr'.2.1.2.1
    have et : tailL 22 d a b imm = rL a := by unfold tailL; rw [if_neg (by omega), if_neg (by omega), if_neg (by omega), if_neg (by omega), if_neg (by omega), if_neg (by omega), if_neg (by omega), if_neg (by omega)]
    refine readL_of (i := ⟨22, d, a, b, imm⟩) (ws := [rL a]) ho hr ?_ (by simp) (by simp [ok_r ha]) ?_
    · unfold lineL; rw [et, wordsL_cons (nmL_sp ho), wordsL_one (rL_sp a)]
    · show candI 22 [rL a] = ⟨22, d, a, b, imm⟩; unfold candI; rw [if_neg (by omega), if_neg (by omega), if_neg (by omega), if_neg (by omega), if_neg (by omega), if_neg (by omega), if_neg (by omega), if_neg (by omega)]; simp only [List.getD_cons_zero, List.getD_cons_succ]; rw [n_r ha, hr'.1.1, hr'.1.2.1, hr'.1.2.2]
end Go.Proofs.YtbfbfbbpajaclaaDoor
