/-
  J9Plain
  J9Made
  JJoin
-/
import Derived.Test.YtlkdniglaldilaaGreatMG13
import Derived.Test.YtlkdniglaldilaaGreatMG16
import Derived.Test.YtlkdniglaldilaaGreatMG10
namespace Go.Proofs.YtlkdniglaldilaaGreat
set_option linter.unusedVariables false
abbrev St : Type := List Ty
def num2 (lo hi : Int) : Ty := ⟨1, lo, hi, 0⟩
def fullT : Ty := ⟨1, 0, 18446744073709551615, 0⟩
def fitsJ (a b : Ty) : Bool := if b.k = 0 then true else if a.k ≠ b.k then false else if b.k = 1 then withinB a.lo a.hi b.lo b.hi else decide (a.m = b.m)
def u64 (n : Int) : Int := n % 18446744073709551616
def regT (s : St) (r : Int) : Ty := s.getD r.toNat Ty.nil
def srcT (i : In) (s : St) : Ty := if i.b = 8 then num2 (u64 i.imm) (u64 i.imm) else regT s i.b
def In.src (i : In) : Bool := sourceB i.op i.d i.a i.b i.imm
def In.wr (i : In) : Int × Bool := writesL i.op i.d i.a i.b i.imm
def srcA (i : In) (s : St) : Ty := if i.src = true then srcT i s else Ty.nil
def fitsAll (s head : St) : Bool := (List.range 8).all fun r => fitsJ (s.getD r Ty.nil) (head.getD r Ty.nil)
def asksJ (nm : Nat) (i : In) (s head : St) : Int :=
 if i.op = 0 then (if (srcA i s).k = 0 then 33 else 0)
 else if i.op = 13 ∨ i.op = 15 then 0
 else if i.op = 14 then (if (nm : Int) <= i.imm then 35 else 0)
 else if i.op = 21 then hcheckL i.imm ((s.drop 1).take (argsL i.imm).length)
 else if i.op = 11 then (if (srcA i s).k ≠ 1 then 33 else if 15 < (srcA i s).hi then 35 else 0)
 else if i.op = 20 then (if (regT s i.a).k ≠ 1 then 33 else if fitsAll s head = true then 0 else 33)
 else if i.op = 22 then (if (regT s i.a).k ≠ 1 then 33 else 0)
 else if (regT s i.a).k ≠ 1 ∨ (srcA i s).k ≠ 1 then 33
 else if i.op = 12 /\ 15 < (srcA i s).hi then 35 else 0
def doT (op : Int) (a b : Ty) : Ty := num2 ((doR op a.lo a.hi b.lo b.hi).getD (0, 0)).1 ((doR op a.lo a.hi b.lo b.hi).getD (0, 0)).2
def leavesJ (i : In) (s : St) (holds : Bool) : Option St :=
 if i.op = 0 then some (s.set i.d.toNat (srcT i s))
 else if threeB i.op = true then some (s.set i.d.toNat (doT i.op (regT s i.a) (srcT i s)))
 else if i.op = 11 ∨ i.op = 13 then some (s.set i.d.toNat fullT)
 else if i.op = 14 then some (s.set i.d.toNat ⟨2, 0, 0, i.imm⟩)
 else if i.op = 21 then some (s.set 0 (resL i.imm).1)
 else if jumpB i.op = true then
  match refineR i.op (regT s i.a).lo (regT s i.a).hi (srcT i s).lo (srcT i s).hi holds with
  | none => none
  | some p => some (s.set i.a.toNat (num2 p.1 p.2))
 else some s
def mapsJ (ms : List Int) : Bool := decide (ms.length <= 4) && ((List.range ms.length).all fun i => decide (0 <= ms.getD i 0) && decide (ms.getD i 0 <= 3) && ((List.range i).all fun k => decide (ms.getD k 0 ≠ ms.getD i 0)))
def Made (nm : Nat) (t : Ty) : Prop := (t.k = 0 /\ t.lo = 0 /\ t.hi = 0 /\ t.m = 0) ∨ (t.k = 1 /\ 0 <= t.lo /\ t.lo <= t.hi /\ t.hi <= 18446744073709551615 /\ t.m = 0) ∨ (t.k = 2 /\ t.lo = 0 /\ t.hi = 0 /\ 0 <= t.m /\ t.m < nm)
def Made8 (nm : Nat) (s : St) : Prop := s.length = 8 /\ ∀ t ∈ s, Made nm t
theorem made_nil (nm : Nat) : Made nm Ty.nil := .inl ⟨rfl, rfl, rfl, rfl⟩
theorem made_full (nm : Nat) : Made nm fullT := .inr (.inl ⟨rfl, by decide, by decide, by decide, rfl⟩)
theorem made_num {nm : Nat} {lo hi : Int} (h0 : 0 <= lo) (h1 : lo <= hi) (h2 : hi <= 18446744073709551615) : Made nm (num2 lo hi) := .inr (.inl ⟨rfl, h0, h1, h2, rfl⟩)
theorem Made.ends {nm : Nat} {t : Ty} (h : Made nm t) : (0 <= t.lo /\ t.lo <= 18446744073709551615) /\ (0 <= t.hi /\ t.hi <= 18446744073709551615) := by
 rcases h with h | h | h <;> omega
theorem Made8.get {nm : Nat} {s : St} (h : Made8 nm s) {r : Nat} (hr : r < 8) : Made nm (s.getD r Ty.nil) := by
 have : r < s.length := by rw [h.1]; exact hr
 rw [List.getD_eq_getElem?_getD, List.getElem?_eq_getElem this]
 exact h.2 _ (List.getElem_mem this)
theorem Made8.reg {nm : Nat} {s : St} (h : Made8 nm s) {r : Int} (hr : 0 <= r /\ r <= 7) : Made nm (regT s r) := h.get (by omega)
theorem Made8.set {nm : Nat} {s : St} (h : Made8 nm s) (r : Nat) {t : Ty} (ht : Made nm t) : Made8 nm (s.set r t) := by
 refine ⟨by rw [List.length_set]; exact h.1, fun u hu => ?_⟩
 rcases List.mem_or_eq_of_mem_set hu with h1 | h1
 ·exact h.2 u h1
 ·rw [h1]; exact ht
theorem made_zero (nm : Nat) : Made8 nm (List.replicate 8 Ty.nil) := ⟨rfl, fun t ht => by rw [List.eq_of_mem_replicate ht]; exact made_nil nm⟩
theorem u64_in (n : Int) : 0 <= u64 n /\ u64 n <= 18446744073709551615 := by unfold u64; omega
theorem made_src {nm : Nat} {i : In} {s : St} (h : Made8 nm s) (hb : i.b = 8 ∨ (0 <= i.b /\ i.b <= 7)) : Made nm (srcT i s) := by
 unfold srcT
 by_cases h8 : i.b = 8
 ·rw [if_pos h8]
  exact made_num (u64_in _).1 (Int.le_refl _) (u64_in _).2
 ·rw [if_neg h8]
  exact h.reg (by omega)
theorem span_in {op a A b B : Int} (hop : 1 <= op /\ op <= 10) (ha : 0 <= a) (hA : A <= 18446744073709551615) (hb : 0 <= b) (hB : B <= 18446744073709551615) (h1 : a <= A) (h2 : b <= B) :
  0 <= (spanL op a A b B).1 /\ (spanL op a A b B).2 <= 18446744073709551615 := by
 unfold spanL
 by_cases c : a = A /\ b = B
 ·rw [if_pos c]
  have := doL_in op (a := a) (b := b) ⟨ha, by omega⟩ ⟨hb, by omega⟩
  exact this
 rw [if_neg c]
 have hcase : op = 1 ∨ op = 2 ∨ op = 3 ∨ op = 4 ∨ op = 5 ∨ op = 6 ∨ op = 7 ∨ op = 8 ∨ op = 9 ∨ op = 10 := by omega
 have hf := form_in (n := max A B) (by omega) (by omega)
 have hp : ∀ k : Nat, (0 : Int) < 2 ^ k := fun k => Int.pow_pos (by decide)
 rcases hcase with rfl | rfl | rfl | rfl | rfl | rfl | rfl | rfl | rfl | rfl
 ·simp only [if_true]; split <;> simp <;> omega
 ·simp; split <;> simp <;> omega
 ·simp
  split
  ·simp
  ·have : 0 <= a * b := Int.mul_nonneg ha hb
   simp; omega
 ·simp
  split
  ·simp; omega
  ·have h3 : 0 <= a / B := Int.ediv_nonneg ha (by omega)
   have h4 : A / b <= A := Int.ediv_le_self _ (by omega)
   simp; omega
 ·simp
  split
  ·simp; omega
  ·split
   ·simp; omega
   ·simp; omega
 ·simp; omega
 ·simp; omega
 ·simp; omega
 ·simp
  split
  ·rename_i h3
   have h4 : 0 <= a * 2 ^ min b.toNat 64 := Int.mul_nonneg ha (Int.le_of_lt (hp _))
   simp
   exact ⟨h4, h3.2⟩
  ·simp
 ·simp
  have h3 : 0 <= a / 2 ^ min B.toNat 64 := Int.ediv_nonneg ha (Int.le_of_lt (hp _))
  have h4 : A / 2 ^ min b.toNat 64 <= A := Int.ediv_le_self _ (by omega)
  exact ⟨h3, by omega⟩
theorem refine_in {op a A b B : Int} {h : Bool} {p : Int × Int} (h1 : a <= A) (hr : refineL op a A b B h = some p) : a <= p.1 /\ p.1 <= p.2 /\ p.2 <= A := by
 unfold refineL at hr
 repeat' split at hr
 all_goals first | (cases hr; done) | (injection hr with hr; subst hr; simp only; omega)
theorem made_do {nm : Nat} {op : Int} {a b : Ty} (hop : 1 <= op /\ op <= 10) (ha : Made nm a) (hb : Made nm b) (ka : a.k = 1) (kb : b.k = 1) : Made nm (doT op a b) := by
 have h1 : 0 <= a.lo /\ a.lo <= a.hi /\ a.hi <= 18446744073709551615 := by rcases ha with h | h | h <;> omega
 have h2 : 0 <= b.lo /\ b.lo <= b.hi /\ b.hi <= 18446744073709551615 := by rcases hb with h | h | h <;> omega
 unfold doT doR
 rw [if_pos ⟨hop, h1.2.1, h2.2.1⟩]
 have h3 := span_in hop h1.1 h1.2.2 h2.1 h2.2.2 h1.2.1 h2.2.1
 have h4 := span_right hop h1.1 h1.2.2 h2.1 h2.2.2 h1.2.1 h2.2.1
 exact made_num h3.1 h4 h3.2
theorem right_src {i : In} (hr : i.right = true) (ho : i.op <= 12 ∨ (16 <= i.op /\ i.op <= 19)) : i.src = true /\ (i.b = 8 ∨ (0 <= i.b /\ i.b <= 7)) := by
 obtain ⟨op, d, a, b, imm⟩ := i
 unfold In.right at hr
 simp only at hr ho
 have h0 := right_op hr
 refine ⟨by unfold In.src sourceB; simp [hr, jumpB]; omega, ?_⟩
 have hs : sourcedB b imm = true := by
  by_cases c1 : op = 0 ∨ op = 11
  ·unfold rightB at hr; rw [if_pos c1] at hr; simp at hr; exact hr.2
  by_cases c2 : 1 <= op /\ op <= 10
  ·rw [rightB_three c2] at hr; simp at hr; exact hr.2
  by_cases c3 : op = 12
  ·subst c3; rw [rightB_12] at hr; simp at hr; exact hr.2
  ·rw [rightB_jump (by omega)] at hr; simp at hr; exact hr.2
 simp [sourcedB, regB] at hs
 simp only
 omega
theorem right_reads {i : In} (hr : i.right = true) (ho : (1 <= i.op /\ i.op <= 10) ∨ i.op = 12 ∨ (16 <= i.op /\ i.op <= 20) ∨ i.op = 22) : 0 <= i.a /\ i.a <= 7 := by
 obtain ⟨op, d, a, b, imm⟩ := i
 unfold In.right at hr
 simp only at hr ho ⊢
 rcases ho with c | c | c | c
 ·rw [rightB_three c] at hr; simp [regB] at hr; omega
 ·subst c; rw [rightB_12] at hr; simp [regB] at hr; omega
 ·by_cases h20 : op = 20
  ·subst h20; rw [rightB_20] at hr; simp [regB] at hr; omega
  ·rw [rightB_jump (by omega)] at hr; simp [regB] at hr; omega
 ·subst c; rw [rightB_22] at hr; simp [regB] at hr; omega
theorem right_dest {i : In} (hr : i.right = true) (ho : i.op <= 11 ∨ i.op = 13 ∨ i.op = 14) : 0 <= i.d /\ i.d <= 7 := by
 obtain ⟨op, d, a, b, imm⟩ := i
 unfold In.right at hr
 simp only at hr ho ⊢
 have h0 := right_op hr
 by_cases c1 : op = 0 ∨ op = 11
 ·unfold rightB at hr; rw [if_pos c1] at hr; simp [regB] at hr; omega
 by_cases c2 : 1 <= op /\ op <= 10
 ·rw [rightB_three c2] at hr; simp [regB] at hr; omega
 by_cases c3 : op = 13
 ·subst c3; rw [rightB_13] at hr; simp [regB] at hr; omega
 ·obtain rfl : op = 14 := by omega
  rw [rightB_14] at hr; simp [regB] at hr; omega
theorem right_map {i : In} (hr : i.right = true) (ho : i.op = 14) : 0 <= i.imm := by
 obtain ⟨op, d, a, b, imm⟩ := i
 unfold In.right at hr
 simp only at hr ho ⊢
 subst ho
 rw [rightB_14] at hr; simp at hr; omega
theorem made_res (nm : Nat) (h : Int) : Made nm (resL h).1 := by
 unfold resL
 repeat' split
 all_goals first | exact made_nil nm | exact .inr (.inl ⟨rfl, by decide, by decide, by decide, rfl⟩)
theorem made_leaves {nm : Nat} {i : In} {s head s' : St} {holds : Bool} (hr : i.right = true) (hs : Made8 nm s) (ha : asksJ nm i s head = 0) (hl : leavesJ i s holds = some s') : Made8 nm s' := by
 have h0 : 0 <= i.op /\ i.op <= 22 := right_op hr
 unfold leavesJ at hl
 unfold asksJ at ha
 by_cases c0 : i.op = 0
 ·rw [if_pos c0] at hl
  injection hl with hl
  subst hl
  exact hs.set _ (made_src hs (right_src hr (.inl (by omega))).2)
 rw [if_neg c0] at hl ha
 by_cases c1 : 1 <= i.op /\ i.op <= 10
 ·rw [if_pos (by simp [threeB]; omega)] at hl
  injection hl with hl
  subst hl
  obtain ⟨s1, s2⟩ := right_src hr (.inl (by omega))
  rw [if_neg (by omega), if_neg (by omega), if_neg (by omega), if_neg (by omega), if_neg (by omega), if_neg (by omega)] at ha
  have hk : (regT s i.a).k = 1 /\ (srcA i s).k = 1 := by
   by_cases hk : (regT s i.a).k ≠ 1 ∨ (srcA i s).k ≠ 1
   ·rw [if_pos hk] at ha; cases ha
   ·omega
  have e : srcA i s = srcT i s := by unfold srcA; rw [if_pos s1]
  rw [e] at hk
  exact hs.set _ (made_do c1 (hs.reg (right_reads hr (.inl c1))) (made_src hs s2) hk.1 hk.2)
 rw [if_neg (by simp [threeB]; omega)] at hl
 by_cases c2 : i.op = 11 ∨ i.op = 13
 ·rw [if_pos c2] at hl
  injection hl with hl
  subst hl
  exact hs.set _ (made_full nm)
 rw [if_neg c2] at hl
 by_cases c3 : i.op = 14
 ·rw [if_pos c3] at hl
  injection hl with hl
  subst hl
  rw [if_neg (by omega), if_pos c3] at ha
  have h1 : i.imm < nm := by
   by_cases hq : (nm : Int) <= i.imm
   ·rw [if_pos hq] at ha; cases ha
   ·omega
  exact hs.set _ (.inr (.inr ⟨rfl, rfl, rfl, right_map hr c3, h1⟩))
 rw [if_neg c3] at hl
 by_cases c4 : i.op = 21
 ·rw [if_pos c4] at hl
  injection hl with hl
  subst hl
  exact hs.set _ (made_res nm _)
 rw [if_neg c4] at hl
 by_cases c5 : 16 <= i.op /\ i.op <= 19
 ·rw [if_pos (by simp [jumpB]; omega)] at hl
  obtain ⟨s1, s2⟩ := right_src hr (.inr c5)
  have hA := hs.reg (right_reads hr (.inr (.inr (.inl (by omega)))))
  cases hq : refineR i.op (regT s i.a).lo (regT s i.a).hi (srcT i s).lo (srcT i s).hi holds with
  | none => rw [hq] at hl; cases hl
  | some p =>
   rw [hq] at hl
   injection hl with hl
   subst hl
   unfold refineR at hq
   split at hq
   ·rename_i h1
    have h2 := refine_in h1.2.1 hq
    have h3 := hA.ends
    exact hs.set _ (made_num (by omega) (by omega) (by omega))
   ·cases hq
 ·rw [if_neg (by simp [jumpB]; omega)] at hl
  injection hl with hl
  subst hl
  exact hs
def join2 (a b : Ty) : Ty := if eqT a b = true then a else if a.k = 1 /\ b.k = 1 then num2 (joinL [(a.lo, a.hi), (b.lo, b.hi)]).1 (joinL [(a.lo, a.hi), (b.lo, b.hi)]).2 else Ty.nil
theorem ty_eq {a b : Ty} : a = b ↔ a.k = b.k /\ a.lo = b.lo /\ a.hi = b.hi /\ a.m = b.m := by
 obtain ⟨a0, a1, a2, a3⟩ := a
 obtain ⟨b0, b1, b2, b3⟩ := b
 simp
theorem joinL_two {a A b B : Int} (h1 : a <= A) (h2 : b <= B) : joinL [(a, A), (b, B)] = (min a b, max A B) := by
 have : joinB [(a, A), (b, B)] = true := by simp [joinB, okS, h1, h2]
 unfold joinL
 rw [if_pos this]
 rfl
theorem join2_made {nm : Nat} {a b : Ty} (ha : Made nm a) (hb : Made nm b) :
  join2 a b = if a.k = 1 /\ b.k = 1 then num2 (min a.lo b.lo) (max a.hi b.hi) else if a.k = 2 /\ b.k = 2 /\ a.m = b.m then a else Ty.nil := by
 unfold join2
 by_cases he : eqT a b = true
 ·rw [if_pos he]
  have e := (eqT_iff a b).1 he
  subst e
  rcases ha with h | h | h
  ·rw [if_neg (by omega), if_neg (by omega), ty_eq]; exact h
  ·rw [if_pos (by omega), Int.min_self, Int.max_self, ty_eq]; exact ⟨h.1, rfl, rfl, h.2.2.2.2⟩
  ·rw [if_neg (by omega), if_pos (by omega)]
 ·rw [if_neg he]
  by_cases h1 : a.k = 1 /\ b.k = 1
  ·rw [if_pos h1, if_pos h1, joinL_two (by rcases ha with h | h | h <;> omega) (by rcases hb with h | h | h <;> omega)]
  ·rw [if_neg h1, if_neg h1]
   by_cases h2 : a.k = 2 /\ b.k = 2 /\ a.m = b.m
   ·exfalso
    apply he
    rw [eqT_iff, ty_eq]
    rcases ha with h | h | h <;> rcases hb with h' | h' | h' <;> omega
   ·rw [if_neg h2]
theorem made_join2 {nm : Nat} {a b : Ty} (ha : Made nm a) (hb : Made nm b) : Made nm (join2 a b) := by
 rw [join2_made ha hb]
 split
 ·have h1 : 0 <= a.lo /\ a.lo <= a.hi /\ a.hi <= 18446744073709551615 := by rcases ha with h | h | h <;> omega
  have h2 : 0 <= b.lo /\ b.lo <= b.hi /\ b.hi <= 18446744073709551615 := by rcases hb with h | h | h <;> omega
  exact made_num (by omega) (by omega) (by omega)
 ·split
  ·exact ha
  ·exact made_nil nm
end Go.Proofs.YtlkdniglaldilaaGreat
