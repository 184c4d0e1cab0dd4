
/-
  The judge, plain: what fits, what is joined, what an instruction asks for and leaves, what comes to a place and is known there. No Go text in sight.
-/
import Derived.Test.YtoahbnkfkjiohaaML13
import Derived.Test.YtoahbnkfkjiohaaML23
import Derived.Test.YtoahbnkfkjiohaaML9
namespace Go.Proofs.Ytoahbnkfkjiohaa
set_option linter.unusedVariables false

/-- What is known at a place: eight types, or none. -/
abbrev St : Type := List Ty
def num2 (lo hi : Int) : Ty := ⟨1, lo, hi, 0⟩
def fullT : Ty := ⟨1, 0, 18446744073709551615, 0⟩
/-- Does a fit b? -/
def fitsJ (a b : Ty) : Bool := if b.k = 0 then true else if a.k ≠ b.k then false else if b.k = 1 then withinB a.lo a.hi b.lo b.hi else decide (a.m = b.m)
/-- Is it like the first? -/
def likeB (x t : Ty) : Bool := decide (t.k = x.k) && !(decide (t.k = 2) && decide (t.m ≠ x.m))
def spansT (l : List Ty) : List (Int × Int) := l.map fun t => (t.lo, t.hi)
/-- Of all that comes. -/
def joinT (l : List Ty) : Ty :=
  if l.all (likeB (l.getD 0 Ty.nil)) = true then (if (l.getD 0 Ty.nil).k = 1 then num2 (joinL (spansT l)).1 (joinL (spansT l)).2 else l.getD 0 Ty.nil) else Ty.nil
def u64 (n : Int) : Int := n % 18446744073709551616
def regT (s : St) (r : Int) : Ty := s.getD r.toNat Ty.nil
/-- The source's type. -/
def srcT (i : In) (s : St) : Ty := if i.b = 8 then num2 (u64 i.imm) (u64 i.imm) else regT s i.b
def In.src (i : In) : Bool := sourceB i.op i.d i.a i.b i.imm
def In.wr (i : In) : Int × Bool := writesL i.op i.d i.a i.b i.imm
def srcA (i : In) (s : St) : Ty := if i.src = true then srcT i s else Ty.nil
/-- Do all eight fit? -/
def fitsAll (s head : St) : Bool := (List.range 8).all fun r => fitsJ (s.getD r Ty.nil) (head.getD r Ty.nil)
/-- The first error of the instruction. -/
def asksJ (nm : Nat) (i : In) (s head : St) : Int :=
  if i.op = 0 then (if (srcA i s).k = 0 then 33 else 0)
  else if i.op = 13 ∨ i.op = 15 then 0
  else if i.op = 14 then (if (nm : Int) ≤ i.imm then 35 else 0)
  else if i.op = 21 then hcheckL i.imm ((s.drop 1).take (argsL i.imm).length)
  else if i.op = 11 then (if (srcA i s).k ≠ 1 then 33 else if 15 < (srcA i s).hi then 35 else 0)
  else if i.op = 20 then (if (regT s i.a).k ≠ 1 then 33 else if fitsAll s head = true then 0 else 33)
  else if i.op = 22 then (if (regT s i.a).k ≠ 1 then 33 else 0)
  else if (regT s i.a).k ≠ 1 ∨ (srcA i s).k ≠ 1 then 33
  else if i.op = 12 ∧ 15 < (srcA i s).hi then 35 else 0
def doT (op : Int) (a b : Ty) : Ty := num2 ((doR op a.lo a.hi b.lo b.hi).getD (0, 0)).1 ((doR op a.lo a.hi b.lo b.hi).getD (0, 0)).2
/-- What the instruction leaves. -/
def leavesJ (i : In) (s : St) (holds : Bool) : Option St :=
  if i.op = 0 then some (s.set i.d.toNat (srcT i s))
  else if threeB i.op = true then some (s.set i.d.toNat (doT i.op (regT s i.a) (srcT i s)))
  else if i.op = 11 ∨ i.op = 13 then some (s.set i.d.toNat fullT)
  else if i.op = 14 then some (s.set i.d.toNat ⟨2, 0, 0, i.imm⟩)
  else if i.op = 21 then some (s.set 0 (resL i.imm).1)
  else if jumpB i.op = true then
    match refineR i.op (regT s i.a).lo (regT s i.a).hi (srcT i s).lo (srcT i s).hi holds with
    | none => none
    | some p => some (s.set i.a.toNat (num2 p.1 p.2))
  else some s
/-- What comes to p from q. -/
def stepC (xs : List In) (known : List St) (p q : Nat) : List St :=
  if (known.getD q []).length = 0 then [] else
    (if ((nth xs q).leads && decide ((q : Int) + (nth xs q).far = p)) = true then (leavesJ (nth xs q) (known.getD q []) true).toList else []) ++
    (if ((nth xs q).on && decide (q + 1 = p)) = true then (leavesJ (nth xs q) (known.getD q []) false).toList else [])
/-- What comes to p from the beginning and from the places below j. -/
def comesU (xs : List In) (known : List St) (p j : Nat) : List St := (if p = 0 then [List.replicate 8 Ty.nil] else []) ++ (List.range j).flatMap (stepC xs known p)
/-- A register that a loop's body writes. -/
def wideQ (xs : List In) (s : St) (q : Nat) : St :=
  if (nth xs q).wr.2 = true then
    (if (regT s (nth xs q).wr.1).k = 1 then s.set (nth xs q).wr.1.toNat fullT else if (regT s (nth xs q).wr.1).k = 2 then s.set (nth xs q).wr.1.toNat Ty.nil else s)
  else s
/-- The places from p on, n of them. -/
def wideU (xs : List In) (s : St) (p : Nat) : Nat → St
  | 0 => s
  | n + 1 => wideQ xs (wideU xs s p n) (p + n)
def headB (xs : List In) (p l : Nat) : Bool := decide ((nth xs l).op = 20) && decide ((l : Int) - (nth xs l).d = p)
/-- The loops below l whose head p is. -/
def widen (xs : List In) (p : Nat) (s : St) : Nat → St
  | 0 => s
  | l + 1 => if headB xs p l = true then wideU xs (widen xs p s l) p (l + 1 - p) else widen xs p s l
def joinS (l : List St) (n : Nat) : St := (List.range n).map fun r => joinT (l.map fun s => s.getD r Ty.nil)
/-- What is known at p. -/
def atJ (xs : List In) (known : List St) (p : Nat) : St :=
  if (comesU xs known p p).length = 0 then [] else widen xs p (joinS (comesU xs known p p) 8) xs.length
/-- The loop's head, as it is known. -/
def headJ (xs : List In) (known : List St) (s : St) (p : Nat) : St := if (nth xs p).op = 20 then (known ++ [s]).getD ((p : Int) - (nth xs p).d).toNat [] else s
def errJ (xs : List In) (nm : Nat) (known : List St) (s : St) (p : Nat) : Int := if s.length = 0 then 0 else asksJ nm (nth xs p) s (headJ xs known s p)
/-- The places from the first on: what is known, or the place and the error. -/
def runU (xs : List In) (nm : Nat) : Nat → Except (Int × Int) (List St)
  | 0 => .ok []
  | j + 1 => match runU xs nm j with
    | .error e => .error e
    | .ok known => if errJ xs nm known (atJ xs known j) j = 0 then .ok (known ++ [atJ xs known j]) else .error (j, errJ xs nm known (atJ xs known j) j)
def mapsJ (ms : List Int) : Bool := decide (ms.length ≤ 4) && ((List.range ms.length).all fun i => decide (0 ≤ ms.getD i 0) && decide (ms.getD i 0 ≤ 3) && ((List.range i).all fun k => decide (ms.getD k 0 ≠ ms.getD i 0)))
def allJ (ms : List Int) (xs : List In) : List St × Int × Int :=
  if mapsJ ms = false then ([], 0, 2) else if (checkL xs).2 ≠ 0 then ([], (checkL xs).1, (checkL xs).2) else
  match runU xs ms.length xs.length with
  | .error e => ([], e.1, e.2)
  | .ok known => (known, 0, 0)

/-! What is well made. -/
def Made (nm : Nat) (t : Ty) : Prop := (t.k = 0 ∧ t.lo = 0 ∧ t.hi = 0 ∧ t.m = 0) ∨ (t.k = 1 ∧ 0 ≤ t.lo ∧ t.lo ≤ t.hi ∧ t.hi ≤ 18446744073709551615 ∧ t.m = 0) ∨ (t.k = 2 ∧ t.lo = 0 ∧ t.hi = 0 ∧ 0 ≤ t.m ∧ t.m < nm)
def Made8 (nm : Nat) (s : St) : Prop := s.length = 8 ∧ ∀ t ∈ s, Made nm t
theorem made_nil (nm : Nat) : Made nm Ty.nil := .inl ⟨rfl, rfl, rfl, rfl⟩
theorem made_full (nm : Nat) : Made nm fullT := .inr (.inl ⟨rfl, by decide, by decide, by decide, rfl⟩)
theorem made_num {nm : Nat} {lo hi : Int} (h0 : 0 ≤ lo) (h1 : lo ≤ hi) (h2 : hi ≤ 18446744073709551615) : Made nm (num2 lo hi) := .inr (.inl ⟨rfl, h0, h1, h2, rfl⟩)
theorem Made.ends {nm : Nat} {t : Ty} (h : Made nm t) : (0 ≤ t.lo ∧ t.lo ≤ 18446744073709551615) ∧ (0 ≤ t.hi ∧ t.hi ≤ 18446744073709551615) := by
  rcases h with h | h | h <;> omega
theorem Made8.get {nm : Nat} {s : St} (h : Made8 nm s) {r : Nat} (hr : r < 8) : Made nm (s.getD r Ty.nil) := by
  have : r < s.length := by rw [h.1]; exact hr
  rw [List.getD_eq_getElem?_getD, List.getElem?_eq_getElem this]
  exact h.2 _ (List.getElem_mem this)
theorem Made8.reg {nm : Nat} {s : St} (h : Made8 nm s) {r : Int} (hr : 0 ≤ r ∧ r ≤ 7) : Made nm (regT s r) := h.get (by omega)
theorem Made8.set {nm : Nat} {s : St} (h : Made8 nm s) (r : Nat) {t : Ty} (ht : Made nm t) : Made8 nm (s.set r t) := by
  refine ⟨by rw [List.length_set]; exact h.1, fun u hu => ?_⟩
  rcases List.mem_or_eq_of_mem_set hu with h1 | h1
  · exact h.2 u h1
  · rw [h1]; exact ht
theorem made_zero (nm : Nat) : Made8 nm (List.replicate 8 Ty.nil) := ⟨rfl, fun t ht => by rw [List.eq_of_mem_replicate ht]; exact made_nil nm⟩
theorem u64_in (n : Int) : 0 ≤ u64 n ∧ u64 n ≤ 18446744073709551615 := by unfold u64; omega
theorem made_src {nm : Nat} {i : In} {s : St} (h : Made8 nm s) (hb : i.b = 8 ∨ (0 ≤ i.b ∧ i.b ≤ 7)) : Made nm (srcT i s) := by
  unfold srcT
  by_cases h8 : i.b = 8
  · rw [if_pos h8]
    exact made_num (u64_in _).1 (Int.le_refl _) (u64_in _).2
  · rw [if_neg h8]
    exact h.reg (by omega)
theorem made_wideQ {nm : Nat} {xs : List In} {s : St} (h : Made8 nm s) (q : Nat) : Made8 nm (wideQ xs s q) := by
  unfold wideQ
  split
  · split
    · exact h.set _ (made_full nm)
    · split
      · exact h.set _ (made_nil nm)
      · exact h
  · exact h
theorem made_wideU {nm : Nat} {xs : List In} {s : St} (h : Made8 nm s) (p : Nat) : ∀ n, Made8 nm (wideU xs s p n)
  | 0 => h
  | n + 1 => made_wideQ (made_wideU h p n) _
theorem made_widen {nm : Nat} {xs : List In} {s : St} (h : Made8 nm s) (p : Nat) : ∀ l, Made8 nm (widen xs p s l)
  | 0 => h
  | l + 1 => by
    unfold widen
    split
    · exact made_wideU (made_widen h p l) p _
    · exact made_widen h p l
theorem maxF_ge : ∀ {l : List Int} {x : Int}, x ∈ l → x ≤ maxF l := by
  intro l x hx
  cases l with
  | nil => cases hx
  | cons y r =>
    have : ∀ (r : List Int) (y : Int), y ≤ r.foldl max y ∧ ∀ z ∈ r, z ≤ r.foldl max y := by
      intro r
      induction r with
      | nil => intro y; exact ⟨Int.le_refl _, fun z hz => by cases hz⟩
      | cons u r ih =>
        intro y
        have h := ih (max y u)
        rw [List.foldl_cons]
        refine ⟨by have := h.1; omega, fun z hz => ?_⟩
        rcases List.mem_cons.1 hz with h1 | h1
        · have := h.1; omega
        · exact h.2 z h1
    have h := this r y
    rcases List.mem_cons.1 hx with h1 | h1
    · rw [h1]; exact h.1
    · exact h.2 x h1
end Go.Proofs.Ytoahbnkfkjiohaa
