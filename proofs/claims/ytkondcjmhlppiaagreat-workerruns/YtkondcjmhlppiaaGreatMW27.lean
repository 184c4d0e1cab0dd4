/-
  J9Plain
  E11Mc
  J9Made
  JJoin
-/
import Derived.Test.YtkondcjmhlppiaaGreatMW15
import Derived.Test.YtkondcjmhlppiaaGreatMW22
import Derived.Test.YtkondcjmhlppiaaGreatMW12
import Derived.Test.YtkondcjmhlppiaaGreatMW11
namespace Go.Proofs.YtkondcjmhlppiaaGreat
set_option linter.unusedVariables false
set_option linter.unusedSimpArgs false
abbrev St : Type := List Ty
def num2 (lo hi : Int) : Ty := ⟨1, lo, hi, 0⟩
def fullT : Ty := ⟨1, 0, 18446744073709551615, 0⟩
def fitsJ (a b : Ty) : Bool := if b.k = 0 then true else if a.k ≠ b.k then false else if b.k = 1 then withinB a.lo a.hi b.lo b.hi else decide (a.m = b.m)
def likeB (x t : Ty) : Bool := decide (t.k = x.k) && !(decide (t.k = 2) && decide (t.m ≠ x.m))
def spansT (l : List Ty) : List (Int × Int) := l.map fun t => (t.lo, t.hi)
def joinT (l : List Ty) : Ty :=
 if l.all (likeB (l.getD 0 Ty.nil)) = true then (if (l.getD 0 Ty.nil).k = 1 then num2 (joinL (spansT l)).1 (joinL (spansT l)).2 else l.getD 0 Ty.nil) else Ty.nil
def u64 (n : Int) : Int := n % 18446744073709551616
def regT (s : St) (r : Int) : Ty := s.getD r.toNat Ty.nil
def srcT (i : In) (s : St) : Ty := if i.b = 8 then num2 (u64 i.imm) (u64 i.imm) else regT s i.b
def In.src (i : In) : Bool := sourceB i.op i.d i.a i.b i.imm
def In.wr (i : In) : Int × Bool := writesL i.op i.d i.a i.b i.imm
def srcA (i : In) (s : St) : Ty := if i.src = true then srcT i s else Ty.nil
def fitsAll (s head : St) : Bool := (List.range 8).all fun r => fitsJ (s.getD r Ty.nil) (head.getD r Ty.nil)
def asksJ (nm : Nat) (i : In) (s head : St) : Int :=
 if i.op = 0 then (if (srcA i s).k = 0 then 33 else 0)
 else if i.op = 13 ∨ i.op = 15 then 0
 else if i.op = 14 then (if (nm : Int) <= i.imm then 35 else 0)
 else if i.op = 21 then hcheckL i.imm ((s.drop 1).take (argsL i.imm).length)
 else if i.op = 11 then (if (srcA i s).k ≠ 1 then 33 else if 15 < (srcA i s).hi then 35 else 0)
 else if i.op = 20 then (if (regT s i.a).k ≠ 1 then 33 else if fitsAll s head = true then 0 else 33)
 else if i.op = 22 then (if (regT s i.a).k ≠ 1 then 33 else 0)
 else if (regT s i.a).k ≠ 1 ∨ (srcA i s).k ≠ 1 then 33
 else if i.op = 12 /\ 15 < (srcA i s).hi then 35 else 0
def doT (op : Int) (a b : Ty) : Ty := num2 ((doR op a.lo a.hi b.lo b.hi).getD (0, 0)).1 ((doR op a.lo a.hi b.lo b.hi).getD (0, 0)).2
def leavesJ (i : In) (s : St) (holds : Bool) : Option St :=
 if i.op = 0 then some (s.set i.d.toNat (srcT i s))
 else if threeB i.op = true then some (s.set i.d.toNat (doT i.op (regT s i.a) (srcT i s)))
 else if i.op = 11 ∨ i.op = 13 then some (s.set i.d.toNat fullT)
 else if i.op = 14 then some (s.set i.d.toNat ⟨2, 0, 0, i.imm⟩)
 else if i.op = 21 then some (s.set 0 (resL i.imm).1)
 else if jumpB i.op = true then
  match refineR i.op (regT s i.a).lo (regT s i.a).hi (srcT i s).lo (srcT i s).hi holds with
  | none => none
  | some p => some (s.set i.a.toNat (num2 p.1 p.2))
 else some s
def stepC (xs : List In) (known : List St) (p q : Nat) : List St :=
 if (known.getD q []).length = 0 then [] else
  (if ((nth xs q).leads && decide ((q : Int) + (nth xs q).far = p)) = true then (leavesJ (nth xs q) (known.getD q []) true).toList else []) ++
  (if ((nth xs q).on && decide (q + 1 = p)) = true then (leavesJ (nth xs q) (known.getD q []) false).toList else [])
def comesU (xs : List In) (known : List St) (p j : Nat) : List St := (if p = 0 then [List.replicate 8 Ty.nil] else []) ++ (List.range j).flatMap (stepC xs known p)
def wideQ (xs : List In) (s : St) (q : Nat) : St :=
 if (nth xs q).wr.2 = true then
  (if (regT s (nth xs q).wr.1).k = 1 then s.set (nth xs q).wr.1.toNat fullT else if (regT s (nth xs q).wr.1).k = 2 then s.set (nth xs q).wr.1.toNat Ty.nil else s)
 else s
def wideU (xs : List In) (s : St) (p : Nat) : Nat -> St
 | 0 => s
 | n + 1 => wideQ xs (wideU xs s p n) (p + n)
def headB (xs : List In) (p l : Nat) : Bool := decide ((nth xs l).op = 20) && decide ((l : Int) - (nth xs l).d = p)
def widen (xs : List In) (p : Nat) (s : St) : Nat -> St
 | 0 => s
 | l + 1 => if headB xs p l = true then wideU xs (widen xs p s l) p (l + 1 - p) else widen xs p s l
def joinS (l : List St) (n : Nat) : St := (List.range n).map fun r => joinT (l.map fun s => s.getD r Ty.nil)
def atJ (xs : List In) (known : List St) (p : Nat) : St :=
 if (comesU xs known p p).length = 0 then [] else widen xs p (joinS (comesU xs known p p) 8) xs.length
def headJ (xs : List In) (known : List St) (s : St) (p : Nat) : St := if (nth xs p).op = 20 then (known ++ [s]).getD ((p : Int) - (nth xs p).d).toNat [] else s
def errJ (xs : List In) (nm : Nat) (known : List St) (s : St) (p : Nat) : Int := if s.length = 0 then 0 else asksJ nm (nth xs p) s (headJ xs known s p)
def runU (xs : List In) (nm : Nat) : Nat -> Except (Int × Int) (List St)
 | 0 => .ok []
 | j + 1 => match runU xs nm j with
  | .error e => .error e
  | .ok known => if errJ xs nm known (atJ xs known j) j = 0 then .ok (known ++ [atJ xs known j]) else .error (j, errJ xs nm known (atJ xs known j) j)
def mapsJ (ms : List Int) : Bool := decide (ms.length <= 4) && ((List.range ms.length).all fun i => decide (0 <= ms.getD i 0) && decide (ms.getD i 0 <= 3) && ((List.range i).all fun k => decide (ms.getD k 0 ≠ ms.getD i 0)))
def Made (nm : Nat) (t : Ty) : Prop := (t.k = 0 /\ t.lo = 0 /\ t.hi = 0 /\ t.m = 0) ∨ (t.k = 1 /\ 0 <= t.lo /\ t.lo <= t.hi /\ t.hi <= 18446744073709551615 /\ t.m = 0) ∨ (t.k = 2 /\ t.lo = 0 /\ t.hi = 0 /\ 0 <= t.m /\ t.m < nm)
def Made8 (nm : Nat) (s : St) : Prop := s.length = 8 /\ ∀ t ∈ s, Made nm t
theorem made_nil (nm : Nat) : Made nm Ty.nil := .inl ⟨rfl, rfl, rfl, rfl⟩
theorem made_full (nm : Nat) : Made nm fullT := .inr (.inl ⟨rfl, by decide, by decide, by decide, rfl⟩)
theorem made_num {nm : Nat} {lo hi : Int} (h0 : 0 <= lo) (h1 : lo <= hi) (h2 : hi <= 18446744073709551615) : Made nm (num2 lo hi) := .inr (.inl ⟨rfl, h0, h1, h2, rfl⟩)
theorem Made.ends {nm : Nat} {t : Ty} (h : Made nm t) : (0 <= t.lo /\ t.lo <= 18446744073709551615) /\ (0 <= t.hi /\ t.hi <= 18446744073709551615) := by
 rcases h with h | h | h <;> omega
theorem Made8.get {nm : Nat} {s : St} (h : Made8 nm s) {r : Nat} (hr : r < 8) : Made nm (s.getD r Ty.nil) := by
 have : r < s.length := by rw [h.1]; exact hr
 rw [List.getD_eq_getElem?_getD, List.getElem?_eq_getElem this]
 exact h.2 _ (List.getElem_mem this)
theorem Made8.reg {nm : Nat} {s : St} (h : Made8 nm s) {r : Int} (hr : 0 <= r /\ r <= 7) : Made nm (regT s r) := h.get (by omega)
theorem Made8.set {nm : Nat} {s : St} (h : Made8 nm s) (r : Nat) {t : Ty} (ht : Made nm t) : Made8 nm (s.set r t) := by
 refine ⟨by rw [List.length_set]; exact h.1, fun u hu => ?_⟩
 rcases List.mem_or_eq_of_mem_set hu with h1 | h1
 ·exact h.2 u h1
 ·rw [h1]; exact ht
theorem made_zero (nm : Nat) : Made8 nm (List.replicate 8 Ty.nil) := ⟨rfl, fun t ht => by rw [List.eq_of_mem_replicate ht]; exact made_nil nm⟩
theorem u64_in (n : Int) : 0 <= u64 n /\ u64 n <= 18446744073709551615 := by unfold u64; omega
theorem made_src {nm : Nat} {i : In} {s : St} (h : Made8 nm s) (hb : i.b = 8 ∨ (0 <= i.b /\ i.b <= 7)) : Made nm (srcT i s) := by
 unfold srcT
 by_cases h8 : i.b = 8
 ·rw [if_pos h8]
  exact made_num (u64_in _).1 (Int.le_refl _) (u64_in _).2
 ·rw [if_neg h8]
  exact h.reg (by omega)
theorem made_wideQ {nm : Nat} {xs : List In} {s : St} (h : Made8 nm s) (q : Nat) : Made8 nm (wideQ xs s q) := by
 unfold wideQ
 split
 ·split
  ·exact h.set _ (made_full nm)
  ·split
   ·exact h.set _ (made_nil nm)
   ·exact h
 ·exact h
theorem made_wideU {nm : Nat} {xs : List In} {s : St} (h : Made8 nm s) (p : Nat) : ∀ n, Made8 nm (wideU xs s p n)
 | 0 => h
 | n + 1 => made_wideQ (made_wideU h p n) _
theorem made_widen {nm : Nat} {xs : List In} {s : St} (h : Made8 nm s) (p : Nat) : ∀ l, Made8 nm (widen xs p s l)
 | 0 => h
 | l + 1 => by
  unfold widen
  split
  ·exact made_wideU (made_widen h p l) p _
  ·exact made_widen h p l
theorem maxF_ge : ∀ {l : List Int} {x : Int}, x ∈ l -> x <= maxF l := by
 intro l x hx
 cases l with
 | nil => cases hx
 | cons y r =>
  have : ∀ (r : List Int) (y : Int), y <= r.foldl max y /\ ∀ z ∈ r, z <= r.foldl max y := by
   intro r
   induction r with
   | nil => intro y; exact ⟨Int.le_refl _, fun z hz => by cases hz⟩
   | cons u r ih =>
    intro y
    have h := ih (max y u)
    rw [List.foldl_cons]
    refine ⟨by have := h.1; omega, fun z hz => ?_⟩
    rcases List.mem_cons.1 hz with h1 | h1
    ·have := h.1; omega
    ·exact h.2 z h1
  have h := this r y
  rcases List.mem_cons.1 hx with h1 | h1
  ·rw [h1]; exact h.1
  ·exact h.2 x h1
def WR (R : List Int) : Prop := R.length = 8 /\ ∀ r, r < 8 -> 0 <= R.getD r 0 /\ R.getD r 0 <= 18446744073709551615
theorem WR.set {R : List Int} (h : WR R) (k : Nat) {v : Int} (hv : 0 <= v /\ v <= 18446744073709551615) : WR (R.set k v) := by
 refine ⟨by rw [List.length_set]; exact h.1, fun r hr => ?_⟩
 have : (R.set k v).getD r 0 = if k = r /\ k < R.length then v else R.getD r 0 := by
  simp only [List.getD, List.getElem?_set]
  by_cases e : k = r
  ·subst e
   by_cases hl : k < R.length
   ·simp [hl]
   ·simp [hl, List.getElem?_eq_none (show R.length <= k by omega)]
  ·simp [e]
 rw [this]
 split
 ·exact hv
 ·exact h.2 r hr
def srcV (i : In) (R : List Int) : Int := if i.b = 8 then u64 i.imm else R.getD i.b.toNat 0
theorem srcV_in {i : In} {R : List Int} (hR : WR R) (hb : i.b = 8 ∨ (0 <= i.b /\ i.b <= 7)) : 0 <= srcV i R /\ srcV i R <= 18446744073709551615 := by
 unfold srcV
 split
 ·exact u64_in _
 ·exact hR.2 _ (by omega)
structure Mc where
 regs : List Int
 turn : Int -> Int
 pc : Nat
 steps : Nat
 mode : Nat
 ws : List Int
 cs : List Int
structure Ac where
 k : Int
 pc : Int
 im : Int
 io : Int
 ik : Int
 iv : Int
 v : Int
def plainA (k : Int) (p : Nat) (v : Int) : Ac := ⟨k, p, 0, 0, 0, 0, v⟩
def regV (R : List Int) (r : Int) : Int := R.getD r.toNat 0
def upW (a b : Int) : Int := (a + b) % 18446744073709551616
def goesE (i : In) (M : Mc) : Bool := if i.op = 15 then true else if i.op = 20 then decide (0 < regV M.regs i.a /\ M.turn M.pc < i.imm) else holdL i.op (regV M.regs i.a) (srcV i M.regs)
def turnE (i : In) (M : Mc) : Int -> Int := if i.op = 20 then (fun t => if t = M.pc then (if goesE i M = true then M.turn M.pc + 1 else 0) else M.turn t) else M.turn
def laysE (ev : Int × Int) (i : In) (M : Mc) : List Int × List Int :=
 if i.op = 0 then (M.regs.set i.d.toNat (srcV i M.regs), M.ws)
 else if 1 <= i.op /\ i.op <= 10 then (M.regs.set i.d.toNat (doL i.op (regV M.regs i.a) (srcV i M.regs)), M.ws)
 else if i.op = 11 then (M.regs.set i.d.toNat (M.ws.getD (srcV i M.regs).toNat 0), M.ws)
 else if i.op = 12 then (M.regs, M.ws.set (srcV i M.regs).toNat (regV M.regs i.a))
 else if i.op = 13 then (M.regs.set i.d.toNat (if i.imm = 0 then ev.1 else ev.2), M.ws)
 else if i.op = 14 then (M.regs.set i.d.toNat i.imm, M.ws)
 else (M.regs, M.ws)
def callE (ms : List Int) (i : In) (M : Mc) : Ac × Mc :=
 if i.imm <= 4 then (⟨2, M.pc, ms.getD (regV M.regs 1).toNat 0, i.imm, regV M.regs 2, if i.imm = 2 ∨ i.imm = 4 then regV M.regs 3 else 0, 0⟩, { M with steps := M.steps + 1, mode := 1 })
 else if i.imm = 5 then (plainA 1 M.pc (upW (M.cs.getD (regV M.regs 1).toNat 0) 1), { M with regs := M.regs.set 0 (upW (M.cs.getD (regV M.regs 1).toNat 0) 1), cs := M.cs.set (regV M.regs 1).toNat (upW (M.cs.getD (regV M.regs 1).toNat 0) 1), steps := M.steps + 1, pc := M.pc + 1 })
 else (plainA 3 M.pc (regV M.regs 1), { M with regs := M.regs.set 0 0, steps := M.steps + 1, pc := M.pc + 1 })
def stepE (ms : List Int) (xs : List In) (ev : Int × Int) (M : Mc) : Ac × Mc :=
 if M.mode = 1 then (plainA 5 M.pc 0, M)
 else if M.mode = 2 then (plainA 6 M.pc (regV M.regs (nth xs M.pc).a), M)
 else if (nth xs M.pc).op = 21 then callE ms (nth xs M.pc) M
 else if (nth xs M.pc).op = 22 then (plainA 4 M.pc (regV M.regs (nth xs M.pc).a), { M with steps := M.steps + 1, mode := 2 })
 else if ((nth xs M.pc).leads && goesE (nth xs M.pc) M) = true then (plainA 1 M.pc 0, { M with turn := turnE (nth xs M.pc) M, steps := M.steps + 1, pc := ((M.pc : Int) + (nth xs M.pc).far).toNat })
 else (plainA 1 M.pc 0, { M with regs := (laysE ev (nth xs M.pc) M).1, ws := (laysE ev (nth xs M.pc) M).2, turn := turnE (nth xs M.pc) M, steps := M.steps + 1, pc := M.pc + 1 })
def valE (h E : Int) (f : Bool) (v : Int) : Int := if h = 0 ∨ h = 4 then v else if ((h = 1 ∨ h = 3) /\ f = true) ∨ (h = 2 /\ E = 0) then 1 else 0
def answerE (xs : List In) (M : Mc) (E : Int) (f : Bool) (v : Int) : Mc := { M with regs := M.regs.set 0 (valE (nth xs M.pc).imm E f v), mode := 0, pc := M.pc + 1 }
def startE : Mc := ⟨List.replicate 8 0, fun _ => 0, 0, 0, 0, List.replicate 16 0, List.replicate 16 0⟩
def W16 (l : List Int) : Prop := l.length = 16 /\ ∀ r, r < 16 -> 0 <= l.getD r 0 /\ l.getD r 0 <= 18446744073709551615
theorem W16.set {l : List Int} (h : W16 l) (k : Nat) {v : Int} (hv : 0 <= v /\ v <= 18446744073709551615) : W16 (l.set k v) := by
 refine ⟨by rw [List.length_set]; exact h.1, fun r hr => ?_⟩
 have : (l.set k v).getD r 0 = if k = r /\ k < l.length then v else l.getD r 0 := by
  simp only [List.getD, List.getElem?_set]
  by_cases e : k = r
  ·subst e
   by_cases hl : k < l.length
   ·simp [hl]
   ·simp [hl, List.getElem?_eq_none (show l.length <= k by omega)]
  ·simp [e]
 rw [this]
 split
 ·exact hv
 ·exact h.2 r hr
theorem upW_in (a b : Int) : 0 <= upW a b /\ upW a b <= 18446744073709551615 := by unfold upW; omega
theorem head_mem {l : List Ty} (hne : l ≠ []) : l.getD 0 Ty.nil ∈ l := by
 cases l with
 | nil => exact absurd rfl hne
 | cons x r => exact List.mem_cons_self ..
theorem made_join {nm : Nat} {l : List Ty} (hne : l ≠ []) (h : ∀ t ∈ l, Made nm t) : Made nm (joinT l) := by
 have hx := h _ (head_mem hne)
 unfold joinT
 by_cases ha : l.all (likeB (l.getD 0 Ty.nil)) = true
 ·rw [if_pos ha]
  by_cases h1 : (l.getD 0 Ty.nil).k = 1
  ·rw [if_pos h1]
   have hk : ∀ t ∈ l, t.k = 1 /\ 0 <= t.lo /\ t.lo <= t.hi /\ t.hi <= 18446744073709551615 := by
    intro t ht
    have h2 := (List.all_eq_true.1 ha) t ht
    simp only [likeB, Bool.and_eq_true, decide_eq_true_eq] at h2
    have h4 := h2.1.trans h1
    rcases h t ht with h3 | h3 | h3 <;> omega
   have hne' : spansT l ≠ [] := by unfold spansT; simpa using hne
   have hj : joinB (spansT l) = true := by
    unfold joinB
    rw [Bool.and_eq_true]
    refine ⟨by cases hs : spansT l with | nil => exact absurd hs hne' | cons a b => rfl, List.all_eq_true.2 fun s hs => ?_⟩
    obtain ⟨t, ht, rfl⟩ := List.mem_map.1 hs
    exact decide_eq_true (hk t ht).2.2.1
   unfold joinL
   rw [if_pos hj]
   have hlo : loF (spansT l) ∈ (spansT l).map (·.1) := minF_mem (by simpa using hne')
   have hhi : hiF (spansT l) ∈ (spansT l).map (·.2) := maxF_mem (by simpa using hne')
   obtain ⟨s, hs, e1⟩ := List.mem_map.1 hlo
   obtain ⟨t, ht, rfl⟩ := List.mem_map.1 hs
   obtain ⟨s2, hs2, e2⟩ := List.mem_map.1 hhi
   obtain ⟨t2, ht2, rfl⟩ := List.mem_map.1 hs2
   have hge : t.hi <= hiF (spansT l) := maxF_ge (List.mem_map.2 ⟨(t.lo, t.hi), List.mem_map.2 ⟨t, ht, rfl⟩, rfl⟩)
   have k1 := hk t ht
   have k2 := hk t2 ht2
   simp only at e1 e2
   exact made_num (by omega) (by omega) (by omega)
  ·rw [if_neg h1]; exact hx
 ·rw [if_neg ha]; exact made_nil nm
theorem span_in {op a A b B : Int} (hop : 1 <= op /\ op <= 10) (ha : 0 <= a) (hA : A <= 18446744073709551615) (hb : 0 <= b) (hB : B <= 18446744073709551615) (h1 : a <= A) (h2 : b <= B) :
  0 <= (spanL op a A b B).1 /\ (spanL op a A b B).2 <= 18446744073709551615 := by
 unfold spanL
 by_cases c : a = A /\ b = B
 ·rw [if_pos c]
  have := doL_in op (a := a) (b := b) ⟨ha, by omega⟩ ⟨hb, by omega⟩
  exact this
 rw [if_neg c]
 have hcase : op = 1 ∨ op = 2 ∨ op = 3 ∨ op = 4 ∨ op = 5 ∨ op = 6 ∨ op = 7 ∨ op = 8 ∨ op = 9 ∨ op = 10 := by omega
 have hf := form_in (n := max A B) (by omega) (by omega)
 have hp : ∀ k : Nat, (0 : Int) < 2 ^ k := fun k => Int.pow_pos (by decide)
 rcases hcase with rfl | rfl | rfl | rfl | rfl | rfl | rfl | rfl | rfl | rfl
 ·simp only [if_true]; split <;> simp <;> omega
 ·simp; split <;> simp <;> omega
 ·simp
  split
  ·simp
  ·have : 0 <= a * b := Int.mul_nonneg ha hb
   simp; omega
 ·simp
  split
  ·simp; omega
  ·have h3 : 0 <= a / B := Int.ediv_nonneg ha (by omega)
   have h4 : A / b <= A := Int.ediv_le_self _ (by omega)
   simp; omega
 ·simp
  split
  ·simp; omega
  ·split
   ·simp; omega
   ·simp; omega
 ·simp; omega
 ·simp; omega
 ·simp; omega
 ·simp
  split
  ·rename_i h3
   have h4 : 0 <= a * 2 ^ min b.toNat 64 := Int.mul_nonneg ha (Int.le_of_lt (hp _))
   simp
   exact ⟨h4, h3.2⟩
  ·simp
 ·simp
  have h3 : 0 <= a / 2 ^ min B.toNat 64 := Int.ediv_nonneg ha (Int.le_of_lt (hp _))
  have h4 : A / 2 ^ min b.toNat 64 <= A := Int.ediv_le_self _ (by omega)
  exact ⟨h3, by omega⟩
theorem refine_in {op a A b B : Int} {h : Bool} {p : Int × Int} (h1 : a <= A) (hr : refineL op a A b B h = some p) : a <= p.1 /\ p.1 <= p.2 /\ p.2 <= A := by
 unfold refineL at hr
 repeat' split at hr
 all_goals first | (cases hr; done) | (injection hr with hr; subst hr; simp only; omega)
theorem made_do {nm : Nat} {op : Int} {a b : Ty} (hop : 1 <= op /\ op <= 10) (ha : Made nm a) (hb : Made nm b) (ka : a.k = 1) (kb : b.k = 1) : Made nm (doT op a b) := by
 have h1 : 0 <= a.lo /\ a.lo <= a.hi /\ a.hi <= 18446744073709551615 := by rcases ha with h | h | h <;> omega
 have h2 : 0 <= b.lo /\ b.lo <= b.hi /\ b.hi <= 18446744073709551615 := by rcases hb with h | h | h <;> omega
 unfold doT doR
 rw [if_pos ⟨hop, h1.2.1, h2.2.1⟩]
 have h3 := span_in hop h1.1 h1.2.2 h2.1 h2.2.2 h1.2.1 h2.2.1
 have h4 := span_right hop h1.1 h1.2.2 h2.1 h2.2.2 h1.2.1 h2.2.1
 exact made_num h3.1 h4 h3.2
theorem right_src {i : In} (hr : i.right = true) (ho : i.op <= 12 ∨ (16 <= i.op /\ i.op <= 19)) : i.src = true /\ (i.b = 8 ∨ (0 <= i.b /\ i.b <= 7)) := by
 obtain ⟨op, d, a, b, imm⟩ := i
 unfold In.right at hr
 simp only at hr ho
 have h0 := right_op hr
 refine ⟨by unfold In.src sourceB; simp [hr, jumpB]; omega, ?_⟩
 have hs : sourcedB b imm = true := by
  by_cases c1 : op = 0 ∨ op = 11
  ·unfold rightB at hr; rw [if_pos c1] at hr; simp at hr; exact hr.2
  by_cases c2 : 1 <= op /\ op <= 10
  ·rw [rightB_three c2] at hr; simp at hr; exact hr.2
  by_cases c3 : op = 12
  ·subst c3; rw [rightB_12] at hr; simp at hr; exact hr.2
  ·rw [rightB_jump (by omega)] at hr; simp at hr; exact hr.2
 simp [sourcedB, regB] at hs
 simp only
 omega
theorem right_reads {i : In} (hr : i.right = true) (ho : (1 <= i.op /\ i.op <= 10) ∨ i.op = 12 ∨ (16 <= i.op /\ i.op <= 20) ∨ i.op = 22) : 0 <= i.a /\ i.a <= 7 := by
 obtain ⟨op, d, a, b, imm⟩ := i
 unfold In.right at hr
 simp only at hr ho ⊢
 rcases ho with c | c | c | c
 ·rw [rightB_three c] at hr; simp [regB] at hr; omega
 ·subst c; rw [rightB_12] at hr; simp [regB] at hr; omega
 ·by_cases h20 : op = 20
  ·subst h20; rw [rightB_20] at hr; simp [regB] at hr; omega
  ·rw [rightB_jump (by omega)] at hr; simp [regB] at hr; omega
 ·subst c; rw [rightB_22] at hr; simp [regB] at hr; omega
theorem right_dest {i : In} (hr : i.right = true) (ho : i.op <= 11 ∨ i.op = 13 ∨ i.op = 14) : 0 <= i.d /\ i.d <= 7 := by
 obtain ⟨op, d, a, b, imm⟩ := i
 unfold In.right at hr
 simp only at hr ho ⊢
 have h0 := right_op hr
 by_cases c1 : op = 0 ∨ op = 11
 ·unfold rightB at hr; rw [if_pos c1] at hr; simp [regB] at hr; omega
 by_cases c2 : 1 <= op /\ op <= 10
 ·rw [rightB_three c2] at hr; simp [regB] at hr; omega
 by_cases c3 : op = 13
 ·subst c3; rw [rightB_13] at hr; simp [regB] at hr; omega
 ·obtain rfl : op = 14 := by omega
  rw [rightB_14] at hr; simp [regB] at hr; omega
theorem right_call {i : In} (hr : i.right = true) (ho : i.op = 21) : 0 <= i.imm /\ i.imm < 7 := by
 obtain ⟨op, d, a, b, imm⟩ := i
 unfold In.right at hr
 simp only at hr ho ⊢
 subst ho
 rw [rightB_21] at hr; simp at hr; omega
theorem right_map {i : In} (hr : i.right = true) (ho : i.op = 14) : 0 <= i.imm := by
 obtain ⟨op, d, a, b, imm⟩ := i
 unfold In.right at hr
 simp only at hr ho ⊢
 subst ho
 rw [rightB_14] at hr; simp at hr; omega
theorem made_res (nm : Nat) (h : Int) : Made nm (resL h).1 := by
 unfold resL
 repeat' split
 all_goals first | exact made_nil nm | exact .inr (.inl ⟨rfl, by decide, by decide, by decide, rfl⟩)
theorem made_leaves {nm : Nat} {i : In} {s head s' : St} {holds : Bool} (hr : i.right = true) (hs : Made8 nm s) (ha : asksJ nm i s head = 0) (hl : leavesJ i s holds = some s') : Made8 nm s' := by
 have h0 : 0 <= i.op /\ i.op <= 22 := right_op hr
 unfold leavesJ at hl
 unfold asksJ at ha
 by_cases c0 : i.op = 0
 ·rw [if_pos c0] at hl
  injection hl with hl
  subst hl
  exact hs.set _ (made_src hs (right_src hr (.inl (by omega))).2)
 rw [if_neg c0] at hl ha
 by_cases c1 : 1 <= i.op /\ i.op <= 10
 ·rw [if_pos (by simp [threeB]; omega)] at hl
  injection hl with hl
  subst hl
  obtain ⟨s1, s2⟩ := right_src hr (.inl (by omega))
  rw [if_neg (by omega), if_neg (by omega), if_neg (by omega), if_neg (by omega), if_neg (by omega), if_neg (by omega)] at ha
  have hk : (regT s i.a).k = 1 /\ (srcA i s).k = 1 := by
   by_cases hk : (regT s i.a).k ≠ 1 ∨ (srcA i s).k ≠ 1
   ·rw [if_pos hk] at ha; cases ha
   ·omega
  have e : srcA i s = srcT i s := by unfold srcA; rw [if_pos s1]
  rw [e] at hk
  exact hs.set _ (made_do c1 (hs.reg (right_reads hr (.inl c1))) (made_src hs s2) hk.1 hk.2)
 rw [if_neg (by simp [threeB]; omega)] at hl
 by_cases c2 : i.op = 11 ∨ i.op = 13
 ·rw [if_pos c2] at hl
  injection hl with hl
  subst hl
  exact hs.set _ (made_full nm)
 rw [if_neg c2] at hl
 by_cases c3 : i.op = 14
 ·rw [if_pos c3] at hl
  injection hl with hl
  subst hl
  rw [if_neg (by omega), if_pos c3] at ha
  have h1 : i.imm < nm := by
   by_cases hq : (nm : Int) <= i.imm
   ·rw [if_pos hq] at ha; cases ha
   ·omega
  exact hs.set _ (.inr (.inr ⟨rfl, rfl, rfl, right_map hr c3, h1⟩))
 rw [if_neg c3] at hl
 by_cases c4 : i.op = 21
 ·rw [if_pos c4] at hl
  injection hl with hl
  subst hl
  exact hs.set _ (made_res nm _)
 rw [if_neg c4] at hl
 by_cases c5 : 16 <= i.op /\ i.op <= 19
 ·rw [if_pos (by simp [jumpB]; omega)] at hl
  obtain ⟨s1, s2⟩ := right_src hr (.inr c5)
  have hA := hs.reg (right_reads hr (.inr (.inr (.inl (by omega)))))
  cases hq : refineR i.op (regT s i.a).lo (regT s i.a).hi (srcT i s).lo (srcT i s).hi holds with
  | none => rw [hq] at hl; cases hl
  | some p =>
   rw [hq] at hl
   injection hl with hl
   subst hl
   unfold refineR at hq
   split at hq
   ·rename_i h1
    have h2 := refine_in h1.2.1 hq
    have h3 := hA.ends
    exact hs.set _ (made_num (by omega) (by omega) (by omega))
   ·cases hq
 ·rw [if_neg (by simp [jumpB]; omega)] at hl
  injection hl with hl
  subst hl
  exact hs
def join2 (a b : Ty) : Ty := if eqT a b = true then a else if a.k = 1 /\ b.k = 1 then num2 (joinL [(a.lo, a.hi), (b.lo, b.hi)]).1 (joinL [(a.lo, a.hi), (b.lo, b.hi)]).2 else Ty.nil
theorem ty_eq {a b : Ty} : a = b ↔ a.k = b.k /\ a.lo = b.lo /\ a.hi = b.hi /\ a.m = b.m := by
 obtain ⟨a0, a1, a2, a3⟩ := a
 obtain ⟨b0, b1, b2, b3⟩ := b
 simp
theorem joinL_two {a A b B : Int} (h1 : a <= A) (h2 : b <= B) : joinL [(a, A), (b, B)] = (min a b, max A B) := by
 have : joinB [(a, A), (b, B)] = true := by simp [joinB, okS, h1, h2]
 unfold joinL
 rw [if_pos this]
 rfl
theorem join2_made {nm : Nat} {a b : Ty} (ha : Made nm a) (hb : Made nm b) :
  join2 a b = if a.k = 1 /\ b.k = 1 then num2 (min a.lo b.lo) (max a.hi b.hi) else if a.k = 2 /\ b.k = 2 /\ a.m = b.m then a else Ty.nil := by
 unfold join2
 by_cases he : eqT a b = true
 ·rw [if_pos he]
  have e := (eqT_iff a b).1 he
  subst e
  rcases ha with h | h | h
  ·rw [if_neg (by omega), if_neg (by omega), ty_eq]; exact h
  ·rw [if_pos (by omega), Int.min_self, Int.max_self, ty_eq]; exact ⟨h.1, rfl, rfl, h.2.2.2.2⟩
  ·rw [if_neg (by omega), if_pos (by omega)]
 ·rw [if_neg he]
  by_cases h1 : a.k = 1 /\ b.k = 1
  ·rw [if_pos h1, if_pos h1, joinL_two (by rcases ha with h | h | h <;> omega) (by rcases hb with h | h | h <;> omega)]
  ·rw [if_neg h1, if_neg h1]
   by_cases h2 : a.k = 2 /\ b.k = 2 /\ a.m = b.m
   ·exfalso
    apply he
    rw [eqT_iff, ty_eq]
    rcases ha with h | h | h <;> rcases hb with h' | h' | h' <;> omega
   ·rw [if_neg h2]
theorem made_join2 {nm : Nat} {a b : Ty} (ha : Made nm a) (hb : Made nm b) : Made nm (join2 a b) := by
 rw [join2_made ha hb]
 split
 ·have h1 : 0 <= a.lo /\ a.lo <= a.hi /\ a.hi <= 18446744073709551615 := by rcases ha with h | h | h <;> omega
  have h2 : 0 <= b.lo /\ b.lo <= b.hi /\ b.hi <= 18446744073709551615 := by rcases hb with h | h | h <;> omega
  exact made_num (by omega) (by omega) (by omega)
 ·split
  ·exact ha
  ·exact made_nil nm
theorem join2_swap {nm : Nat} {a b c : Ty} (ha : Made nm a) (hb : Made nm b) (hc : Made nm c) : join2 (join2 a b) c = join2 (join2 a c) b := by
 rw [join2_made (made_join2 ha hb) hc, join2_made (made_join2 ha hc) hb, join2_made ha hb, join2_made ha hc]
 obtain ⟨ak, al, ah, am⟩ := a
 obtain ⟨bk, bl, bh, bm⟩ := b
 obtain ⟨ck, cl, ch, cm⟩ := c
 simp only [Made] at ha hb hc
 rcases ha with ⟨rfl, h⟩ | ⟨rfl, h⟩ | ⟨rfl, h⟩ <;> rcases hb with ⟨rfl, h'⟩ | ⟨rfl, h'⟩ | ⟨rfl, h'⟩ <;> rcases hc with ⟨rfl, h''⟩ | ⟨rfl, h''⟩ | ⟨rfl, h''⟩ <;> simp [num2, Ty.nil] <;> (try omega)
 all_goals by_cases e1 : am = bm <;> by_cases e2 : am = cm
 all_goals first | (subst e1 e2; simp; done) | (subst e1; simp [e2]; done) | (subst e2; simp [e1]; done) | (simp [e1, e2]; done)
theorem joinT_snoc {nm : Nat} {l : List Ty} {t : Ty} (hne : l ≠ []) (h : ∀ u ∈ l, Made nm u) (ht : Made nm t) : joinT (l ++ [t]) = join2 (joinT l) t := by
 rw [join2_made (made_join hne h) ht]
 have h0 : (l ++ [t]).getD 0 Ty.nil = l.getD 0 Ty.nil := by
  cases l with
  | nil => exact absurd rfl hne
  | cons x r => rfl
 have hx := h _ (head_mem hne)
 unfold joinT
 rw [h0, List.all_append]
 generalize hX : l.getD 0 Ty.nil = x at *
 by_cases ha : l.all (likeB x) = true
 ·rw [if_pos ha, ha, Bool.true_and]
  have e1 : ([t].all (likeB x) = true) ↔ (t.k = x.k /\ ¬ (t.k = 2 /\ t.m ≠ x.m)) := by
   simp only [List.all_cons, List.all_nil, likeB, Bool.and_true, Bool.and_eq_true, decide_eq_true_eq, Bool.not_eq_true', Bool.and_eq_false_iff, decide_eq_false_iff_not]
   omega
  by_cases hk : x.k = 1
  ·simp only [if_pos hk]
   by_cases ht1 : t.k = 1
   ·rw [if_pos (e1.2 ⟨by omega, by omega⟩), if_pos ⟨rfl, ht1⟩]
    have hin : ∀ u ∈ l, u.k = 1 /\ 0 <= u.lo /\ u.lo <= u.hi /\ u.hi <= 18446744073709551615 := by
     intro u hu
     have h2 := (List.all_eq_true.1 ha) u hu
     simp only [likeB, Bool.and_eq_true, decide_eq_true_eq] at h2
     have h4 := h2.1.trans hk
     rcases h u hu with h3 | h3 | h3 <;> omega
    have htt : t.lo <= t.hi := by rcases ht with h3 | h3 | h3 <;> omega
    have hne' : spansT l ≠ [] := by unfold spansT; simpa using hne
    have hj : ∀ m : List Ty, m ≠ [] -> (∀ u ∈ m, u.lo <= u.hi) -> joinB (spansT m) = true := by
     intro m hm hu
     unfold joinB
     rw [Bool.and_eq_true]
     refine ⟨by cases m with | nil => exact absurd rfl hm | cons a b => rfl, List.all_eq_true.2 fun s hs => ?_⟩
     obtain ⟨u, hu', rfl⟩ := List.mem_map.1 hs
     exact decide_eq_true (hu u hu')
    have j1 := hj l hne fun u hu => (hin u hu).2.2.1
    have j2 := hj (l ++ [t]) (by simp) fun u hu => by
     rcases List.mem_append.1 hu with h1 | h1
     ·exact (hin u h1).2.2.1
     ·rw [List.mem_singleton.1 h1]; exact htt
    unfold joinL
    rw [if_pos j1, if_pos j2]
    have es : spansT (l ++ [t]) = spansT l ++ [(t.lo, t.hi)] := by simp [spansT]
    have m1 : (spansT l).map (·.1) ≠ [] := by simpa using hne'
    have m2 : (spansT l).map (·.2) ≠ [] := by simpa using hne'
    rw [es]
    unfold loF hiF
    rw [List.map_append, List.map_append, List.map_singleton, List.map_singleton, minF_snoc m1, maxF_snoc m2]
    rfl
   ·rw [if_neg (fun hc => ht1 (by have := (e1.1 hc).1; omega)), if_neg (fun hc => ht1 hc.2), if_neg (fun hc => by simp [num2] at hc)]
  ·simp only [if_neg hk]
   by_cases hl : t.k = x.k /\ ¬ (t.k = 2 /\ t.m ≠ x.m)
   ·rw [if_pos (e1.2 hl), if_neg (fun hc => hk hc.1)]
    rcases hx with h3 | h3 | h3
    ·rw [if_neg (by omega), ty_eq]; exact h3
    ·omega
    ·rw [if_pos ⟨h3.1, by omega, by omega⟩]
   ·rw [if_neg (fun hc => hl (e1.1 hc)), if_neg (fun hc => hk hc.1), if_neg (by omega)]
 ·rw [if_neg ha, if_neg (by simp only [Bool.and_eq_true]; exact fun hc => ha hc.1), if_neg (by simp [Ty.nil]), if_neg (by simp [Ty.nil])]
theorem joinT_one {nm : Nat} {t : Ty} (ht : Made nm t) : joinT [t] = t := by
 unfold joinT
 have : [t].all (likeB ([t].getD 0 Ty.nil)) = true := by simp [likeB]
 rw [if_pos this]
 show (if t.k = 1 then _ else t) = t
 split
 ·rename_i h1
  have hh : t.lo <= t.hi /\ t.m = 0 := by rcases ht with h | h | h <;> omega
  have hj : joinB (spansT [t]) = true := by simp [joinB, spansT, okS, hh.1]
  unfold joinL
  rw [if_pos hj, ty_eq]
  exact ⟨h1.symm, rfl, rfl, hh.2.symm⟩
 ·rfl
end Go.Proofs.YtkondcjmhlppiaaGreat
