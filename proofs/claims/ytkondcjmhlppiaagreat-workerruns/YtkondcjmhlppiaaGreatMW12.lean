/-
  S6Slices
  S6Box
  J8Types
  S6Ref
  S6RRefA
  S6RRefB
  S6RNo
  S6RRefine
  S6Inside
-/
import Derived.Test.YtkondcjmhlppiaaGreatMW11
import Derived.Test.YtkondcjmhlppiaaGreatMW6
import Derived.Deep.MidRow
namespace Go.Proofs.YtkondcjmhlppiaaGreat
open Go.ChangeShapes Go.WideShapes Go.ChangeAt Go.RowKit
set_option linter.unusedVariables false
set_option maxRecDepth 100000
open Go.RowKit
set_option maxRecDepth 20000
abbrev Sp : Type := Int × Int
abbrev spC (p : Sp) : List Value := [.int .u64 p.1, .int .u64 p.2]
def wfS (p : Sp) : Prop := W64 p.1 /\ W64 p.2
def AtS (w : World) (b off : Nat) (p : Sp) : Prop := w.cell? ⟨b, off, none⟩ = some (.int .u64 p.1) /\ w.cell? ⟨b, off + 1, none⟩ = some (.int .u64 p.2)
theorem AtS.below {w w' : World} {b off B : Nat} {p : Sp} (h : AtS w b off p) (hb : Below B w w') (hB : b < B) : AtS w' b off p := by
 unfold AtS
 rw [hb.cell (p := ⟨b, off, none⟩) hB, hb.cell (p := ⟨b, off + 1, none⟩) hB]
 exact h
def SeesS (w : World) (v : Value) (xs : List Sp) : Prop :=
 ∃ a cap, v = .slice a xs.length cap /\ xs.length <= cap /\ cap <= maxLen /\ (a = none -> cap = 0) /\
  (xs ≠ [] -> ∃ b off, a = some ⟨b, off, none⟩ /\ b < w.heap.size /\ ∀ k, k < xs.length -> AtS w b (off + k * 2) (xs.getD k (0, 0)))
theorem SeesS.below {w w' : World} {v : Value} {xs : List Sp} (h : SeesS w v xs) (hb : Below w.heap.size w w') : SeesS w' v xs := by
 obtain ⟨a, cap, rfl, h1, h2, h3, h4⟩ := h
 refine ⟨a, cap, rfl, h1, h2, h3, fun hne => ?_⟩
 obtain ⟨b, off, rfl, hlt, hat⟩ := h4 hne
 exact ⟨b, off, rfl, Nat.lt_of_lt_of_le hlt hb.size, fun k hk => (hat k hk).below hb hlt⟩
def flatS (xs : List Sp) : List Value := xs.flatMap spC
theorem flatS_len (xs : List Sp) : (flatS xs).length = xs.length * 2 := by
 induction xs with
 | nil => rfl
 | cons x xs ih =>
  have e : flatS (x :: xs) = spC x ++ flatS xs := rfl
  rw [e, List.length_append, ih, List.length_cons]
  simp; omega
theorem flatS_at : ∀ (xs : List Sp) (k j : Nat), k < xs.length -> j < 2 -> (flatS xs)[k * 2 + j]? = (spC (xs.getD k (0, 0)))[j]?
 | [], k, j, hk, _ => by simp at hk
 | x :: xs, 0, j, _, hj => by
  have e : flatS (x :: xs) = spC x ++ flatS xs := rfl
  rw [e, List.getElem?_append_left (by simp [spC]; omega)]
  simp
 | x :: xs, k + 1, j, hk, hj => by
  have e : flatS (x :: xs) = spC x ++ flatS xs := rfl
  have hl : (spC x).length = 2 := rfl
  rw [e, List.getElem?_append_right (by rw [hl]; omega), hl, show (k + 1) * 2 + j - 2 = k * 2 + j by omega, flatS_at xs k j (by simpa using hk) hj]
  simp [List.getD]
theorem cells_atS {w : World} {b off : Nat} {p : Sp} (h : ∀ j, j < 2 -> w.cell? ⟨b, off + j, none⟩ = (spC p)[j]?) : AtS w b off p := ⟨h 0 (by omega), h 1 (by omega)⟩
theorem own_seesS {w : World} {base : Nat} {e : TypeId} {v : Value} {xs : List Sp} (h : w.ownsRow base e 2 v xs.length (flatS xs)) : SeesS w v xs := by
 have h0 := h
 rcases h with ⟨h1, ⟨rfl, h2⟩ | ⟨g, cap, cur, rfl, hb, hh, h3, h4, h5, h6⟩⟩
 ·have : xs = [] := List.eq_nil_of_length_eq_zero h2
  subst this
  exact ⟨none, 0, rfl, by simp, by simp [maxLen], fun _ => rfl, fun h => absurd rfl h⟩
 ·refine ⟨_, cap, rfl, h3, h4, fun h => by simp at h, fun hne => ⟨g, 0, rfl, (Array.getElem?_eq_some_iff.1 hh).1, fun k hk => cells_atS fun j hj => ?_⟩⟩
  rw [Nat.zero_add, h0.cellAt (k * 2 + j) (by omega)]
  exact flatS_at xs k j hk hj
theorem SeesS.lit (w : World) (t : TypeId) (xs : List Sp) (cs : Array Value) (n : Nat) (hcs : cs = (flatS xs).toArray) (hn : n = xs.length) (hm : xs.length <= 1048576) : SeesS (w.alloc (.cells cs t)) (.slice (some ⟨w.heap.size, 0, none⟩) n n) xs := by
 subst hn hcs
 refine own_seesS (base := w.heap.size) (e := t) ⟨flatS_len xs, .inr ⟨w.heap.size, xs.length, (flatS xs).toArray, rfl, Nat.le_refl _, ?_, Nat.le_refl _, by unfold maxLen; omega, ?_, ?_⟩⟩
 ·show (w.heap.push _)[w.heap.size]? = _
  simp
 ·rw [List.size_toArray, flatS_len]
 ·rw [<- flatS_len]; simp
abbrev spO (a A : Int) : Obj := .cells #[.int .u64 a, .int .u64 A] 110
theorem boxS_below {w w1 : World} {o : Obj} (h : Below (w.alloc o).heap.size (w.alloc o) w1) : Below w.heap.size w w1 := ((Below.refl _ _).alloc (Nat.le_refl _) o).trans (h.mono (by simp))
theorem run_boxS {w : World} {n : Nat} {a A : Int} (h0 : w.cell? ⟨n, 0, none⟩ = some (.int .u64 a)) (h1 : w.cell? ⟨n, 1, none⟩ = some (.int .u64 A)) : (loadVar 110 ⟨n, 0, none⟩).run Tryz.prog w = .ok (.agg #[.int .u64 a, .int .u64 A]) w := by
 refine run_loadVar_mid w n 0 110 [.int .u64 a, .int .u64 A] _ ?_ Tryz.underlying110 rfl (by kernel_rfl)
 intro j v hv
 rw [Nat.zero_add]
 have hj : j < 2 := (List.getElem?_eq_some_iff.1 hv).1
 have hc : j = 0 ∨ j = 1 := by omega
 rcases hc with rfl | rfl <;> simp at hv <;> subst hv <;> assumption
structure Ty where
 k : Int
 lo : Int
 hi : Int
 m : Int
def eqT (a b : Ty) : Bool := decide (a.k = b.k) && decide (a.lo = b.lo) && decide (a.hi = b.hi) && decide (a.m = b.m)
theorem eqT_iff (a b : Ty) : eqT a b = true ↔ a = b := by
 cases a; cases b
 simp [eqT, and_assoc]
def Ty.nil : Ty := ⟨0, 0, 0, 0⟩
abbrev tyC (t : Ty) : List Value := [.int .i64 t.k, .int .u64 t.lo, .int .u64 t.hi, .int .i64 t.m]
abbrev tyV (t : Ty) : Value := .agg #[.int .i64 t.k, .int .u64 t.lo, .int .u64 t.hi, .int .i64 t.m]
def AtT (w : World) (b off : Nat) (t : Ty) : Prop := w.cell? ⟨b, off, none⟩ = some (.int .i64 t.k) /\ w.cell? ⟨b, off + 1, none⟩ = some (.int .u64 t.lo) /\ w.cell? ⟨b, off + 2, none⟩ = some (.int .u64 t.hi) /\ w.cell? ⟨b, off + 3, none⟩ = some (.int .i64 t.m)
theorem AtT.below {w w' : World} {b off B : Nat} {t : Ty} (h : AtT w b off t) (hb : Below B w w') (hB : b < B) : AtT w' b off t := by
 unfold AtT
 rw [hb.cell (p := ⟨b, off, none⟩) hB, hb.cell (p := ⟨b, off + 1, none⟩) hB, hb.cell (p := ⟨b, off + 2, none⟩) hB, hb.cell (p := ⟨b, off + 3, none⟩) hB]
 exact h
def SeesT (w : World) (v : Value) (xs : List Ty) : Prop :=
 ∃ a cap, v = .slice a xs.length cap /\ xs.length <= cap /\ cap <= maxLen /\ (a = none -> cap = 0) /\
  (xs ≠ [] -> ∃ b off, a = some ⟨b, off, none⟩ /\ b < w.heap.size /\ ∀ k, k < xs.length -> AtT w b (off + k * 4) (xs.getD k Ty.nil))
theorem SeesT.below {w w' : World} {v : Value} {xs : List Ty} (h : SeesT w v xs) (hb : Below w.heap.size w w') : SeesT w' v xs := by
 obtain ⟨a, cap, rfl, h1, h2, h3, h4⟩ := h
 refine ⟨a, cap, rfl, h1, h2, h3, fun hne => ?_⟩
 obtain ⟨b, off, rfl, hlt, hat⟩ := h4 hne
 exact ⟨b, off, rfl, Nat.lt_of_lt_of_le hlt hb.size, fun k hk => (hat k hk).below hb hlt⟩
theorem SeesT.shape {w : World} {v : Value} {xs : List Ty} (h : SeesT w v xs) : ∃ a cap, v = .slice a xs.length cap := by
 obtain ⟨a, cap, rfl, _⟩ := h
 exact ⟨a, cap, rfl⟩
theorem SeesT.nil (w : World) : SeesT w (.slice none 0 0) [] := ⟨none, 0, rfl, by simp, by simp [maxLen], fun _ => rfl, fun h => absurd rfl h⟩
def flatT (xs : List Ty) : List Value := xs.flatMap tyC
theorem flatT_app (l m : List Ty) : flatT l ++ flatT m = flatT (l ++ m) := by simp [flatT]
theorem flatT_len (xs : List Ty) : (flatT xs).length = xs.length * 4 := by
 induction xs with
 | nil => rfl
 | cons x xs ih =>
  have e : flatT (x :: xs) = tyC x ++ flatT xs := rfl
  rw [e, List.length_append, ih, List.length_cons]
  simp; omega
theorem flatT_at : ∀ (xs : List Ty) (k j : Nat), k < xs.length -> j < 4 -> (flatT xs)[k * 4 + j]? = (tyC (xs.getD k Ty.nil))[j]?
 | [], k, j, hk, _ => by simp at hk
 | x :: xs, 0, j, _, hj => by
  have e : flatT (x :: xs) = tyC x ++ flatT xs := rfl
  rw [e, List.getElem?_append_left (by simp [tyC]; omega)]
  simp
 | x :: xs, k + 1, j, hk, hj => by
  have e : flatT (x :: xs) = tyC x ++ flatT xs := rfl
  have hl : (tyC x).length = 4 := rfl
  rw [e, List.getElem?_append_right (by rw [hl]; omega), hl, show (k + 1) * 4 + j - 4 = k * 4 + j by omega, flatT_at xs k j (by simpa using hk) hj]
  simp [List.getD]
theorem atT_cells {w : World} {b off : Nat} {p : Ty} (h : AtT w b off p) (j : Nat) (hj : j < 4) : w.cell? ⟨b, off + j, none⟩ = (tyC p)[j]? := by
 obtain ⟨h0, h1, h2, h3⟩ := h
 have hc : j = 0 ∨ j = 1 ∨ j = 2 ∨ j = 3 := by omega
 rcases hc with rfl | rfl | rfl | rfl
 ·exact h0
 ·exact h1
 ·exact h2
 ·exact h3
theorem cells_atT {w : World} {b off : Nat} {p : Ty} (h : ∀ j, j < 4 -> w.cell? ⟨b, off + j, none⟩ = (tyC p)[j]?) : AtT w b off p := ⟨h 0 (by omega), h 1 (by omega), h 2 (by omega), h 3 (by omega)⟩
theorem flatT_cells {w : World} {b off : Nat} {xs : List Ty} (h : ∀ k, k < xs.length -> AtT w b (off + k * 4) (xs.getD k Ty.nil)) (j : Nat) (u : Value) (hu : (flatT xs)[j]? = some u) : w.cell? ((⟨b, off, none⟩ : Addr).add j) = some u := by
 have hj : j < xs.length * 4 := by rw [<- flatT_len]; exact (List.getElem?_eq_some_iff.1 hu).1
 have e : j = (j / 4) * 4 + j % 4 := by omega
 rw [e, flatT_at xs (j / 4) (j % 4) (by omega) (by omega)] at hu
 rw [Addr.add_mid, <- hu, <- atT_cells (h (j / 4) (by omega)) (j % 4) (by omega)]
 congr 2
 omega
theorem flatT_one (xs : List Ty) : ∀ u ∈ flatT xs, u.oneCell' = true := by
 intro u hu
 simp only [flatT, List.mem_flatMap] at hu
 obtain ⟨i, _, hi⟩ := hu
 simp only [tyC, List.mem_cons, List.not_mem_nil, or_false] at hi
 rcases hi with rfl | rfl | rfl | rfl <;> rfl
theorem own_seesT {w : World} {base : Nat} {e : TypeId} {v : Value} {xs : List Ty} (h : w.ownsRow base e 4 v xs.length (flatT xs)) : SeesT w v xs := by
 have h0 := h
 rcases h with ⟨h1, ⟨rfl, h2⟩ | ⟨g, cap, cur, rfl, hb, hh, h3, h4, h5, h6⟩⟩
 ·have : xs = [] := List.eq_nil_of_length_eq_zero h2
  subst this
  exact SeesT.nil w
 ·refine ⟨_, cap, rfl, h3, h4, fun h => by simp at h, fun hne => ⟨g, 0, rfl, (Array.getElem?_eq_some_iff.1 hh).1, fun k hk => cells_atT fun j hj => ?_⟩⟩
  rw [Nat.zero_add, h0.cellAt (k * 4 + j) (by omega)]
  exact flatT_at xs k j hk hj
theorem ownT_lit (w : World) (base : Nat) (t : TypeId) (xs : List Ty) (cs : Array Value) (n g : Nat) (hg : g = w.heap.size) (hb : base <= w.heap.size) (hcs : cs = (flatT xs).toArray) (hn : n = xs.length) (hm : xs.length <= 1048576) : (w.alloc (.cells cs t)).ownsRow base t 4 (.slice (some ⟨g, 0, none⟩) n n) xs.length (flatT xs) := by
 subst hn hcs hg
 refine ⟨flatT_len xs, .inr ⟨w.heap.size, xs.length, (flatT xs).toArray, rfl, hb, ?_, Nat.le_refl _, by unfold maxLen; omega, ?_, ?_⟩⟩
 ·show (w.heap.push _)[w.heap.size]? = _
  simp
 ·rw [List.size_toArray, flatT_len]
 ·rw [<- flatT_len]; simp
theorem SeesT.lit (w : World) (t : TypeId) (xs : List Ty) (cs : Array Value) (n : Nat) (hcs : cs = (flatT xs).toArray) (hn : n = xs.length) (hm : xs.length <= 1048576) : SeesT (w.alloc (.cells cs t)) (.slice (some ⟨w.heap.size, 0, none⟩) n n) xs :=
 own_seesT (ownT_lit w w.heap.size t xs cs n _ rfl (Nat.le_refl _) hcs hn hm)
theorem wpList_append_seesT {P : Program} {w : World} {ops : Array Oper} {rest : List Oper} {o : Oper} {a : Act} {Q : Exit -> Act -> World -> Prop} (hgd : o.guard = none) (s x : Operand) (t : TypeId)
  (ho : o.op = .call { callee := .builtin .append, args := #[s, x], argTypes := #[t, t] })
  (base : Nat) (e : TypeId) (i : TypeInfo) (z : Value) (ht : P.underlying t = some (.slice e)) (hi : P.info? e = some i) (hz : i.zero = some z)
  (hsize : i.size = 4) (hby : i.bytes = 32) (hzs : z.cells.size = 4)
  (v : Value) (xs : List Ty) (hs : a.eval s = v) (hown : w.ownsRow base e 4 v xs.length (flatT xs))
  (src : Value) (ys : List Ty) (hx : a.eval x = src) (hsee : SeesT w src ys)
  (h63 : xs.length + ys.length <= maxLen) (hbytes : (xs.length + ys.length) * 32 <= 140737488355328) (hbase : base <= w.heap.size)
  (h : ∀ v' w', w'.ownsRow base e 4 v' (xs ++ ys).length (flatT (xs ++ ys)) -> w.grownBy w' v.ownBlock -> wpList P ops Q rest (a.put o.dst v') w') : wpList P ops Q (o :: rest) a w := by
 refine wpList_plain hgd fun K hK => ?_
 obtain ⟨ad, cap, rfl, hl, hm, hn0, hc⟩ := hsee
 by_cases hne : ys = []
 ·subst hne
  cases ad with
  | none =>
   obtain rfl : cap = 0 := hn0 rfl
   have hrun := run_append_owned_none (P := P) (w := w) base t o.type e i 4 ht hi v _ _ hown
   have hx' : a.eval x = .slice none 0 0 := hx
   unfold Oper.wp
   simp [execOp, ho, resolve, invoke, builtin, hs, hx', hrun, Result.andThen]
   exact hK _ _ (h v w (by simpa using hown) ⟨rfl, rfl, rfl, Nat.le_refl _, fun _ _ _ => rfl⟩)
  | some ad =>
   refine wp_append_own w s x t ho base e i z 4 32 ht hi hz hsize hby hzs (by decide) v _ _ hs hown ad 0 cap [] hx rfl (by simp) (by simp) (by simpa using h63) (by simpa using hbytes) hbase ?_
   intro v' w' h1 h2 _
   exact hK _ _ (h v' w' (by simpa using h1) h2)
 ·obtain ⟨b, off, rfl, hlt, hat⟩ := hc hne
  refine wp_append_own w s x t ho base e i z 4 32 ht hi hz hsize hby hzs (by decide) v _ _ hs hown ⟨b, off, none⟩ ys.length cap (flatT ys) hx (flatT_len ys) (flatT_cells hat) (flatT_one ys) h63 hbytes hbase ?_
  intro v' w' h1 h2 _
  exact hK _ _ (h v' w' (by rw [flatT_app, <- List.length_append] at h1; exact h1) h2)
abbrev tyO (t : Ty) : Obj := .cells #[.int .i64 t.k, .int .u64 t.lo, .int .u64 t.hi, .int .i64 t.m] 112
theorem run_boxT {w : World} {n off : Nat} {k lo hi m : Int} (h : AtT w n off ⟨k, lo, hi, m⟩) : (loadVar 112 ⟨n, off, none⟩).run Tryz.prog w = .ok (.agg #[.int .i64 k, .int .u64 lo, .int .u64 hi, .int .i64 m]) w := by
 refine run_loadVar_mid w n off 112 [.int .i64 k, .int .u64 lo, .int .u64 hi, .int .i64 m] _ ?_ Tryz.underlying112 rfl (by kernel_rfl)
 intro j v hv
 have hj : j < 4 := (List.getElem?_eq_some_iff.1 hv).1
 exact (atT_cells h j hj).trans hv
theorem rb {a b : Bool} (h : a = b) : Ending.returned (.bool a) = .returned (.bool b) := by rw [h]
def hasN (a A n : Int) : Bool := decide (a <= A) && decide (a <= n) && decide (n <= A)
def withinB (a A b B : Int) : Bool := decide (a <= A) && decide (b <= B) && hasN b B a && hasN b B A
def optV : Option (Int × Int) -> Value
 | none => .tuple #[.agg #[.int .u64 0, .int .u64 0], .bool false]
 | some p => .tuple #[.agg #[.int .u64 p.1, .int .u64 p.2], .bool true]
def refineR (op a A b B : Int) (h : Bool) : Option (Int × Int) := if (16 <= op /\ op <= 19) /\ a <= A /\ b <= B then refineL op a A b B h else none
def doR (op a A b B : Int) : Option (Int × Int) := if (1 <= op /\ op <= 10) /\ a <= A /\ b <= B then some (spanL op a A b B) else none
theorem wrap_in {x : Int} (h0 : 0 <= x) (h : x <= 18446744073709551615) : IntKind.u64.wrap x = x := by rw [IntKind.wrap_u64]; omega

end Go.Proofs.YtkondcjmhlppiaaGreat
