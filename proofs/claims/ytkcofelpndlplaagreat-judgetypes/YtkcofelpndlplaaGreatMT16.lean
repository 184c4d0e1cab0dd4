/-
  J8Types
  S6RRefA
  S6RNo
  S6RRefine
  S6ROne
-/
import Derived.Test.YtkcofelpndlplaaGreatMT15
import Derived.Test.YtkcofelpndlplaaGreatMT14
import Derived.Deep.MidRow
namespace Go.Proofs.YtkcofelpndlplaaGreat
open Go.ChangeShapes Go.WideShapes Go.ChangeAt Go.RowKit
set_option linter.unusedVariables false
set_option maxRecDepth 100000
open Go.RowKit
set_option maxRecDepth 20000
structure Ty where
 k : Int
 lo : Int
 hi : Int
 m : Int
def eqT (a b : Ty) : Bool := decide (a.k = b.k) && decide (a.lo = b.lo) && decide (a.hi = b.hi) && decide (a.m = b.m)
theorem eqT_iff (a b : Ty) : eqT a b = true ↔ a = b := by
 cases a; cases b
 simp [eqT, and_assoc]
def Ty.nil : Ty := ⟨0, 0, 0, 0⟩
abbrev tyC (t : Ty) : List Value := [.int .i64 t.k, .int .u64 t.lo, .int .u64 t.hi, .int .i64 t.m]
abbrev tyV (t : Ty) : Value := .agg #[.int .i64 t.k, .int .u64 t.lo, .int .u64 t.hi, .int .i64 t.m]
def AtT (w : World) (b off : Nat) (t : Ty) : Prop := w.cell? ⟨b, off, none⟩ = some (.int .i64 t.k) /\ w.cell? ⟨b, off + 1, none⟩ = some (.int .u64 t.lo) /\ w.cell? ⟨b, off + 2, none⟩ = some (.int .u64 t.hi) /\ w.cell? ⟨b, off + 3, none⟩ = some (.int .i64 t.m)
theorem AtT.below {w w' : World} {b off B : Nat} {t : Ty} (h : AtT w b off t) (hb : Below B w w') (hB : b < B) : AtT w' b off t := by
 unfold AtT
 rw [hb.cell (p := ⟨b, off, none⟩) hB, hb.cell (p := ⟨b, off + 1, none⟩) hB, hb.cell (p := ⟨b, off + 2, none⟩) hB, hb.cell (p := ⟨b, off + 3, none⟩) hB]
 exact h
def SeesT (w : World) (v : Value) (xs : List Ty) : Prop :=
 ∃ a cap, v = .slice a xs.length cap /\ xs.length <= cap /\ cap <= maxLen /\ (a = none -> cap = 0) /\
  (xs ≠ [] -> ∃ b off, a = some ⟨b, off, none⟩ /\ b < w.heap.size /\ ∀ k, k < xs.length -> AtT w b (off + k * 4) (xs.getD k Ty.nil))
theorem SeesT.below {w w' : World} {v : Value} {xs : List Ty} (h : SeesT w v xs) (hb : Below w.heap.size w w') : SeesT w' v xs := by
 obtain ⟨a, cap, rfl, h1, h2, h3, h4⟩ := h
 refine ⟨a, cap, rfl, h1, h2, h3, fun hne => ?_⟩
 obtain ⟨b, off, rfl, hlt, hat⟩ := h4 hne
 exact ⟨b, off, rfl, Nat.lt_of_lt_of_le hlt hb.size, fun k hk => (hat k hk).below hb hlt⟩
theorem SeesT.shape {w : World} {v : Value} {xs : List Ty} (h : SeesT w v xs) : ∃ a cap, v = .slice a xs.length cap := by
 obtain ⟨a, cap, rfl, _⟩ := h
 exact ⟨a, cap, rfl⟩
theorem SeesT.nil (w : World) : SeesT w (.slice none 0 0) [] := ⟨none, 0, rfl, by simp, by simp [maxLen], fun _ => rfl, fun h => absurd rfl h⟩
def flatT (xs : List Ty) : List Value := xs.flatMap tyC
theorem flatT_app (l m : List Ty) : flatT l ++ flatT m = flatT (l ++ m) := by simp [flatT]
theorem qCq (xs : List Ty) : (flatT xs).length = xs.length * 4 := by
 induction xs with
 | nil => rfl
 | cons x xs ih =>
  have e : flatT (x :: xs) = tyC x ++ flatT xs := rfl
  rw [e, List.length_append, ih, List.length_cons]
  simp; omega
theorem flatT_at : ∀ (xs : List Ty) (k j : Nat), k < xs.length -> j < 4 -> (flatT xs)[k * 4 + j]? = (tyC (xs.getD k Ty.nil))[j]?
 | [], k, j, hk, _ => by simp at hk
 | x :: xs, 0, j, _, hj => by
  have e : flatT (x :: xs) = tyC x ++ flatT xs := rfl
  rw [e, List.getElem?_append_left (by simp [tyC]; omega)]
  simp
 | x :: xs, k + 1, j, hk, hj => by
  have e : flatT (x :: xs) = tyC x ++ flatT xs := rfl
  have hl : (tyC x).length = 4 := rfl
  rw [e, List.getElem?_append_right (by rw [hl]; omega), hl, show (k + 1) * 4 + j - 4 = k * 4 + j by omega, flatT_at xs k j (by simpa using hk) hj]
  simp [List.getD]
theorem atT_cells {w : World} {b off : Nat} {p : Ty} (h : AtT w b off p) (j : Nat) (hj : j < 4) : w.cell? ⟨b, off + j, none⟩ = (tyC p)[j]? := by
 obtain ⟨h0, h1, h2, h3⟩ := h
 have hc : j = 0 ∨ j = 1 ∨ j = 2 ∨ j = 3 := by omega
 rcases hc with rfl | rfl | rfl | rfl
 ·exact h0
 ·exact h1
 ·exact h2
 ·exact h3
theorem cells_atT {w : World} {b off : Nat} {p : Ty} (h : ∀ j, j < 4 -> w.cell? ⟨b, off + j, none⟩ = (tyC p)[j]?) : AtT w b off p := ⟨h 0 (by omega), h 1 (by omega), h 2 (by omega), h 3 (by omega)⟩
theorem flatT_cells {w : World} {b off : Nat} {xs : List Ty} (h : ∀ k, k < xs.length -> AtT w b (off + k * 4) (xs.getD k Ty.nil)) (j : Nat) (u : Value) (hu : (flatT xs)[j]? = some u) : w.cell? ((⟨b, off, none⟩ : Addr).add j) = some u := by
 have hj : j < xs.length * 4 := by rw [<- qCq]; exact (List.getElem?_eq_some_iff.1 hu).1
 have e : j = (j / 4) * 4 + j % 4 := by omega
 rw [e, flatT_at xs (j / 4) (j % 4) (by omega) (by omega)] at hu
 rw [Addr.add_mid, <- hu, <- atT_cells (h (j / 4) (by omega)) (j % 4) (by omega)]
 congr 2
 omega
theorem flatT_one (xs : List Ty) : ∀ u ∈ flatT xs, u.oneCell' = true := by
 intro u hu
 simp only [flatT, List.mem_flatMap] at hu
 obtain ⟨i, _, hi⟩ := hu
 simp only [tyC, List.mem_cons, List.not_mem_nil, or_false] at hi
 rcases hi with rfl | rfl | rfl | rfl <;> rfl
theorem qBx {w : World} {base : Nat} {e : TypeId} {v : Value} {xs : List Ty} (h : w.ownsRow base e 4 v xs.length (flatT xs)) : SeesT w v xs := by
 have h0 := h
 rcases h with ⟨h1, ⟨rfl, h2⟩ | ⟨g, cap, cur, rfl, hb, hh, h3, h4, h5, h6⟩⟩
 ·have : xs = [] := List.eq_nil_of_length_eq_zero h2
  subst this
  exact SeesT.nil w
 ·refine ⟨_, cap, rfl, h3, h4, fun h => by simp at h, fun hne => ⟨g, 0, rfl, (Array.getElem?_eq_some_iff.1 hh).1, fun k hk => cells_atT fun j hj => ?_⟩⟩
  rw [Nat.zero_add, h0.cellAt (k * 4 + j) (by omega)]
  exact flatT_at xs k j hk hj
theorem ownT_empty (w : World) (e : TypeId) : (w.alloc (.cells #[] e)).ownsRow w.heap.size e 4 (.slice (some ⟨w.heap.size, 0, none⟩) 0 0) 0 (flatT []) := by
 refine ⟨rfl, .inr ⟨w.heap.size, 0, #[], rfl, Nat.le_refl _, ?_, Nat.le_refl _, by simp [maxLen], rfl, rfl⟩⟩
 show (w.heap.push _)[w.heap.size]? = _
 simp
theorem ownT_lit (w : World) (base : Nat) (t : TypeId) (xs : List Ty) (cs : Array Value) (n g : Nat) (hg : g = w.heap.size) (hb : base <= w.heap.size) (hcs : cs = (flatT xs).toArray) (hn : n = xs.length) (hm : xs.length <= 1048576) : (w.alloc (.cells cs t)).ownsRow base t 4 (.slice (some ⟨g, 0, none⟩) n n) xs.length (flatT xs) := by
 subst hn hcs hg
 refine ⟨qCq xs, .inr ⟨w.heap.size, xs.length, (flatT xs).toArray, rfl, hb, ?_, Nat.le_refl _, by unfold maxLen; omega, ?_, ?_⟩⟩
 ·show (w.heap.push _)[w.heap.size]? = _
  simp
 ·rw [List.size_toArray, qCq]
 ·rw [<- qCq]; simp
theorem SeesT.lit (w : World) (t : TypeId) (xs : List Ty) (cs : Array Value) (n : Nat) (hcs : cs = (flatT xs).toArray) (hn : n = xs.length) (hm : xs.length <= 1048576) : SeesT (w.alloc (.cells cs t)) (.slice (some ⟨w.heap.size, 0, none⟩) n n) xs :=
 qBx (ownT_lit w w.heap.size t xs cs n _ rfl (Nat.le_refl _) hcs hn hm)
theorem qAt {P : Program} {w : World} {ops : Array Oper} {rest : List Oper} {o : Oper} {a : Act} {Q : Exit -> Act -> World -> Prop} (hgd : o.guard = none) (s x : Operand) (t : TypeId)
  (ho : o.op = .call { callee := .builtin .append, args := #[s, x], argTypes := #[t, t] })
  (base : Nat) (e : TypeId) (i : TypeInfo) (z : Value) (ht : P.underlying t = some (.slice e)) (hi : P.info? e = some i) (hz : i.zero = some z)
  (hsize : i.size = 4) (hby : i.bytes = 32) (hzs : z.cells.size = 4)
  (v : Value) (xs : List Ty) (hs : a.eval s = v) (hown : w.ownsRow base e 4 v xs.length (flatT xs))
  (src : Value) (ys : List Ty) (hx : a.eval x = src) (hsee : SeesT w src ys)
  (h63 : xs.length + ys.length <= maxLen) (hbytes : (xs.length + ys.length) * 32 <= 140737488355328) (hbase : base <= w.heap.size)
  (h : ∀ v' w', w'.ownsRow base e 4 v' (xs ++ ys).length (flatT (xs ++ ys)) -> w.grownBy w' v.ownBlock -> wpList P ops Q rest (a.put o.dst v') w') : wpList P ops Q (o :: rest) a w := by
 refine wpList_plain hgd fun K hK => ?_
 obtain ⟨ad, cap, rfl, hl, hm, hn0, hc⟩ := hsee
 by_cases hne : ys = []
 ·subst hne
  cases ad with
  | none =>
   obtain rfl : cap = 0 := hn0 rfl
   have hrun := run_append_owned_none (P := P) (w := w) base t o.type e i 4 ht hi v _ _ hown
   have hx' : a.eval x = .slice none 0 0 := hx
   unfold Oper.wp
   simp [execOp, ho, resolve, invoke, builtin, hs, hx', hrun, Result.andThen]
   exact hK _ _ (h v w (by simpa using hown) ⟨rfl, rfl, rfl, Nat.le_refl _, fun _ _ _ => rfl⟩)
  | some ad =>
   refine wp_append_own w s x t ho base e i z 4 32 ht hi hz hsize hby hzs (by decide) v _ _ hs hown ad 0 cap [] hx rfl (by simp) (by simp) (by simpa using h63) (by simpa using hbytes) hbase ?_
   intro v' w' h1 h2 _
   exact hK _ _ (h v' w' (by simpa using h1) h2)
 ·obtain ⟨b, off, rfl, hlt, hat⟩ := hc hne
  refine wp_append_own w s x t ho base e i z 4 32 ht hi hz hsize hby hzs (by decide) v _ _ hs hown ⟨b, off, none⟩ ys.length cap (flatT ys) hx (qCq ys) (flatT_cells hat) (flatT_one ys) h63 hbytes hbase ?_
  intro v' w' h1 h2 _
  exact hK _ _ (h v' w' (by rw [flatT_app, <- List.length_append] at h1; exact h1) h2)
def cutT (a : Option Addr) (l h m : Nat) : Value := .slice (if m = l then a else a.map (·.add (l * 4))) (h - l) (m - l)
theorem SeesT.cut {w : World} {a : Option Addr} {cap : Nat} {xs : List Ty} (h : SeesT w (.slice a xs.length cap) xs) (l h' m : Nat) (hl : l <= h') (hh : h' <= xs.length) (hm : h' <= m) (hc : m <= cap) : SeesT w (cutT a l h' m) ((xs.take h').drop l) := by
 obtain ⟨a', cap', hv, h1, h2, h3, h5⟩ := h
 obtain ⟨rfl, _, rfl⟩ : a = a' /\ xs.length = xs.length /\ cap = cap' := by injection hv with e1 e2 e3; exact ⟨e1, e2, e3⟩
 have hlen : ((xs.take h').drop l).length = h' - l := by simp; omega
 refine ⟨_, m - l, by rw [hlen]; rfl, by omega, by omega, fun hn => ?_, fun hne => ?_⟩
 ·split at hn
  ·omega
  ·have : a = none := by simpa using hn
   have := h3 this
   omega
 ·have hpos : l < h' := by
   rcases Nat.lt_or_ge l h' with h | h
   ·exact h
   ·exact absurd (List.eq_nil_of_length_eq_zero (by rw [hlen]; omega)) hne
  obtain ⟨b, off, rfl, hlt, hat⟩ := h5 (fun e => by rw [e] at hh; simp at hh; omega)
  refine ⟨b, off + l * 4, by rw [if_neg (by omega)]; simp [Addr.add_mid], hlt, fun k hk => ?_⟩
  rw [hlen] at hk
  have := hat (l + k) (by omega)
  have e1 : ((xs.take h').drop l).getD k Ty.nil = xs.getD (l + k) Ty.nil := by
   simp only [List.getD_eq_getElem?_getD, List.getElem?_drop, List.getElem?_take]
   rw [if_pos (by omega)]
  rw [e1, show off + l * 4 + k * 4 = off + (l + k) * 4 by omega]
  exact this
abbrev tyO (t : Ty) : Obj := .cells #[.int .i64 t.k, .int .u64 t.lo, .int .u64 t.hi, .int .i64 t.m] 46
theorem qBy {w : World} {n off : Nat} {k lo hi m : Int} (h : AtT w n off ⟨k, lo, hi, m⟩) : (loadVar 46 ⟨n, off, none⟩).run Tryz.prog w = .ok (.agg #[.int .i64 k, .int .u64 lo, .int .u64 hi, .int .i64 m]) w := by
 refine run_loadVar_mid w n off 46 [.int .i64 k, .int .u64 lo, .int .u64 hi, .int .i64 m] _ ?_ Tryz.underlying46 rfl (by kernel_rfl)
 intro j v hv
 have hj : j < 4 := (List.getElem?_eq_some_iff.1 hv).1
 exact (atT_cells h j hj).trans hv
theorem sref_less1_18 (a A n : Int) (w : World) (ha : 0 <= a /\ a <= A /\ A <= 18446744073709551615) (hb : 0 <= n /\ n <= 18446744073709551615) (h : n <= a) :
  Calls Tryz.prog 89 #[.int .i64 18, .agg #[.int .u64 a, .int .u64 A], .agg #[.int .u64 n, .int .u64 n], .bool true] w fun e w' => e = .returned (.tuple #[.agg #[.int .u64 (0), .int .u64 (0)], .bool false]) /\ Below w.heap.size w w' := by
 have h1 : decide (a <= A) = true := decide_eq_true ha.2.1
 have h2 : decide (n <= n) = true := decide_eq_true (Int.le_refl _)
 go_enter Tryz.func89, Tryz.ntmps89
 go_wp2_with (first
  | (go_at_call 90; go_must (refine (qAd _ _ _).mono ?_); rintro e w' ⟨rfl, rfl⟩)
  | (go_at_call 91; go_must (refine (qAw _ _ _ _).mono ?_); rintro e w' ⟨rfl, rfl⟩))
 refine bodyPost_ret (v := .tuple #[.agg #[.int .u64 (0), .int .u64 (0)], .bool false]) ?_ rfl ⟨rfl, by go_grown⟩
 rw [results_cell_tmp rfl]
 simp [asAddr, Result.andThen]
 rw [qAb (a := 0) (A := 0)]
 all_goals go_cell
theorem sref_less2_18 (a A n : Int) (w : World) (ha : 0 <= a /\ a <= A /\ A <= 18446744073709551615) (hb : 0 <= n /\ n <= 18446744073709551615) (h : a < n) (hX : IntKind.u64.wrap (n - 1) = n - 1) (hm : A <= n - 1) :
  Calls Tryz.prog 89 #[.int .i64 18, .agg #[.int .u64 a, .int .u64 A], .agg #[.int .u64 n, .int .u64 n], .bool true] w fun e w' => e = .returned (.tuple #[.agg #[.int .u64 (a), .int .u64 (A)], .bool true]) /\ Below w.heap.size w w' := by
 have h1 : decide (a <= A) = true := decide_eq_true ha.2.1
 have h2 : decide (n <= n) = true := decide_eq_true (Int.le_refl _)
 go_enter Tryz.func89, Tryz.ntmps89
 go_wp2_with (first
  | (go_at_call 90; go_must (refine (qAd _ _ _).mono ?_); rintro e w' ⟨rfl, rfl⟩)
  | (go_at_call 91; go_must (refine (qAw _ _ _ _).mono ?_); rintro e w' ⟨rfl, rfl⟩))
 refine bodyPost_ret (v := .tuple #[.agg #[.int .u64 (a), .int .u64 (A)], .bool true]) ?_ rfl ⟨rfl, by go_grown⟩
 rw [results_cell_tmp rfl]
 simp [asAddr, Result.andThen]
 rw [qAb (a := a) (A := A)]
 all_goals go_cell
theorem sref_less3_18 (a A n : Int) (w : World) (ha : 0 <= a /\ a <= A /\ A <= 18446744073709551615) (hb : 0 <= n /\ n <= 18446744073709551615) (h : a < n) (hX : IntKind.u64.wrap (n - 1) = n - 1) (hm : n - 1 < A) :
  Calls Tryz.prog 89 #[.int .i64 18, .agg #[.int .u64 a, .int .u64 A], .agg #[.int .u64 n, .int .u64 n], .bool true] w fun e w' => e = .returned (.tuple #[.agg #[.int .u64 (a), .int .u64 (n - 1)], .bool true]) /\ Below w.heap.size w w' := by
 have h1 : decide (a <= A) = true := decide_eq_true ha.2.1
 have h2 : decide (n <= n) = true := decide_eq_true (Int.le_refl _)
 go_enter Tryz.func89, Tryz.ntmps89
 go_wp2_with (first
  | (go_at_call 90; go_must (refine (qAd _ _ _).mono ?_); rintro e w' ⟨rfl, rfl⟩)
  | (go_at_call 91; go_must (refine (qAw _ _ _ _).mono ?_); rintro e w' ⟨rfl, rfl⟩))
 refine bodyPost_ret (v := .tuple #[.agg #[.int .u64 (a), .int .u64 (n - 1)], .bool true]) ?_ rfl ⟨rfl, by go_grown⟩
 rw [results_cell_tmp rfl]
 simp [asAddr, Result.andThen]
 rw [qAb (a := a) (A := n - 1)]
 all_goals go_cell
theorem sref_less1_19 (a A n : Int) (w : World) (ha : 0 <= a /\ a <= A /\ A <= 18446744073709551615) (hb : 0 <= n /\ n <= 18446744073709551615) (h : n <= a) :
  Calls Tryz.prog 89 #[.int .i64 19, .agg #[.int .u64 a, .int .u64 A], .agg #[.int .u64 n, .int .u64 n], .bool false] w fun e w' => e = .returned (.tuple #[.agg #[.int .u64 (0), .int .u64 (0)], .bool false]) /\ Below w.heap.size w w' := by
 have h1 : decide (a <= A) = true := decide_eq_true ha.2.1
 have h2 : decide (n <= n) = true := decide_eq_true (Int.le_refl _)
 go_enter Tryz.func89, Tryz.ntmps89
 go_wp2_with (first
  | (go_at_call 90; go_must (refine (qAd _ _ _).mono ?_); rintro e w' ⟨rfl, rfl⟩)
  | (go_at_call 91; go_must (refine (qAw _ _ _ _).mono ?_); rintro e w' ⟨rfl, rfl⟩))
 refine bodyPost_ret (v := .tuple #[.agg #[.int .u64 (0), .int .u64 (0)], .bool false]) ?_ rfl ⟨rfl, by go_grown⟩
 rw [results_cell_tmp rfl]
 simp [asAddr, Result.andThen]
 rw [qAb (a := 0) (A := 0)]
 all_goals go_cell
theorem sref_less2_19 (a A n : Int) (w : World) (ha : 0 <= a /\ a <= A /\ A <= 18446744073709551615) (hb : 0 <= n /\ n <= 18446744073709551615) (h : a < n) (hX : IntKind.u64.wrap (n - 1) = n - 1) (hm : A <= n - 1) :
  Calls Tryz.prog 89 #[.int .i64 19, .agg #[.int .u64 a, .int .u64 A], .agg #[.int .u64 n, .int .u64 n], .bool false] w fun e w' => e = .returned (.tuple #[.agg #[.int .u64 (a), .int .u64 (A)], .bool true]) /\ Below w.heap.size w w' := by
 have h1 : decide (a <= A) = true := decide_eq_true ha.2.1
 have h2 : decide (n <= n) = true := decide_eq_true (Int.le_refl _)
 go_enter Tryz.func89, Tryz.ntmps89
 go_wp2_with (first
  | (go_at_call 90; go_must (refine (qAd _ _ _).mono ?_); rintro e w' ⟨rfl, rfl⟩)
  | (go_at_call 91; go_must (refine (qAw _ _ _ _).mono ?_); rintro e w' ⟨rfl, rfl⟩))
 refine bodyPost_ret (v := .tuple #[.agg #[.int .u64 (a), .int .u64 (A)], .bool true]) ?_ rfl ⟨rfl, by go_grown⟩
 rw [results_cell_tmp rfl]
 simp [asAddr, Result.andThen]
 rw [qAb (a := a) (A := A)]
 all_goals go_cell
theorem sref_less3_19 (a A n : Int) (w : World) (ha : 0 <= a /\ a <= A /\ A <= 18446744073709551615) (hb : 0 <= n /\ n <= 18446744073709551615) (h : a < n) (hX : IntKind.u64.wrap (n - 1) = n - 1) (hm : n - 1 < A) :
  Calls Tryz.prog 89 #[.int .i64 19, .agg #[.int .u64 a, .int .u64 A], .agg #[.int .u64 n, .int .u64 n], .bool false] w fun e w' => e = .returned (.tuple #[.agg #[.int .u64 (a), .int .u64 (n - 1)], .bool true]) /\ Below w.heap.size w w' := by
 have h1 : decide (a <= A) = true := decide_eq_true ha.2.1
 have h2 : decide (n <= n) = true := decide_eq_true (Int.le_refl _)
 go_enter Tryz.func89, Tryz.ntmps89
 go_wp2_with (first
  | (go_at_call 90; go_must (refine (qAd _ _ _).mono ?_); rintro e w' ⟨rfl, rfl⟩)
  | (go_at_call 91; go_must (refine (qAw _ _ _ _).mono ?_); rintro e w' ⟨rfl, rfl⟩))
 refine bodyPost_ret (v := .tuple #[.agg #[.int .u64 (a), .int .u64 (n - 1)], .bool true]) ?_ rfl ⟨rfl, by go_grown⟩
 rw [results_cell_tmp rfl]
 simp [asAddr, Result.andThen]
 rw [qAb (a := a) (A := n - 1)]
 all_goals go_cell
theorem sref_from1_18 (a A n : Int) (w : World) (ha : 0 <= a /\ a <= A /\ A <= 18446744073709551615) (hb : 0 <= n /\ n <= 18446744073709551615) (h : A < n) :
  Calls Tryz.prog 89 #[.int .i64 18, .agg #[.int .u64 a, .int .u64 A], .agg #[.int .u64 n, .int .u64 n], .bool false] w fun e w' => e = .returned (.tuple #[.agg #[.int .u64 (0), .int .u64 (0)], .bool false]) /\ Below w.heap.size w w' := by
 have h1 : decide (a <= A) = true := decide_eq_true ha.2.1
 have h2 : decide (n <= n) = true := decide_eq_true (Int.le_refl _)
 go_enter Tryz.func89, Tryz.ntmps89
 go_wp2_with (first
  | (go_at_call 90; go_must (refine (qAd _ _ _).mono ?_); rintro e w' ⟨rfl, rfl⟩)
  | (go_at_call 91; go_must (refine (qAw _ _ _ _).mono ?_); rintro e w' ⟨rfl, rfl⟩))
 refine bodyPost_ret (v := .tuple #[.agg #[.int .u64 (0), .int .u64 (0)], .bool false]) ?_ rfl ⟨rfl, by go_grown⟩
 rw [results_cell_tmp rfl]
 simp [asAddr, Result.andThen]
 rw [qAb (a := 0) (A := 0)]
 all_goals go_cell
theorem sref_from2_18 (a A n : Int) (w : World) (ha : 0 <= a /\ a <= A /\ A <= 18446744073709551615) (hb : 0 <= n /\ n <= 18446744073709551615) (h : n <= A) (hm : a < n) :
  Calls Tryz.prog 89 #[.int .i64 18, .agg #[.int .u64 a, .int .u64 A], .agg #[.int .u64 n, .int .u64 n], .bool false] w fun e w' => e = .returned (.tuple #[.agg #[.int .u64 (n), .int .u64 (A)], .bool true]) /\ Below w.heap.size w w' := by
 have h1 : decide (a <= A) = true := decide_eq_true ha.2.1
 have h2 : decide (n <= n) = true := decide_eq_true (Int.le_refl _)
 go_enter Tryz.func89, Tryz.ntmps89
 go_wp2_with (first
  | (go_at_call 90; go_must (refine (qAd _ _ _).mono ?_); rintro e w' ⟨rfl, rfl⟩)
  | (go_at_call 91; go_must (refine (qAw _ _ _ _).mono ?_); rintro e w' ⟨rfl, rfl⟩))
 refine bodyPost_ret (v := .tuple #[.agg #[.int .u64 (n), .int .u64 (A)], .bool true]) ?_ rfl ⟨rfl, by go_grown⟩
 rw [results_cell_tmp rfl]
 simp [asAddr, Result.andThen]
 rw [qAb (a := n) (A := A)]
 all_goals go_cell
theorem sref_from3_18 (a A n : Int) (w : World) (ha : 0 <= a /\ a <= A /\ A <= 18446744073709551615) (hb : 0 <= n /\ n <= 18446744073709551615) (h : n <= A) (hm : n <= a) :
  Calls Tryz.prog 89 #[.int .i64 18, .agg #[.int .u64 a, .int .u64 A], .agg #[.int .u64 n, .int .u64 n], .bool false] w fun e w' => e = .returned (.tuple #[.agg #[.int .u64 (a), .int .u64 (A)], .bool true]) /\ Below w.heap.size w w' := by
 have h1 : decide (a <= A) = true := decide_eq_true ha.2.1
 have h2 : decide (n <= n) = true := decide_eq_true (Int.le_refl _)
 go_enter Tryz.func89, Tryz.ntmps89
 go_wp2_with (first
  | (go_at_call 90; go_must (refine (qAd _ _ _).mono ?_); rintro e w' ⟨rfl, rfl⟩)
  | (go_at_call 91; go_must (refine (qAw _ _ _ _).mono ?_); rintro e w' ⟨rfl, rfl⟩))
 refine bodyPost_ret (v := .tuple #[.agg #[.int .u64 (a), .int .u64 (A)], .bool true]) ?_ rfl ⟨rfl, by go_grown⟩
 rw [results_cell_tmp rfl]
 simp [asAddr, Result.andThen]
 rw [qAb (a := a) (A := A)]
 all_goals go_cell
theorem sref_from1_19 (a A n : Int) (w : World) (ha : 0 <= a /\ a <= A /\ A <= 18446744073709551615) (hb : 0 <= n /\ n <= 18446744073709551615) (h : A < n) :
  Calls Tryz.prog 89 #[.int .i64 19, .agg #[.int .u64 a, .int .u64 A], .agg #[.int .u64 n, .int .u64 n], .bool true] w fun e w' => e = .returned (.tuple #[.agg #[.int .u64 (0), .int .u64 (0)], .bool false]) /\ Below w.heap.size w w' := by
 have h1 : decide (a <= A) = true := decide_eq_true ha.2.1
 have h2 : decide (n <= n) = true := decide_eq_true (Int.le_refl _)
 go_enter Tryz.func89, Tryz.ntmps89
 go_wp2_with (first
  | (go_at_call 90; go_must (refine (qAd _ _ _).mono ?_); rintro e w' ⟨rfl, rfl⟩)
  | (go_at_call 91; go_must (refine (qAw _ _ _ _).mono ?_); rintro e w' ⟨rfl, rfl⟩))
 refine bodyPost_ret (v := .tuple #[.agg #[.int .u64 (0), .int .u64 (0)], .bool false]) ?_ rfl ⟨rfl, by go_grown⟩
 rw [results_cell_tmp rfl]
 simp [asAddr, Result.andThen]
 rw [qAb (a := 0) (A := 0)]
 all_goals go_cell
theorem sref_from2_19 (a A n : Int) (w : World) (ha : 0 <= a /\ a <= A /\ A <= 18446744073709551615) (hb : 0 <= n /\ n <= 18446744073709551615) (h : n <= A) (hm : a < n) :
  Calls Tryz.prog 89 #[.int .i64 19, .agg #[.int .u64 a, .int .u64 A], .agg #[.int .u64 n, .int .u64 n], .bool true] w fun e w' => e = .returned (.tuple #[.agg #[.int .u64 (n), .int .u64 (A)], .bool true]) /\ Below w.heap.size w w' := by
 have h1 : decide (a <= A) = true := decide_eq_true ha.2.1
 have h2 : decide (n <= n) = true := decide_eq_true (Int.le_refl _)
 go_enter Tryz.func89, Tryz.ntmps89
 go_wp2_with (first
  | (go_at_call 90; go_must (refine (qAd _ _ _).mono ?_); rintro e w' ⟨rfl, rfl⟩)
  | (go_at_call 91; go_must (refine (qAw _ _ _ _).mono ?_); rintro e w' ⟨rfl, rfl⟩))
 refine bodyPost_ret (v := .tuple #[.agg #[.int .u64 (n), .int .u64 (A)], .bool true]) ?_ rfl ⟨rfl, by go_grown⟩
 rw [results_cell_tmp rfl]
 simp [asAddr, Result.andThen]
 rw [qAb (a := n) (A := A)]
 all_goals go_cell
theorem sref_from3_19 (a A n : Int) (w : World) (ha : 0 <= a /\ a <= A /\ A <= 18446744073709551615) (hb : 0 <= n /\ n <= 18446744073709551615) (h : n <= A) (hm : n <= a) :
  Calls Tryz.prog 89 #[.int .i64 19, .agg #[.int .u64 a, .int .u64 A], .agg #[.int .u64 n, .int .u64 n], .bool true] w fun e w' => e = .returned (.tuple #[.agg #[.int .u64 (a), .int .u64 (A)], .bool true]) /\ Below w.heap.size w w' := by
 have h1 : decide (a <= A) = true := decide_eq_true ha.2.1
 have h2 : decide (n <= n) = true := decide_eq_true (Int.le_refl _)
 go_enter Tryz.func89, Tryz.ntmps89
 go_wp2_with (first
  | (go_at_call 90; go_must (refine (qAd _ _ _).mono ?_); rintro e w' ⟨rfl, rfl⟩)
  | (go_at_call 91; go_must (refine (qAw _ _ _ _).mono ?_); rintro e w' ⟨rfl, rfl⟩))
 refine bodyPost_ret (v := .tuple #[.agg #[.int .u64 (a), .int .u64 (A)], .bool true]) ?_ rfl ⟨rfl, by go_grown⟩
 rw [results_cell_tmp rfl]
 simp [asAddr, Result.andThen]
 rw [qAb (a := a) (A := A)]
 all_goals go_cell
theorem sdo_lo (op a A b B : Int) (w : World) (h : op < 1) :
  Calls Tryz.prog 87 #[.int .i64 op, .agg #[.int .u64 a, .int .u64 A], .agg #[.int .u64 b, .int .u64 B]] w fun e w' => e = .returned (.tuple #[.agg #[.int .u64 (0), .int .u64 (0)], .bool false]) /\ Below w.heap.size w w' := by
 go_enter Tryz.func87, Tryz.ntmps87
 go_wp2_with (go_at_call 90; go_must (refine (qAd _ _ _).mono ?_); rintro e w' ⟨rfl, rfl⟩)
 all_goals refine bodyPost_ret (v := .tuple #[.agg #[.int .u64 (0), .int .u64 (0)], .bool false]) ?_ rfl ⟨rfl, by go_grown⟩
 all_goals rw [results_cell_tmp rfl]
 all_goals simp [asAddr, Result.andThen]
 all_goals rw [qAb (a := 0) (A := 0)]
 all_goals go_cell
theorem sdo_hi (op a A b B : Int) (w : World) (h : ¬ op < 1) (h' : 10 < op) :
  Calls Tryz.prog 87 #[.int .i64 op, .agg #[.int .u64 a, .int .u64 A], .agg #[.int .u64 b, .int .u64 B]] w fun e w' => e = .returned (.tuple #[.agg #[.int .u64 (0), .int .u64 (0)], .bool false]) /\ Below w.heap.size w w' := by
 go_enter Tryz.func87, Tryz.ntmps87
 go_wp2_with (go_at_call 90; go_must (refine (qAd _ _ _).mono ?_); rintro e w' ⟨rfl, rfl⟩)
 all_goals refine bodyPost_ret (v := .tuple #[.agg #[.int .u64 (0), .int .u64 (0)], .bool false]) ?_ rfl ⟨rfl, by go_grown⟩
 all_goals rw [results_cell_tmp rfl]
 all_goals simp [asAddr, Result.andThen]
 all_goals rw [qAb (a := 0) (A := 0)]
 all_goals go_cell
theorem sdo_na (op a A b B : Int) (w : World) (h : 1 <= op /\ op <= 10) (ha : decide (a <= A) = false) :
  Calls Tryz.prog 87 #[.int .i64 op, .agg #[.int .u64 a, .int .u64 A], .agg #[.int .u64 b, .int .u64 B]] w fun e w' => e = .returned (.tuple #[.agg #[.int .u64 (0), .int .u64 (0)], .bool false]) /\ Below w.heap.size w w' := by
 go_enter Tryz.func87, Tryz.ntmps87
 go_wp2_with (go_at_call 90; go_must (refine (qAd _ _ _).mono ?_); rintro e w' ⟨rfl, rfl⟩)
 all_goals refine bodyPost_ret (v := .tuple #[.agg #[.int .u64 (0), .int .u64 (0)], .bool false]) ?_ rfl ⟨rfl, by go_grown⟩
 all_goals rw [results_cell_tmp rfl]
 all_goals simp [asAddr, Result.andThen]
 all_goals rw [qAb (a := 0) (A := 0)]
 all_goals go_cell
theorem sdo_nb (op a A b B : Int) (w : World) (h : 1 <= op /\ op <= 10) (ha : decide (a <= A) = true) (hb : decide (b <= B) = false) :
  Calls Tryz.prog 87 #[.int .i64 op, .agg #[.int .u64 a, .int .u64 A], .agg #[.int .u64 b, .int .u64 B]] w fun e w' => e = .returned (.tuple #[.agg #[.int .u64 (0), .int .u64 (0)], .bool false]) /\ Below w.heap.size w w' := by
 go_enter Tryz.func87, Tryz.ntmps87
 go_wp2_with (go_at_call 90; go_must (refine (qAd _ _ _).mono ?_); rintro e w' ⟨rfl, rfl⟩)
 all_goals refine bodyPost_ret (v := .tuple #[.agg #[.int .u64 (0), .int .u64 (0)], .bool false]) ?_ rfl ⟨rfl, by go_grown⟩
 all_goals rw [results_cell_tmp rfl]
 all_goals simp [asAddr, Result.andThen]
 all_goals rw [qAb (a := 0) (A := 0)]
 all_goals go_cell
theorem sref_lo (op a A b B : Int) (hh : Bool) (w : World) (h : op < 16) :
  Calls Tryz.prog 89 #[.int .i64 op, .agg #[.int .u64 a, .int .u64 A], .agg #[.int .u64 b, .int .u64 B], .bool hh] w fun e w' => e = .returned (.tuple #[.agg #[.int .u64 (0), .int .u64 (0)], .bool false]) /\ Below w.heap.size w w' := by
 go_enter Tryz.func89, Tryz.ntmps89
 go_wp2_with (go_at_call 90; go_must (refine (qAd _ _ _).mono ?_); rintro e w' ⟨rfl, rfl⟩)
 all_goals refine bodyPost_ret (v := .tuple #[.agg #[.int .u64 (0), .int .u64 (0)], .bool false]) ?_ rfl ⟨rfl, by go_grown⟩
 all_goals rw [results_cell_tmp rfl]
 all_goals simp [asAddr, Result.andThen]
 all_goals rw [qAb (a := 0) (A := 0)]
 all_goals go_cell
theorem sref_hi (op a A b B : Int) (hh : Bool) (w : World) (h : ¬ op < 16) (h' : 19 < op) :
  Calls Tryz.prog 89 #[.int .i64 op, .agg #[.int .u64 a, .int .u64 A], .agg #[.int .u64 b, .int .u64 B], .bool hh] w fun e w' => e = .returned (.tuple #[.agg #[.int .u64 (0), .int .u64 (0)], .bool false]) /\ Below w.heap.size w w' := by
 go_enter Tryz.func89, Tryz.ntmps89
 go_wp2_with (go_at_call 90; go_must (refine (qAd _ _ _).mono ?_); rintro e w' ⟨rfl, rfl⟩)
 all_goals refine bodyPost_ret (v := .tuple #[.agg #[.int .u64 (0), .int .u64 (0)], .bool false]) ?_ rfl ⟨rfl, by go_grown⟩
 all_goals rw [results_cell_tmp rfl]
 all_goals simp [asAddr, Result.andThen]
 all_goals rw [qAb (a := 0) (A := 0)]
 all_goals go_cell
theorem sref_na (op a A b B : Int) (hh : Bool) (w : World) (h : 16 <= op /\ op <= 19) (ha : decide (a <= A) = false) :
  Calls Tryz.prog 89 #[.int .i64 op, .agg #[.int .u64 a, .int .u64 A], .agg #[.int .u64 b, .int .u64 B], .bool hh] w fun e w' => e = .returned (.tuple #[.agg #[.int .u64 (0), .int .u64 (0)], .bool false]) /\ Below w.heap.size w w' := by
 go_enter Tryz.func89, Tryz.ntmps89
 go_wp2_with (go_at_call 90; go_must (refine (qAd _ _ _).mono ?_); rintro e w' ⟨rfl, rfl⟩)
 all_goals refine bodyPost_ret (v := .tuple #[.agg #[.int .u64 (0), .int .u64 (0)], .bool false]) ?_ rfl ⟨rfl, by go_grown⟩
 all_goals rw [results_cell_tmp rfl]
 all_goals simp [asAddr, Result.andThen]
 all_goals rw [qAb (a := 0) (A := 0)]
 all_goals go_cell
theorem sref_nb (op a A b B : Int) (hh : Bool) (w : World) (h : 16 <= op /\ op <= 19) (ha : decide (a <= A) = true) (hb : decide (b <= B) = false) :
  Calls Tryz.prog 89 #[.int .i64 op, .agg #[.int .u64 a, .int .u64 A], .agg #[.int .u64 b, .int .u64 B], .bool hh] w fun e w' => e = .returned (.tuple #[.agg #[.int .u64 (0), .int .u64 (0)], .bool false]) /\ Below w.heap.size w w' := by
 go_enter Tryz.func89, Tryz.ntmps89
 go_wp2_with (go_at_call 90; go_must (refine (qAd _ _ _).mono ?_); rintro e w' ⟨rfl, rfl⟩)
 all_goals refine bodyPost_ret (v := .tuple #[.agg #[.int .u64 (0), .int .u64 (0)], .bool false]) ?_ rfl ⟨rfl, by go_grown⟩
 all_goals rw [results_cell_tmp rfl]
 all_goals simp [asAddr, Result.andThen]
 all_goals rw [qAb (a := 0) (A := 0)]
 all_goals go_cell
theorem sref_wide (op a A b B : Int) (hh : Bool) (w : World) (h : 16 <= op /\ op <= 19) (ha : decide (a <= A) = true) (hb : decide (b <= B) = true) (hs : (b == B) = false) :
  Calls Tryz.prog 89 #[.int .i64 op, .agg #[.int .u64 a, .int .u64 A], .agg #[.int .u64 b, .int .u64 B], .bool hh] w fun e w' => e = .returned (.tuple #[.agg #[.int .u64 (a), .int .u64 (A)], .bool true]) /\ Below w.heap.size w w' := by
 go_enter Tryz.func89, Tryz.ntmps89
 go_wp2_with (go_at_call 90; go_must (refine (qAd _ _ _).mono ?_); rintro e w' ⟨rfl, rfl⟩)
 all_goals refine bodyPost_ret (v := .tuple #[.agg #[.int .u64 (a), .int .u64 (A)], .bool true]) ?_ rfl ⟨rfl, by go_grown⟩
 all_goals rw [results_cell_tmp rfl]
 all_goals simp [asAddr, Result.andThen]
 all_goals rw [qAb (a := a) (A := A)]
 all_goals go_cell
def optV : Option (Int × Int) -> Value
 | none => .tuple #[.agg #[.int .u64 0, .int .u64 0], .bool false]
 | some p => .tuple #[.agg #[.int .u64 p.1, .int .u64 p.2], .bool true]
def refineR (op a A b B : Int) (h : Bool) : Option (Int × Int) := if (16 <= op /\ op <= 19) /\ a <= A /\ b <= B then refineL op a A b B h else none
def doR (op a A b B : Int) : Option (Int × Int) := if (1 <= op /\ op <= 10) /\ a <= A /\ b <= B then some (spanL op a A b B) else none
theorem wrap_in {x : Int} (h0 : 0 <= x) (h : x <= 18446744073709551615) : IntKind.u64.wrap x = x := by rw [IntKind.wrap_u64]; omega

theorem sref_less (op : Int) (h : Bool) (hl : lessB op h = true) (a A n : Int) (w : World) (ha : 0 <= a /\ a <= A /\ A <= 18446744073709551615) (hb : 0 <= n /\ n <= 18446744073709551615) :
  Calls Tryz.prog 89 #[.int .i64 op, .agg #[.int .u64 a, .int .u64 A], .agg #[.int .u64 n, .int .u64 n], .bool h] w fun e w' => e = .returned (optV (if n <= a then none else some (a, min A (n - 1)))) /\ Below w.heap.size w w' := by
 have hc : (op = 18 /\ h = true) ∨ (op = 19 /\ h = false) := by
  unfold lessB at hl
  cases h <;> simp at hl ⊢ <;> exact hl
 by_cases h1 : n <= a
 ·rw [if_pos h1]
  rcases hc with ⟨rfl, rfl⟩ | ⟨rfl, rfl⟩
  ·exact sref_less1_18 a A n w ha hb h1
  ·exact sref_less1_19 a A n w ha hb h1
 rw [if_neg h1]
 have hX := wrap_in (x := n - 1) (by omega) (by omega)
 by_cases h2 : A <= n - 1
 ·rw [Int.min_eq_left h2]
  rcases hc with ⟨rfl, rfl⟩ | ⟨rfl, rfl⟩
  ·exact sref_less2_18 a A n w ha hb (by omega) hX h2
  ·exact sref_less2_19 a A n w ha hb (by omega) hX h2
 ·rw [Int.min_eq_right (by omega)]
  rcases hc with ⟨rfl, rfl⟩ | ⟨rfl, rfl⟩
  ·exact sref_less3_18 a A n w ha hb (by omega) hX (by omega)
  ·exact sref_less3_19 a A n w ha hb (by omega) hX (by omega)
theorem sref_from (op : Int) (h : Bool) (hc : (op = 18 /\ h = false) ∨ (op = 19 /\ h = true)) (a A n : Int) (w : World) (ha : 0 <= a /\ a <= A /\ A <= 18446744073709551615) (hb : 0 <= n /\ n <= 18446744073709551615) :
  Calls Tryz.prog 89 #[.int .i64 op, .agg #[.int .u64 a, .int .u64 A], .agg #[.int .u64 n, .int .u64 n], .bool h] w fun e w' => e = .returned (optV (if A < n then none else some (max a n, A))) /\ Below w.heap.size w w' := by
 by_cases h1 : A < n
 ·rw [if_pos h1]
  rcases hc with ⟨rfl, rfl⟩ | ⟨rfl, rfl⟩
  ·exact sref_from1_18 a A n w ha hb h1
  ·exact sref_from1_19 a A n w ha hb h1
 rw [if_neg h1]
 by_cases h2 : a < n
 ·rw [Int.max_eq_right (by omega)]
  rcases hc with ⟨rfl, rfl⟩ | ⟨rfl, rfl⟩
  ·exact sref_from2_18 a A n w ha hb (by omega) h2
  ·exact sref_from2_19 a A n w ha hb (by omega) h2
 ·rw [Int.max_eq_left (by omega)]
  rcases hc with ⟨rfl, rfl⟩ | ⟨rfl, rfl⟩
  ·exact sref_from3_18 a A n w ha hb (by omega) (by omega)
  ·exact sref_from3_19 a A n w ha hb (by omega) (by omega)
theorem sref_same (op : Int) (h : Bool) (hc : (op = 16 /\ h = true) ∨ (op = 17 /\ h = false)) (a A n : Int) (w : World) (ha : 0 <= a /\ a <= A /\ A <= 18446744073709551615) (hb : 0 <= n /\ n <= 18446744073709551615) :
  Calls Tryz.prog 89 #[.int .i64 op, .agg #[.int .u64 a, .int .u64 A], .agg #[.int .u64 n, .int .u64 n], .bool h] w fun e w' => e = .returned (optV (if a <= n /\ n <= A then some (n, n) else none)) /\ Below w.heap.size w w' := by
 by_cases h1 : a <= n /\ n <= A
 ·rw [if_pos h1]
  have hh : hasN a A n = true := by simp [hasN]; omega
  rcases hc with ⟨rfl, rfl⟩ | ⟨rfl, rfl⟩
  ·exact sref_same1_16 a A n w ha hb hh
  ·exact sref_same1_17 a A n w ha hb hh
 ·rw [if_neg h1]
  have hh : hasN a A n = false := by simp [hasN]; omega
  rcases hc with ⟨rfl, rfl⟩ | ⟨rfl, rfl⟩
  ·exact sref_same2_16 a A n w ha hb hh
  ·exact sref_same2_17 a A n w ha hb hh
theorem sref_not (op : Int) (h : Bool) (hc : (op = 16 /\ h = false) ∨ (op = 17 /\ h = true)) (a A n : Int) (w : World) (ha : 0 <= a /\ a <= A /\ A <= 18446744073709551615) (hb : 0 <= n /\ n <= 18446744073709551615) :
  Calls Tryz.prog 89 #[.int .i64 op, .agg #[.int .u64 a, .int .u64 A], .agg #[.int .u64 n, .int .u64 n], .bool h] w fun e w' => e = .returned (optV (if a = n /\ A = n then none else if a = n then some (n + 1, A) else if A = n then some (a, n - 1) else some (a, A))) /\ Below w.heap.size w w' := by
 by_cases h1 : a = n /\ A = n
 ·rw [if_pos h1]
  obtain ⟨rfl, rfl⟩ := h1
  rcases hc with ⟨rfl, rfl⟩ | ⟨rfl, rfl⟩
  ·exact sref_not1_16 _ w ha hb
  ·exact sref_not1_17 _ w ha hb
 rw [if_neg h1]
 by_cases h2 : a = n
 ·rw [if_pos h2]
  subst h2
  have hX := wrap_in (x := a + 1) (by omega) (by omega)
  have hA : (A == a) = false := by simp; omega
  rcases hc with ⟨rfl, rfl⟩ | ⟨rfl, rfl⟩
  ·exact sref_not2_16 A a w ha hb hA hX
  ·exact sref_not2_17 A a w ha hb hA hX
 rw [if_neg h2]
 have ha' : (a == n) = false := by simpa using h2
 by_cases h3 : A = n
 ·rw [if_pos h3]
  subst h3
  have hX := wrap_in (x := A - 1) (by omega) (by omega)
  rcases hc with ⟨rfl, rfl⟩ | ⟨rfl, rfl⟩
  ·exact sref_not3_16 a A w ha hb ha' hX
  ·exact sref_not3_17 a A w ha hb ha' hX
 ·rw [if_neg h3]
  have hA' : (A == n) = false := by simpa using h3
  rcases hc with ⟨rfl, rfl⟩ | ⟨rfl, rfl⟩
  ·exact sref_not4_16 a A n w ha hb ha' hA'
  ·exact sref_not4_17 a A n w ha hb ha' hA'
theorem srefine_any (op a A b B : Int) (h : Bool) (w : World) (ha : W64 a) (hA : W64 A) (hb : W64 b) (hB : W64 B) :
  Calls Tryz.prog 89 #[.int .i64 op, .agg #[.int .u64 a, .int .u64 A], .agg #[.int .u64 b, .int .u64 B], .bool h] w fun e w' => e = .returned (optV (refineR op a A b B h)) /\ Below w.heap.size w w' := by
 unfold W64 at ha hA hb hB
 unfold refineR
 by_cases c1 : op < 16
 ·rw [if_neg (by omega)]; exact sref_lo op a A b B h w c1
 by_cases c2 : 19 < op
 ·rw [if_neg (by omega)]; exact sref_hi op a A b B h w c1 c2
 have hop : 16 <= op /\ op <= 19 := by omega
 by_cases c3 : a <= A
 case neg => rw [if_neg (by omega)]; exact sref_na op a A b B h w hop (decide_eq_false c3)
 by_cases c4 : b <= B
 case neg => rw [if_neg (by omega)]; exact sref_nb op a A b B h w hop (decide_eq_true c3) (decide_eq_false c4)
 rw [if_pos ⟨hop, c3, c4⟩]
 unfold refineL
 by_cases c5 : b ≠ B
 ·rw [if_pos c5]; exact sref_wide op a A b B h w hop (decide_eq_true c3) (decide_eq_true c4) (by simpa using c5)
 rw [if_neg c5]
 obtain rfl : b = B := by omega
 by_cases c6 : lessB op h = true
 ·rw [if_pos c6]; exact sref_less op h c6 a A b w ⟨ha.1, c3, hA.2⟩ hb
 rw [if_neg c6]
 by_cases c7 : 18 <= op
 ·rw [if_pos c7]
  refine sref_from op h ?_ a A b w ⟨ha.1, c3, hA.2⟩ hb
  have : op = 18 ∨ op = 19 := by omega
  rcases this with rfl | rfl <;> cases h <;> simp [lessB] at c6 ⊢
 rw [if_neg c7]
 have c8 : op = 16 ∨ op = 17 := by omega
 by_cases c9 : sameB op h = true
 ·rw [if_pos c9]
  refine sref_same op h ?_ a A b w ⟨ha.1, c3, hA.2⟩ hb
  rcases c8 with rfl | rfl <;> cases h <;> simp [sameB] at c9 ⊢
 ·rw [if_neg c9]
  refine sref_not op h ?_ a A b w ⟨ha.1, c3, hA.2⟩ hb
  rcases c8 with rfl | rfl <;> cases h <;> simp [sameB] at c9 ⊢
theorem sdo_one (op a b : Int) (w : World) (hop : 1 <= op /\ op <= 10) (ha : 0 <= a /\ a <= 18446744073709551615) (hb : 0 <= b /\ b <= 18446744073709551615) :
  Calls Tryz.prog 87 #[.int .i64 op, .agg #[.int .u64 a, .int .u64 a], .agg #[.int .u64 b, .int .u64 b]] w fun e w' => e = .returned (.tuple #[.agg #[.int .u64 (doL op a b), .int .u64 (doL op a b)], .bool true]) /\ Below w.heap.size w w' := by
 have h1 : decide (a <= a) = true := decide_eq_true (Int.le_refl _)
 have h2 : decide (b <= b) = true := decide_eq_true (Int.le_refl _)
 obtain ⟨N, HN⟩ : ∃ N, Hid (N = doL op a b) := ⟨_, rfl⟩
 obtain ⟨c, HC⟩ : ∃ c, Hid (c = isOp op) := ⟨_, rfl⟩
 rw [<- HN.out]
 go_enter Tryz.func87, Tryz.ntmps87
 go_wp2_with (first
  | (go_at_call 90; go_must (refine (qAd _ _ _).mono ?_); rintro e w' ⟨rfl, rfl⟩)
  | (go_at_call 103; go_must (refine (rdo_as HN HC _ ha hb).mono ?_); rintro e w' ⟨rfl, rfl⟩))
 refine bodyPost_ret (v := .tuple #[.agg #[.int .u64 N, .int .u64 N], .bool true]) ?_ rfl ⟨rfl, by go_grown⟩
 rw [results_cell_tmp rfl]
 simp [asAddr, Result.andThen]
 rw [qAb (a := N) (A := N)]
 all_goals go_cell
end Go.Proofs.YtkcofelpndlplaaGreat
