/-
  JSt
  J9Fits
  JHp
-/
import Derived.Test.YtkondcjmhlppiaaGreatMW27
import Derived.Test.YtkondcjmhlppiaaGreatMW16
import Derived.Test.YtkondcjmhlppiaaGreatMW5
import Derived.Test.YtkondcjmhlppiaaGreatMW12
import Derived.Test.YtkondcjmhlppiaaGreatMW7
import Derived.Deep.MidRow
namespace Go.Proofs.YtkondcjmhlppiaaGreat
open Go.RowKit
set_option linter.unusedVariables false
set_option maxRecDepth 100000
def stC (r : Bool) (s : St) : List Value := .bool r :: flatT s
theorem stC_len (r : Bool) {s : St} (h : s.length = 8) : (stC r s).length = 33 := by simp [stC, flatT_len, h]
theorem stC_size (r : Bool) {s : St} (h : s.length = 8) : (stC r s).toArray.size = 33 := by rw [List.size_toArray]; exact stC_len r h
theorem stC_one (r : Bool) (s : St) : ∀ u ∈ stC r s, u.oneCell' = true := by
 intro u hu
 rcases List.mem_cons.1 hu with rfl | h
 ·rfl
 ·exact flatT_one s u h
theorem stC_all (r : Bool) (s : St) : (stC r s).toArray.all (·.oneCell') = true := all_oneCell_toArray (stC_one r s)
theorem stC_at (r : Bool) (s : St) (k j : Nat) (hk : k < s.length) (hj : j < 4) : (stC r s)[1 + k * 4 + j]? = (tyC (s.getD k Ty.nil))[j]? := by
 rw [show 1 + k * 4 + j = (k * 4 + j) + 1 by omega]
 unfold stC
 rw [List.getElem?_cons_succ]
 exact flatT_at s k j hk hj
abbrev stV (r : Bool) (s : St) : Value := .agg (stC r s).toArray
abbrev stO (r : Bool) (s : St) : Obj := .cells (stC r s).toArray 115
def stZ : St := List.replicate 8 Ty.nil
theorem stZ_len : stZ.length = 8 := rfl
def StAt (w : World) (b o : Nat) (r : Bool) (s : St) : Prop := w.rangeAt b o (stC r s)
theorem StAt.cell {w : World} {b o : Nat} {r : Bool} {s : St} (h : StAt w b o r s) : w.cell? ⟨b, o, none⟩ = some (.bool r) := h 0 _ rfl
theorem StAt.typ {w : World} {b o : Nat} {r : Bool} {s : St} (h : StAt w b o r s) (h8 : s.length = 8) {k : Nat} (hk : k < 8) : AtT w b (o + 1 + k * 4) (s.getD k Ty.nil) := by
 refine cells_atT fun j hj => ?_
 have hc := stC_at r s k j (by omega) hj
 have h4 : j = 0 ∨ j = 1 ∨ j = 2 ∨ j = 3 := by omega
 rcases h4 with rfl | rfl | rfl | rfl <;> (rw [show (tyC (s.getD k Ty.nil))[_]? = some _ from rfl] at hc ⊢; have := h _ _ hc; rw [<- this]; congr 2; omega)
theorem StAt.below {w w' : World} {b o B : Nat} {r : Bool} {s : St} (h : StAt w b o r s) (hb : Below B w w') (hB : b < B) : StAt w' b o r s := fun j v hv => by
 rw [hb.cell (p := ⟨b, o + j, none⟩) hB]; exact h j v hv
theorem stAt_new (w : World) (r : Bool) (s : St) : StAt (w.alloc (stO r s)) w.heap.size 0 r s := fun j v hv => by
 rw [cell_of_row _ _ _ _ _ _ (heap_alloc_new w (stO r s))]
 simpa using hv
theorem box_ret1 {fn : Func} {p : Tmp} {w w2 : World} {n B : Nat} {tmps : Array Value} {t' t : Ty} (hr : fn.results = #[.cell p 112]) (hp : tmps.getD p undef = .pointer (some ⟨n, 0, none⟩))
  (hx : BxT w2 n 0 t') (hB : Below B w w2) (hn : B <= n) : bodyPost Tryz.prog fn (fun e w' => e = .returned (tyV t) /\ Below B w w') .ret ⟨tmps, []⟩ (setT w2 n 0 t) := by
 refine bodyPost_ret (v := tyV t) ?_ rfl ⟨rfl, below_setT hB hn⟩
 rw [results_cell hr, hp]
 simp only [asAddr, Sem.run_pure, Result.andThen]
 rw [run_boxT (hx.1.set t)]
theorem box_keptN {w w2 : World} (n : Nat) (hn : n = w.heap.size) (h : Below (w.alloc (tyO Ty.nil)).heap.size (w.alloc (tyO Ty.nil)) w2) : Below n w w2 /\ n < w2.heap.size /\ Hid (BxT w2 n 0 Ty.nil) /\
  w2.cell? ⟨n, 0, none⟩ = some (.int .i64 0) /\ w2.cell? ⟨n, 1, none⟩ = some (.int .u64 0) /\ w2.cell? ⟨n, 2, none⟩ = some (.int .u64 0) /\ w2.cell? ⟨n, 3, none⟩ = some (.int .i64 0) /\
  w2.frozen? ⟨n, 0, none⟩ = false /\ w2.frozen? ⟨n, 1, none⟩ = false /\ w2.frozen? ⟨n, 2, none⟩ = false /\ w2.frozen? ⟨n, 3, none⟩ = false := by
 subst hn; exact box_kept h
theorem box_one {w w2 : World} {o : Obj} {n : Nat} (hn : n = (w.alloc o).heap.size) (h : Below n (w.alloc o) w2) : Below w.heap.size w w2 := by
 subst hn
 exact ((Below.refl _ _).alloc (Nat.le_refl _) o).trans (h.mono (by simp))
theorem splice_flat {α β : Type} {f : α -> List β} {n : Nat} {y : α} {vs : List β} {o : Nat} : ∀ (l : List α) (k : Nat) (d : α), (∀ x ∈ l, (f x).length = n) -> k < l.length -> o + vs.length <= n -> splice (f (l.getD k d)) o vs = f y -> splice (l.flatMap f) (k * n + o) vs = (l.set k y).flatMap f := by
 intro l
 induction l with
 | nil => intro k d _ h; simp at h
 | cons x l ih =>
  intro k d hl hk ho h
  have hx : (f x).length = n := hl x (by simp)
  cases k with
  | zero =>
   simp only [List.flatMap_cons, List.set_cons_zero, Nat.zero_mul, Nat.zero_add]
   rw [splice_ahead _ _ _ _ (by omega)]
   rw [show (x :: l).getD 0 d = x from rfl] at h
   rw [h]
  | succ k =>
   simp only [List.flatMap_cons, List.set_cons_succ]
   rw [show (k + 1) * n + o = (f x).length + (k * n + o) by rw [hx, Nat.succ_mul]; omega, splice_behind]
   rw [ih k d (fun z hz => hl z (by simp [hz])) (by simpa using hk) ho (by simpa using h)]
theorem flatN_len {α β : Type} {f : α -> List β} {n : Nat} : ∀ (l : List α), (∀ x ∈ l, (f x).length = n) -> (l.flatMap f).length = l.length * n := by
 intro l
 induction l with
 | nil => intro _; simp
 | cons x l ih =>
  intro h
  rw [List.flatMap_cons, List.length_append, h x (by simp), ih (fun z hz => h z (by simp [hz])), List.length_cons, Nat.succ_mul]
  omega
theorem flatN_at {α β : Type} {f : α -> List β} {n : Nat} : ∀ (l : List α) (k j : Nat) (d : α), (∀ x ∈ l, (f x).length = n) -> k < l.length -> j < n -> (l.flatMap f)[k * n + j]? = (f (l.getD k d))[j]? := by
 intro l
 induction l with
 | nil => intro k j d _ h; simp at h
 | cons x l ih =>
  intro k j d hl hk hj
  have hx : (f x).length = n := hl x (by simp)
  cases k with
  | zero =>
   simp only [List.flatMap_cons, Nat.zero_mul, Nat.zero_add]
   rw [List.getElem?_append_left (by omega)]
   rfl
  | succ k =>
   simp only [List.flatMap_cons]
   rw [show (k + 1) * n + j = (f x).length + (k * n + j) by rw [hx, Nat.succ_mul]; omega, List.getElem?_append_right (by omega), show (f x).length + (k * n + j) - (f x).length = k * n + j by omega]
   rw [ih k j d (fun z hz => hl z (by simp [hz])) (by simpa using hk) hj]
   simp

abbrev Kn := List (Bool × St)
def kn0 : Bool × St := (false, stZ)
def flatK (K : Kn) : List Value := K.flatMap fun p => stC p.1 p.2
def Eight (K : Kn) : Prop := ∀ p ∈ K, p.2.length = 8
theorem Eight.cells {K : Kn} (h : Eight K) : ∀ p ∈ K, (stC p.1 p.2).length = 33 := fun p hp => stC_len p.1 (h p hp)
theorem Eight.at {K : Kn} (h : Eight K) (k : Nat) : (K.getD k kn0).2.length = 8 := by
 by_cases hk : k < K.length
 ·rw [show K.getD k kn0 = K[k] by simp [List.getD, List.getElem?_eq_getElem hk]]; exact h _ (List.getElem_mem hk)
 ·rw [show K.getD k kn0 = kn0 by simp [List.getD, List.getElem?_eq_none (show K.length <= k by omega)]]; rfl
theorem Eight.set {K : Kn} (h : Eight K) (k : Nat) {p : Bool × St} (hp : p.2.length = 8) : Eight (K.set k p) := fun q hq => by
 rcases List.mem_or_eq_of_mem_set hq with h1 | h1
 ·exact h q h1
 ·rw [h1]; exact hp
theorem flatK_len {K : Kn} (h : Eight K) : (flatK K).length = K.length * 33 := flatN_len K h.cells
theorem flatK_at {K : Kn} (h : Eight K) {k j : Nat} (hk : k < K.length) (hj : j < 33) : (flatK K)[k * 33 + j]? = (stC (K.getD k kn0).1 (K.getD k kn0).2)[j]? := flatN_at K k j kn0 h.cells hk hj
theorem Hp.state {w : World} {b : Nat} {t : TypeId} {K : Kn} (h : Hp w b t (flatK K)) (h8 : Eight K) {k : Nat} (hk : k < K.length) {r : Bool} {s : St} (hs : K.getD k kn0 = (r, s)) : StAt w b (k * 33) r s := by
 have hc := h8.at k
 rw [hs] at hc
 refine h.range fun j hj => ?_
 rw [stC_len r hc] at hj
 rw [flatK_at h8 hk hj, hs]
theorem Hp.put {w : World} {b : Nat} {t : TypeId} {K : Kn} (h : Hp w b t (flatK K)) (h8 : Eight K) {k : Nat} (hk : k < K.length) (r : Bool) {s : St} (hs : s.length = 8) : Hp (w.setCells b (k * 33) (stC r s)) b t (flatK (K.set k (r, s))) := by
 have := h.sets (stC r s) (k * 33)
 rw [show splice (flatK K) (k * 33) (stC r s) = flatK (K.set k (r, s)) from ?_] at this
 ·exact this
 ·have e := splice_flat (f := fun p : Bool × St => stC p.1 p.2) (n := 33) (y := (r, s)) (vs := stC r s) (o := 0) K k kn0 h8.cells hk (by rw [stC_len r hs]; omega) (splice_all _ _ (by rw [stC_len r hs, stC_len _ (h8.at k)]))
  rw [Nat.add_zero] at e
  exact e
theorem stC_put {r : Bool} {s : St} {k : Nat} (t : Ty) (hs : s.length = 8) (hk : k < 8) : splice (stC r s) (1 + k * 4) (tyC t) = stC r (s.set k t) := by
 have e := splice_behind (tyC t) [Value.bool r] (flatT s) (k * 4)
 have e2 := splice_flat (f := tyC) (n := 4) (y := t) (vs := tyC t) (o := 0) s k Ty.nil (fun x _ => rfl) (by omega) (Nat.le_refl _) (splice_all _ _ rfl)
 rw [Nat.add_zero] at e2
 show splice ([Value.bool r] ++ flatT s) (1 + k * 4) (tyC t) = _
 rw [show (1 + k * 4) = [Value.bool r].length + k * 4 from rfl, e]
 show _ = [Value.bool r] ++ flatT (s.set k t)
 unfold flatT
 rw [e2]
theorem Hp.putT {w : World} {b : Nat} {t : TypeId} {K : Kn} (h : Hp w b t (flatK K)) (h8 : Eight K) {k n : Nat} (hk : k < K.length) {r : Bool} {s : St} (hs : K.getD k kn0 = (r, s)) (hn : n < 8) (u : Ty) : Hp (setT w b (k * 33 + 1 + n * 4) u) b t (flatK (K.set k (r, s.set n u))) := by
 have h1 := h8.at k
 rw [hs] at h1
 have := h.sets (tyC u) (k * 33 + (1 + n * 4))
 rw [show splice (flatK K) (k * 33 + (1 + n * 4)) (tyC u) = flatK (K.set k (r, s.set n u)) from ?_] at this
 ·rw [show k * 33 + 1 + n * 4 = k * 33 + (1 + n * 4) by omega]
  exact this
 ·exact splice_flat (f := fun p : Bool × St => stC p.1 p.2) (n := 33) (y := (r, s.set n u)) (vs := tyC u) (o := 1 + n * 4) K k kn0 h8.cells hk (by show 1 + n * 4 + 4 <= 33; omega) (by rw [hs]; exact stC_put u h1 hn)
theorem Hp.boxT {w : World} {b : Nat} {t : TypeId} {r : Bool} {s : St} (h : Hp w b t (stC r s)) (hs : s.length = 8) {n : Nat} (hn : n < 8) (u : Ty) : Hp (setT w b (1 + n * 4) u) b t (stC r (s.set n u)) := by
 have := h.sets (tyC u) (1 + n * 4)
 rw [stC_put u hs hn] at this
 exact this
theorem Hp.box {w : World} {b : Nat} {t : TypeId} {cs : List Value} {r : Bool} {s : St} (h : Hp w b t cs) (hc : cs.length = 33) (hs : s.length = 8) : Hp (w.setCells b 0 (stC r s)) b t (stC r s) := by
 have := h.sets (stC r s) 0
 rw [splice_all _ _ (by rw [stC_len r hs, hc])] at this
 exact this
theorem Hp.one {w : World} {b : Nat} {t : TypeId} {r : Bool} {s : St} (h : Hp w b t (stC r s)) : StAt w b 0 r s := h.range fun j _ => by rw [Nat.zero_add]
end Go.Proofs.YtkondcjmhlppiaaGreat
