/-
  J9Fits
  JSt
  JHp
-/
import Derived.Test.YtkcofelpndlplaaGreatMT19
import Derived.Test.YtkcofelpndlplaaGreatMT21
import Derived.Test.YtkcofelpndlplaaGreatMT5
import Derived.Test.YtkcofelpndlplaaGreatMT16
import Derived.Deep.MidRow
namespace Go.Proofs.YtkcofelpndlplaaGreat
open Go.RowKit
set_option linter.unusedVariables false
set_option maxRecDepth 100000
theorem jnum_any (lo hi : Int) (w : World) : Calls Tryz.prog 67 #[.int .u64 lo, .int .u64 hi] w fun e w' => e = .returned (tyV ⟨1, lo, hi, 0⟩) /\ Below w.heap.size w w' := by
 go_enter Tryz.func67, Tryz.ntmps67
 go_wp2
 refine bodyPost_ret (v := tyV ⟨1, lo, hi, 0⟩) ?_ rfl ⟨rfl, by go_grown⟩
 rw [qAo rfl]
 simp [asAddr, Result.andThen]
 rw [qBy (k := 1) (lo := lo) (hi := hi) (m := 0)]
 refine ⟨?_, ?_, ?_, ?_⟩ <;> go_cell
theorem qBn {fn : Func} {p : Tmp} {w w2 : World} {n B : Nat} {tmps : Array Value} {t' t : Ty} (hr : fn.results = #[.cell p 46]) (hp : tmps.getD p undef = .pointer (some ⟨n, 0, none⟩))
  (hx : BxT w2 n 0 t') (hB : Below B w w2) (hn : B <= n) : bodyPost Tryz.prog fn (fun e w' => e = .returned (tyV t) /\ Below B w w') .ret ⟨tmps, []⟩ (setT w2 n 0 t) := by
 refine bodyPost_ret (v := tyV t) ?_ rfl ⟨rfl, qAn hB hn⟩
 rw [qAo hr, hp]
 simp only [asAddr, Sem.run_pure, Result.andThen]
 rw [qBy (hx.1.set t)]
theorem box_keptN {w w2 : World} (n : Nat) (hn : n = w.heap.size) (h : Below (w.alloc (tyO Ty.nil)).heap.size (w.alloc (tyO Ty.nil)) w2) : Below n w w2 /\ n < w2.heap.size /\ Hid (BxT w2 n 0 Ty.nil) /\
  w2.cell? ⟨n, 0, none⟩ = some (.int .i64 0) /\ w2.cell? ⟨n, 1, none⟩ = some (.int .u64 0) /\ w2.cell? ⟨n, 2, none⟩ = some (.int .u64 0) /\ w2.cell? ⟨n, 3, none⟩ = some (.int .i64 0) /\
  w2.frozen? ⟨n, 0, none⟩ = false /\ w2.frozen? ⟨n, 1, none⟩ = false /\ w2.frozen? ⟨n, 2, none⟩ = false /\ w2.frozen? ⟨n, 3, none⟩ = false := by
 subst hn; exact qBo h
theorem box_one {w w2 : World} {o : Obj} {n : Nat} (hn : n = (w.alloc o).heap.size) (h : Below n (w.alloc o) w2) : Below w.heap.size w w2 := by
 subst hn
 exact ((Below.refl _ _).alloc (Nat.le_refl _) o).trans (h.mono (by simp))
theorem jfull_any (w : World) : Calls Tryz.prog 35 #[] w fun e w' => e = .returned (tyV fullT) /\ Below w.heap.size w w' := by
 go_enter Tryz.func35, Tryz.ntmps35
 go_wp2_with (go_at_call 67; go_must (refine (jnum_any _ _ _).mono ?_); rintro e w1 ⟨rfl, hb1⟩; go_must (obtain ⟨hB2, hz, HX, c0, c1, c2, c3, f0, f1, f2, f3⟩ := qBo hb1; clear hb1))
 exact qBn rfl rfl (t := fullT) HX.out hB2 (Nat.le_refl _)
theorem jfits_any (a b : Ty) (w : World) : Calls Tryz.prog 40 #[tyV a, tyV b] w fun e w' => e = .returned (.bool (fitsJ a b)) /\ Below w.heap.size w w' := by
 obtain ⟨ak, al, ah, am⟩ := a
 obtain ⟨bk, bl, bh, bm⟩ := b
 by_cases h0 : bk = 0
 ·subst h0
  have HE : Hid (fitsJ ⟨ak, al, ah, am⟩ ⟨0, bl, bh, bm⟩ = true) := by show _ = _; unfold fitsJ; simp
  go_enter Tryz.func40, Tryz.ntmps40
  go_wp2
  go_ret
  exact ⟨rb HE.out.symm, by go_grown⟩
 by_cases hk : ak = bk
 case neg =>
  have HE : Hid (fitsJ ⟨ak, al, ah, am⟩ ⟨bk, bl, bh, bm⟩ = false) := by show _ = _; unfold fitsJ; simp [h0, hk]
  go_enter Tryz.func40, Tryz.ntmps40
  go_wp2
  go_ret
  exact ⟨rb HE.out.symm, by go_grown⟩
 subst hk
 by_cases h1 : ak = 1
 ·subst h1
  obtain ⟨r, HR⟩ : ∃ r, Hid (r = withinB al ah bl bh) := ⟨_, rfl⟩
  have HE : Hid (fitsJ ⟨1, al, ah, am⟩ ⟨1, bl, bh, bm⟩ = r) := by show _ = _; unfold fitsJ; simp [<- HR.out]
  go_enter Tryz.func40, Tryz.ntmps40
  go_wp2_with (go_at_call 69; go_must (refine (rwithin_any _ _ _ _ _).mono ?_); rintro e w1 ⟨rfl, hb1⟩; rw [<- HR.out])
  go_ret
  exact ⟨rb HE.out.symm, grow2b hb1⟩
 ·have HE : Hid (fitsJ ⟨ak, al, ah, am⟩ ⟨ak, bl, bh, bm⟩ = decide (am = bm)) := by show _ = _; unfold fitsJ; simp [h0, h1]
  go_enter Tryz.func40, Tryz.ntmps40
  go_wp2
  go_ret
  exact ⟨rb (by rw [HE.out]; rfl), by go_grown⟩
theorem jfits_as {a b : Ty} {r : Bool} (h : Hid (r = fitsJ a b)) (w : World) : Calls Tryz.prog 40 #[tyV a, tyV b] w fun e w' => e = .returned (.bool r) /\ Below w.heap.size w w' := by
 rw [h.out]; exact jfits_any a b w
theorem jsource_any (i : In) (v : Value) (s : St) (w : World) (hs : SeesT w v s) (hl : s.length = 8) (hb : i.b = 8 ∨ (0 <= i.b /\ i.b <= 7)) :
  Calls Tryz.prog 37 #[i.v, v] w fun e w' => e = .returned (tyV (srcT i s)) /\ Below w.heap.size w w' := by
 obtain ⟨op, d, a, b, imm⟩ := i
 simp only at hb
 by_cases h8 : b = 8
 ·subst h8
  have hw : IntKind.u64.wrap imm = u64 imm := by rw [IntKind.wrap_u64]; rfl
  have HE : Hid (srcT ⟨op, d, a, 8, imm⟩ s = num2 (u64 imm) (u64 imm)) := by show _ = _; unfold srcT; rw [if_pos rfl]
  clear hs
  go_enter Tryz.func37, Tryz.ntmps37
  go_wp2_with (go_at_call 67; go_must (refine (jnum_any _ _ _).mono ?_); rintro e w1 ⟨rfl, hb1⟩; go_must (obtain ⟨hB2, hz, HX, c0, c1, c2, c3, f0, f1, f2, f3⟩ := box_keptN (w.heap.size + 1) (by simp) hb1; clear hb1))
  rw [HE.out]
  exact qBn rfl rfl (t := num2 (u64 imm) (u64 imm)) HX.out (box_one (by simp) hB2) (by omega)
 ·obtain ⟨r, rfl⟩ := Int.eq_ofNat_of_zero_le (show 0 <= b by omega)
  have hr : r < 8 := by omega
  obtain ⟨ad, cap, rfl, hcap, hmax, _, hcell⟩ := hs
  obtain ⟨bk, off, rfl, hlt, hat⟩ := hcell (fun e => by rw [e] at hl; simp at hl)
  obtain ⟨tk, tl, th, tm, HT⟩ : ∃ k lo hi m, Hid (s.getD r Ty.nil = ⟨k, lo, hi, m⟩) := ⟨_, _, _, _, rfl⟩
  have hA := hat r (by omega)
  rw [HT.out] at hA
  have HE : Hid (srcT ⟨op, d, a, r, imm⟩ s = ⟨tk, tl, th, tm⟩) := by show _ = _; unfold srcT regT; rw [if_neg h8]; exact HT.out
  unfold maxLen at hmax
  rw [hl] at hcap ⊢
  obtain ⟨g0, g1, g2, g3⟩ := hA
  simp only at g0 g1 g2 g3
  clear hat hcell
  go_enter Tryz.func37, Tryz.ntmps37
  go_wp2
  rw [HE.out]
  refine bodyPost_ret (v := tyV ⟨tk, tl, th, tm⟩) ?_ rfl ⟨rfl, by go_grown⟩
  rw [qAo rfl]
  simp [asAddr, Result.andThen]
  rw [qBy (k := tk) (lo := tl) (hi := th) (m := tm)]
  refine ⟨?_, ?_, ?_, ?_⟩ <;> go_cell
theorem qBb {i : In} {v : Value} {s : St} {w : World} (hs : SeesT w v s) (hl : s.length = 8) (hb : i.b = 8 ∨ (0 <= i.b /\ i.b <= 7)) {k lo hi m : Int} (h : Hid (srcT i s = ⟨k, lo, hi, m⟩)) :
  Calls Tryz.prog 37 #[i.v, v] w fun e w' => e = .returned (.agg #[.int .i64 k, .int .u64 lo, .int .u64 hi, .int .i64 m]) /\ Below w.heap.size w w' := by
 have := jsource_any i v s w hs hl hb; rw [h.out] at this; exact this
def stC (r : Bool) (s : St) : List Value := .bool r :: flatT s
theorem stC_len (r : Bool) {s : St} (h : s.length = 8) : (stC r s).length = 33 := by simp [stC, qCq, h]
theorem qAx (r : Bool) {s : St} (h : s.length = 8) : (stC r s).toArray.size = 33 := by rw [List.size_toArray]; exact stC_len r h
theorem stC_one (r : Bool) (s : St) : ∀ u ∈ stC r s, u.oneCell' = true := by
 intro u hu
 rcases List.mem_cons.1 hu with rfl | h
 ·rfl
 ·exact flatT_one s u h
theorem qBf (r : Bool) (s : St) : (stC r s).toArray.all (·.oneCell') = true := all_oneCell_toArray (stC_one r s)
theorem stC_at (r : Bool) (s : St) (k j : Nat) (hk : k < s.length) (hj : j < 4) : (stC r s)[1 + k * 4 + j]? = (tyC (s.getD k Ty.nil))[j]? := by
 rw [show 1 + k * 4 + j = (k * 4 + j) + 1 by omega]
 unfold stC
 rw [List.getElem?_cons_succ]
 exact flatT_at s k j hk hj
abbrev stV (r : Bool) (s : St) : Value := .agg (stC r s).toArray
abbrev stO (r : Bool) (s : St) : Obj := .cells (stC r s).toArray 62
def stZ : St := List.replicate 8 Ty.nil
theorem stZ_len : stZ.length = 8 := rfl
def StAt (w : World) (b o : Nat) (r : Bool) (s : St) : Prop := w.rangeAt b o (stC r s)
theorem StAt.cell {w : World} {b o : Nat} {r : Bool} {s : St} (h : StAt w b o r s) : w.cell? ⟨b, o, none⟩ = some (.bool r) := h 0 _ rfl
theorem StAt.typ {w : World} {b o : Nat} {r : Bool} {s : St} (h : StAt w b o r s) (h8 : s.length = 8) {k : Nat} (hk : k < 8) : AtT w b (o + 1 + k * 4) (s.getD k Ty.nil) := by
 refine cells_atT fun j hj => ?_
 have hc := stC_at r s k j (by omega) hj
 have h4 : j = 0 ∨ j = 1 ∨ j = 2 ∨ j = 3 := by omega
 rcases h4 with rfl | rfl | rfl | rfl <;> (rw [show (tyC (s.getD k Ty.nil))[_]? = some _ from rfl] at hc ⊢; have := h _ _ hc; rw [<- this]; congr 2; omega)
theorem StAt.below {w w' : World} {b o B : Nat} {r : Bool} {s : St} (h : StAt w b o r s) (hb : Below B w w') (hB : b < B) : StAt w' b o r s := fun j v hv => by
 rw [hb.cell (p := ⟨b, o + j, none⟩) hB]; exact h j v hv
theorem stAt_new (w : World) (r : Bool) (s : St) : StAt (w.alloc (stO r s)) w.heap.size 0 r s := fun j v hv => by
 rw [cell_of_row _ _ _ _ _ _ (heap_alloc_new w (stO r s))]
 simpa using hv
def splice {α : Type} : List α -> Nat -> List α -> List α
 | cs, _, [] => cs
 | cs, o, v :: r => splice (cs.set o v) (o + 1) r
theorem splice_behind {α : Type} (vs : List α) : ∀ (a b : List α) (o : Nat), splice (a ++ b) (a.length + o) vs = a ++ splice b o vs := by
 induction vs with
 | nil => intro a b o; rfl
 | cons v r ih =>
  intro a b o
  simp only [splice]
  rw [List.set_append_right _ _ (by omega), show a.length + o - a.length = o by omega, show a.length + o + 1 = a.length + (o + 1) by omega, ih]
theorem splice_ahead {α : Type} (vs : List α) : ∀ (a b : List α) (o : Nat), o + vs.length <= a.length -> splice (a ++ b) o vs = splice a o vs ++ b := by
 induction vs with
 | nil => intro a b o _; rfl
 | cons v r ih =>
  intro a b o h
  simp only [List.length_cons] at h
  simp only [splice]
  rw [List.set_append_left _ _ (by omega), ih _ _ _ (by simp; omega)]
theorem splice_all {α : Type} : ∀ (vs a : List α), vs.length = a.length -> splice a 0 vs = vs := by
  have key : ∀ (vs p a : List α), vs.length = a.length -> splice (p ++ a) p.length vs = p ++ vs := by
    intro vs
    induction vs with
    | nil => intro p a h; have : a = [] := by simpa using h.symm
             subst this; rfl
    | cons v r ih =>
      intro p a h
      cases a with
      | nil => simp at h
      | cons x a =>
        simp only [splice]
        have := ih (p ++ [v]) a (by simpa using h)
        rw [List.set_append_right _ _ (by omega)]
        simp only [Nat.sub_self, List.set_cons_zero]
        simpa using this
  intro vs a h
  exact key vs [] a h
theorem splice_flat {α β : Type} {f : α -> List β} {n : Nat} {y : α} {vs : List β} {o : Nat} : ∀ (l : List α) (k : Nat) (d : α), (∀ x ∈ l, (f x).length = n) -> k < l.length -> o + vs.length <= n -> splice (f (l.getD k d)) o vs = f y -> splice (l.flatMap f) (k * n + o) vs = (l.set k y).flatMap f := by
 intro l
 induction l with
 | nil => intro k d _ h; simp at h
 | cons x l ih =>
  intro k d hl hk ho h
  have hx : (f x).length = n := hl x (by simp)
  cases k with
  | zero =>
   simp only [List.flatMap_cons, List.set_cons_zero, Nat.zero_mul, Nat.zero_add]
   rw [splice_ahead _ _ _ _ (by omega)]
   rw [show (x :: l).getD 0 d = x from rfl] at h
   rw [h]
  | succ k =>
   simp only [List.flatMap_cons, List.set_cons_succ]
   rw [show (k + 1) * n + o = (f x).length + (k * n + o) by rw [hx, Nat.succ_mul]; omega, splice_behind]
   rw [ih k d (fun z hz => hl z (by simp [hz])) (by simpa using hk) ho (by simpa using h)]
theorem flatN_len {α β : Type} {f : α -> List β} {n : Nat} : ∀ (l : List α), (∀ x ∈ l, (f x).length = n) -> (l.flatMap f).length = l.length * n := by
 intro l
 induction l with
 | nil => intro _; simp
 | cons x l ih =>
  intro h
  rw [List.flatMap_cons, List.length_append, h x (by simp), ih (fun z hz => h z (by simp [hz])), List.length_cons, Nat.succ_mul]
  omega
theorem flatN_at {α β : Type} {f : α -> List β} {n : Nat} : ∀ (l : List α) (k j : Nat) (d : α), (∀ x ∈ l, (f x).length = n) -> k < l.length -> j < n -> (l.flatMap f)[k * n + j]? = (f (l.getD k d))[j]? := by
 intro l
 induction l with
 | nil => intro k j d _ h; simp at h
 | cons x l ih =>
  intro k j d hl hk hj
  have hx : (f x).length = n := hl x (by simp)
  cases k with
  | zero =>
   simp only [List.flatMap_cons, Nat.zero_mul, Nat.zero_add]
   rw [List.getElem?_append_left (by omega)]
   rfl
  | succ k =>
   simp only [List.flatMap_cons]
   rw [show (k + 1) * n + j = (f x).length + (k * n + j) by rw [hx, Nat.succ_mul]; omega, List.getElem?_append_right (by omega), show (f x).length + (k * n + j) - (f x).length = k * n + j by omega]
   rw [ih k j d (fun z hz => hl z (by simp [hz])) (by simpa using hk) hj]
   simp

def Hp (w : World) (b : Nat) (t : TypeId) (cs : List Value) : Prop := w.heap[b]? = some (.cells cs.toArray t (0, 0))
theorem Hp.lt {w : World} {b : Nat} {t : TypeId} {cs : List Value} (h : Hp w b t cs) : b < w.heap.size := (Array.getElem?_eq_some_iff.1 h).1
theorem Hp.cell {w : World} {b j : Nat} {t : TypeId} {cs : List Value} (h : Hp w b t cs) {v : Value} (hj : cs[j]? = some v) : w.cell? ⟨b, j, none⟩ = some v := by
 rw [cell_of_row w b j _ _ _ h]; simpa using hj
theorem Hp.frozen {w : World} {b : Nat} {t : TypeId} {cs : List Value} (h : Hp w b t cs) (j : Nat) : w.frozen? ⟨b, j, none⟩ = false := by
 unfold Hp at h
 simp [World.frozen?, h]
theorem Hp.range {w : World} {b : Nat} {t : TypeId} {cs : List Value} (h : Hp w b t cs) {o : Nat} {l : List Value} (hl : ∀ j, j < l.length -> cs[o + j]? = l[j]?) : w.rangeAt b o l := fun j v hv => by
 have hj : j < l.length := (List.getElem?_eq_some_iff.1 hv).1
 exact h.cell ((hl j hj).trans hv)
theorem Hp.there {w : World} {b : Nat} {t : TypeId} {cs : List Value} (h : Hp w b t cs) {o n : Nat} (hn : o + n <= cs.length) : w.there b o n := fun j hj =>
 ⟨by rw [h.cell (List.getElem?_eq_getElem (show o + j < cs.length by omega))]; rfl, h.frozen _⟩
theorem Hp.below {w w' : World} {b B : Nat} {t : TypeId} {cs : List Value} (h : Hp w b t cs) (hb : Below B w w') (hB : b < B) : Hp w' b t cs := by
 unfold Hp; rw [hb.block b hB]; exact h
theorem Hp.grown {w w' : World} {b : Nat} {t : TypeId} {cs : List Value} {row : Option Nat} (h : Hp w b t cs) (hg : w.grownBy w' row) (hne : some b ≠ row) : Hp w' b t cs := by
 unfold Hp; rw [hg.block b h.lt hne]; exact h
theorem Hp.drew {w : World} {b : Nat} {t : TypeId} {cs : List Value} (h : Hp w b t cs) : Hp w.drew b t cs := h
theorem Hp.alloc {w : World} {b : Nat} {t : TypeId} {cs : List Value} (h : Hp w b t cs) (o : Obj) : Hp (w.alloc o) b t cs := by
 unfold Hp; rw [Below.heap_alloc _ _ _ h.lt]; exact h
theorem Hp.new (w : World) (cs : List Value) (t : TypeId) : Hp (w.alloc (.cells cs.toArray t)) w.heap.size t cs := heap_alloc_new w _
theorem Hp.set {w : World} {b : Nat} {t : TypeId} {cs : List Value} (h : Hp w b t cs) (i : Nat) (v : Value) : Hp (w.setCell ⟨b, i, none⟩ v) b t (cs.set i v) := by
 have := heap_setCell_same w b i cs.toArray t v h
 unfold Hp
 rw [this]
 simp
theorem Hp.far {w : World} {b : Nat} {t : TypeId} {cs : List Value} (h : Hp w b t cs) {b' i : Nat} {v : Value} (hn : b ≠ b') : Hp (w.setCell ⟨b', i, none⟩ v) b t cs := by
 unfold Hp; rw [Below.heap_setCell _ _ _ _ hn]; exact h
theorem Hp.sets {b : Nat} {t : TypeId} : ∀ (vs : List Value) {w : World} {cs : List Value} (o : Nat), Hp w b t cs -> Hp (w.setCells b o vs) b t (splice cs o vs) := by
 intro vs
 induction vs with
 | nil => intro w cs o h; exact h
 | cons v r ih => intro w cs o h; exact ih (o + 1) (h.set o v)
theorem Hp.fars {b b' : Nat} {t : TypeId} {cs : List Value} (hn : b ≠ b') : ∀ (vs : List Value) {w : World} (o : Nat), Hp w b t cs -> Hp (w.setCells b' o vs) b t cs := by
 intro vs
 induction vs with
 | nil => intro w o h; exact h
 | cons v r ih => intro w o h; exact ih (o + 1) (h.far hn)
theorem grownJ_refl (w : World) (row : Option Nat) : w.grownBy w row := ⟨rfl, rfl, rfl, Nat.le_refl _, fun _ _ _ => rfl⟩
theorem qCw {w w1 w2 : World} {row : Option Nat} (h : w.grownBy w1 row) (g : w1.grownBy w2 row) : w.grownBy w2 row :=
 ⟨g.os.trans h.os, g.tape.trans h.tape, g.output.trans h.output, Nat.le_trans h.size g.size, fun k hk hne => (g.block k (Nat.lt_of_lt_of_le hk h.size) hne).trans (h.block k hk hne)⟩
theorem grown_set (w : World) (b i : Nat) (v : Value) : w.grownBy (w.setCell ⟨b, i, none⟩ v) (some b) :=
 ⟨rfl, rfl, rfl, by simp [World.setCell], fun k _ hne => Below.heap_setCell _ _ _ _ (fun e => hne (by rw [e]))⟩
theorem qAc (b : Nat) : ∀ (vs : List Value) (w : World) (o : Nat), w.grownBy (w.setCells b o vs) (some b) := by
 intro vs
 induction vs with
 | nil => intro w o; exact grownJ_refl _ _
 | cons v r ih => intro w o; exact qCw (grown_set w b o v) (ih _ _)
theorem grown_undrew {w w' : World} {row : Option Nat} (h : w.drew.grownBy w' row) : w.grownBy w' row := ⟨h.os, h.tape, h.output, h.size, h.block⟩
theorem grown_of_below {w w' : World} (h : Below w.heap.size w w') (row : Option Nat) : w.grownBy w' row := ⟨h.os, h.tape, h.output, h.size, fun k hk _ => h.block k hk⟩
theorem qAe {w w' : World} {kb B : Nat} (h : w.grownBy w' (some kb)) (hB : B <= kb) (hw : B <= w.heap.size) : Below B w w' :=
 ⟨h.os, h.tape, h.output, h.size, fun k hk => h.block k (by omega) (fun e => by injection e with e; omega)⟩

abbrev Kn := List (Bool × St)
def kn0 : Bool × St := (false, stZ)
def flatK (K : Kn) : List Value := K.flatMap fun p => stC p.1 p.2
def Eight (K : Kn) : Prop := ∀ p ∈ K, p.2.length = 8
theorem Eight.cells {K : Kn} (h : Eight K) : ∀ p ∈ K, (stC p.1 p.2).length = 33 := fun p hp => stC_len p.1 (h p hp)
theorem Eight.at {K : Kn} (h : Eight K) (k : Nat) : (K.getD k kn0).2.length = 8 := by
 by_cases hk : k < K.length
 ·rw [show K.getD k kn0 = K[k] by simp [List.getD, List.getElem?_eq_getElem hk]]; exact h _ (List.getElem_mem hk)
 ·rw [show K.getD k kn0 = kn0 by simp [List.getD, List.getElem?_eq_none (show K.length <= k by omega)]]; rfl
theorem Eight.set {K : Kn} (h : Eight K) (k : Nat) {p : Bool × St} (hp : p.2.length = 8) : Eight (K.set k p) := fun q hq => by
 rcases List.mem_or_eq_of_mem_set hq with h1 | h1
 ·exact h q h1
 ·rw [h1]; exact hp
theorem flatK_len {K : Kn} (h : Eight K) : (flatK K).length = K.length * 33 := flatN_len K h.cells
theorem flatK_at {K : Kn} (h : Eight K) {k j : Nat} (hk : k < K.length) (hj : j < 33) : (flatK K)[k * 33 + j]? = (stC (K.getD k kn0).1 (K.getD k kn0).2)[j]? := flatN_at K k j kn0 h.cells hk hj
theorem Hp.state {w : World} {b : Nat} {t : TypeId} {K : Kn} (h : Hp w b t (flatK K)) (h8 : Eight K) {k : Nat} (hk : k < K.length) {r : Bool} {s : St} (hs : K.getD k kn0 = (r, s)) : StAt w b (k * 33) r s := by
 have hc := h8.at k
 rw [hs] at hc
 refine h.range fun j hj => ?_
 rw [stC_len r hc] at hj
 rw [flatK_at h8 hk hj, hs]
theorem Hp.put {w : World} {b : Nat} {t : TypeId} {K : Kn} (h : Hp w b t (flatK K)) (h8 : Eight K) {k : Nat} (hk : k < K.length) (r : Bool) {s : St} (hs : s.length = 8) : Hp (w.setCells b (k * 33) (stC r s)) b t (flatK (K.set k (r, s))) := by
 have := h.sets (stC r s) (k * 33)
 rw [show splice (flatK K) (k * 33) (stC r s) = flatK (K.set k (r, s)) from ?_] at this
 ·exact this
 ·have e := splice_flat (f := fun p : Bool × St => stC p.1 p.2) (n := 33) (y := (r, s)) (vs := stC r s) (o := 0) K k kn0 h8.cells hk (by rw [stC_len r hs]; omega) (splice_all _ _ (by rw [stC_len r hs, stC_len _ (h8.at k)]))
  rw [Nat.add_zero] at e
  exact e
theorem stC_put {r : Bool} {s : St} {k : Nat} (t : Ty) (hs : s.length = 8) (hk : k < 8) : splice (stC r s) (1 + k * 4) (tyC t) = stC r (s.set k t) := by
 have e := splice_behind (tyC t) [Value.bool r] (flatT s) (k * 4)
 have e2 := splice_flat (f := tyC) (n := 4) (y := t) (vs := tyC t) (o := 0) s k Ty.nil (fun x _ => rfl) (by omega) (Nat.le_refl _) (splice_all _ _ rfl)
 rw [Nat.add_zero] at e2
 show splice ([Value.bool r] ++ flatT s) (1 + k * 4) (tyC t) = _
 rw [show (1 + k * 4) = [Value.bool r].length + k * 4 from rfl, e]
 show _ = [Value.bool r] ++ flatT (s.set k t)
 unfold flatT
 rw [e2]
theorem Hp.putT {w : World} {b : Nat} {t : TypeId} {K : Kn} (h : Hp w b t (flatK K)) (h8 : Eight K) {k n : Nat} (hk : k < K.length) {r : Bool} {s : St} (hs : K.getD k kn0 = (r, s)) (hn : n < 8) (u : Ty) : Hp (setT w b (k * 33 + 1 + n * 4) u) b t (flatK (K.set k (r, s.set n u))) := by
 have h1 := h8.at k
 rw [hs] at h1
 have := h.sets (tyC u) (k * 33 + (1 + n * 4))
 rw [show splice (flatK K) (k * 33 + (1 + n * 4)) (tyC u) = flatK (K.set k (r, s.set n u)) from ?_] at this
 ·rw [show k * 33 + 1 + n * 4 = k * 33 + (1 + n * 4) by omega]
  exact this
 ·exact splice_flat (f := fun p : Bool × St => stC p.1 p.2) (n := 33) (y := (r, s.set n u)) (vs := tyC u) (o := 1 + n * 4) K k kn0 h8.cells hk (by show 1 + n * 4 + 4 <= 33; omega) (by rw [hs]; exact stC_put u h1 hn)
theorem Hp.boxT {w : World} {b : Nat} {t : TypeId} {r : Bool} {s : St} (h : Hp w b t (stC r s)) (hs : s.length = 8) {n : Nat} (hn : n < 8) (u : Ty) : Hp (setT w b (1 + n * 4) u) b t (stC r (s.set n u)) := by
 have := h.sets (tyC u) (1 + n * 4)
 rw [stC_put u hs hn] at this
 exact this
theorem Hp.box {w : World} {b : Nat} {t : TypeId} {cs : List Value} {r : Bool} {s : St} (h : Hp w b t cs) (hc : cs.length = 33) (hs : s.length = 8) : Hp (w.setCells b 0 (stC r s)) b t (stC r s) := by
 have := h.sets (stC r s) 0
 rw [splice_all _ _ (by rw [stC_len r hs, hc])] at this
 exact this
theorem Hp.one {w : World} {b : Nat} {t : TypeId} {r : Bool} {s : St} (h : Hp w b t (stC r s)) : StAt w b 0 r s := h.range fun j _ => by rw [Nat.zero_add]
theorem p1q {α : Type _} {xs : List α} {i : Nat} (h : i < xs.toArray.size) : xs.toArray[i] = xs[i]'(by simpa using h) := rfl
theorem p2q {α : Type _} {a : α} {l : List α} (h : 0 < (a :: l).length) : (a :: l)[0] = a := rfl
theorem p3q {α : Type _} {a : α} {l : List α} {i : Nat} (h : i + 1 < (a :: l).length) : (a :: l)[i + 1] = l[i]'(Nat.lt_of_succ_lt_succ h) := rfl
theorem p4q {α : Type _} {l : List α} {i : Nat} {a : α} : l.toArray.setIfInBounds i a = (l.set i a).toArray := List.setIfInBounds_toArray ..
theorem p5q {α : Type _} {a b : α} {l : List α} : (b :: l).set 0 a = a :: l := rfl
theorem p6q {α : Type _} {a b : α} {n : Nat} {l : List α} : (b :: l).set (n + 1) a = b :: l.set n a := rfl
end Go.Proofs.YtkcofelpndlplaaGreat
