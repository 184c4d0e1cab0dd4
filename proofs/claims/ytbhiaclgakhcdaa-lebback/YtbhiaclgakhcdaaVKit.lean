/-
  Helpers of our own for laws over slices of integers: what is owned stays owned while old memory stays; append from whatever slice; an argument's reading opened into a plain list, with its bulk. No condition.
-/
import Derived.Test.YtbhiaclgakhcdaaVAwake
import Derived.Laws.AppendOwnNone
import Derived.ProofKit
import Derived.OpenShut
import Derived.ShutString
import Derived.ChangeOld
import Derived.Below
import Derived.JoinedCond
import Derived.WalkLawsBesides
namespace Go.Proofs.Ytbhiaclgakhcdaa
open Go.RowKit Go.ChangeShapes Go.WideShapes Go.ChangeAt
set_option linter.unusedVariables false

theorem add_none (b off i : Nat) : (⟨b, off, none⟩ : Addr).add i = ⟨b, off + i, none⟩ := by
  unfold Addr.add
  split
  · simp_all
  · simp

theorem own_below {w w' : World} {B base : Nat} {e : TypeId} {size : Nat} {v : Value} {n : Nat} {xs : List Value} (h : w.ownsRow base e size v n xs) (hb : Below B w w') (hB : w.heap.size ≤ B) : w'.ownsRow base e size v n xs := by
  rcases h with ⟨h1, h2 | ⟨g, cap, cur, hv, hg, hh, r⟩⟩
  · exact ⟨h1, .inl h2⟩
  · have hlt : g < w.heap.size := (Array.getElem?_eq_some_iff.1 hh).1
    exact ⟨h1, .inr ⟨g, cap, cur, hv, hg, by rw [hb.block g (by omega)]; exact hh, r⟩⟩
theorem Sees.drewN {k : IntKind} {w : World} {v : Value} {xs : List Int} (h : Sees k w v xs) (n : Nat) : Sees k (w.drewN n) v xs := h
theorem below_drewN {B : Nat} {a w : World} (h : Below B a w) (n : Nat) : Below B a (w.drewN n) := ⟨h.os, h.tape, h.output, h.size, h.block⟩
theorem Sees.alloc {k : IntKind} {w : World} {v : Value} {xs : List Int} (h : Sees k w v xs) (o : Obj) : Sees k (w.alloc o) v xs := h.below ((Below.refl w.heap.size w).alloc (Nat.le_refl _) o) (Nat.le_refl _)

/-- 'append(out, src...)', out the call's own, src whatever slice of integers: one operation. -/
theorem wp_append_sees {P : Program} {w : World} {o : Oper} {a : Act} {K : Act → World → Prop} {Q : Exit → Act → World → Prop} (s x : Operand) (t : TypeId)
    (ho : o.op = .call { callee := .builtin .append, args := #[s, x], argTypes := #[t, t] })
    (base : Nat) (e : TypeId) (i : TypeInfo) (z : Value) (bytes : Nat) (ht : P.underlying t = some (.slice e)) (hi : P.info? e = some i) (hz : i.zero = some z)
    (hsize : i.size = 1) (hby : i.bytes = bytes) (hzs : z.cells.size = 1) (k : IntKind)
    (v : Value) (xs : List Int) (hs : a.eval s = v) (hown : w.ownsRow base e 1 v xs.length (xs.map (Value.int k)))
    (src : Value) (ys : List Int) (hx : a.eval x = src) (hsee : Sees k w src ys)
    (h63 : xs.length + ys.length ≤ maxLen) (hbytes : (xs.length + ys.length) * bytes ≤ 219902325555200) (hbase : base ≤ w.heap.size)
    (h : ∀ v' w', w'.ownsRow base e 1 v' (xs ++ ys).length ((xs ++ ys).map (Value.int k)) → w.grownBy w' v.ownBlock → K (a.put o.dst v') w') (h8 : bytes ≤ 8 := by decide) : o.wp P a w K Q := by
  obtain ⟨ad, cap, rfl, hl, hm, hn0, hw, hc⟩ := hsee
  by_cases hne : ys = []
  · subst hne
    cases ad with
    | none =>
      obtain rfl : cap = 0 := hn0 rfl
      have hrun := run_append_owned_none (P := P) (w := w) base t o.type e i 1 ht hi v _ _ hown
      have hx' : a.eval x = .slice none 0 0 := hx
      unfold Oper.wp
      simp [execOp, ho, resolve, invoke, builtin, hs, hx', hrun, Result.andThen]
      exact h v w (by simpa using hown) ⟨rfl, rfl, rfl, Nat.le_refl _, fun _ _ _ => rfl⟩
    | some ad =>
      refine wp_append_wide w s x t ho base e i z 1 bytes ht hi hz hsize hby hzs (by decide) v _ _ hs hown ad 0 cap [] hx rfl (by simp) (by simp) (by simpa using h63) (by simpa using hbytes) hbase ?_ h8
      intro v' w' h1 h2 _
      exact h v' w' (by simpa using h1) h2
  · obtain ⟨b, off, rfl, hlt, hcell⟩ := hc hne
    refine wp_append_wide w s x t ho base e i z 1 bytes ht hi hz hsize hby hzs (by decide) v _ _ hs hown ⟨b, off, none⟩ ys.length cap (ys.map (Value.int k)) hx (by simp) ?_ ?_ h63 hbytes hbase ?_ h8
    · intro j u hj
      rw [List.getElem?_map] at hj
      obtain ⟨y, hy, rfl⟩ := Option.map_eq_some_iff.1 hj
      have hj' : j < ys.length := (List.getElem?_eq_some_iff.1 hy).1
      have := hcell j hj'
      rw [add_none, this]; simp [List.getD, hy]
    · intro u hu
      obtain ⟨y, _, rfl⟩ := List.mem_map.1 hu
      rfl
    · intro v' w' h1 h2 _
      exact h v' w' (by simpa using h1) h2
/-- The same, in a list of operations. -/
theorem wpList_append_sees {P : Program} {w : World} {ops : Array Oper} {rest : List Oper} {o : Oper} {a : Act} {Q : Exit → Act → World → Prop} (hgd : o.guard = none) (s x : Operand) (t : TypeId)
    (ho : o.op = .call { callee := .builtin .append, args := #[s, x], argTypes := #[t, t] })
    (base : Nat) (e : TypeId) (i : TypeInfo) (z : Value) (bytes : Nat) (ht : P.underlying t = some (.slice e)) (hi : P.info? e = some i) (hz : i.zero = some z)
    (hsize : i.size = 1) (hby : i.bytes = bytes) (hzs : z.cells.size = 1) (k : IntKind)
    (v : Value) (xs : List Int) (hs : a.eval s = v) (hown : w.ownsRow base e 1 v xs.length (xs.map (Value.int k)))
    (src : Value) (ys : List Int) (hx : a.eval x = src) (hsee : Sees k w src ys)
    (h63 : xs.length + ys.length ≤ maxLen) (hbytes : (xs.length + ys.length) * bytes ≤ 219902325555200) (hbase : base ≤ w.heap.size)
    (h : ∀ v' w', w'.ownsRow base e 1 v' (xs ++ ys).length ((xs ++ ys).map (Value.int k)) → w.grownBy w' v.ownBlock → wpList P ops Q rest (a.put o.dst v') w') (h8 : bytes ≤ 8 := by decide) : wpList P ops Q (o :: rest) a w :=
  wpList_plain hgd fun _ hK => wp_append_sees s x t ho base e i z bytes ht hi hz hsize hby hzs k v xs hs hown src ys hx hsee h63 hbytes hbase (fun v' w' h2 h3 => hK _ _ (h v' w' h2 h3)) h8
/-- The same behind a guard that says yes. -/
theorem wpList_append_sees_if {P : Program} {w : World} {ops : Array Oper} {rest : List Oper} {o : Oper} {a : Act} {Q : Exit → Act → World → Prop} (hgd : Region.wanted o (yielded ops a.tmps) = true) (s x : Operand) (t : TypeId)
    (ho : o.op = .call { callee := .builtin .append, args := #[s, x], argTypes := #[t, t] })
    (base : Nat) (e : TypeId) (i : TypeInfo) (z : Value) (bytes : Nat) (ht : P.underlying t = some (.slice e)) (hi : P.info? e = some i) (hz : i.zero = some z)
    (hsize : i.size = 1) (hby : i.bytes = bytes) (hzs : z.cells.size = 1) (k : IntKind)
    (v : Value) (xs : List Int) (hs : a.eval s = v) (hown : w.ownsRow base e 1 v xs.length (xs.map (Value.int k)))
    (src : Value) (ys : List Int) (hx : a.eval x = src) (hsee : Sees k w src ys)
    (h63 : xs.length + ys.length ≤ maxLen) (hbytes : (xs.length + ys.length) * bytes ≤ 219902325555200) (hbase : base ≤ w.heap.size)
    (h : ∀ v' w', w'.ownsRow base e 1 v' (xs ++ ys).length ((xs ++ ys).map (Value.int k)) → w.grownBy w' v.ownBlock → wpList P ops Q rest (a.put o.dst v') w') (h8 : bytes ≤ 8 := by decide) : wpList P ops Q (o :: rest) a w :=
  wpList_step fun _ hK => by
    rw [if_pos hgd]
    exact wp_append_sees s x t ho base e i z bytes ht hi hz hsize hby hzs k v xs hs hown src ys hx hsee h63 hbytes hbase (fun v' w' h2 h3 => hK _ _ (h v' w' h2 h3)) h8

/-- Behind an append: what was there below the base stays. -/
theorem below_grown {w w1 : World} {base : Nat} {e : TypeId} {v : Value} {n : Nat} {xs : List Value} (hown : w.ownsRow base e 1 v n xs) (hg : w.grownBy w1 v.ownBlock) (hb : base ≤ w.heap.size) : Below base w w1 :=
  (Below.refl base w).grown hg hb (fun k hk => (hown.lt k hk).1)
theorem wf_bytes {xs : List Int} (h : ∀ x ∈ xs, 0 ≤ x ∧ x ≤ 255) : ∀ x ∈ xs, (Lit.int .u8 x).wf = true := fun x hx => WalkArith.wf_u8 (by have := h x hx; omega)
theorem Sees.words {w : World} {v : Value} {xs : List Int} (h : Sees .u64 w v xs) : ∀ x ∈ xs, 0 ≤ x ∧ x < 18446744073709551616 := by
  obtain ⟨a, cap, rfl, hl, hm, hn0, hw, hs⟩ := h
  exact fun x hx => by have := bounds_u64 (hw x hx); omega
theorem Sees.wf {k : IntKind} {w : World} {v : Value} {xs : List Int} (h : Sees k w v xs) : ∀ x ∈ xs, (Lit.int k x).wf = true := by
  obtain ⟨a, cap, rfl, hl, hm, hn0, hw, hs⟩ := h
  exact hw

theorem size_u8 (w : World) : (Go.sizeOf 5).run Try.prog w = .ok 1 w := by
  obtain ⟨i0, hi, hz0, hz1, hz2⟩ := info_parts Try.info5
  simp [Go.sizeOf, typeInfo, hi, hz1]
theorem size_u64 (w : World) : (Go.sizeOf 31).run Try.prog w = .ok 1 w := by
  obtain ⟨i0, hi, hz0, hz1, hz2⟩ := info_parts Try.info31
  simp [Go.sizeOf, typeInfo, hi, hz1]

/-- The value of 'x[l:h]' with a cap of m, as the model has it. -/
def cutV (a : Option Addr) (l h m : Nat) : Value := .slice (if m = l then a else a.map (·.add l)) (h - l) (m - l)
theorem run_from {t e : TypeId} (ht : Try.prog.underlying t = some (.slice e)) (hs : ∀ w, (Go.sizeOf e).run Try.prog w = .ok 1 w) (a : Option Addr) (len cap i : Nat) (hi : i ≤ len) (w : World) :
    (Instr.slice t (.slice a len cap) (some (.int .i64 i)) none none).run Try.prog w = .ok (cutV a i len cap) w := by
  have h0 : (i : Int) ≤ (len : Int) := by omega
  simp [Instr.slice, run_underlying ht, Instr.sliceBounds, run_sliceBound, h0, hs, cutV]
theorem run_upto {t e : TypeId} (ht : Try.prog.underlying t = some (.slice e)) (hs : ∀ w, (Go.sizeOf e).run Try.prog w = .ok 1 w) (a : Option Addr) (len cap i : Nat) (hi : i ≤ cap) (w : World) :
    (Instr.slice t (.slice a len cap) none (some (.int .i64 i)) none).run Try.prog w = .ok (cutV a 0 i cap) w := by
  have h0 : (i : Int) ≤ (cap : Int) := by omega
  simp [Instr.slice, run_underlying ht, Instr.sliceBounds, run_sliceBound, h0, hs, cutV]
theorem run_upto3 {t e : TypeId} (ht : Try.prog.underlying t = some (.slice e)) (hs : ∀ w, (Go.sizeOf e).run Try.prog w = .ok 1 w) (a : Option Addr) (len cap i : Nat) (hi : i ≤ cap) (w : World) :
    (Instr.slice t (.slice a len cap) none (some (.int .i64 i)) (some (.int .i64 i))).run Try.prog w = .ok (cutV a 0 i i) w := by
  have h0 : (i : Int) ≤ (cap : Int) := by omega
  simp [Instr.slice, run_underlying ht, Instr.sliceBounds, run_sliceBound, h0, hs, cutV]

/-- A cut of a slice reads as a cut of its list. -/
theorem Sees.cut {k : IntKind} {w : World} {a : Option Addr} {cap : Nat} {xs : List Int} (h : Sees k w (.slice a xs.length cap) xs) (l h' m : Nat) (hl : l ≤ h') (hh : h' ≤ xs.length) (hm : h' ≤ m) (hc : m ≤ cap) : Sees k w (cutV a l h' m) ((xs.take h').drop l) := by
  obtain ⟨a', cap', hv, h1, h2, h3, h4, h5⟩ := h
  obtain ⟨rfl, _, rfl⟩ : a = a' ∧ xs.length = xs.length ∧ cap = cap' := by injection hv with e1 e2 e3; exact ⟨e1, e2, e3⟩
  have hlen : ((xs.take h').drop l).length = h' - l := by simp; omega
  refine ⟨_, m - l, by rw [hlen]; rfl, by omega, by omega, fun hn => ?_, fun x hx => h4 x (List.mem_of_mem_take (List.mem_of_mem_drop hx)), fun hne => ?_⟩
  · split at hn
    · omega
    · have : a = none := by simpa using hn
      have := h3 this; omega
  · have hlt : 0 < h' - l := by
      rcases Nat.eq_zero_or_pos (h' - l) with h0 | h0
      · exact absurd (List.eq_nil_of_length_eq_zero (by omega)) hne
      · exact h0
    obtain ⟨b, off, rfl, hb, hcell⟩ := h5 (by intro e; subst e; simp at hh; omega)
    refine ⟨b, off + l, ?_, hb, fun i hi => ?_⟩
    · rw [if_neg (by omega)]; simp [add_none]
    · rw [Nat.add_assoc, hcell (l + i) (by omega)]
      congr 2
      rw [hlen] at hi
      simp only [List.getD, List.getElem?_drop, List.getElem?_take]
      rw [if_pos (by omega)]

theorem wf_words {xs : List Int} (h : ∀ x ∈ xs, 0 ≤ x ∧ x < 18446744073709551616) : ∀ x ∈ xs, (Lit.int .u64 x).wf = true := fun x hx => WalkArith.wf_u64 (by have := h x hx; omega)
theorem Sees.nil (k : IntKind) (w : World) : Sees k w (.slice none 0 0) [] := ⟨none, 0, rfl, by simp, by simp [maxLen], fun _ => rfl, by simp, fun h => absurd rfl h⟩
theorem Sees.shape {k : IntKind} {w : World} {v : Value} {xs : List Int} (h : Sees k w v xs) : ∃ a cap, v = .slice a xs.length cap := by
  obtain ⟨a, cap, rfl, _⟩ := h
  exact ⟨a, cap, rfl⟩

/-- leb.Width of one number. -/
theorem width_one (x : Int) (n : Nat) (w : World) (hn : n = w.heap.size) (h : 0 ≤ x ∧ x < 18446744073709551616) :
    Calls Try.prog 11 #[.slice (some ⟨n, 0, none⟩) 1 1] (w.alloc (.cells #[.int .u64 x] 31)) fun e w' => e = .returned (.int .i64 (enc x).length) ∧ w.alloc (.cells #[.int .u64 x] 31) = w' := by
  subst hn
  have h2 := width_any _ [x] _ (Sees.lit w .u64 31 [x] _ 1 rfl rfl (by simp) (by intro y hy; simp at hy; subst hy; exact WalkArith.wf_u64 (by omega))) (by simp)
  rw [encs_one] at h2
  exact h2
/-- leb.Put of one number. -/
theorem put_one (x : Int) (n : Nat) (w : World) (hn : n = w.heap.size) (h : 0 ≤ x ∧ x < 18446744073709551616) :
    Calls Try.prog 7 #[.slice (some ⟨n, 0, none⟩) 1 1] (w.alloc (.cells #[.int .u64 x] 31)) fun e w' => ∃ v, e = .returned v ∧ w'.ownsRow w.heap.size 5 1 v (enc x).length ((enc x).map (Value.int .u8)) ∧ Below w.heap.size w w' := by
  subst hn
  have h2 := put_any _ [x] _ (Sees.lit w .u64 31 [x] _ 1 rfl rfl (by simp) (by intro y hy; simp at hy; subst hy; exact WalkArith.wf_u64 (by omega))) (by simp)
  rw [encs_one] at h2
  refine h2.mono ?_
  rintro e w' ⟨v, rfl, hown, hbe⟩
  refine ⟨v, rfl, ?_, ((Below.refl _ _).alloc (Nat.le_refl _) _).trans (hbe.mono (by simp))⟩
  rcases hown with ⟨h1, h2 | ⟨g, cap, cur, hv, hg, r⟩⟩
  · exact ⟨h1, .inl h2⟩
  · exact ⟨h1, .inr ⟨g, cap, cur, hv, by simp at hg; omega, r⟩⟩
/-- The same behind a draw. -/
theorem put_one_drew (x : Int) (n : Nat) (w : World) (hn : n = w.heap.size) (h : 0 ≤ x ∧ x < 18446744073709551616) :
    Calls Try.prog 7 #[.slice (some ⟨n, 0, none⟩) 1 1] (w.alloc (.cells #[.int .u64 x] 31)).drew fun e w' => ∃ v, e = .returned v ∧ w'.ownsRow w.heap.size 5 1 v (enc x).length ((enc x).map (Value.int .u8)) ∧ Below w.heap.size w w' := by
  have h2 := put_one x n w.drew hn h
  refine Calls.mono h2 ?_
  rintro e w' ⟨v, rfl, hown, hbe⟩
  exact ⟨v, rfl, hown, ⟨hbe.os, hbe.tape, hbe.output, hbe.size, hbe.block⟩⟩
/-- leb.Put of two numbers. -/
theorem put_two (x y : Int) (n : Nat) (w : World) (hn : n = w.heap.size) (h : 0 ≤ x ∧ x < 18446744073709551616) (h' : 0 ≤ y ∧ y < 18446744073709551616) :
    Calls Try.prog 7 #[.slice (some ⟨n, 0, none⟩) 2 2] (w.alloc (.cells #[.int .u64 x, .int .u64 y] 31)) fun e w' => ∃ v, e = .returned v ∧ w'.ownsRow w.heap.size 5 1 v (encs [x, y]).length ((encs [x, y]).map (Value.int .u8)) ∧ Below w.heap.size w w' := by
  subst hn
  have h2 := put_any _ [x, y] _ (Sees.lit w .u64 31 [x, y] _ 2 rfl rfl (by simp) (by intro z hz; simp at hz; rcases hz with rfl | rfl <;> exact WalkArith.wf_u64 (by omega))) (by simp)
  refine h2.mono ?_
  rintro e w' ⟨v, rfl, hown, hbe⟩
  refine ⟨v, rfl, ?_, ((Below.refl _ _).alloc (Nat.le_refl _) _).trans (hbe.mono (by simp))⟩
  rcases hown with ⟨h1, h2 | ⟨g, cap, cur, hv, hg, r⟩⟩
  · exact ⟨h1, .inl h2⟩
  · exact ⟨h1, .inr ⟨g, cap, cur, hv, by simp at hg; omega, r⟩⟩

theorem bulk_lits {H : Type} (k : IntKind) (zs : List Int) : Rows.uptoBulkAll (lits (H := H) k zs) = zs.length := by
  induction zs with
  | nil => rfl
  | cons z r ih =>
    show Rows.uptoBulkAll (DataW.lit (.int k z) :: lits k r) = _
    rw [Rows.uptoBulkAll, ih]
    simp [Rows.uptoBulk]; omega

/-- An argument that is a slice of integers: a plain list, no longer than its bulk. -/
theorem sees_open {H : Type} {enc : TypeId × Value → H} {W : World} {base : Nat} {t e : TypeId} {k : IntKind} {v : Value} {d : DataW H} {p : List MemPlace} (ht : Try.prog.underlying t = some (.slice e)) (he : Try.prog.underlying e = some (.int k)) (hc : Try.prog.cellsOf e = 1)
    (hok : Value.okWide Try.prog W .any base t v) (h : DataW.Trod enc Try.prog W 0 (fun _ => true) true t v d p) : ∃ xs, Sees k W v xs ∧ xs.length < Rows.uptoBulk d := by
  obtain ⟨a, len, cap, rfl⟩ := okWide_slice ht hok
  have lt : ∀ x ∈ p, x.block < W.heap.size := by obtain ⟨m, hm⟩ := h; exact DataW.trod_lt m _ _ _ hm
  obtain ⟨fuel, hf⟩ := h
  rcases open_ints ht he hc hf with ⟨hcs, hx⟩ | ⟨x, l, c, zs, hcs, _, hl, hm, hz, hx, hcell, hwz⟩
  · simp [Value.cells] at hcs hx
    obtain ⟨rfl, rfl, rfl⟩ := hcs
    obtain ⟨rfl, rfl⟩ := hx
    exact ⟨[], ⟨none, 0, rfl, by simp, by simp [maxLen], fun _ => rfl, by simp, fun h => absurd rfl h⟩, by simp [Rows.uptoBulk]⟩
  · simp [Value.cells] at hcs hx
    obtain ⟨rfl, rfl, rfl⟩ := hcs
    obtain ⟨rfl, rfl⟩ := hx
    have hz : zs.length = cap := by simpa using hz
    have hlen : (zs.take len).length = len := by simp; omega
    refine ⟨zs.take len, ⟨some x, cap, by rw [hlen], by omega, hm, fun h => by simp at h, fun y hy => hwz y (List.mem_of_mem_take hy), fun hne => ?_⟩, ?_⟩
    · have hlt : 0 < len := by
        rcases Nat.eq_zero_or_pos len with h0 | h0
        · subst h0; exact absurd rfl hne
        · exact h0
      have h0 := hcell 0 (by omega)
      obtain ⟨b, off, spot⟩ := x
      have hspot : spot = none := by simpa [Addr.add] using World.cell?_spot h0
      subst hspot
      refine ⟨b, off, rfl, lt (.cell b off) ?_, fun i hi => ?_⟩
      · simp [MemPlace.row]; omega
      · have := hcell i (by omega)
        rw [add_none] at this
        rw [this]
        have : i < zs.length := by omega
        rw [hlen] at hi
        simp [List.getD, hi]
    · simp only [Rows.uptoBulk, bulk_lits, hlen]; omega
end Go.Proofs.Ytbhiaclgakhcdaa
