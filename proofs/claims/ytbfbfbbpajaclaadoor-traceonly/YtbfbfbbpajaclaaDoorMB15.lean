/-
  GKit
  S10Nums
-/
import Derived.Test.YtbfbfbbpajaclaaDoorMB2
import Derived.Test.YtbfbfbbpajaclaaDoorMB3
import Derived.Laws.AppendOwnNone
import Derived.ProofKit
import Derived.ShutString
import Derived.ChangeOld
import Derived.JoinedCond
import Derived.WalkLawsBesides
/-
  Slices of integers, whatever the program, with wide bounds: append from whatever slice to the call's own row; a cut of a slice; an argument's reading opened into a plain list, with its bulk and its bytes. No Go text in sight.
-/
namespace Go.Proofs.YtbfbfbbpajaclaaDoor
open Go.RowKit Go.ChangeShapes Go.WideShapes Go.ChangeAt
set_option linter.unusedVariables false
set_option maxRecDepth 100000

theorem getD_mem (xs : List Int) (k : Nat) (h : k < xs.length) : xs.getD k 0 ∈ xs := by
  simp [List.getD, h]
/-- What one element more does to what is owned. -/
theorem step_append {w wr w1 : World} {B : Nat} {e : TypeId} {k : IntKind} {v v' : Value} {o : Obj} {ys : List Int} {x : Int} (hown : wr.ownsRow B e 1 v ys.length (ys.map (Value.int k))) (hbe : Below B w wr) (hB : B ≤ w.heap.size)
    (hown' : w1.ownsRow B e 1 v' (ys.length + 1) (ys.map (Value.int k) ++ [Value.int k x])) (hgrow : (wr.alloc o).grownBy w1 v.ownBlock) :
    w1.ownsRow B e 1 v' (ys ++ [x]).length ((ys ++ [x]).map (Value.int k)) ∧ Below B w w1 := by
  have hs := hbe.size
  refine ⟨by simpa using hown', (hbe.alloc (by omega) o).grown hgrow (by simp; omega) (fun k hk => (hown.lt k hk).1)⟩
theorem one_cell (k : IntKind) (x : Int) : ∀ u ∈ [Value.int k x], u.oneCell' = true := by intro u hu; simp at hu; subst hu; rfl
theorem add_none (b off i : Nat) : (⟨b, off, none⟩ : Addr).add i = ⟨b, off + i, none⟩ := by
  unfold Addr.add
  split
  · simp_all
  · simp
theorem Sees.alloc {k : IntKind} {w : World} {v : Value} {xs : List Int} (h : Sees k w v xs) (o : Obj) : Sees k (w.alloc o) v xs := h.below ((Below.refl w.heap.size w).alloc (Nat.le_refl _) o) (Nat.le_refl _)
/-- 'append(out, src...)', out the call's own, src whatever slice of integers: one operation. -/
theorem wp_append_sees {P : Program} {w : World} {o : Oper} {a : Act} {K : Act → World → Prop} {Q : Exit → Act → World → Prop} (s x : Operand) (t : TypeId)
    (ho : o.op = .call { callee := .builtin .append, args := #[s, x], argTypes := #[t, t] })
    (base : Nat) (e : TypeId) (i : TypeInfo) (z : Value) (bytes : Nat) (ht : P.underlying t = some (.slice e)) (hi : P.info? e = some i) (hz : i.zero = some z)
    (hsize : i.size = 1) (hby : i.bytes = bytes) (hzs : z.cells.size = 1) (k : IntKind)
    (v : Value) (xs : List Int) (hs : a.eval s = v) (hown : w.ownsRow base e 1 v xs.length (xs.map (Value.int k)))
    (src : Value) (ys : List Int) (hx : a.eval x = src) (hsee : Sees k w src ys)
    (h63 : xs.length + ys.length ≤ maxLen) (hbytes : (xs.length + ys.length) * bytes ≤ 219902325555200) (hbase : base ≤ w.heap.size)
    (h : ∀ v' w', w'.ownsRow base e 1 v' (xs ++ ys).length ((xs ++ ys).map (Value.int k)) → w.grownBy w' v.ownBlock → K (a.put o.dst v') w') (h8 : bytes ≤ 8 := by decide) : o.wp P a w K Q := by
  obtain ⟨ad, cap, rfl, hl, hm, hn0, hw, hc⟩ := hsee
  by_cases hne : ys = []
  · subst hne
    cases ad with
    | none =>
      obtain rfl : cap = 0 := hn0 rfl
      have hrun := run_append_owned_none (P := P) (w := w) base t o.type e i 1 ht hi v _ _ hown
      have hx' : a.eval x = .slice none 0 0 := hx
      unfold Oper.wp
      simp [execOp, ho, resolve, invoke, builtin, hs, hx', hrun, Result.andThen]
      exact h v w (by simpa using hown) ⟨rfl, rfl, rfl, Nat.le_refl _, fun _ _ _ => rfl⟩
    | some ad =>
      refine wp_append_wide w s x t ho base e i z 1 bytes ht hi hz hsize hby hzs (by decide) v _ _ hs hown ad 0 cap [] hx rfl (by simp) (by simp) (by simpa using h63) (by simpa using hbytes) hbase ?_ h8
      intro v' w' h1 h2 _
      exact h v' w' (by simpa using h1) h2
  · obtain ⟨b, off, rfl, hlt, hcell⟩ := hc hne
    refine wp_append_wide w s x t ho base e i z 1 bytes ht hi hz hsize hby hzs (by decide) v _ _ hs hown ⟨b, off, none⟩ ys.length cap (ys.map (Value.int k)) hx (by simp) ?_ ?_ h63 hbytes hbase ?_ h8
    · intro j u hj
      rw [List.getElem?_map] at hj
      obtain ⟨y, hy, rfl⟩ := Option.map_eq_some_iff.1 hj
      have hj' : j < ys.length := (List.getElem?_eq_some_iff.1 hy).1
      have := hcell j hj'
      rw [add_none, this]; simp [List.getD, hy]
    · intro u hu
      obtain ⟨y, _, rfl⟩ := List.mem_map.1 hu
      rfl
    · intro v' w' h1 h2 _
      exact h v' w' (by simpa using h1) h2
/-- The same, in a list of operations. -/
theorem wpList_append_sees {P : Program} {w : World} {ops : Array Oper} {rest : List Oper} {o : Oper} {a : Act} {Q : Exit → Act → World → Prop} (hgd : o.guard = none) (s x : Operand) (t : TypeId)
    (ho : o.op = .call { callee := .builtin .append, args := #[s, x], argTypes := #[t, t] })
    (base : Nat) (e : TypeId) (i : TypeInfo) (z : Value) (bytes : Nat) (ht : P.underlying t = some (.slice e)) (hi : P.info? e = some i) (hz : i.zero = some z)
    (hsize : i.size = 1) (hby : i.bytes = bytes) (hzs : z.cells.size = 1) (k : IntKind)
    (v : Value) (xs : List Int) (hs : a.eval s = v) (hown : w.ownsRow base e 1 v xs.length (xs.map (Value.int k)))
    (src : Value) (ys : List Int) (hx : a.eval x = src) (hsee : Sees k w src ys)
    (h63 : xs.length + ys.length ≤ maxLen) (hbytes : (xs.length + ys.length) * bytes ≤ 219902325555200) (hbase : base ≤ w.heap.size)
    (h : ∀ v' w', w'.ownsRow base e 1 v' (xs ++ ys).length ((xs ++ ys).map (Value.int k)) → w.grownBy w' v.ownBlock → wpList P ops Q rest (a.put o.dst v') w') (h8 : bytes ≤ 8 := by decide) : wpList P ops Q (o :: rest) a w :=
  wpList_plain hgd fun _ hK => wp_append_sees s x t ho base e i z bytes ht hi hz hsize hby hzs k v xs hs hown src ys hx hsee h63 hbytes hbase (fun v' w' h2 h3 => hK _ _ (h v' w' h2 h3)) h8
/-- The same behind a guard that says yes. -/
theorem wpList_append_sees_if {P : Program} {w : World} {ops : Array Oper} {rest : List Oper} {o : Oper} {a : Act} {Q : Exit → Act → World → Prop} (hgd : Region.wanted o (yielded ops a.tmps) = true) (s x : Operand) (t : TypeId)
    (ho : o.op = .call { callee := .builtin .append, args := #[s, x], argTypes := #[t, t] })
    (base : Nat) (e : TypeId) (i : TypeInfo) (z : Value) (bytes : Nat) (ht : P.underlying t = some (.slice e)) (hi : P.info? e = some i) (hz : i.zero = some z)
    (hsize : i.size = 1) (hby : i.bytes = bytes) (hzs : z.cells.size = 1) (k : IntKind)
    (v : Value) (xs : List Int) (hs : a.eval s = v) (hown : w.ownsRow base e 1 v xs.length (xs.map (Value.int k)))
    (src : Value) (ys : List Int) (hx : a.eval x = src) (hsee : Sees k w src ys)
    (h63 : xs.length + ys.length ≤ maxLen) (hbytes : (xs.length + ys.length) * bytes ≤ 219902325555200) (hbase : base ≤ w.heap.size)
    (h : ∀ v' w', w'.ownsRow base e 1 v' (xs ++ ys).length ((xs ++ ys).map (Value.int k)) → w.grownBy w' v.ownBlock → wpList P ops Q rest (a.put o.dst v') w') (h8 : bytes ≤ 8 := by decide) : wpList P ops Q (o :: rest) a w :=
  wpList_step fun _ hK => by
    rw [if_pos hgd]
    exact wp_append_sees s x t ho base e i z bytes ht hi hz hsize hby hzs k v xs hs hown src ys hx hsee h63 hbytes hbase (fun v' w' h2 h3 => hK _ _ (h v' w' h2 h3)) h8
/-- Behind an append: what was there below the base stays. -/
theorem below_grown {w w1 : World} {base : Nat} {e : TypeId} {v : Value} {n : Nat} {xs : List Value} (hown : w.ownsRow base e 1 v n xs) (hg : w.grownBy w1 v.ownBlock) (hb : base ≤ w.heap.size) : Below base w w1 :=
  (Below.refl base w).grown hg hb (fun k hk => (hown.lt k hk).1)
theorem wf_bytes {xs : List Int} (h : ∀ x ∈ xs, 0 ≤ x ∧ x ≤ 255) : ∀ x ∈ xs, (Lit.int .u8 x).wf = true := fun x hx => WalkArith.wf_u8 (by have := h x hx; omega)
theorem Sees.words {w : World} {v : Value} {xs : List Int} (h : Sees .u64 w v xs) : ∀ x ∈ xs, 0 ≤ x ∧ x < 18446744073709551616 := by
  obtain ⟨a, cap, rfl, hl, hm, hn0, hw, hs⟩ := h
  exact fun x hx => by have := bounds_u64 (hw x hx); omega
/-- The value of 'x[l:h]' with a cap of m, as the model has it. -/
def cutV (a : Option Addr) (l h m : Nat) : Value := .slice (if m = l then a else a.map (·.add l)) (h - l) (m - l)
theorem run_from {t e : TypeId} (ht : Tryd.prog.underlying t = some (.slice e)) (hs : ∀ w, (Go.sizeOf e).run Tryd.prog w = .ok 1 w) (a : Option Addr) (len cap i : Nat) (hi : i ≤ len) (w : World) :
    (Instr.slice t (.slice a len cap) (some (.int .i64 i)) none none).run Tryd.prog w = .ok (cutV a i len cap) w := by
  have h0 : (i : Int) ≤ (len : Int) := by omega
  simp [Instr.slice, run_underlying ht, Instr.sliceBounds, run_sliceBound, h0, hs, cutV]
theorem run_upto {t e : TypeId} (ht : Tryd.prog.underlying t = some (.slice e)) (hs : ∀ w, (Go.sizeOf e).run Tryd.prog w = .ok 1 w) (a : Option Addr) (len cap i : Nat) (hi : i ≤ cap) (w : World) :
    (Instr.slice t (.slice a len cap) none (some (.int .i64 i)) none).run Tryd.prog w = .ok (cutV a 0 i cap) w := by
  have h0 : (i : Int) ≤ (cap : Int) := by omega
  simp [Instr.slice, run_underlying ht, Instr.sliceBounds, run_sliceBound, h0, hs, cutV]
theorem run_upto3 {t e : TypeId} (ht : Tryd.prog.underlying t = some (.slice e)) (hs : ∀ w, (Go.sizeOf e).run Tryd.prog w = .ok 1 w) (a : Option Addr) (len cap i : Nat) (hi : i ≤ cap) (w : World) :
    (Instr.slice t (.slice a len cap) none (some (.int .i64 i)) (some (.int .i64 i))).run Tryd.prog w = .ok (cutV a 0 i i) w := by
  have h0 : (i : Int) ≤ (cap : Int) := by omega
  simp [Instr.slice, run_underlying ht, Instr.sliceBounds, run_sliceBound, h0, hs, cutV]
/-- A cut of a slice reads as a cut of its list. -/
theorem Sees.cut {k : IntKind} {w : World} {a : Option Addr} {cap : Nat} {xs : List Int} (h : Sees k w (.slice a xs.length cap) xs) (l h' m : Nat) (hl : l ≤ h') (hh : h' ≤ xs.length) (hm : h' ≤ m) (hc : m ≤ cap) : Sees k w (cutV a l h' m) ((xs.take h').drop l) := by
  obtain ⟨a', cap', hv, h1, h2, h3, h4, h5⟩ := h
  obtain ⟨rfl, _, rfl⟩ : a = a' ∧ xs.length = xs.length ∧ cap = cap' := by injection hv with e1 e2 e3; exact ⟨e1, e2, e3⟩
  have hlen : ((xs.take h').drop l).length = h' - l := by simp; omega
  refine ⟨_, m - l, by rw [hlen]; rfl, by omega, by omega, fun hn => ?_, fun x hx => h4 x (List.mem_of_mem_take (List.mem_of_mem_drop hx)), fun hne => ?_⟩
  · split at hn
    · omega
    · have : a = none := by simpa using hn
      have := h3 this; omega
  · have hlt : 0 < h' - l := by
      rcases Nat.eq_zero_or_pos (h' - l) with h0 | h0
      · exact absurd (List.eq_nil_of_length_eq_zero (by omega)) hne
      · exact h0
    obtain ⟨b, off, rfl, hb, hcell⟩ := h5 (by intro e; subst e; simp at hh; omega)
    refine ⟨b, off + l, ?_, hb, fun i hi => ?_⟩
    · rw [if_neg (by omega)]; simp [add_none]
    · rw [Nat.add_assoc, hcell (l + i) (by omega)]
      congr 2
      rw [hlen] at hi
      simp only [List.getD, List.getElem?_drop, List.getElem?_take]
      rw [if_pos (by omega)]
theorem wf_words {xs : List Int} (h : ∀ x ∈ xs, 0 ≤ x ∧ x < 18446744073709551616) : ∀ x ∈ xs, (Lit.int .u64 x).wf = true := fun x hx => WalkArith.wf_u64 (by have := h x hx; omega)
theorem bulk_lits {H : Type} (k : IntKind) (zs : List Int) : Rows.uptoBulkAll (lits (H := H) k zs) = zs.length := by
  induction zs with
  | nil => rfl
  | cons z r ih =>
    show Rows.uptoBulkAll (DataW.lit (.int k z) :: lits k r) = _
    rw [Rows.uptoBulkAll, ih]
    simp [Rows.uptoBulk]; omega
/-- An argument that is a slice of integers: a plain list, no longer than its bulk. -/
theorem sees_open {H : Type} {enc : TypeId × Value → H} {W : World} {base : Nat} {t e : TypeId} {k : IntKind} {v : Value} {d : DataW H} {p : List MemPlace} (ht : Tryd.prog.underlying t = some (.slice e)) (he : Tryd.prog.underlying e = some (.int k)) (hc : Tryd.prog.cellsOf e = 1)
    (hok : Value.okWide Tryd.prog W .any base t v) (h : DataW.Trod enc Tryd.prog W 0 (fun _ => true) true t v d p) : ∃ xs, Sees k W v xs ∧ xs.length < Rows.uptoBulk d := by
  obtain ⟨a, len, cap, rfl⟩ := okWide_slice ht hok
  have lt : ∀ x ∈ p, x.block < W.heap.size := by obtain ⟨m, hm⟩ := h; exact DataW.trod_lt m _ _ _ hm
  obtain ⟨fuel, hf⟩ := h
  rcases open_ints ht he hc hf with ⟨hcs, hx⟩ | ⟨x, l, c, zs, hcs, _, hl, hm, hz, hx, hcell, hwz⟩
  · simp [Value.cells] at hcs hx
    obtain ⟨rfl, rfl, rfl⟩ := hcs
    obtain ⟨rfl, rfl⟩ := hx
    exact ⟨[], ⟨none, 0, rfl, by simp, by simp [maxLen], fun _ => rfl, by simp, fun h => absurd rfl h⟩, by simp [Rows.uptoBulk]⟩
  · simp [Value.cells] at hcs hx
    obtain ⟨rfl, rfl, rfl⟩ := hcs
    obtain ⟨rfl, rfl⟩ := hx
    have hz : zs.length = cap := by simpa using hz
    have hlen : (zs.take len).length = len := by simp; omega
    refine ⟨zs.take len, ⟨some x, cap, by rw [hlen], by omega, hm, fun h => by simp at h, fun y hy => hwz y (List.mem_of_mem_take hy), fun hne => ?_⟩, ?_⟩
    · have hlt : 0 < len := by
        rcases Nat.eq_zero_or_pos len with h0 | h0
        · subst h0; exact absurd rfl hne
        · exact h0
      have h0 := hcell 0 (by omega)
      obtain ⟨b, off, spot⟩ := x
      have hspot : spot = none := by simpa [Addr.add] using World.cell?_spot h0
      subst hspot
      refine ⟨b, off, rfl, lt (.cell b off) ?_, fun i hi => ?_⟩
      · simp [MemPlace.row]; omega
      · have := hcell i (by omega)
        rw [add_none] at this
        rw [this]
        have : i < zs.length := by omega
        rw [hlen] at hi
        simp [List.getD, hi]
    · simp only [Rows.uptoBulk, bulk_lits, hlen]; omega
theorem lits_len {H : Type} (k : IntKind) (zs : List Int) : (lits (H := H) k zs).length = zs.length := by
  induction zs with
  | nil => rfl
  | cons z r ih =>
    show (DataW.lit (.int k z) :: lits k r).length = _
    rw [List.length_cons, ih, List.length_cons]
theorem slice_of_trod {H : Type} {enc : TypeId × Value → H} {W : World} {base fuel : Nat} {sp : Nat → Bool} {held : Bool} {t e : TypeId} {c : Value} {x : DataW H × List MemPlace} (ht : Tryd.prog.underlying t = some (.slice e)) (h : DataW.trod enc Tryd.prog W base sp held fuel t [c] = some x) : ∃ a len cap, c = .slice a len cap := by
  rcases DataW.trod_slice ht h with ⟨hcs, _⟩ | ⟨y, l, c', elems, rest, n, _, hcs, _⟩
  · simp at hcs; exact ⟨_, _, _, hcs⟩
  · simp at hcs; exact ⟨_, _, _, hcs⟩
/-- A slice of integers as an argument, with the bytes that it takes. -/
theorem sees_open_sh {H : Type} {enc : TypeId × Value → H} {W : World} {t e : TypeId} {k : IntKind} {v : Value} {d : DataW H} {p : List MemPlace} (ht : Tryd.prog.underlying t = some (.slice e)) (he : Tryd.prog.underlying e = some (.int k)) (hc : Tryd.prog.cellsOf e = 1)
    (hsh : ∃ a len cap, v = .slice a len cap) (h : DataW.Trod enc Tryd.prog W 0 (fun _ => true) true t v d p) : ∃ xs, Sees k W v xs ∧ ((d.weights Tryd.prog t).all (· ≤ reachBytes) = true → xs.length * Tryd.prog.bytesOf e ≤ reachBytes) := by
  obtain ⟨a, len, cap, rfl⟩ := hsh
  have lt : ∀ x ∈ p, x.block < W.heap.size := by obtain ⟨m, hm⟩ := h; exact DataW.trod_lt m _ _ _ hm
  obtain ⟨fuel, hf⟩ := h
  rcases open_ints ht he hc hf with ⟨hcs, hx⟩ | ⟨x, l, c, zs, hcs, _, hl, hm, hz, hx, hcell, hwz⟩
  · simp [Value.cells] at hcs hx
    obtain ⟨rfl, rfl, rfl⟩ := hcs
    obtain ⟨rfl, rfl⟩ := hx
    exact ⟨[], ⟨none, 0, rfl, by simp, by simp [maxLen], fun _ => rfl, by simp, fun h => absurd rfl h⟩, by simp⟩
  · simp [Value.cells] at hcs hx
    obtain ⟨rfl, rfl, rfl⟩ := hcs
    obtain ⟨rfl, rfl⟩ := hx
    have hz : zs.length = cap := by simpa using hz
    have hlen : (zs.take len).length = len := by simp; omega
    refine ⟨zs.take len, ⟨some x, cap, by rw [hlen], by omega, hm, fun h => by simp at h, fun y hy => hwz y (List.mem_of_mem_take hy), fun hne => ?_⟩, ?_⟩
    · have hlt : 0 < len := by
        rcases Nat.eq_zero_or_pos len with h0 | h0
        · subst h0; exact absurd rfl hne
        · exact h0
      have h0 := hcell 0 (by omega)
      obtain ⟨b, off, spot⟩ := x
      have hspot : spot = none := by simpa [Addr.add] using World.cell?_spot h0
      subst hspot
      refine ⟨b, off, rfl, lt (.cell b off) ?_, fun i hi => ?_⟩
      · simp [MemPlace.row]; omega
      · have := hcell i (by omega)
        rw [add_none] at this
        rw [this]
        have : i < zs.length := by omega
        rw [hlen] at hi
        simp [List.getD, hi]
    · intro hall
      rw [DataW.weights, ht] at hall
      simp only [List.all_cons, Bool.and_eq_true, decide_eq_true_eq] at hall
      have h1 := hall.1
      rw [lits_len, lits_len, hlen] at h1
      rw [hlen]
      exact Nat.le_trans (Nat.mul_le_mul_right _ (Nat.le_add_right _ _)) h1
end Go.Proofs.YtbfbfbbpajaclaaDoor
/-
  What the law's comparison of numbers does: it says whether two lists are the same, and only draws. Condition: the numbers lie where the slices say.
-/
namespace Go.Proofs.YtbfbfbbpajaclaaDoor
open Go.RowKit
set_option linter.unusedVariables false

end Go.Proofs.YtbfbfbbpajaclaaDoor
