/-
  JCop
  JCopO
  JOpen
-/
import Derived.Test.YtkondcjmhlppiaaGreatMW29
import Derived.Test.YtkondcjmhlppiaaGreatMW31
import Derived.Test.YtkondcjmhlppiaaGreatMW6
import Derived.Test.YtkondcjmhlppiaaGreatMW20
import Derived.Test.YtkondcjmhlppiaaGreatMW26
import Derived.Test.YtkondcjmhlppiaaGreatMW19
import Derived.Deep.RegionHeldLaw
import Derived.Deep.DrawnRows
import Derived.Deep.Upon
import Derived.ArgAppend
import Derived.Maps.RangeWalk
import Derived.Maps.AppendAt
import Derived.ProofKit
namespace Go.Proofs.YtkondcjmhlppiaaGreat
open Go.RowKit
set_option linter.unusedVariables false
set_option maxRecDepth 100000
open Go.ChangeShapes Go.WideShapes Go.ChangeAt Go.RowKit
attribute [local go_sem ↓] Go.wp_at_zero Go.wp_at_succ

theorem Sees.kept {k : IntKind} {w w' : World} {v : Value} {xs : List Int} {r : Option Nat} (h : Sees k w v xs) (hg : w.grownBy w' r) (hr : xs = [] ∨ v.ownBlock ≠ r) : Sees k w' v xs := by
 obtain ⟨a, cap, rfl, hl, hm, hn0, hw, hs⟩ := h
 refine ⟨a, cap, rfl, hl, hm, hn0, hw, fun hne => ?_⟩
 obtain ⟨b, off, rfl, hlt, hc⟩ := hs hne
 refine ⟨b, off, rfl, Nat.lt_of_lt_of_le hlt hg.size, fun i hi => ?_⟩
 have hb : some b ≠ r := by
  rcases hr with hr | hr
  ·exact absurd hr hne
  ·exact hr
 have := hc i hi
 unfold World.cell? at this ⊢
 rw [hg.block b hlt hb]; exact this
theorem grown_cell {w w' : World} {row : Option Nat} {b : Nat} (hg : w.grownBy w' row) (hlt : b < w.heap.size) (j : Nat) (hne : ¬ row = some b) : w'.cell? ⟨b, j, none⟩ = w.cell? ⟨b, j, none⟩ := by
 unfold World.cell?
 rw [hg.block b hlt (fun e => hne e.symm)]
theorem grownA_set (w : World) (a : Addr) (u : Value) : w.grownBy (w.setCell a u) (some a.block) :=
 ⟨rfl, rfl, rfl, by simp, fun k _ hk => heap_setCell_other w a k u (fun e => hk (by rw [e]))⟩
theorem grownA_alloc (w : World) (o : Obj) (r : Option Nat) : w.grownBy (w.alloc o) r := grown_of_below ((Below.refl _ _).alloc (Nat.le_refl _) o) r
theorem infoInst9 : (Tryz.prog.info? 60).map (fun i => (i.zero, i.size, i.bytes)) = some (some (instV 0 0 0 0 0), 5, 40) := by kernel_rfl
theorem infoInt9 : (Tryz.prog.info? 3).map (fun i => (i.zero, i.size, i.bytes)) = some (some (.int .i64 0), 1, 8) := by kernel_rfl
def MdC (w : World) (n : Nat) (vm vc : Value) : Prop := w.heap[n]? = some (.cells #[vm, vc] 32 (0, 0))
theorem MdC.cells {w : World} {n : Nat} {vm vc : Value} (h : MdC w n vm vc) : w.cell? ⟨n, 0, none⟩ = some vm /\ w.cell? ⟨n, 1, none⟩ = some vc := ⟨cell_of_row w n 0 _ _ _ h, cell_of_row w n 1 _ _ _ h⟩
theorem MdC.frozen {w : World} {n : Nat} {vm vc : Value} (h : MdC w n vm vc) (j : Nat) : w.frozen? ⟨n, j, none⟩ = false := frozen_of_row w n j _ _ h
theorem MdC.lt {w : World} {n : Nat} {vm vc : Value} (h : MdC w n vm vc) : n < w.heap.size := (Array.getElem?_eq_some_iff.1 h).1
theorem MdC.kept {w w' : World} {n : Nat} {vm vc : Value} {row : Option Nat} (h : MdC w n vm vc) (hg : w.grownBy w' row) (hr : row ≠ some n) : MdC w' n vm vc := by
 unfold MdC
 rw [hg.block n h.lt (fun e => hr e.symm)]; exact h
theorem MdC.new (w : World) (vm vc : Value) : MdC (w.alloc (.cells #[vm, vc] 32)) w.heap.size vm vc := heap_alloc_new w _
theorem MdC.set {w : World} {n : Nat} {vm vc : Value} (h : MdC w n vm vc) (um uc : Value) : MdC ((w.setCell ⟨n, 0, none⟩ um).setCell ⟨n, 1, none⟩ uc) n um uc := heap_setCell_same _ n 1 _ _ _ (heap_setCell_same w n 0 _ _ _ h)
abbrev modV (vm vc : Value) : Value := .agg #[vm, vc]

structure SeesM (w : World) (vm vc : Value) (ms : List Int) (is : List In) : Prop where
 maps : Sees .i64 w vm ms
 code : SeesI w vc is
 wf : ∀ i ∈ is, i.wf
theorem SeesM.below {w w' : World} {vm vc : Value} {ms : List Int} {is : List In} (h : SeesM w vm vc ms is) (hb : Below w.heap.size w w') : SeesM w' vm vc ms is := ⟨h.maps.below hb (Nat.le_refl _), h.code.below hb, h.wf⟩
theorem below_alloc (w : World) (o : Obj) : Below w.heap.size w (w.alloc o) := (Below.refl _ _).alloc (Nat.le_refl _) o
theorem src_empty {P : Program} {size : Nat} {t e : TypeId} (h : P.underlying t = some (.slice e)) (ax : Option Addr) (cap : Nat) (w : World) : Src P size t (.slice ax 0 cap) 0 [] w := by
 refine ⟨.inl ⟨e, h⟩, fun w' => by simp [Builtin.lenOf], ?_, ?_, by simp, by simp⟩
 ·cases ax with
  | none => simp [Builtin.firstCells]
  | some ad => simp [Builtin.firstCells]; exact run_loadCells_list (P := P) w ad [] (by simp)
 ·cases ax with
  | none => simp [Builtin.firstCells]
  | some ad => simp [Builtin.firstCells]; exact run_loadCells_list (P := P) w.drew ad [] (by simp)
theorem SeesI.kept {w w' : World} {v : Value} {xs : List In} {r : Option Nat} (h : SeesI w v xs) (hg : w.grownBy w' r) (hr : xs = [] ∨ v.ownBlock ≠ r) : SeesI w' v xs := by
 obtain ⟨a, cap, rfl, hl, hm, hn0, hs⟩ := h
 refine ⟨a, cap, rfl, hl, hm, hn0, fun hne => ?_⟩
 obtain ⟨b, off, rfl, hlt, hat⟩ := hs hne
 refine ⟨b, off, rfl, Nat.lt_of_lt_of_le hlt hg.size, fun k hk => ?_⟩
 have hb : ¬ r = some b := by
  rcases hr with hr | hr
  ·exact absurd hr hne
  ·exact fun e => hr e.symm
 have hcell : ∀ j, w'.cell? ⟨b, j, none⟩ = w.cell? ⟨b, j, none⟩ := fun j => grown_cell hg hlt j hb
 unfold At
 rw [hcell, hcell, hcell, hcell, hcell]
 exact hat k hk
structure Cpr (W0 : World) (n1 n2 : Nat) (vm vc : Value) (w' : World) : Prop where
 md : MdC w' n1 vm vc
 two : ∃ um uc, MdC w' n2 um uc
 g : W0.grownBy w' (some n2)
theorem Cpr.grown {W0 : World} {n1 n2 : Nat} {vm vc : Value} {w' w2 : World} (h : Cpr W0 n1 n2 vm vc w') (hg : w'.grownBy w2 none) : Cpr W0 n1 n2 vm vc w2 :=
 ⟨h.md.kept hg (by simp), by obtain ⟨um, uc, h2⟩ := h.two; exact ⟨um, uc, h2.kept hg (by simp)⟩, h.g.trans (hg.but _)⟩
theorem Cpr.alloc {W0 : World} {n1 n2 : Nat} {vm vc : Value} {w' : World} (h : Cpr W0 n1 n2 vm vc w') (o : Obj) : Cpr W0 n1 n2 vm vc (w'.alloc o) := h.grown (grownA_alloc _ _ none)
theorem Cpr.drew {W0 : World} {n1 n2 : Nat} {vm vc : Value} {w' : World} (h : Cpr W0 n1 n2 vm vc w') : Cpr W0 n1 n2 vm vc w'.drew := h.grown ⟨rfl, rfl, rfl, Nat.le_refl _, fun _ _ _ => rfl⟩
theorem Cpr.store {W0 : World} {n1 n2 : Nat} {vm vc : Value} {w' : World} (h : Cpr W0 n1 n2 vm vc w') (hn : n1 ≠ n2) (um uc : Value) : Cpr W0 n1 n2 vm vc ((w'.setCell ⟨n2, 0, none⟩ um).setCell ⟨n2, 1, none⟩ uc) := by
 have hg := (grownA_set w' ⟨n2, 0, none⟩ um).trans (grownA_set _ ⟨n2, 1, none⟩ uc)
 obtain ⟨xm, xc, h2⟩ := h.two
 exact ⟨h.md.kept hg (by simp; exact fun e => hn e.symm), ⟨_, _, h2.set um uc⟩, h.g.trans hg⟩
theorem Cpr.all {W0 : World} {n1 n2 : Nat} {vm vc : Value} {w' : World} (h : Cpr W0 n1 n2 vm vc w') : (w'.cell? ⟨n1, 0, none⟩ = some vm /\ w'.cell? ⟨n1, 1, none⟩ = some vc) /\ Cpr W0 n1 n2 vm vc w' := ⟨h.md.cells, h⟩

attribute [local go_sem ↓] Go.wp_at_zero Go.wp_at_succ

def OwnOr (w : World) (B : Nat) (e : TypeId) (z : Nat) (v : Value) (n : Nat) (xs : List Value) : Prop := (n = 0 /\ ∃ ad, v = .slice (some ad) 0 0) ∨ w.ownsRow B e z v n xs
theorem own_low {w : World} {B B' : Nat} {e : TypeId} {z : Nat} {v : Value} {n : Nat} {xs : List Value} (h : w.ownsRow B e z v n xs) (hb : B' <= B) : w.ownsRow B' e z v n xs := by
 rcases h with ⟨h1, h2 | ⟨g, cap, cur, hv, hg, hh, r⟩⟩
 ·exact ⟨h1, .inl h2⟩
 ·exact ⟨h1, .inr ⟨g, cap, cur, hv, Nat.le_trans hb hg, hh, r⟩⟩
theorem OwnOr.blocks {w : World} {B : Nat} {e : TypeId} {z : Nat} {v : Value} {n : Nat} {xs : List Value} (h : OwnOr w B e z v n xs) : n = 0 ∨ ∀ j, v.ownBlock = some j -> B <= j := by
 rcases h with h | h
 ·exact .inl h.1
 ·exact .inr fun j hj => (h.lt j hj).1
theorem OwnOr.low {w : World} {B B' : Nat} {e : TypeId} {z : Nat} {v : Value} {n : Nat} {xs : List Value} (h : OwnOr w B e z v n xs) (hb : B' <= B) : OwnOr w B' e z v n xs := h.imp id fun h => own_low h hb
theorem OwnOr.kept {w w' : World} {B : Nat} {e : TypeId} {z : Nat} {v : Value} {n : Nat} {xs : List Value} {b : Nat} (h : OwnOr w B e z v n xs) (hg : w.grownBy w' (some b)) (hb : b < B) : OwnOr w' B e z v n xs := by
 rcases h with h | h
 ·exact .inl h
 ·refine .inr (h.kept hg ?_)
  cases hv : v.ownBlock with
  | none => exact .inl rfl
  | some k =>
   refine .inr fun e => ?_
   have := (h.lt k hv).1
   injection e with e
   omega
theorem step_copyO {P : Program} {ops : Array Oper} {o : Oper} {a : Act} {w : World} {K : Act -> World -> Prop} {Q : Exit -> Act -> World -> Prop} {E : Prop}
  (hg : o.guard = none) (s x : Operand) (t : TypeId) (hop : o.op = Op.call { callee := Callee.builtin Builtin.append, args := #[s, x], argTypes := #[t, t] })
  (e : TypeId) (i : TypeInfo) (z : Value) (bytes : Nat) (h1 : P.underlying t = some (.slice e)) (h2 : P.info? e = some i) (h3 : i.zero = some z) (h4 : i.size = 1) (h5 : i.bytes = bytes) (h6 : z.cells.size = 1)
  (k : IntKind) (hs : ∃ ad, a.eval s = .slice (some ad) 0 0) (src : Value) (ys : List Int) (hx : a.eval x = src) (hsee : Sees k w src ys) (B : Nat) (hB : B <= w.heap.size) (b1 : ys.length <= maxLen) (b2 : ys.length * bytes <= 140737488355328)
  (hK : ∀ v' w', Sees k w' v' ys -> OwnOr w' B e 1 v' ys.length (ys.map (Value.int k)) -> w.grownBy w' none -> K (a.put o.dst v') w') :
  if Region.wanted o (yielded ops a.tmps) = true then Oper.wp P o a w K Q else E := by
 have hw : Region.wanted o (yielded ops a.tmps) = true := by simp [Region.wanted, hg]
 rw [if_pos hw]
 obtain ⟨ad, hs⟩ := hs
 have hwf := hsee.wf
 obtain ⟨ax, cap, rfl, hl, hm, hn0, _, hc⟩ := hsee
 by_cases hne : ys = []
 ·subst hne
  have hrun := run_append_nothing (P := P) w t t o.type e i h1 h2 (some ad) 0 0 (Nat.le_refl _) _ (src_empty (size := i.size) h1 ax cap w)
  have hx' : a.eval x = .slice ax 0 cap := hx
  unfold Oper.wp
  simp [execOp, hop, resolve, invoke, builtin, hs, hx', hrun, Result.andThen]
  exact hK _ _ ⟨_, 0, rfl, by simp, by simp [maxLen], fun h => by simp at h, by simp, fun h => absurd rfl h⟩ (.inl ⟨rfl, _, rfl⟩) (grown_refl _ _)
 ·obtain ⟨b, off, rfl, hlt, hcell⟩ := hc hne
  obtain ⟨v', w', hrun, r1, r2⟩ := run_append_arg_grows (P := P) w t o.type e i z 1 bytes h1 h2 h3 h4 h5 h6 (by decide) ad 0 0 [] (by simp) (by simp) ⟨b, off, none⟩ ys.length cap (ys.map (Value.int k)) (by simp) (fun j u hj => by
   rw [List.getElem?_map] at hj
   obtain ⟨y, hy, rfl⟩ := Option.map_eq_some_iff.1 hj
   have hj' : j < ys.length := (List.getElem?_eq_some_iff.1 hy).1
   rw [add_none, hcell j hj']
   simp [List.getD, hy]) (by have : 0 < ys.length := List.length_pos_iff.2 hne; omega) (by omega) (by rw [Nat.zero_add]; exact b2)
  unfold Oper.wp
  simp [execOp, hop, resolve, invoke, builtin, hs, hx, hrun, Result.andThen]
  refine hK _ _ (Sees.own (by simpa using r1) hwf) (.inr (own_low (by simpa using r1) hB)) r2
theorem step_copyIO {P : Program} {ops : Array Oper} {o : Oper} {a : Act} {w : World} {K : Act -> World -> Prop} {Q : Exit -> Act -> World -> Prop} {E : Prop}
  (hg : o.guard = none) (s x : Operand) (t : TypeId) (hop : o.op = Op.call { callee := Callee.builtin Builtin.append, args := #[s, x], argTypes := #[t, t] })
  (e : TypeId) (i : TypeInfo) (z : Value) (h1 : P.underlying t = some (.slice e)) (h2 : P.info? e = some i) (h3 : i.zero = some z) (h4 : i.size = 5) (h5 : i.bytes = 40) (h6 : z.cells.size = 5)
  (hs : ∃ ad, a.eval s = .slice (some ad) 0 0) (src : Value) (ys : List In) (hx : a.eval x = src) (hsee : SeesI w src ys) (B : Nat) (hB : B <= w.heap.size) (b1 : ys.length <= maxLen) (b2 : ys.length * 40 <= 140737488355328)
  (hK : ∀ v' w', SeesI w' v' ys -> OwnOr w' B e 5 v' ys.length (flat ys) -> w.grownBy w' none -> K (a.put o.dst v') w') :
  if Region.wanted o (yielded ops a.tmps) = true then Oper.wp P o a w K Q else E := by
 have hw : Region.wanted o (yielded ops a.tmps) = true := by simp [Region.wanted, hg]
 rw [if_pos hw]
 obtain ⟨ad, hs⟩ := hs
 obtain ⟨ax, cap, rfl, hl, hm, hn0, hc⟩ := hsee
 by_cases hne : ys = []
 ·subst hne
  have hrun := run_append_nothing (P := P) w t t o.type e i h1 h2 (some ad) 0 0 (Nat.le_refl _) _ (src_empty (size := i.size) h1 ax cap w)
  have hx' : a.eval x = .slice ax 0 cap := hx
  unfold Oper.wp
  simp [execOp, hop, resolve, invoke, builtin, hs, hx', hrun, Result.andThen]
  exact hK _ _ ⟨_, 0, rfl, by simp, by simp [maxLen], fun h => by simp at h, fun h => absurd rfl h⟩ (.inl ⟨rfl, _, rfl⟩) (grown_refl _ _)
 ·obtain ⟨b, off, rfl, hlt, hat⟩ := hc hne
  obtain ⟨v', w', hrun, r1, r2⟩ := run_append_arg_grows (P := P) w t o.type e i z 5 40 h1 h2 h3 h4 h5 h6 (by decide) ad 0 0 [] (by simp) (by simp) ⟨b, off, none⟩ ys.length cap (flat ys) (flat_len ys) (flat_cells hat) (by have : 0 < ys.length := List.length_pos_iff.2 hne; omega) (by omega) (by rw [Nat.zero_add]; exact b2)
  unfold Oper.wp
  simp [execOp, hop, resolve, invoke, builtin, hs, hx, hrun, Result.andThen]
  exact hK _ _ (own_seesI (xs := ys) (by simpa using r1)) (.inr (own_low (by simpa using r1) hB)) r2

set_option maxHeartbeats 6400000 in
theorem copied9_own (vm vc : Value) (ms : List Int) (is : List In) (w : World) (h : SeesM w vm vc ms is) (z : ms.length * 8 <= 140737488351232 /\ is.length * 40 <= 140737488355328) :
  Calls Tryz.prog 9 #[modV vm vc] w fun e w' => ∃ um uc, e = .returned (modV um uc) /\ SeesM w' um uc ms is /\ OwnOr w' w.heap.size 3 1 um ms.length (ms.map (Value.int .i64)) /\ OwnOr w' w.heap.size 60 5 uc is.length (flat is) /\ Below w.heap.size w w' := by
 obtain ⟨i0, hi, hz0, hz1, hz2⟩ := info_parts infoInt9
 obtain ⟨j0, hj, hy0, hy1, hy2⟩ := info_parts infoInst9
 obtain ⟨am, km, hvm⟩ := h.maps.shape
 obtain ⟨ac, kc, hvc⟩ := h.code.shape
 obtain ⟨W0, HW⟩ : ∃ W0, Hid (W0 = (w.alloc (.cells #[vm, vc] 32)).alloc (.cells #[.slice none 0 0, .slice none 0 0] 32)) := ⟨_, keepH rfl⟩
 have HB : Hid (Below w.heap.size w W0) := by rw [HW.out]; exact (below_alloc w _).alloc (by simp) _
 have HC : Cpr W0 w.heap.size (w.heap.size + 1) vm vc W0 := by
  refine ⟨?_, ⟨.slice none 0 0, .slice none 0 0, ?_⟩, grown_refl _ _⟩
  ·rw [HW.out]; exact (MdC.new w vm vc).kept (grownA_alloc _ _ none) (by simp)
  ·rw [HW.out]
   have := MdC.new (w.alloc (.cells #[vm, vc] 32)) (.slice none 0 0) (.slice none 0 0)
   rwa [World.size_alloc] at this
 have HM := keepH (h.below HB.out)
 have HZ := keepH z
 have HSz : Hid (W0.heap.size = w.heap.size + 2) := by rw [HW.out]; show _ = _; simp
 have HZ1 : Hid (ms.length <= maxLen) := by show _ <= _; unfold maxLen; omega
 have HZ2 : Hid (ms.length * 8 <= 140737488355328) := by show _ <= _; omega
 have HZ3 : Hid (is.length <= maxLen) := by show _ <= _; unfold maxLen; omega
 have HZ4 : Hid (is.length * 40 <= 140737488355328) := z.2
 have HMm : Hid (∀ w', Cpr W0 w.heap.size (w.heap.size + 1) vm vc w' -> Sees .i64 w' vm ms) := fun w' hc => by
  by_cases hne : ms = []
  ·subst hne
   exact HM.out.maps.kept hc.g (.inl rfl)
  ·refine HM.out.maps.kept hc.g (.inr fun e => ?_)
   obtain ⟨a', c', hv, _, _, _, _, hs⟩ := h.maps
   obtain ⟨b, off, rfl, hlt, _⟩ := hs hne
   rw [hv] at e
   simp [Value.ownBlock] at e
   omega
 have HMc : Hid (∀ w', Cpr W0 w.heap.size (w.heap.size + 1) vm vc w' -> SeesI w' vc is) := fun w' hc => by
  obtain ⟨a', c', hv, b1, b2, b3, hs⟩ := h.code
  refine ⟨a', c', hv, b1, b2, b3, fun hne => ?_⟩
  obtain ⟨b, off, rfl, hlt, hat⟩ := hs hne
  have hs0 := HB.out.size
  refine ⟨b, off, rfl, Nat.lt_of_lt_of_le hlt (Nat.le_trans hs0 hc.g.size), fun k hk => ?_⟩
  have h1 := (hat k hk).below HB.out hlt
  have hcell : ∀ j, w'.cell? ⟨b, j, none⟩ = W0.cell? ⟨b, j, none⟩ := fun j => grown_cell hc.g (by omega) j (by simp; omega)
  unfold At
  rw [hcell, hcell, hcell, hcell, hcell]
  exact h1
 have HWF : Hid (∀ i ∈ is, i.wf) := h.wf
 subst hvm hvc
 clear h z
 obtain ⟨c0, c1⟩ := HC.md.cells
 go_enter Tryz.func9, Tryz.ntmps9
 go_wp2_with fail
 rw [<- HW.out]
 go_region_held_law (fun w' => (w'.cell? ⟨w.heap.size, 0, none⟩ = some (.slice am ms.length km) /\ w'.cell? ⟨w.heap.size, 1, none⟩ = some (.slice ac is.length kc)) /\ Cpr W0 w.heap.size (w.heap.size + 1) (.slice am ms.length km) (.slice ac is.length kc) w')
  ((refine Cpr.all ?_; repeat (first | assumption | refine Cpr.drew ?_ | refine Cpr.alloc ?_ _ | refine Cpr.store ?_ (by omega) _ _)))
  (first
   | ((refine step_copyO (by rfl) (.tmp 3) (.tmp 5) 29 (by rfl) 3 i0 (.int .i64 0) 8 Tryz.underlying29 hi hz0 hz1 hz2 rfl .i64 (by exact ⟨_, rfl⟩) (.slice am ms.length km) ms (by rfl) (HMm.out _ (And.right ‹_ /\ Cpr W0 _ _ _ _ _›)) W0.heap.size (And.right ‹_ /\ Cpr W0 _ _ _ _ _›).g.size HZ1.out HZ2.out ?_; intro v1 w1 hs1 hb1 hg1; have hC1 := Cpr.grown (And.right ‹_ /\ Cpr W0 _ _ _ _ _›) hg1; obtain ⟨a1, k1, hv1⟩ := hs1.shape; subst hv1))
   | ((refine step_copyIO (by rfl) (.tmp 7) (.tmp 9) 30 (by rfl) 60 j0 (instV 0 0 0 0 0) Tryz.underlying30 hj hy0 hy1 hy2 rfl (by exact ⟨_, rfl⟩) (.slice ac is.length kc) is (by rfl) (HMc.out _ (And.right ‹_ /\ Cpr W0 _ _ _ _ _›)) W0.heap.size (And.right ‹_ /\ Cpr W0 _ _ _ _ _›).g.size HZ3.out HZ4.out ?_; intro v2 w2 hs2 hb2 hg2; have hC2 := Cpr.grown (And.right ‹_ /\ Cpr W0 _ _ _ _ _›) hg2; obtain ⟨a2, k2, hv2⟩ := hs2.shape; subst hv2; obtain ⟨xm, xc, h2m⟩ := hC2.two; obtain ⟨y0, y1⟩ := h2m.cells; have f0 := h2m.frozen 0; have f1 := h2m.frozen 1)))
 all_goals
  have gs : w2.grownBy ((w2.setCell ⟨w.heap.size + 1, 0, none⟩ (.slice a1 ms.length k1)).setCell ⟨w.heap.size + 1, 1, none⟩ (.slice a2 is.length k2)) (some (w.heap.size + 1)) := (grownA_set w2 ⟨w.heap.size + 1, 0, none⟩ (.slice a1 ms.length k1)).trans (grownA_set _ ⟨w.heap.size + 1, 1, none⟩ (.slice a2 is.length k2))
  have g1 : w1.grownBy ((w2.setCell ⟨w.heap.size + 1, 0, none⟩ (.slice a1 ms.length k1)).setCell ⟨w.heap.size + 1, 1, none⟩ (.slice a2 is.length k2)) (some (w.heap.size + 1)) := by first | exact (hg2.but _).trans gs | exact ((grownA_alloc w1 _ _).trans (hg2.but _)).trans gs
  have r1 : Sees .i64 ((w2.setCell ⟨w.heap.size + 1, 0, none⟩ (.slice a1 ms.length k1)).setCell ⟨w.heap.size + 1, 1, none⟩ (.slice a2 is.length k2)) (.slice a1 ms.length k1) ms := hs1.kept g1 (by
   rcases hb1.blocks with h | h
   ·exact .inl (List.eq_nil_of_length_eq_zero h)
   ·refine .inr fun e => ?_
    have h1 := h _ e
    have h2 := HSz.out
    omega)
  have r2 : SeesI ((w2.setCell ⟨w.heap.size + 1, 0, none⟩ (.slice a1 ms.length k1)).setCell ⟨w.heap.size + 1, 1, none⟩ (.slice a2 is.length k2)) (.slice a2 is.length k2) is := hs2.kept gs (by
   rcases hb2.blocks with h | h
   ·exact .inl (List.eq_nil_of_length_eq_zero h)
   ·refine .inr fun e => ?_
    have h1 := h _ e
    have h2 := HSz.out
    omega)
  have r3 := h2m.set (.slice a1 ms.length k1) (.slice a2 is.length k2)
  have r4 := HB.out.grown (hC2.g.trans gs) HB.out.size (fun k hk => by injection hk with hk; omega)
  go_wp2_with fail
  refine bodyPost_ret (results_cell_row rfl _ _ (w.heap.size + 1) _ _ (0, 0) _ rfl r3 Tryz.underlying32 rfl (by kernel_rfl)) rfl ?_
  have hlow : w.heap.size <= W0.heap.size := HB.out.size
  have o1 := hb1.kept g1 (by have := HSz.out; omega)
  have o2 := hb2.kept gs (by have := HSz.out; omega)
  exact ⟨_, _, rfl, ⟨r1, r2, HWF.out⟩, o1.low hlow, o2.low hlow, r4⟩
theorem opens_Inst_sh {H : Type} {enc : TypeId × Value -> H} {W : World} {v : Value} {d : DataW H} {p : List MemPlace}
  (hsh : ∃ a len cap, v = .slice a len cap) (h : DataW.Trod enc Tryz.prog W 0 (fun _ => true) true 30 v d p) :
  ∃ xs, (SeesI W v xs /\ ∀ i ∈ xs, i.wf) /\ 6 * xs.length < Rows.uptoBulk d /\ ((d.weights Tryz.prog 30).all (· <= reachBytes) = true -> xs.length * 40 <= 140737488351232) := by
 obtain ⟨a, len, cap, rfl⟩ := hsh
 have c5 : Tryz.prog.cellsOf 60 = 5 := by kernel_rfl
 obtain ⟨fuel, hf⟩ := h
 rcases DataW.trod_slice Tryz.underlying30 hf with ⟨hcs, hx⟩ | ⟨x, l, c, elems, rest, n, rfl, hcs, hx, _, hl, hm, hlen, hel, hsp, _⟩
 ·simp [Value.cells] at hcs hx
  obtain ⟨rfl, rfl, rfl⟩ := hcs
  obtain ⟨rfl, rfl⟩ := hx
  exact ⟨[], ⟨⟨none, 0, rfl, by simp, by simp [maxLen], fun _ => rfl, fun h => absurd rfl h⟩, by simp⟩, by simp [Rows.uptoBulk], fun _ => by simp⟩
 ·simp [Value.cells] at hcs hx
  obtain ⟨rfl, rfl, rfl⟩ := hcs
  obtain ⟨rfl, rfl⟩ := hx
  have hex : ∀ i : Nat, ∃ I : In, i < len -> I.wf /\ (∀ j, j < 5 -> W.cell? ((x.add (i * 5)).add j) = I.cells[j]?) /\ (elems.map (·.1))[i]? = some I.data := by
   intro i
   by_cases hi : i < len
   ·have h1 := hel i hi
    have hie : i < elems.length := by omega
    rw [c5, List.getElem?_eq_getElem hie, Option.bind_eq_some_iff] at h1
    obtain ⟨cs, hc1, hc2⟩ := h1
    obtain ⟨I, rfl, hw, hx⟩ := inst_cells hc2
    refine ⟨I, fun _ => ⟨hw, (World.cells?_some hc1).2.2, ?_⟩⟩
    rw [List.getElem?_map, List.getElem?_eq_getElem hie, hx]
    rfl
   ·exact ⟨In.nil, fun h => absurd h hi⟩
  obtain ⟨g, hg⟩ := Classical.axiomOfChoice hex
  have hxl : ((List.range len).map g).length = len := by simp
  have hgd : ∀ k, k < len -> ((List.range len).map g).getD k In.nil = g k := fun k hk => by simp [List.getD, hk]
  refine ⟨(List.range len).map g, ⟨⟨some x, cap, by rw [hxl], by omega, hm, fun h => by simp at h, fun hne => ?_⟩, ?_⟩, ?_, ?_⟩
  ·have hpos : 0 < len := by
    rcases Nat.eq_zero_or_pos len with h0 | h0
    ·subst h0; exact absurd rfl hne
    ·exact h0
   obtain ⟨b, off, spot⟩ := x
   have h00 := (hg 0 hpos).2.1 0 (by omega)
   have hspot : spot = none := by
    have := World.cell?_spot (show W.cell? _ = some _ from h00)
    simpa [Addr.add] using this
   subst hspot
   refine ⟨b, off, rfl, ?_, fun k hk => ?_⟩
   ·have := World.block_lt_of_cell? W _ (show W.cell? _ = some _ from h00)
    simpa [Addr.add] using this
   ·rw [hxl] at hk
    rw [hgd k hk]
    have h5 := (hg k hk).2.1
    simp only [Addr.add_mid] at h5
    exact ⟨h5 0 (by omega), h5 1 (by omega), h5 2 (by omega), h5 3 (by omega), h5 4 (by omega)⟩
  ·intro i hi
   simp only [List.mem_map, List.mem_range] at hi
   obtain ⟨k, hk, rfl⟩ := hi
   exact (hg k hk).1
  ·have hd : elems.map (·.1) = (List.range len).map fun k => (g k).data := by
    apply List.ext_getElem?
    intro k
    by_cases hk : k < len
    ·rw [(hg k hk).2.2]; simp [hk]
    ·rw [List.getElem?_eq_none (by simp; omega), List.getElem?_eq_none (by simp; omega)]
   rw [hd, hxl]
   have hb : ∀ l : List Nat, Rows.uptoBulkAll (H := H) (l.map fun k => (g k).data) = 6 * l.length := by
    intro l
    induction l with
    | nil => rfl
    | cons k l ih => simp only [List.map_cons, Rows.uptoBulkAll, ih, Rows.uptoBulk, List.length_cons]; omega
   simp only [Rows.uptoBulk, hb, List.length_range]
   omega
  ·intro hall
   have b40 : Tryz.prog.bytesOf 60 = 40 := by kernel_rfl
   rw [DataW.weights, Tryz.underlying30] at hall
   simp only [List.all_cons, Bool.and_eq_true, decide_eq_true_eq, List.length_map, b40] at hall
   have h1 := hall.1
   unfold reachBytes at h1
   rw [hxl]
   omega
end Go.Proofs.YtkondcjmhlppiaaGreat
