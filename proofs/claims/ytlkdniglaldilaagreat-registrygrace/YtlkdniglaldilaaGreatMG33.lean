/-
  KGRow
  KGSees
  KH19DA
  KH19DB
  KH19DC
  KH19DD
  KR18DA
  KR18DB
  KR18DC
  KR18DD
-/
import Derived.Test.YtlkdniglaldilaaGreatMG31
import Derived.Laws.CopyRow
import Derived.Laws.IdiomCopy
import Derived.Lib.AppendZerosOnto
import Derived.Lib.Overlaps
import Derived.Lib.SliceRun
import Derived.Deep.RegionLaw
import Derived.Laws.AppendOwnNone
import Derived.Deep.RegionHeld3
import Derived.Deep.RegionHeldLaw
namespace Go.Proofs.YtlkdniglaldilaaGreat
open Go.RowKit
set_option linter.unusedVariables false
set_option linter.unusedSimpArgs false
set_option maxRecDepth 100000
theorem own_row {w : World} {B : Nat} {e : TypeId} {z : Nat} {v : Value} {n : Nat} {xs : List Value} (h : w.ownsRow B e z v n xs) (hn : 0 < n) : ∃ g cap, ∃ cur : Array Value, v = .slice (some ⟨g, 0, none⟩) n cap /\ B <= g /\ w.heap[g]? = some (.cells cur e (0, 0)) /\ n <= cap /\ cap <= maxLen /\ cur.size = cap * z /\ cur.toList.take (n * z) = xs := by
 rcases h with ⟨h1, ⟨rfl, h2⟩ | ⟨g, cap, cur, h⟩⟩
 ·omega
 ·exact ⟨g, cap, cur, h⟩
theorem own_of {w : World} {B g n cap z : Nat} {e : TypeId} {cs xs : List Value} (hb : B <= g) (hh : w.heap[g]? = some (.cells cs.toArray e (0, 0))) (hnc : n <= cap) (hcm : cap <= maxLen) (hcs : cs.length = cap * z) (ht : cs.take (n * z) = xs) : w.ownsRow B e z (.slice (some ⟨g, 0, none⟩) n cap) n xs := by
 refine ⟨?_, .inr ⟨g, cap, cs.toArray, rfl, hb, hh, hnc, hcm, by simpa using hcs, by simpa using ht⟩⟩
 rw [<- ht, List.length_take, hcs]
 exact Nat.min_eq_left (Nat.mul_le_mul_right z hnc)
def putIn (cur : List Value) (a : Nat) (vs B : List Value) : List Value :=
 let c1 := cur.take (a + vs.length) ++ B ++ cur.drop (a + vs.length + B.length)
 c1.take a ++ vs ++ c1.drop (a + vs.length)
theorem putIn_eq (cur : List Value) (a : Nat) (vs B : List Value) (h : a + vs.length + B.length <= cur.length) : putIn cur a vs B = cur.take a ++ vs ++ (B ++ cur.drop (a + vs.length + B.length)) := by
 have h1 : (cur.take (a + vs.length)).length = a + vs.length := by rw [List.length_take]; omega
 have e1 : (cur.take (a + vs.length) ++ B ++ cur.drop (a + vs.length + B.length)).take a = cur.take a := by
  rw [List.append_assoc, List.take_append_of_le_length (by omega), List.take_take]
  congr 1
  omega
 have e2 : (cur.take (a + vs.length) ++ B ++ cur.drop (a + vs.length + B.length)).drop (a + vs.length) = B ++ cur.drop (a + vs.length + B.length) := by
  rw [List.append_assoc, List.drop_append_of_le_length (by omega), List.drop_eq_nil_of_le (by omega)]
  rfl
 show (cur.take (a + vs.length) ++ B ++ cur.drop (a + vs.length + B.length)).take a ++ vs ++ (cur.take (a + vs.length) ++ B ++ cur.drop (a + vs.length + B.length)).drop (a + vs.length) = _
 rw [e1, e2]
theorem putIn_len (cur : List Value) (a : Nat) (vs B : List Value) (h : a + vs.length + B.length <= cur.length) : (putIn cur a vs B).length = cur.length := by
 rw [putIn_eq cur a vs B h]
 simp
 omega
theorem putIn_take (cur : List Value) (a : Nat) (vs B : List Value) (h : a + vs.length + B.length <= cur.length) : (putIn cur a vs B).take (a + vs.length + B.length) = cur.take a ++ vs ++ B := by
 rw [putIn_eq cur a vs B h, <- List.append_assoc]
 apply List.take_left'
 simp
 omega
def putIn' (cur : List Value) (a : Nat) (vs B : List Value) : List Value :=
 let c1 := cur.take a ++ vs ++ cur.drop (a + vs.length)
 c1.take (a + vs.length) ++ B ++ c1.drop (a + vs.length + B.length)
theorem putIn'_eq (cur : List Value) (a : Nat) (vs B : List Value) (h : a + vs.length + B.length <= cur.length) : putIn' cur a vs B = cur.take a ++ vs ++ (B ++ cur.drop (a + vs.length + B.length)) := by
 have h1 : (cur.take a ++ vs).length = a + vs.length := by rw [List.length_append, List.length_take]; omega
 have e1 : (cur.take a ++ vs ++ cur.drop (a + vs.length)).take (a + vs.length) = cur.take a ++ vs := by
  rw [List.take_append_of_le_length (by omega), List.take_of_length_le (by omega)]
 have e2 : (cur.take a ++ vs ++ cur.drop (a + vs.length)).drop (a + vs.length + B.length) = cur.drop (a + vs.length + B.length) := by
  rw [List.drop_append, h1, List.drop_eq_nil_of_le (by omega), List.nil_append, List.drop_drop]
  congr 1
  omega
 show (cur.take a ++ vs ++ cur.drop (a + vs.length)).take (a + vs.length) ++ B ++ (cur.take a ++ vs ++ cur.drop (a + vs.length)).drop (a + vs.length + B.length) = _
 rw [e1, e2, List.append_assoc]
theorem putIn'_len (cur : List Value) (a : Nat) (vs B : List Value) (h : a + vs.length + B.length <= cur.length) : (putIn' cur a vs B).length = cur.length := by
 rw [putIn'_eq cur a vs B h]
 simp
 omega
theorem putIn'_take (cur : List Value) (a : Nat) (vs B : List Value) (h : a + vs.length + B.length <= cur.length) : (putIn' cur a vs B).take (a + vs.length + B.length) = cur.take a ++ vs ++ B := by
 rw [putIn'_eq cur a vs B h, <- List.append_assoc]
 apply List.take_left'
 simp
 omega
theorem wp_appG {P : Program} (w : World) {o : Oper} {a : Act} {K : Act -> World -> Prop} {Q : Exit -> Act -> World -> Prop} (d s : Operand) (t t' : TypeId)
  (ho : o.op = .call { callee := .builtin .append, args := #[d, s], argTypes := #[t, t'] }) (v u : Value) (hd : a.eval d = v) (hs : a.eval s = u) {v' : Value} {w' : World}
  (hr : (Builtin.append_ #[t, t'] o.type #[v, u]).run P w = .ok v' w') (h : K (a.put o.dst v') w') : o.wp P a w K Q := by
 unfold Oper.wp
 simp [execOp, ho, resolve, invoke, builtin, hd, hs, hr, Result.andThen]
 exact h
structure S3 where
 h : Int
 p : Int
 v : Int
section
variable {w w' : World} {B b : Nat} {v : Value} {t : Tb} {ss : List S3}
end
theorem wp_append_at19 {P : Program} (w : World) {o : Oper} {a : Act} {K : Act -> World -> Prop} {Q : Exit -> Act -> World -> Prop} (s x : Operand) (t : TypeId)
  (ho : o.op = .call { callee := .builtin .append, args := #[s, x], argTypes := #[t, t] })
  (base : Nat) (e : TypeId) (i : TypeInfo) (z : Value) (size bytes : Nat) (ht : P.underlying t = some (.slice e)) (hi : P.info? e = some i) (hz : i.zero = some z)
  (hsize : i.size = size) (hby : i.bytes = bytes) (hzs : z.cells.size = size) (hsz : 0 < size)
  (v : Value) (n : Nat) (xs : List Value) (hs : a.eval s = v) (hown : w.ownsRow base e size v n xs)
  (ad : Addr) (m c : Nat) (news : List Value) (hx : a.eval x = .slice (some ad) m c) (hl : news.length = m * size) (hnews : ∀ j u, news[j]? = some u -> w.cell? (ad.add j) = some u) (h1 : ∀ u ∈ news, u.oneCell' = true)
  (h63 : n + m <= maxLen) (hbytes : (n + m) * bytes <= 140737488355328) (hbase : base <= w.heap.size)
  (h : ∀ v' w', w'.ownsRow base e size v' (n + m) (xs ++ news) -> w.grownBy w' v.ownBlock -> (v'.ownBlock = v.ownBlock ∨ v'.ownBlock = some w.heap.size) -> K (a.put o.dst v') w') : Oper.wp P o a w K Q := by
 obtain ⟨v', w', hr, h2, h3, h4, h5⟩ := run_append_own_at (P := P) w base t o.type e i z size bytes ht hi hz hsize hby hzs hsz v n xs hown ad m c news hl hnews h1 h63 hbytes hbase
 unfold Oper.wp execOp
 simp only [ho, resolve, invoke, builtin, Sem.run_bind, Sem.run_pure, Result.andThen_ok, List.map_toArray, List.map_cons, List.map_nil, hs, hx, hr]
 exact h v' w' h2 h3 h5
section
variable {w w' : World} {B b m : Nat} {F G : Ft} {t : Tb}
end
section
variable {w w' : World} {B b m : Nat} {F G : Ft} {c : Tb}
theorem Sees.chg19 {k : IntKind} {w w' : World} {v : Value} {xs : List Int} {S : Nat -> Prop} (h : Sees k w v xs) (hc : Chg w w' S) (hS : xs ≠ [] -> ∀ j, v.ownBlock = some j -> ¬ S j) : Sees k w' v xs := by
 obtain ⟨a, cap, rfl, h1, h2, h3, h4, h5⟩ := h
 refine ⟨a, cap, rfl, h1, h2, h3, h4, fun hne => ?_⟩
 obtain ⟨b, off, rfl, hlt, hat⟩ := h5 hne
 refine ⟨b, off, rfl, Nat.lt_of_lt_of_le hlt hc.size, fun i hi => ?_⟩
 rw [<- hat i hi]
 exact World.cell?_of_block (hc.block b hlt (hS hne b rfl))
theorem Sees.at19 {w : World} {k : IntKind} {a : Option Addr} {n cap : Nat} {xs : List Int} (h : Sees k w (.slice a n cap) xs) {j : Nat} (hj : j < xs.length) : ∃ p off, a = some ⟨p, off, none⟩ /\ ∀ i, i < xs.length -> w.cell? ⟨p, off + i, none⟩ = some (.int k (xs.getD i 0)) := by
 obtain ⟨a', cap', ev, _, _, _, _, hc⟩ := h
 simp only [Value.slice.injEq] at ev
 obtain ⟨rfl, _, rfl⟩ := ev
 obtain ⟨p, off, rfl, _, hat⟩ := hc (fun e => by rw [e] at hj; simp at hj)
 exact ⟨p, off, rfl, hat⟩
theorem all_take19 {p : Int -> Bool} {xs : List Int} {j : Nat} (hj : j < xs.length) : (xs.take (j + 1)).all p = ((xs.take j).all p && p (xs.getD j 0)) := by
 rw [take_at xs j hj, List.all_append]; simp
theorem all_no19 {p : Int -> Bool} {xs : List Int} {j : Nat} (h : (xs.take j).all p = false) : xs.all p = false := by
 cases hh : xs.all p with
 | false => rfl
 | true =>
  have : (xs.take j).all p = true := List.all_eq_true.2 fun x hx => List.all_eq_true.1 hh x (List.mem_of_mem_take hx)
  rw [h] at this
  cases this
end
section
variable {w w' : World} {B b m : Nat} {F G : Ft} {t : Tb}
end
structure Hr where
 p : Int
 u : Value
 ms : List Int
def Hr.hm (h : Hr) : Hm := ⟨h.p, h.ms⟩
def inF (L : List Hr) : Ft := fun k => ∃ h ∈ L, h.ms ≠ [] /\ h.u.ownBlock = some k
def Ins (w : World) (L : List Hr) : Prop := ∀ h ∈ L, Sees .i64 w h.u h.ms
theorem Sees.chgE {k : IntKind} {w w' : World} {v : Value} {xs : List Int} {S : Nat -> Prop} (h : Sees k w v xs) (hc : Chg w w' S) (hS : xs ≠ [] -> ∀ j, v.ownBlock = some j -> ¬ S j) : Sees k w' v xs := by
 obtain ⟨a, cap, rfl, h1, h2, h3, h4, h5⟩ := h
 refine ⟨a, cap, rfl, h1, h2, h3, h4, fun hne => ?_⟩
 obtain ⟨b, off, rfl, hlt, hat⟩ := h5 hne
 refine ⟨b, off, rfl, Nat.lt_of_lt_of_le hlt hc.size, fun i hi => ?_⟩
 rw [<- hat i hi]
 exact World.cell?_of_block (hc.block b hlt (hS hne b rfl))
theorem Sees.lieE {k : IntKind} {w : World} {v : Value} {xs : List Int} (h : Sees k w v xs) (hne : xs ≠ []) {j : Nat} (hj : v.ownBlock = some j) : j < w.heap.size := by
 obtain ⟨a, cap, rfl, h1, h2, h3, h4, h5⟩ := h
 obtain ⟨b, off, rfl, hlt, hat⟩ := h5 hne
 have : b = j := Option.some.inj hj
 omega
theorem Sees.atE {w : World} {k : IntKind} {a : Option Addr} {n cap : Nat} {xs : List Int} (h : Sees k w (.slice a n cap) xs) {j : Nat} (hj : j < xs.length) : ∃ p off, a = some ⟨p, off, none⟩ /\ ∀ i, i < xs.length -> w.cell? ⟨p, off + i, none⟩ = some (.int k (xs.getD i 0)) := by
 obtain ⟨a', cap', ev, _, _, _, _, hc⟩ := h
 simp only [Value.slice.injEq] at ev
 obtain ⟨rfl, _, rfl⟩ := ev
 obtain ⟨p, off, rfl, _, hat⟩ := hc (fun e => by rw [e] at hj; simp at hj)
 exact ⟨p, off, rfl, hat⟩
theorem Ins.chg {w w' : World} {L : List Hr} {S : Nat -> Prop} (h : Ins w L) (hc : Chg w w' S) (ha : Apt S (inF L)) : Ins w' L := fun x hx => (h x hx).chgE hc (fun hne j hj e => ha j e ⟨x, hx, hne, hj⟩)
theorem Ins.lies {w : World} {L : List Hr} (h : Ins w L) : Lies w (inF L) := fun k hk => by
 obtain ⟨x, hx, hne, hu⟩ := hk
 exact (h x hx).lieE hne hu
section
variable {w w' : World} {B b n : Nat} {v : Value} {L : List Hr}
theorem nodup_take (ws : List Int) {j : Nat} (hj : j < ws.length) : (ws.take (j + 1)).Nodup ↔ (ws.take j).Nodup /\ ¬ ws.getD j 0 ∈ ws.take j := by
 rw [take_at ws j hj, List.nodup_append]
 constructor
 ·rintro ⟨h1, _, h3⟩
  exact ⟨h1, fun hm => h3 _ hm _ (by simp) rfl⟩
 ·rintro ⟨h1, h6⟩
  refine ⟨h1, by simp, fun a ha b hb e => ?_⟩
  have hb2 : b = ws.getD j 0 := List.mem_singleton.1 hb
  subst hb2
  subst e
  exact h6 ha
theorem not_in_takeE {xs : List Int} {x : Int} {k : Nat} (hk : k < xs.length) (h1 : ¬ x ∈ xs.take k) (h2 : xs.getD k 0 ≠ x) : ¬ x ∈ xs.take (k + 1) := by
 rw [take_at xs k hk, List.mem_append]
 rintro (e | e)
 ·exact h1 e
 ·exact h2 (List.mem_singleton.1 e).symm
end
theorem infoIntR : (Tryz.prog.info? 3).map (fun i => (i.zero, i.size, i.bytes)) = some (some (.int .i64 0), 1, 8) := by kernel_rfl
section
variable {w w' : World} {B b n m : Nat} {F G : Ft} {P : Rs_g}
theorem hm_has {L : List Hr} (hp : (L.map Hr.hm).Perm P) {p : Int} : P.has p = true ↔ ∃ h ∈ L, h.p = p := by
 rw [Rs_g.has_iff]
 constructor
 ·rintro ⟨x, hx, e⟩
  obtain ⟨y, hy, rfl⟩ := List.mem_map.1 (hp.mem_iff.2 hx)
  exact ⟨y, hy, e⟩
 ·rintro ⟨y, hy, e⟩
  exact ⟨y.hm, hp.mem_iff.1 (List.mem_map.2 ⟨y, hy, rfl⟩), e⟩
end
def neP (x : Int) (h : Hr) : Bool := !decide (h.p = x)
theorem filter_hm (L : List Hr) (x : Int) : (L.filter (neP x)).map Hr.hm = (L.map Hr.hm).filter (fun h => !decide (h.p = x)) := by
 rw [List.filter_map]
 rfl
section
variable {w w' : World} {B b n m : Nat} {F G : Ft} {P : Rs_g}
end
def RoI (w : World) (B : Nat) (u : Value) (Y : List Int) : Prop := w.ownsRow B 3 1 u Y.length (Y.map (Value.int .i64))
theorem RoI.cells {w : World} {B : Nat} {u : Value} {Y : List Int} (h : RoI w B u Y) (hn : 0 < Y.length) : ∃ p cap, u = .slice (some ⟨p, 0, none⟩) Y.length cap /\ B <= p /\ p < w.heap.size /\ Y.length <= cap /\ cap <= 9223372036854775807 /\ (∀ k, k < Y.length -> w.cell? ⟨p, k, none⟩ = some (.int .i64 (Y.getD k 0)) /\ w.frozen? ⟨p, k, none⟩ = false) /\ ∀ (k : Nat) (y : Int), RoI (w.setCell ⟨p, k, none⟩ (.int .i64 y)) B (.slice (some ⟨p, 0, none⟩) Y.length cap) (Y.set k y) := by
 have h0 := h
 unfold RoI at h0
 obtain ⟨p, cap, e, h1, h2, h3, h4, h5⟩ := own_open h hn
 subst e
 unfold maxLen at h4
 refine ⟨p, cap, rfl, h1, h2, h3, by omega, fun k hk => ⟨h5 k _ (by simp [List.getD, hk]), h0.frozenAt _⟩, fun k y => ?_⟩
 have := (h0.stored k (.int .i64 y)).1
 unfold RoI
 rw [List.length_set, List.map_set]
 exact this
theorem RoI.below {w w' : World} {B : Nat} {u : Value} {Y : List Int} (h : RoI w B u Y) (hb : Below w.heap.size w w') : RoI w' B u Y := own_below h hb (Nat.le_refl _)
section
variable {w w' : World} {B b n m : Nat} {F G : Ft} {P : Rs_g}
end
end Go.Proofs.YtlkdniglaldilaaGreat
