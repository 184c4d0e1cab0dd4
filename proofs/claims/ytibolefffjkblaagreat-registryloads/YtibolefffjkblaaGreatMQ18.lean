/-
  KGRow
  KGSees
  KR18DA
  KR18DB
  KR18DC
  KR18DD
-/
import Derived.Test.YtibolefffjkblaaGreatMQ16
import Derived.Laws.CopyRow
import Derived.Laws.IdiomCopy
import Derived.Lib.AppendZerosOnto
import Derived.Lib.Overlaps
import Derived.Lib.SliceRun
import Derived.Deep.RegionLaw
import Derived.Laws.AppendOwnNone
import Derived.Deep.RegionHeld3
import Derived.Deep.RegionHeldLaw
namespace Go.Proofs.YtibolefffjkblaaGreat
open Go.RowKit
set_option linter.unusedVariables false
set_option linter.unusedSimpArgs false
set_option maxRecDepth 100000
theorem own_row {w : World} {B : Nat} {e : TypeId} {z : Nat} {v : Value} {n : Nat} {xs : List Value} (h : w.ownsRow B e z v n xs) (hn : 0 < n) : ∃ g cap, ∃ cur : Array Value, v = .slice (some ⟨g, 0, none⟩) n cap /\ B <= g /\ w.heap[g]? = some (.cells cur e (0, 0)) /\ n <= cap /\ cap <= maxLen /\ cur.size = cap * z /\ cur.toList.take (n * z) = xs := by
 rcases h with ⟨h1, ⟨rfl, h2⟩ | ⟨g, cap, cur, h⟩⟩
 ·omega
 ·exact ⟨g, cap, cur, h⟩
structure Hr where
 p : Int
 u : Value
 ms : List Int
def Hr.hm (h : Hr) : Hm := ⟨h.p, h.ms⟩
def inF (L : List Hr) : Ft := fun k => ∃ h ∈ L, h.ms ≠ [] /\ h.u.ownBlock = some k
def Ins (w : World) (L : List Hr) : Prop := ∀ h ∈ L, Sees .i64 w h.u h.ms
theorem Sees.chgE {k : IntKind} {w w' : World} {v : Value} {xs : List Int} {S : Nat -> Prop} (h : Sees k w v xs) (hc : Chg w w' S) (hS : xs ≠ [] -> ∀ j, v.ownBlock = some j -> ¬ S j) : Sees k w' v xs := by
 obtain ⟨a, cap, rfl, h1, h2, h3, h4, h5⟩ := h
 refine ⟨a, cap, rfl, h1, h2, h3, h4, fun hne => ?_⟩
 obtain ⟨b, off, rfl, hlt, hat⟩ := h5 hne
 refine ⟨b, off, rfl, Nat.lt_of_lt_of_le hlt hc.size, fun i hi => ?_⟩
 rw [<- hat i hi]
 exact World.cell?_of_block (hc.block b hlt (hS hne b rfl))
theorem Sees.lieE {k : IntKind} {w : World} {v : Value} {xs : List Int} (h : Sees k w v xs) (hne : xs ≠ []) {j : Nat} (hj : v.ownBlock = some j) : j < w.heap.size := by
 obtain ⟨a, cap, rfl, h1, h2, h3, h4, h5⟩ := h
 obtain ⟨b, off, rfl, hlt, hat⟩ := h5 hne
 have : b = j := Option.some.inj hj
 omega
theorem Sees.atE {w : World} {k : IntKind} {a : Option Addr} {n cap : Nat} {xs : List Int} (h : Sees k w (.slice a n cap) xs) {j : Nat} (hj : j < xs.length) : ∃ p off, a = some ⟨p, off, none⟩ /\ ∀ i, i < xs.length -> w.cell? ⟨p, off + i, none⟩ = some (.int k (xs.getD i 0)) := by
 obtain ⟨a', cap', ev, _, _, _, _, hc⟩ := h
 simp only [Value.slice.injEq] at ev
 obtain ⟨rfl, _, rfl⟩ := ev
 obtain ⟨p, off, rfl, _, hat⟩ := hc (fun e => by rw [e] at hj; simp at hj)
 exact ⟨p, off, rfl, hat⟩
theorem Ins.chg {w w' : World} {L : List Hr} {S : Nat -> Prop} (h : Ins w L) (hc : Chg w w' S) (ha : Apt S (inF L)) : Ins w' L := fun x hx => (h x hx).chgE hc (fun hne j hj e => ha j e ⟨x, hx, hne, hj⟩)
theorem Ins.lies {w : World} {L : List Hr} (h : Ins w L) : Lies w (inF L) := fun k hk => by
 obtain ⟨x, hx, hne, hu⟩ := hk
 exact (h x hx).lieE hne hu
section
variable {w w' : World} {B b n : Nat} {v : Value} {L : List Hr}
theorem nodup_take (ws : List Int) {j : Nat} (hj : j < ws.length) : (ws.take (j + 1)).Nodup ↔ (ws.take j).Nodup /\ ¬ ws.getD j 0 ∈ ws.take j := by
 rw [take_at ws j hj, List.nodup_append]
 constructor
 ·rintro ⟨h1, _, h3⟩
  exact ⟨h1, fun hm => h3 _ hm _ (by simp) rfl⟩
 ·rintro ⟨h1, h6⟩
  refine ⟨h1, by simp, fun a ha b hb e => ?_⟩
  have hb2 : b = ws.getD j 0 := List.mem_singleton.1 hb
  subst hb2
  subst e
  exact h6 ha
theorem not_in_takeE {xs : List Int} {x : Int} {k : Nat} (hk : k < xs.length) (h1 : ¬ x ∈ xs.take k) (h2 : xs.getD k 0 ≠ x) : ¬ x ∈ xs.take (k + 1) := by
 rw [take_at xs k hk, List.mem_append]
 rintro (e | e)
 ·exact h1 e
 ·exact h2 (List.mem_singleton.1 e).symm
end
theorem infoIntR : (Tryz.prog.info? 3).map (fun i => (i.zero, i.size, i.bytes)) = some (some (.int .i64 0), 1, 8) := by kernel_rfl
section
variable {w w' : World} {B b n m : Nat} {F G : Ft} {P : Rs_g}
theorem hm_has {L : List Hr} (hp : (L.map Hr.hm).Perm P) {p : Int} : P.has p = true ↔ ∃ h ∈ L, h.p = p := by
 rw [Rs_g.has_iff]
 constructor
 ·rintro ⟨x, hx, e⟩
  obtain ⟨y, hy, rfl⟩ := List.mem_map.1 (hp.mem_iff.2 hx)
  exact ⟨y, hy, e⟩
 ·rintro ⟨y, hy, e⟩
  exact ⟨y.hm, hp.mem_iff.1 (List.mem_map.2 ⟨y, hy, rfl⟩), e⟩
end
def neP (x : Int) (h : Hr) : Bool := !decide (h.p = x)
theorem filter_hm (L : List Hr) (x : Int) : (L.filter (neP x)).map Hr.hm = (L.map Hr.hm).filter (fun h => !decide (h.p = x)) := by
 rw [List.filter_map]
 rfl
section
variable {w w' : World} {B b n m : Nat} {F G : Ft} {P : Rs_g}
end
def RoI (w : World) (B : Nat) (u : Value) (Y : List Int) : Prop := w.ownsRow B 3 1 u Y.length (Y.map (Value.int .i64))
theorem RoI.cells {w : World} {B : Nat} {u : Value} {Y : List Int} (h : RoI w B u Y) (hn : 0 < Y.length) : ∃ p cap, u = .slice (some ⟨p, 0, none⟩) Y.length cap /\ B <= p /\ p < w.heap.size /\ Y.length <= cap /\ cap <= 9223372036854775807 /\ (∀ k, k < Y.length -> w.cell? ⟨p, k, none⟩ = some (.int .i64 (Y.getD k 0)) /\ w.frozen? ⟨p, k, none⟩ = false) /\ ∀ (k : Nat) (y : Int), RoI (w.setCell ⟨p, k, none⟩ (.int .i64 y)) B (.slice (some ⟨p, 0, none⟩) Y.length cap) (Y.set k y) := by
 have h0 := h
 unfold RoI at h0
 obtain ⟨p, cap, e, h1, h2, h3, h4, h5⟩ := own_open h hn
 subst e
 unfold maxLen at h4
 refine ⟨p, cap, rfl, h1, h2, h3, by omega, fun k hk => ⟨h5 k _ (by simp [List.getD, hk]), h0.frozenAt _⟩, fun k y => ?_⟩
 have := (h0.stored k (.int .i64 y)).1
 unfold RoI
 rw [List.length_set, List.map_set]
 exact this
theorem RoI.below {w w' : World} {B : Nat} {u : Value} {Y : List Int} (h : RoI w B u Y) (hb : Below w.heap.size w w') : RoI w' B u Y := own_below h hb (Nat.le_refl _)
section
variable {w w' : World} {B b n m : Nat} {F G : Ft} {P : Rs_g}
end
end Go.Proofs.YtibolefffjkblaaGreat
