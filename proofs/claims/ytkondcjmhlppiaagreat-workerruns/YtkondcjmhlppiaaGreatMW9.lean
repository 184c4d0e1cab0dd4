/-
  S10Book
  KGx
  KS20Plain
  KGObj
  KGOpenW
-/
import Derived.Test.YtkondcjmhlppiaaGreatMW8
import Derived.Test.YtkondcjmhlppiaaGreatMW7
import Derived.Maps.AppendAt
import Derived.Deep.RegionHeldLaw
import Derived.Laws.OwnMore
import Derived.Deep.MidRow
import Derived.ProofKit
namespace Go.Proofs.YtkondcjmhlppiaaGreat
open Go.RowKit
set_option linter.unusedVariables false
set_option linter.unusedSimpArgs false
set_option maxRecDepth 100000
open Go.ChangeShapes Go.WideShapes Go.ChangeAt Go.RowKit
structure Chg (w w' : World) (S : Nat -> Prop) : Prop where
 os : w'.os = w.os
 tape : w'.tape = w.tape
 output : w'.output = w.output
 size : w.heap.size <= w'.heap.size
 block : ∀ k, k < w.heap.size -> ¬ S k -> w'.heap[k]? = w.heap[k]?
theorem Chg.trans {w w1 w2 : World} {S T : Nat -> Prop} (h : Chg w w1 S) (g : Chg w1 w2 T) (hT : ∀ k, k < w.heap.size -> T k -> S k) : Chg w w2 S :=
 ⟨g.os.trans h.os, g.tape.trans h.tape, g.output.trans h.output, Nat.le_trans h.size g.size, fun k hk hs => (g.block k (Nat.lt_of_lt_of_le hk h.size) (fun e => hs (hT k hk e))).trans (h.block k hk hs)⟩
theorem Chg.of_grown {w w' : World} {b : Nat} {S : Nat -> Prop} (h : w.grownBy w' (some b)) (hS : S b) : Chg w w' S :=
 ⟨h.os, h.tape, h.output, h.size, fun k hk hs => h.block k hk (fun e => by injection e with e; exact hs (e ▸ hS))⟩
theorem Chg.of_grown' {w w' : World} {r : Option Nat} {S : Nat -> Prop} (h : w.grownBy w' r) (hS : ∀ b, r = some b -> S b) : Chg w w' S :=
 ⟨h.os, h.tape, h.output, h.size, fun k hk hs => h.block k hk (fun e => hs (hS k e.symm))⟩
theorem Chg.of_below {w w' : World} {S : Nat -> Prop} (h : Below w.heap.size w w') : Chg w w' S :=
 ⟨h.os, h.tape, h.output, h.size, fun k hk _ => h.block k hk⟩
theorem Chg.refl (w : World) (S : Nat -> Prop) : Chg w w S := ⟨rfl, rfl, rfl, Nat.le_refl _, fun _ _ _ => rfl⟩
theorem Chg.mono {w w' : World} {S T : Nat -> Prop} (h : Chg w w' S) (hT : ∀ k, S k -> T k) : Chg w w' T := ⟨h.os, h.tape, h.output, h.size, fun k hk hs => h.block k hk (fun e => hs (hT k e))⟩
theorem Chg.below {w w' : World} {S : Nat -> Prop} {B : Nat} (h : Chg w w' S) (hS : ∀ k, S k -> B <= k) (hB : B <= w.heap.size) : Below B w w' :=
 ⟨h.os, h.tape, h.output, h.size, fun k hk => h.block k (by omega) (fun e => by have := hS k e; omega)⟩
theorem Hp.chg {w w' : World} {b : Nat} {t : TypeId} {cs : List Value} {S : Nat -> Prop} (h : Hp w b t cs) (hc : Chg w w' S) (hS : ¬ S b) : Hp w' b t cs := by
 unfold Hp; rw [hc.block b h.lt hS]; exact h
theorem own_chg {w w' : World} {B : Nat} {e : TypeId} {z : Nat} {v : Value} {n : Nat} {xs : List Value} {S : Nat -> Prop} (h : w.ownsRow B e z v n xs) (hc : Chg w w' S) (hS : ∀ k, v.ownBlock = some k -> ¬ S k) : w'.ownsRow B e z v n xs := by
 rcases h with ⟨h1, h2 | ⟨g, cap, cur, rfl, hg, hh, r⟩⟩
 ·exact ⟨h1, .inl h2⟩
 ·refine ⟨h1, .inr ⟨g, cap, cur, rfl, hg, ?_, r⟩⟩
  rw [hc.block g (Array.getElem?_eq_some_iff.1 hh).1 (hS g rfl)]
  exact hh
theorem keepG {p : Prop} (h : p) : Hid p := h
theorem below_allocG (w : World) (o : Obj) : Below w.heap.size w (w.alloc o) := (Below.refl _ _).alloc (Nat.le_refl _) _
theorem below_drG {B : Nat} {w Z : World} (h : Below B w Z) : Below B w Z.drew := ⟨h.os, h.tape, h.output, h.size, h.block⟩
theorem Chg.set (w : World) (b i : Nat) (v : Value) : Chg w (w.setCell ⟨b, i, none⟩ v) (fun k => k = b) := Chg.of_grown (grown_set w b i v) rfl
theorem Chg.sets (w : World) (b i : Nat) (vs : List Value) : Chg w (w.setCells b i vs) (fun k => k = b) := Chg.of_grown (grown_sets b vs w i) rfl
def flatG {α : Type} (f : α -> List Value) (xs : List α) : List Value := xs.flatMap f
section
variable {α : Type} {f : α -> List Value} {z : Nat}
theorem flatG_at (hf : ∀ x, (f x).length = z) (d : α) : ∀ (xs : List α) {k j : Nat}, k < xs.length -> j < z -> (flatG f xs)[k * z + j]? = (f (xs.getD k d))[j]? := by
 intro xs
 induction xs with
 | nil => intro k j h; simp at h
 | cons x l ih =>
  intro k j hk hj
  have e : flatG f (x :: l) = f x ++ flatG f l := by simp [flatG]
  rw [e]
  cases k with
  | zero =>
   rw [Nat.zero_mul, Nat.zero_add, List.getElem?_append_left (by rw [hf]; exact hj)]
   rfl
  | succ k =>
   rw [show (k + 1) * z + j = (f x).length + (k * z + j) by rw [hf, Nat.add_mul, Nat.one_mul]; omega, List.getElem?_append_right (by omega), show (f x).length + (k * z + j) - (f x).length = k * z + j by omega, ih (by simpa using hk) hj]
   simp
def SeesG (f : α -> List Value) (z : Nat) (d : α) (w : World) (v : Value) (xs : List α) : Prop :=
 ∃ a cap, v = .slice a xs.length cap /\ xs.length <= cap /\ cap <= maxLen /\ (a = none -> cap = 0) /\ (xs ≠ [] -> ∃ b off, a = some ⟨b, off, none⟩ /\ b < w.heap.size /\ ∀ k, k < xs.length -> ∀ j, j < z -> w.cell? ⟨b, off + k * z + j, none⟩ = (f (xs.getD k d))[j]?)
theorem SeesG.nil (d : α) (w : World) : SeesG f z d w (.slice none 0 0) [] := ⟨none, 0, rfl, by simp, by simp [maxLen], fun _ => rfl, fun h => absurd rfl h⟩
theorem SeesG.shape {d : α} {w : World} {v : Value} {xs : List α} (h : SeesG f z d w v xs) : ∃ a cap, v = .slice a xs.length cap /\ xs.length <= cap /\ cap <= 9223372036854775807 := by
 obtain ⟨a, cap, rfl, h1, h2, _⟩ := h
 exact ⟨a, cap, rfl, h1, by unfold maxLen at h2; omega⟩
theorem SeesG.below {d : α} {w w' : World} {v : Value} {xs : List α} {B : Nat} (h : SeesG f z d w v xs) (hb : Below B w w') (hB : w.heap.size <= B) : SeesG f z d w' v xs := by
 obtain ⟨a, cap, rfl, h1, h2, h3, h4⟩ := h
 refine ⟨a, cap, rfl, h1, h2, h3, fun hne => ?_⟩
 obtain ⟨b, off, rfl, hlt, hc⟩ := h4 hne
 exact ⟨b, off, rfl, Nat.lt_of_lt_of_le hlt hb.size, fun k hk j hj => (hb.cell (p := ⟨b, off + k * z + j, none⟩) (Nat.lt_of_lt_of_le hlt hB)).trans (hc k hk j hj)⟩
theorem SeesG.chg {d : α} {w w' : World} {v : Value} {xs : List α} {S : Nat -> Prop} (h : SeesG f z d w v xs) (hc : Chg w w' S) (hS : ∀ k, v.ownBlock = some k -> ¬ S k) : SeesG f z d w' v xs := by
 obtain ⟨a, cap, rfl, h1, h2, h3, h4⟩ := h
 refine ⟨a, cap, rfl, h1, h2, h3, fun hne => ?_⟩
 obtain ⟨b, off, rfl, hlt, hat⟩ := h4 hne
 refine ⟨b, off, rfl, Nat.lt_of_lt_of_le hlt hc.size, fun k hk j hj => ?_⟩
 rw [<- hat k hk j hj]
 exact World.cell?_of_block (hc.block b hlt (hS b rfl))
theorem SeesG.lit (hf : ∀ x, (f x).length = z) (d : α) (w : World) (t : TypeId) (xs : List α) (cs : Array Value) (n : Nat) (hcs : cs = (flatG f xs).toArray) (hn : n = xs.length) (hm : xs.length <= 4194304) : SeesG f z d (w.alloc (.cells cs t)) (.slice (some ⟨w.heap.size, 0, none⟩) n n) xs := by
 subst hn hcs
 refine ⟨_, _, rfl, Nat.le_refl _, by unfold maxLen; omega, fun h => (by cases h), fun _ => ⟨w.heap.size, 0, rfl, by simp, fun k hk j hj => ?_⟩⟩
 rw [Nat.zero_add, World.cell?_alloc_at _ _ _ _ rfl, <- flatG_at hf d xs hk hj]
 exact List.getElem?_toArray
end
def inW (a : Int) : Prop := 0 <= a /\ a < 18446744073709551616
def ad (a b : Int) : Int := (a + b) % 18446744073709551616
theorem ad_in (a b : Int) : inW (ad a b) := ⟨Int.emod_nonneg _ (by decide), Int.emod_lt_of_pos _ (by decide)⟩
theorem ad_zero {a : Int} (h : inW a) : ad a 0 = a := by unfold ad; rw [Int.add_zero]; exact Int.emod_eq_of_lt h.1 h.2
theorem zero_ad {a : Int} (h : inW a) : ad 0 a = a := by unfold ad; rw [Int.zero_add]; exact Int.emod_eq_of_lt h.1 h.2
structure Ta where
 r : Int
 m : Int
 s : Int
 c : Int
 u : Int
def Ta.nil : Ta := ⟨0, 0, 0, 0, 0⟩
structure Ta.Ok (a : Ta) : Prop where
 r : inW a.r
 m : inW a.m
 s : inW a.s
 c : inW a.c
 u : inW a.u
theorem Ta.Ok.nil : Ta.nil.Ok := ⟨⟨by decide, by decide⟩, ⟨by decide, by decide⟩, ⟨by decide, by decide⟩, ⟨by decide, by decide⟩, ⟨by decide, by decide⟩⟩
def Ta.add (a b : Ta) : Ta := ⟨ad a.r b.r, ad a.m b.m, ad a.s b.s, ad a.c b.c, ad a.u b.u⟩
theorem Ta.Ok.add (a b : Ta) : (a.add b).Ok := ⟨ad_in _ _, ad_in _ _, ad_in _ _, ad_in _ _, ad_in _ _⟩
theorem Ta.nil_add {a : Ta} (h : a.Ok) : Ta.nil.add a = a := by
 unfold Ta.add Ta.nil
 simp only [zero_ad h.r, zero_ad h.m, zero_ad h.s, zero_ad h.c, zero_ad h.u]
def sumT (l : List Ta) : Ta := l.foldl Ta.add Ta.nil
theorem foldT_ok {l : List Ta} {a : Ta} (h : a.Ok) : (l.foldl Ta.add a).Ok := by
 induction l generalizing a with
 | nil => exact h
 | cons x l ih => exact ih (Ta.Ok.add a x)
theorem sumT_ok (l : List Ta) : (sumT l).Ok := foldT_ok Ta.Ok.nil
theorem sumT_more (a : List Ta) (x : Ta) : sumT (a ++ [x]) = (sumT a).add x := by
 unfold sumT
 rw [List.foldl_append]
 rfl
structure To where
 h : Int
 m : Bool
 s : Int
 c : Int
 u : Int
def To.ta (x : To) : Ta := if x.m = true then ⟨0, 1, 0, 0, 0⟩ else ⟨1, 0, x.s, x.c, x.u⟩
def ofL (h : Int) (l : List To) : Ta := sumT ((l.filter (fun x => x.h == h)).map To.ta)
theorem ofL_ok (h : Int) (l : List To) : (ofL h l).Ok := sumT_ok _
theorem ofL_more (h : Int) (a : List To) (x : To) : ofL h (a ++ [x]) = if x.h = h then (ofL h a).add x.ta else ofL h a := by
 unfold ofL
 rw [List.filter_append, List.map_append]
 by_cases e : x.h = h
 ·rw [if_pos e, List.filter_cons_of_pos (by simpa using e)]
  exact sumT_more _ _
 ·rw [if_neg e, List.filter_cons_of_neg (by simpa using e)]
  simp
def isH (h : Int) : Bool := decide (0 <= h) && decide (h < 4)
theorem isH_nat {h : Int} (hh : isH h = true) : ∃ k : Nat, h = k /\ k < 4 := by
 simp only [isH, Bool.and_eq_true, decide_eq_true_eq] at hh
 exact ⟨h.toNat, by omega, by omega⟩
theorem isH_no {h : Int} (hh : isH h = false) : h < 0 ∨ 3 < h := by
 by_cases h0 : h < 0
 ·exact .inl h0
 ·refine .inr (Int.not_le.1 fun e => ?_)
  have : isH h = true := by simp [isH]; omega
  rw [hh] at this; cases this
def ranL (l : List To) (h s c u : Int) : Int × List To := if isH h = true then (0, l ++ [⟨h, false, s, c, u⟩]) else (2, l)
def missedL (l : List To) (hs : List Int) : Int × List To := if hs.all isH = true then (0, l ++ hs.map (fun h => ⟨h, true, 0, 0, 0⟩)) else (2, l)
def four (l : List To) : List Ta := [ofL 0 l, ofL 1 l, ofL 2 l, ofL 3 l]
theorem four_len (l : List To) : (four l).length = 4 := rfl
theorem four_at (l : List To) {k : Nat} (hk : k < 4) : (four l).getD k Ta.nil = ofL k l := by
 have h5 : k = 0 ∨ k = 1 ∨ k = 2 ∨ k = 3 := by omega
 rcases h5 with rfl | rfl | rfl | rfl <;> rfl
theorem four_more (l : List To) (x : To) {k : Nat} (hk : k < 4) (hx : x.h = k) : four (l ++ [x]) = (four l).set k ((ofL k l).add x.ta) := by
 have e : ∀ h : Int, ofL h (l ++ [x]) = if h = k then (ofL k l).add x.ta else ofL h l := by
  intro h
  rw [ofL_more, hx]
  by_cases e : h = k
  ·subst e; rw [if_pos rfl]
  ·rw [if_neg (fun e2 => e e2.symm), if_neg e]
 unfold four
 rw [e 0, e 1, e 2, e 3]
 have h5 : k = 0 ∨ k = 1 ∨ k = 2 ∨ k = 3 := by omega
 rcases h5 with rfl | rfl | rfl | rfl <;> rfl
def zeroF : List Ta := [Ta.nil, Ta.nil, Ta.nil, Ta.nil]
abbrev Ft := Nat -> Prop
structure Nx (w w' : World) (F F' : Ft) : Prop where
 chg : Chg w w' F
 new : ∀ k, F' k -> F k ∨ w.heap.size <= k
def Apt (F G : Ft) : Prop := ∀ k, F k -> ¬ G k
def Lies (w : World) (F : Ft) : Prop := ∀ k, F k -> k < w.heap.size
def Since (w0 : World) (F : Ft) : Prop := ∀ k, F k -> w0.heap.size <= k
section
variable {w0 w w' w'' : World} {F F' F'' G G' : Ft}
theorem Nx.below (hb : Below w.heap.size w w') : Nx w w' F F := ⟨Chg.of_below hb, fun k hk => .inl hk⟩
theorem Apt.next (h : Apt F G) (hG : Lies w G) (hn : Nx w w' F F') : Apt F' G := fun k hf hg => (hn.new k hf).elim (fun q => h k q hg) (fun q => by have := hG k hg; omega)
theorem Since.next (h : Since w0 F) (hw : w0.heap.size <= w.heap.size) (hn : Nx w w' F F') : Since w0 F' := fun k hk => (hn.new k hk).elim (fun q => h k q) (fun q => by omega)
theorem Since.be (h : Since w0 F) (hb : Below w0.heap.size w0 w) (hn : Nx w w' F F') : Below w0.heap.size w0 w' := hb.trans (hn.chg.below (fun k e => h k e) hb.size)
def ftV (u : Value) : Ft := fun k => u.ownBlock = some k
theorem SeesG.keeps {α : Type} {f : α -> List Value} {z : Nat} {d : α} {u : Value} {xs : List α} (h : SeesG f z d w u xs) (hn : Chg w w' F) (ha : Apt F (ftV u)) : SeesG f z d w' u xs := h.chg hn (fun k hk e => ha k e hk)
theorem own_keeps {B : Nat} {e : TypeId} {z : Nat} {u : Value} {n : Nat} {xs : List Value} (h : w.ownsRow B e z u n xs) (hn : Chg w w' F) (ha : Apt F (ftV u)) : w'.ownsRow B e z u n xs := own_chg h hn (fun k hk e => ha k e hk)
theorem own_lies {B : Nat} {e : TypeId} {z : Nat} {u : Value} {n : Nat} {xs : List Value} (h : w.ownsRow B e z u n xs) : Lies w (ftV u) := fun k hk => (h.lt k hk).2
end
theorem weights_eachW {H : Type} {P : Program} {e : TypeId} {f : Nat -> Bool} : ∀ (l : List (DataW H)) {i : Nat} {y : DataW H}, l[i]? = some y -> (DataW.weightsAll P e l).all f = true -> (DataW.weights P e y).all f = true
 | [], i, y, h, _ => by simp at h
 | d :: r, 0, y, h, ha => by
  simp only [List.getElem?_cons_zero, Option.some.injEq] at h
  subst h
  rw [DataW.weightsAll, List.all_append, Bool.and_eq_true] at ha
  exact ha.1
 | d :: r, i + 1, y, h, ha => by
  rw [DataW.weightsAll, List.all_append, Bool.and_eq_true] at ha
  exact weights_eachW r (by simpa using h) ha.2
theorem opensGS {α : Type} {f : α -> List Value} {z : Nat} (nil : α) {R Q : α -> Prop} {t te : TypeId} {bytes : Nat} (hu : Tryz.prog.underlying t = some (.slice te)) (hz : Tryz.prog.cellsOf te = z) (hz0 : 0 < z) (hfl : ∀ x, (f x).length = z) (hby : Tryz.prog.bytesOf te = bytes)
  {H : Type} {enc : TypeId × Value -> H} {W : World} {v : Value} {d : DataW H} {p : List MemPlace}
  (hone : ∀ {fuel : Nat} {cs : List Value} {x : DataW H × List MemPlace}, DataW.trod enc Tryz.prog W 0 (fun _ => true) true fuel te cs = some x -> ∃ a : α, cs = f a /\ R a /\ ((x.1.weights Tryz.prog te).all (· <= reachBytes) = true -> Q a))
  (hsh : ∃ a len cap, v = .slice a len cap) (h : DataW.Trod enc Tryz.prog W 0 (fun _ => true) true t v d p) :
  ∃ xs, SeesG f z nil W v xs /\ (∀ x ∈ xs, R x) /\ ((d.weights Tryz.prog t).all (· <= reachBytes) = true -> xs.length * bytes <= 140737488351232 /\ ∀ x ∈ xs, Q x) := by
 obtain ⟨a, len, cap, rfl⟩ := hsh
 obtain ⟨fuel, hf⟩ := h
 rcases DataW.trod_slice hu hf with ⟨hcs, hx⟩ | ⟨x, l, c, elems, rest, n, rfl, hcs, hx, _, hl, hm, hlen, hel, hsp, _⟩
 ·simp [Value.cells] at hcs hx
  obtain ⟨rfl, rfl, rfl⟩ := hcs
  obtain ⟨rfl, rfl⟩ := hx
  exact ⟨[], SeesG.nil nil W, by simp, fun _ => ⟨by simp, by simp⟩⟩
 ·simp [Value.cells] at hcs hx
  obtain ⟨rfl, rfl, rfl⟩ := hcs
  obtain ⟨rfl, rfl⟩ := hx
  have hex : ∀ i : Nat, ∃ I : α, i < len -> (R I /\ ∃ y, elems[i]? = some y /\ ((y.1.weights Tryz.prog te).all (· <= reachBytes) = true -> Q I)) /\ (∀ j, j < z -> W.cell? ((x.add (i * z)).add j) = (f I)[j]?) := by
   intro i
   by_cases hi : i < len
   ·have h1 := hel i hi
    have hie : i < elems.length := by omega
    rw [hz, List.getElem?_eq_getElem hie, Option.bind_eq_some_iff] at h1
    obtain ⟨cs, hc1, hc2⟩ := h1
    obtain ⟨I, rfl, hw, hb⟩ := hone hc2
    exact ⟨I, fun _ => ⟨⟨hw, _, List.getElem?_eq_getElem hie, hb⟩, (World.cells?_some hc1).2.2⟩⟩
   ·exact ⟨nil, fun h => absurd h hi⟩
  obtain ⟨g, hg⟩ := Classical.axiomOfChoice hex
  have hxl : ((List.range len).map g).length = len := by simp
  have hgd : ∀ k, k < len -> ((List.range len).map g).getD k nil = g k := fun k hk => by simp [List.getD, hk]
  refine ⟨(List.range len).map g, ⟨some x, cap, by rw [hxl], by omega, hm, fun h => by simp at h, fun hne => ?_⟩, ?_, ?_⟩
  ·have hpos : 0 < len := by
    rcases Nat.eq_zero_or_pos len with h0 | h0
    ·subst h0; exact absurd rfl hne
    ·exact h0
   obtain ⟨b, off, spot⟩ := x
   have h00 := (hg 0 hpos).2 0 hz0
   obtain ⟨u, hu0⟩ : ∃ u, (f (g 0))[0]? = some u := ⟨_, List.getElem?_eq_getElem (by rw [hfl]; exact hz0)⟩
   rw [hu0] at h00
   have hspot : spot = none := by
    have := World.cell?_spot h00
    simpa [Addr.add] using this
   subst hspot
   refine ⟨b, off, rfl, ?_, fun k hk j hj => ?_⟩
   ·have := World.block_lt_of_cell? W _ h00
    simpa [Addr.add] using this
   ·rw [hxl] at hk
    rw [hgd k hk]
    have h5 := (hg k hk).2
    simp only [Addr.add_mid] at h5
    exact h5 j hj
  ·intro i hi
   simp only [List.mem_map, List.mem_range] at hi
   obtain ⟨k, hk, rfl⟩ := hi
   exact (hg k hk).1.1
  ·intro hall
   refine ⟨?_, ?_⟩
   rotate_left
   ·intro i hi
    simp only [List.mem_map, List.mem_range] at hi
    obtain ⟨k, hk, rfl⟩ := hi
    obtain ⟨⟨_, y, hy, hb⟩, _⟩ := hg k hk
    refine hb ?_
    rw [DataW.weights, hu] at hall
    simp only [List.all_cons, List.all_append, Bool.and_eq_true] at hall
    exact weights_eachW (elems.map (·.1)) (i := k) (by rw [List.getElem?_map, hy]; rfl) hall.2.1
   rw [DataW.weights, hu] at hall
   simp only [List.all_cons, Bool.and_eq_true, decide_eq_true_eq, List.length_map, hby] at hall
   have h1 := hall.1
   unfold reachBytes at h1
   rw [hxl, show len = elems.length by omega]
   exact Nat.le_trans (Nat.mul_le_mul_right _ (Nat.le_add_right _ _)) h1
theorem opensGW {α : Type} {f : α -> List Value} {z : Nat} (nil : α) {R Q : α -> Prop} {t te : TypeId} {bytes : Nat} (hu : Tryz.prog.underlying t = some (.slice te)) (hz : Tryz.prog.cellsOf te = z) (hz0 : 0 < z) (hfl : ∀ x, (f x).length = z) (hby : Tryz.prog.bytesOf te = bytes)
  {H : Type} {enc : TypeId × Value -> H} {W : World} {base : Nat} {v : Value} {d : DataW H} {p : List MemPlace}
  (hone : ∀ {fuel : Nat} {cs : List Value} {x : DataW H × List MemPlace}, DataW.trod enc Tryz.prog W 0 (fun _ => true) true fuel te cs = some x -> ∃ a : α, cs = f a /\ R a /\ ((x.1.weights Tryz.prog te).all (· <= reachBytes) = true -> Q a))
  (hok : Value.okWide Tryz.prog W .any base t v) (h : DataW.Trod enc Tryz.prog W 0 (fun _ => true) true t v d p) :
  ∃ xs, SeesG f z nil W v xs /\ (∀ x ∈ xs, R x) /\ ((d.weights Tryz.prog t).all (· <= reachBytes) = true -> xs.length * bytes <= 140737488351232 /\ ∀ x ∈ xs, Q x) :=
 opensGS nil hu hz hz0 hfl hby hone (okWide_slice hu hok) h
end Go.Proofs.YtkondcjmhlppiaaGreat
