/-
  G
  KBPlain
  KBBack
  KBGet
  KBPut
  KBFold
  KW4Plain
  KBUnfold
  KW4Round
  KW4There
-/
import Derived.Test.YtiheafdphgllkaaGreatDoorMW10
import Derived.Test.YtiheafdphgllkaaGreatDoorRows
import Derived.WalkSpells
import Derived.OpenShut
import Derived.Below
import Derived.Maps.AppendAt
import Derived.Deep.Draws
import Derived.Handy
import Derived.WalkKit
import Derived.Laws.BitsAllLaws
namespace Go.Proofs.YtiheafdphgllkaaGreatDoor
open Go.RowKit
set_option linter.unusedVariables false
def eqB (a b : List Int) : Bool := decide (a = b)
theorem eqB_true {a b : List Int} (h : a = b) : eqB a b = true := decide_eq_true h
theorem eqB_false {a b : List Int} (h : a ≠ b) : eqB a b = false := decide_eq_false h
theorem take_at (xs : List Int) (k : Nat) (h : k < xs.length) : xs.take (k + 1) = xs.take k ++ [xs.getD k 0] := by
 rw [List.take_succ_eq_append_getElem h]; simp [List.getD, h]
theorem retb {a b : Bool} (h : a = b) : Ending.returned (.bool a) = .returned (.bool b) := by rw [h]

def Sees (k : IntKind) (w : World) (v : Value) (xs : List Int) : Prop :=
 ∃ a cap, v = .slice a xs.length cap /\ xs.length <= cap /\ cap <= maxLen /\ (a = none -> cap = 0) /\ (∀ x ∈ xs, (Lit.int k x).wf = true) /\
  (xs ≠ [] -> ∃ b off, a = some ⟨b, off, none⟩ /\ b < w.heap.size /\ ∀ i, i < xs.length -> w.cell? ⟨b, off + i, none⟩ = some (.int k (xs.getD i 0)))
theorem Sees.below {k : IntKind} {w w' : World} {v : Value} {xs : List Int} {B : Nat} (h : Sees k w v xs) (hb : Below B w w') (hB : w.heap.size <= B) : Sees k w' v xs := by
 obtain ⟨a, cap, rfl, hl, hm, hn0, hw, hs⟩ := h
 refine ⟨a, cap, rfl, hl, hm, hn0, hw, fun hne => ?_⟩
 obtain ⟨b, off, rfl, hlt, hc⟩ := hs hne
 exact ⟨b, off, rfl, Nat.lt_of_lt_of_le hlt hb.size, fun i hi => (hb.cell (p := ⟨b, off + i, none⟩) (Nat.lt_of_lt_of_le hlt hB)).trans (hc i hi)⟩
theorem Sees.own {k : IntKind} {w : World} {base : Nat} {e : TypeId} {v : Value} {xs : List Int} (h : w.ownsRow base e 1 v xs.length (xs.map (Value.int k))) (hw : ∀ x ∈ xs, (Lit.int k x).wf = true) : Sees k w v xs := by
 rcases h with ⟨h1, ⟨rfl, h2⟩ | ⟨g, cap, cur, rfl, hb, hh, h3, h4, h5, h6⟩⟩
 ·have : xs = [] := List.eq_nil_of_length_eq_zero h2
  subst this
  exact ⟨none, 0, rfl, by simp, by simp [maxLen], fun _ => rfl, by simp, fun h => absurd rfl h⟩
 ·refine ⟨_, cap, rfl, h3, h4, fun h => by simp at h, hw, fun hne => ⟨g, 0, rfl, ?_, fun i hi => ?_⟩⟩
  ·exact (Array.getElem?_eq_some_iff.1 hh).1
  ·have h := World.ownsRow.cellAt (w := w) (base := base) (e := e) (size := 1) (g := g) (n := xs.length) (cap := cap) (xs := xs.map (Value.int k)) ⟨h1, .inr ⟨g, cap, cur, rfl, hb, hh, h3, h4, h5, h6⟩⟩ i (by omega)
   rw [Nat.zero_add, h]
   simp [List.getD, hi]
theorem Sees.lit (w : World) (k : IntKind) (t : TypeId) (xs : List Int) (cs : Array Value) (n : Nat) (hcs : cs = (xs.map (Value.int k)).toArray) (hn : n = xs.length) (hm : xs.length <= 4194304) (hw : ∀ x ∈ xs, (Lit.int k x).wf = true) :
  Sees k (w.alloc (.cells cs t)) (.slice (some ⟨w.heap.size, 0, none⟩) n n) xs := by
 subst hn
 refine ⟨_, _, rfl, Nat.le_refl _, by unfold maxLen; omega, fun h => by simp at h, hw, fun _ => ⟨w.heap.size, 0, rfl, by simp, fun i hi => ?_⟩⟩
 subst hcs
 have hs : i < ((xs.map (Value.int k)).toArray).size := by simpa using hi
 simp [World.cell?_alloc_at, hi, List.getD]
theorem Sees.shape {k : IntKind} {w : World} {v : Value} {xs : List Int} (h : Sees k w v xs) : ∃ a cap, v = .slice a xs.length cap := by
 obtain ⟨a, cap, rfl, _⟩ := h
 exact ⟨a, cap, rfl⟩
theorem Sees.wf {k : IntKind} {w : World} {v : Value} {xs : List Int} (h : Sees k w v xs) : ∀ x ∈ xs, (Lit.int k x).wf = true := by
 obtain ⟨a, cap, rfl, hl, hm, hn0, hw, hs⟩ := h
 exact hw
theorem below_drewN {B : Nat} {a w : World} (h : Below B a w) (n : Nat) : Below B a (w.drewN n) := ⟨h.os, h.tape, h.output, h.size, h.block⟩
theorem own_open {w : World} {base : Nat} {e : TypeId} {v : Value} {n : Nat} {xs : List Value} (h : w.ownsRow base e 1 v n xs) (hn : 0 < n) :
  ∃ g cap, v = .slice (some ⟨g, 0, none⟩) n cap /\ base <= g /\ g < w.heap.size /\ n <= cap /\ cap <= maxLen /\ ∀ j u, xs[j]? = some u -> w.cell? ⟨g, j, none⟩ = some u := by
 have h0 := h
 rcases h with ⟨h1, ⟨rfl, h2⟩ | ⟨g, cap, cur, rfl, hb, hh, h3, h4, h5, h6⟩⟩
 ·omega
 ·exact ⟨g, cap, rfl, hb, (Array.getElem?_eq_some_iff.1 hh).1, h3, h4, fun j u hu => by
   have hj : j < xs.length := (List.getElem?_eq_some_iff.1 hu).1
   rw [h0.cellAt j (by omega)]; exact hu⟩
theorem own_below {w w' : World} {B base : Nat} {e : TypeId} {size : Nat} {v : Value} {n : Nat} {xs : List Value} (h : w.ownsRow base e size v n xs) (hb : Below B w w') (hB : w.heap.size <= B) : w'.ownsRow base e size v n xs := by
 rcases h with ⟨h1, h2 | ⟨g, cap, cur, hv, hg, hh, r⟩⟩
 ·exact ⟨h1, .inl h2⟩
 ·have hlt : g < w.heap.size := (Array.getElem?_eq_some_iff.1 hh).1
  exact ⟨h1, .inr ⟨g, cap, cur, hv, hg, by rw [hb.block g (by omega)]; exact hh, r⟩⟩
theorem own_block_lt {w : World} {base : Nat} {e : TypeId} {v : Value} {n : Nat} {xs : List Value} (h : w.ownsRow base e 1 v n xs) (k : Nat) (hk : v.ownBlock = some k) : base <= k /\ k < w.heap.size := h.lt k hk
theorem grown_refl (a : World) (r : Option Nat) : a.grownBy a r := ⟨rfl, rfl, rfl, Nat.le_refl _, fun _ _ _ => rfl⟩
theorem own_lit (w : World) (base : Nat) (e : TypeId) (l : List Value) (n : Nat) (hn : n = w.heap.size) (hb : base <= w.heap.size) (hm : l.length <= maxLen) : (w.alloc (.cells l.toArray e)).ownsRow base e 1 (.slice (some ⟨n, 0, none⟩) l.length l.length) l.length l := by
 subst hn
 refine ⟨by simp, .inr ⟨w.heap.size, l.length, l.toArray, rfl, hb, ?_, Nat.le_refl _, hm, by simp, by simp⟩⟩
 show (w.heap.push _)[w.heap.size]? = _
 simp
def encF : Nat -> Int -> List Int
 | 0, n => [n]
 | f + 1, n => if n < 128 then [n] else (n % 128 + 128) :: encF f (n / 128)
def enc (n : Int) : List Int := encF 9 n
def encs (ns : List Int) : List Int := ns.flatMap enc

def getL : Nat -> Int -> List Int -> Int × Int × Int
 | _, _, [] => (0, 0, 10)
 | k, X, c :: r =>
  if k = 9 /\ 1 < c then (0, 0, 12)
  else if 0 < k /\ c = 0 then (0, 0, 12)
  else if c < 128 then (X + c % 128 * 2 ^ (7 * k), k + 1, 0)
  else getL (k + 1) (X + c % 128 * 2 ^ (7 * k)) r

theorem or_add (X c : Int) (k : Nat) (hX0 : 0 <= X) (hX : X < 2 ^ (7 * k)) (hc0 : 0 <= c) (hc : c < 128) (hk : k <= 9) (h9 : k = 9 -> c <= 1) :
  bits .or .u64 X (c * 2 ^ (7 * k)) = X + c * 2 ^ (7 * k) := by
 have hp : (0 : Int) < 2 ^ (7 * k) := Int.pow_pos (by decide)
 have hn : 0 <= c * 2 ^ (7 * k) := Int.mul_nonneg hc0 (by omega)
 have hcap : c * 2 ^ (7 * k) < 18446744073709551616 /\ (2 : Int) ^ (7 * k) <= 9223372036854775808 := by
  obtain h | h | h | h | h | h | h | h | h | h : k = 0 ∨ k = 1 ∨ k = 2 ∨ k = 3 ∨ k = 4 ∨ k = 5 ∨ k = 6 ∨ k = 7 ∨ k = 8 ∨ k = 9 := by omega
  all_goals (subst h; simp at *; omega)
 rw [u64_or X (c * 2 ^ (7 * k)) hX0 (by omega) hn hcap.1]
 obtain ⟨x, rfl⟩ := Int.eq_ofNat_of_zero_le hX0
 obtain ⟨d, rfl⟩ := Int.eq_ofNat_of_zero_le hc0
 have e1 : ((d : Int) * 2 ^ (7 * k)).toNat = d * 2 ^ (7 * k) := by
  have : ((d : Int) * 2 ^ (7 * k)) = ((d * 2 ^ (7 * k) : Nat) : Int) := by simp
  rw [this]; exact Int.toNat_natCast _
 have hx : x < 2 ^ (7 * k) := by exact_mod_cast hX
 rw [e1, Int.toNat_natCast, Nat.or_comm, nat_join (7 * k) _ _ (by simp) hx]
 simp; omega
theorem or_add' (X c : Int) (k : Nat) (hX0 : 0 <= X) (hX : X < 2 ^ (7 * k)) (hc0 : 0 <= c) (hc : c <= 255) (hk : k <= 9) (h9 : k = 9 -> c <= 1) :
  bits .or .u64 X (IntKind.u64.wrap (c % 128 * 2 ^ (7 * k))) = X + c % 128 * 2 ^ (7 * k) := by
 have hcap : 0 <= c % 128 * 2 ^ (7 * k) /\ c % 128 * 2 ^ (7 * k) < 18446744073709551616 := by
  obtain h | h | h | h | h | h | h | h | h | h : k = 0 ∨ k = 1 ∨ k = 2 ∨ k = 3 ∨ k = 4 ∨ k = 5 ∨ k = 6 ∨ k = 7 ∨ k = 8 ∨ k = 9 := by omega
  all_goals (subst h; simp at *; omega)
 rw [IntWalk.u64_in _ ⟨hcap.1, by omega⟩]
 exact or_add X (c % 128) k hX0 hX (by omega) (by omega) hk (by omega)
theorem or9 (X c : Int) (hX0 : 0 <= X) (hX : X < 2 ^ (7 * 9)) (hc0 : 0 <= c) (hc : c <= 1) :
  bits .or .u64 X (c % 128 * 9223372036854775808) = X + c % 128 * 2 ^ (7 * 9) := by
 have h := or_add X (c % 128) 9 hX0 hX (by omega) (by omega) (by omega) (by omega)
 simpa using h
theorem or_lt (X c : Int) (k : Nat) (hX0 : 0 <= X) (hX : X < 2 ^ (7 * k)) (hc0 : 0 <= c) (hk : k <= 8) :
  0 <= X + c % 128 * 2 ^ (7 * k) /\ X + c % 128 * 2 ^ (7 * k) < 2 ^ (7 * (k + 1)) := by
 obtain h | h | h | h | h | h | h | h | h : k = 0 ∨ k = 1 ∨ k = 2 ∨ k = 3 ∨ k = 4 ∨ k = 5 ∨ k = 6 ∨ k = 7 ∨ k = 8 := by omega
 all_goals (subst h; simp at *; omega)

theorem getL_form {k : Nat} {X c : Int} {r : List Int} (h : (k = 9 /\ 1 < c) ∨ (0 < k /\ c = 0)) : getL k X (c :: r) = (0, 0, 12) := by
 unfold getL
 rcases h with h | h
 ·rw [if_pos h]
 ·rw [if_pos h]; split <;> rfl
theorem getL_done {k : Nat} {X c : Int} {r : List Int} (h1 : ¬ (k = 9 /\ 1 < c)) (h2 : ¬ (0 < k /\ c = 0)) (h : c < 128) : getL k X (c :: r) = (X + c % 128 * 2 ^ (7 * k), (k : Int) + 1, 0) := by
 rw [getL, if_neg h1, if_neg h2, if_pos h]
theorem getL_more {k : Nat} {X c : Int} {r : List Int} (h1 : ¬ (k = 9 /\ 1 < c)) (h2 : ¬ (0 < k /\ c = 0)) (h : 128 <= c) : getL k X (c :: r) = getL (k + 1) (X + c % 128 * 2 ^ (7 * k)) r := by
 rw [getL, if_neg h1, if_neg h2, if_neg (by omega)]

theorem getL_tells : ∀ (xs : List Int) (k : Nat) (X : Int), k <= 9 -> 0 <= X -> X < 2 ^ (7 * k) -> (∀ x ∈ xs, 0 <= x /\ x <= 255) ->
  (getL k X xs = (0, 0, 10) ∨ getL k X xs = (0, 0, 12)) ∨ ∃ (n : Int) (j : Nat), getL k X xs = (n, (j : Int), 0) /\ 0 <= n /\ n < 18446744073709551616 /\ k + 1 <= j /\ j <= k + xs.length /\ j <= 10
 | [], k, X, _, _, _, _ => .inl (.inl rfl)
 | c :: r, k, X, hk, h0, h1, hb => by
  have hc := hb c (by simp)
  by_cases hf : (k = 9 /\ 1 < c) ∨ (0 < k /\ c = 0)
  ·exact .inl (.inr (getL_form hf))
  ·have g1 : ¬ (k = 9 /\ 1 < c) := fun h => hf (.inl h)
   have g2 : ¬ (0 < k /\ c = 0) := fun h => hf (.inr h)
   by_cases h3 : c < 128
   ·refine .inr ⟨X + c % 128 * 2 ^ (7 * k), k + 1, by rw [getL_done g1 g2 h3]; simp, ?_, ?_, by omega, by simp, by omega⟩
    all_goals
     obtain h | h | h | h | h | h | h | h | h | h : k = 0 ∨ k = 1 ∨ k = 2 ∨ k = 3 ∨ k = 4 ∨ k = 5 ∨ k = 6 ∨ k = 7 ∨ k = 8 ∨ k = 9 := by omega
     all_goals (subst h; simp at *; omega)
   ·have hl := or_lt X c k h0 h1 hc.1 (by omega)
    rw [getL_more g1 g2 (by omega)]
    rcases getL_tells r (k + 1) _ (by omega) hl.1 hl.2 (fun x hx => hb x (by simp [hx])) with h | ⟨n, j, h, a1, a2, a3, a4, a5⟩
    ·exact .inl h
    ·exact .inr ⟨n, j, h, a1, a2, by omega, by simp; omega, a5⟩
theorem getL_bd (xs : List Int) (hb : ∀ x ∈ xs, 0 <= x /\ x <= 255) : 0 <= (getL 0 0 xs).1 /\ (getL 0 0 xs).1 < 18446744073709551616 := by
 rcases getL_tells xs 0 0 (by omega) (by omega) (by simp) hb with (h | h) | ⟨n, j, h, a1, a2, _⟩ <;> rw [h] <;> simp <;> omega

theorem drop_at_w (xs : List Int) (k : Nat) (h : k < xs.length) : xs.drop k = xs.getD k 0 :: xs.drop (k + 1) := by
 rw [List.drop_eq_getElem_cons h]; simp [List.getD, h]
theorem getD_mem_w (xs : List Int) (k : Nat) (h : k < xs.length) : xs.getD k 0 ∈ xs := by
 simp [List.getD, h]

theorem encF_succ : ∀ (f : Nat) (n : Int), 0 <= n -> n < 128 ^ (f + 1) -> encF (f + 1) n = encF f n
 | 0, n, _, h => by
  have h' : n < 128 := by simpa using h
  simp [encF, h']
 | f + 1, n, h0, h => by
  have e : (128 : Int) ^ (f + 1 + 1) = 128 ^ (f + 1) * 128 := Int.pow_succ _ _
  rw [e] at h
  have := encF_succ f (n / 128) (by omega) (by omega)
  rw [encF, this, encF]
theorem enc_lt {m : Int} (h : m < 128) : enc m = [m] := by unfold enc encF; rw [if_pos h]
theorem enc_ge {m : Int} (h : 128 <= m) (h' : m < 18446744073709551616) : enc m = (m % 128 + 128) :: enc (m / 128) := by
 have e : enc (m / 128) = encF 8 (m / 128) := encF_succ 8 (m / 128) (by omega) (by
  have e : (128 : Int) ^ (8 + 1) = 9223372036854775808 := by decide
  rw [e]; omega)
 rw [e]; unfold enc; rw [encF, if_neg (by omega)]
theorem encF_len (f : Nat) : ∀ n : Int, 1 <= (encF f n).length /\ (encF f n).length <= f + 1 := by
 induction f with
 | zero => intro n; simp [encF]
 | succ f ih =>
  intro n
  have := ih (n / 128)
  unfold encF
  split <;> simp <;> omega
theorem enc_len (n : Int) : 1 <= (enc n).length /\ (enc n).length <= 10 := encF_len 9 n
theorem encF_byte (f : Nat) : ∀ n : Int, 0 <= n -> n < 256 * 128 ^ f -> ∀ x ∈ encF f n, 0 <= x /\ x <= 255 := by
 induction f with
 | zero => intro n h0 h x hx; simp [encF] at hx; simp at h; omega
 | succ f ih =>
  intro n h0 h x hx
  have e : (256 : Int) * 128 ^ (f + 1) = 256 * 128 ^ f * 128 := by rw [Int.pow_succ, Int.mul_assoc]
  rw [e] at h
  unfold encF at hx
  split at hx
  ·simp at hx; omega
  ·simp at hx
   rcases hx with hx | hx
   ·omega
   ·exact ih (n / 128) (by omega) (by omega) x hx
theorem enc_byte {n : Int} (h0 : 0 <= n) (h : n < 18446744073709551616) : ∀ x ∈ enc n, 0 <= x /\ x <= 255 := encF_byte 9 n h0 (by
 have e : (256 : Int) * 128 ^ 9 = 2361183241434822606848 := by decide
 rw [e]; omega)
theorem encs_byte {ns : List Int} (h : ∀ n ∈ ns, 0 <= n /\ n < 18446744073709551616) : ∀ x ∈ encs ns, 0 <= x /\ x <= 255 := by
 intro x hx
 unfold encs at hx
 rw [List.mem_flatMap] at hx
 obtain ⟨n, hn, hx⟩ := hx
 exact enc_byte (h n hn).1 (h n hn).2 x hx
theorem encs_nil : encs [] = [] := rfl
theorem encs_cons (n : Int) (r : List Int) : encs (n :: r) = enc n ++ encs r := by simp [encs]
theorem encs_append (a b : List Int) : encs (a ++ b) = encs a ++ encs b := by simp [encs]
theorem encs_one (n : Int) : encs [n] = enc n := by simp [encs]
theorem encs_len (ns : List Int) : (encs ns).length <= 10 * ns.length /\ ns.length <= (encs ns).length := by
 induction ns with
 | nil => simp [encs]
 | cons n r ih => rw [encs_cons]; have := enc_len n; simp; omega
theorem encs_take (xs : List Int) (k : Nat) (h : k < xs.length) : encs (xs.take (k + 1)) = encs (xs.take k) ++ enc (xs.getD k 0) := by
 rw [take_at xs k h, encs_append, encs_one]

def val : List Int -> Int
 | [] => 0
 | c :: r => c % 128 + 128 * val r
theorem pow7 (n : Nat) : (2 : Int) ^ (7 * (n + 1)) = 128 * 2 ^ (7 * n) := by
 rw [Nat.mul_add, Int.pow_add]; omega
def digs (n : Int) : List Int := (enc n).map (· % 128)
def marked (n : Int) (k : Nat) : List Int := (enc n).take k ++ (digs n).drop k
theorem ret3 {k1 k2 k3 : IntKind} {a a' b b' c c' : Int} (h1 : a = a') (h2 : b = b') (h3 : c = c') : Ending.returned (.tuple #[.int k1 a, .int k2 b, .int k3 c]) = .returned (.tuple #[.int k1 a', .int k2 b', .int k3 c']) := by rw [h1, h2, h3]
theorem ret1_w {k : IntKind} {a b : Int} (h : a = b) : Ending.returned (.int k a) = .returned (.int k b) := by rw [h]
theorem pow128 (f : Nat) : (128 : Int) ^ (f + 1) = 128 * 128 ^ f := by rw [Int.pow_succ, Int.mul_comm]
theorem getL_encF (more : List Int) : ∀ (f k : Nat) (m X : Int), k + f = 9 -> 0 <= m -> m < 2 * 128 ^ f -> (0 < k -> 0 < m) ->
  getL k X (encF f m ++ more) = (X + m * 2 ^ (7 * k), ((k + (encF f m).length : Nat) : Int), 0)
 | 0, k, m, X, hk, h0, h1, hp => by
  have hk9 : k = 9 := by omega
  have h1' : m < 2 := by simpa using h1
  have hpos := hp (by omega)
  rw [encF, List.singleton_append, getL_done (by omega) (by omega) (by omega)]
  have : m % 128 = m := by omega
  rw [this]; simp
 | f + 1, k, m, X, hk, h0, h1, hp => by
  rw [pow128] at h1
  unfold encF
  by_cases hl : m < 128
  ·rw [if_pos hl, List.singleton_append, getL_done (by omega) (by omega) hl]
   have : m % 128 = m := by omega
   rw [this]; simp
  ·rw [if_neg hl, List.cons_append, getL_more (by omega) (by omega) (by omega), getL_encF more f (k + 1) (m / 128) _ (by omega) (by omega) (by omega) (by omega)]
   have e : (m % 128 + 128) % 128 = m % 128 := by omega
   rw [e, pow7]
   have e2 : m = m % 128 + 128 * (m / 128) := by omega
   have e3 : m * 2 ^ (7 * k) = m % 128 * 2 ^ (7 * k) + m / 128 * (128 * 2 ^ (7 * k)) := by
    rw [<- Int.mul_assoc, Int.mul_comm (m / 128) 128, <- Int.add_mul, <- e2]
   rw [e3]
   refine Prod.ext ?_ (Prod.ext ?_ rfl)
   ·simp; omega
   ·simp; omega
theorem getL_enc {n : Int} (h0 : 0 <= n) (h : n < 18446744073709551616) (more : List Int) : getL 0 0 (enc n ++ more) = (n, ((enc n).length : Int), 0) := by
 have := getL_encF more 9 0 n 0 (by omega) h0 (by
  have e : (2 : Int) * 128 ^ 9 = 18446744073709551616 := by decide
  rw [e]; exact h) (by omega)
 simpa [enc] using this

theorem Sees.bytes {w : World} {v : Value} {xs : List Int} (h : Sees .u8 w v xs) : ∀ x ∈ xs, 0 <= x /\ x <= 255 := by
 obtain ⟨a, cap, rfl, hl, hm, hn0, hw, hs⟩ := h
 exact fun x hx => bounds_u8 (hw x hx)

set_option maxHeartbeats 400000 in
theorem get_some (b off cap : Nat) (xs : List Int) (w : World) (hmax : xs.length <= 9223372036854775807)
    (hc : ∀ i, i < xs.length -> w.cell? ⟨b, off + i, none⟩ = some (.int .u8 (xs.getD i 0)))
    (hr : ∀ x ∈ xs, 0 <= x /\ x <= 255) :
    Calls Tryz.prog 78 #[.slice (some ⟨b, off, none⟩) xs.length cap] w fun e w' =>
      e = .returned (.tuple #[.int .u64 (getL 0 0 xs).1, .int .i64 (getL 0 0 xs).2.1, .int .i64 (getL 0 0 xs).2.2]) /\ w = w' := by
  go_enter Tryz.func78, Tryz.ntmps78
  go_wp2
  go_loop [5, 10] (fun x i => ∃ (k : Nat) (X : Int), k <= xs.length /\ k <= 9 /\ i = .int .i64 k /\ x = .int .u64 X /\ 0 <= X /\ X < 2 ^ (7 * k) /\ getL 0 0 xs = getL k X (xs.drop k)) (fun _ i => xs.length - (intOf i).toNat)
  case atStart => exact ⟨0, 0, by omega, by omega, rfl, rfl, by omega, by simp, rfl⟩
  case round =>
    obtain ⟨k, X, hk, hk9, rfl, rfl, hX0, hX, hd⟩ := hrel
    have HX : Hid (X < 2 ^ (7 * k)) := hX
    clear hX
    by_cases hlt : k < xs.length
    · obtain ⟨c, hcell, hc0, hc1, HD⟩ : ∃ c, w.cell? ⟨b, off + k, none⟩ = some (.int .u8 c) /\ 0 <= c /\ c <= 255 /\ Hid (getL 0 0 xs = getL k X (c :: xs.drop (k + 1))) :=
        ⟨_, hc k hlt, (hr _ (getD_mem_w xs k hlt)).1, (hr _ (getD_mem_w xs k hlt)).2, by rw [hd, drop_at_w xs k hlt]; rfl⟩
      clear hd hc hr
      by_cases hf : (k = 9 /\ 1 < c) ∨ (0 < k /\ c = 0)
      · have HE : Hid (getL 0 0 xs = (0, 0, 12)) := by rw [HD.out, getL_form hf]; rfl
        clear HD
        go_wp2
        all_goals first
          | (go_ret3; exact ⟨ret3 (by rw [HE.out]) (by rw [HE.out]) (by rw [HE.out]), rfl⟩)
          | (exfalso; have h : (c == 0) = false := by assumption
             have := WalkArith.int_ne h; omega)
          | (exfalso; omega)
      · have h1 : ¬ (k = 9 /\ 1 < c) := fun h => hf (.inl h)
        have h2 : ¬ (0 < k /\ c = 0) := fun h => hf (.inr h)
        have HO : Hid (bits .or .u64 X (IntKind.u64.wrap (c % 128 * 2 ^ (7 * k))) = X + c % 128 * 2 ^ (7 * k)) := or_add' X c k hX0 HX.out hc0 hc1 hk9 (by omega)
        clear hf
        by_cases h3 : c < 128
        · have HE : Hid (getL 0 0 xs = (X + c % 128 * 2 ^ (7 * k), (k : Int) + 1, 0)) := by rw [HD.out, getL_done h1 h2 h3]; rfl
          clear HD
          go_wp2
          all_goals first
            | (go_ret3; exact ⟨ret3 (by rw [HE.out]; exact HO.out) (by rw [HE.out]) (by rw [HE.out]), rfl⟩)
            | (go_ret3; obtain rfl : k = 9 := by omega
               exact ⟨ret3 (by rw [HE.out]; exact or9 X c hX0 HX.out hc0 (by omega)) (by rw [HE.out]; rfl) (by rw [HE.out]), rfl⟩)
            | (exfalso; have h : (c == 0) = true := by assumption
               have := WalkArith.int_eq h; omega)
            | (exfalso; omega)
        · have HE : Hid (getL 0 0 xs = getL (k + 1) (X + c % 128 * 2 ^ (7 * k)) (xs.drop (k + 1))) := by rw [HD.out, getL_more h1 h2 (by omega)]; rfl
          have HL : Hid (0 <= X + c % 128 * 2 ^ (7 * k) /\ X + c % 128 * 2 ^ (7 * k) < 2 ^ (7 * (k + 1))) := or_lt X c k hX0 HX.out hc0 (by omega)
          clear HD
          go_wp2
          all_goals first
            | (go_round
               case rel => exact ⟨k + 1, X + c % 128 * 2 ^ (7 * k), by omega, by omega, by go_num, by rw [HO.out], HL.out.1, HL.out.2, HE.out⟩
               case measure => simp [intOf]; omega)
            | (exfalso; have h : (c == 0) = true := by assumption
               have := WalkArith.int_eq h; omega)
            | (exfalso; omega)
    · have HD : Hid (getL 0 0 xs = getL k X (xs.drop k)) := hd
      clear hd hc hr
      go_wp2
      go_ret3
      exact ⟨by rw [HD.out, List.drop_eq_nil_of_le (by omega)]; rfl, rfl⟩

theorem get_any (v : Value) (xs : List Int) (w : World) (h : Sees .u8 w v xs) :
  Calls Tryz.prog 78 #[v] w fun e w' =>
   e = .returned (.tuple #[.int .u64 (getL 0 0 xs).1, .int .i64 (getL 0 0 xs).2.1, .int .i64 (getL 0 0 xs).2.2]) /\ w = w' := by
 obtain ⟨a, cap, rfl, hl, hm, hn0, hw, hs⟩ := h
 unfold maxLen at hm
 by_cases hne : xs = []
 ·subst hne
  go_enter Tryz.func78, Tryz.ntmps78
  go_wp2
  refine wp_loop_rounds 1 ?_
  rw [rounds_succ]
  go_wp2
  go_ret3
  exact ⟨rfl, rfl⟩
 ·obtain ⟨b, off, rfl, _, hc⟩ := hs hne
  exact get_some b off cap xs w (by omega) hc (fun x hx => bounds_u8 (hw x hx))
theorem get_eq {v : Value} {xs : List Int} {w : World} (h : Sees .u8 w v xs) {a b c : Int} (hr : getL 0 0 xs = (a, b, c)) :
  Calls Tryz.prog 78 #[v] w fun e w' => e = .returned (.tuple #[.int .u64 a, .int .i64 b, .int .i64 c]) /\ w = w' := by
 have := get_any v xs w h; rw [hr] at this; exact this
theorem Tryz.info5 : (Tryz.prog.info? 5).map (fun i => (i.zero, i.size, i.bytes)) = some (some (.int .u8 0), 1, 1) := by kernel_rfl
theorem Tryz.info31 : (Tryz.prog.info? 26).map (fun i => (i.zero, i.size, i.bytes)) = some (some (.int .u64 0), 1, 8) := by kernel_rfl

set_option maxHeartbeats 400000 in
theorem width_some (b off cap : Nat) (xs : List Int) (w : World) (hmax : xs.length <= 4194304)
  (hc : ∀ i, i < xs.length -> w.cell? ⟨b, off + i, none⟩ = some (.int .u64 (xs.getD i 0)))
  (hr : ∀ x ∈ xs, 0 <= x /\ x < 18446744073709551616) :
  Calls Tryz.prog 43 #[.slice (some ⟨b, off, none⟩) xs.length cap] w fun e w' => e = .returned (.int .i64 (encs xs).length) /\ w = w' := by
 go_enter Tryz.func43, Tryz.ntmps43
 go_wp2
 go_loop [3, 8] (fun t i => ∃ k : Nat, k <= xs.length /\ i = .int .i64 k /\ t = .int .i64 (encs (xs.take k)).length) (fun _ i => xs.length - (intOf i).toNat)
 case atStart => exact ⟨0, by omega, rfl, rfl⟩
 case round =>
  obtain ⟨k, hk, rfl, rfl⟩ := hrel
  have hl := (encs_len (xs.take k)).1
  rw [List.length_take] at hl
  by_cases hlt : k < xs.length
  ·obtain ⟨c, hcell, hc0, hc1, HD⟩ : ∃ c, w.cell? ⟨b, off + k, none⟩ = some (.int .u64 c) /\ 0 <= c /\ c < 18446744073709551616 /\ Hid (encs (xs.take (k + 1)) = encs (xs.take k) ++ enc c) :=
    ⟨_, hc k hlt, (hr _ (getD_mem_w xs k hlt)).1, (hr _ (getD_mem_w xs k hlt)).2, encs_take xs k hlt⟩
   have hl2 := enc_len c
   obtain ⟨L, HL⟩ : ∃ L : Nat, Hid (L = (encs (xs.take k)).length) := ⟨_, rfl⟩
   have hL : L <= 41943040 := by rw [HL.out]; omega
   rw [<- HL.out]
   clear hl hc hr
   go_wp2
   go_loop [3, 5] (fun t n => ∃ (m : Int) (W : Nat), 0 <= m /\ m < 18446744073709551616 /\ n = .int .u64 m /\ t = .int .i64 W /\ 1 <= W /\ W + (enc m).length = L + (enc c).length + 1) (fun _ n => (intOf n).toNat)
   case atStart => exact ⟨c, L + 1, hc0, hc1, rfl, rfl, by omega, by omega⟩
   case round =>
    obtain ⟨m, W, hm0, hm1, rfl, rfl, hW1, hW⟩ := hrel
    have hl3 := enc_len m
    have hWb : W <= 41943060 := by omega
    by_cases hge : 128 <= m
    ·have hs : (enc m).length = 1 + (enc (m / 128)).length := by rw [enc_ge hge hm1]; simp; omega
     have HW : Hid (W + 1 + (enc (m / 128)).length = L + (enc c).length + 1) := by show _ = _; omega
     clear hs hW hl3
     go_wp2
     go_round
     case rel => exact ⟨m / 128, W + 1, by omega, by omega, rfl, by go_num, by omega, HW.out⟩
     case measure => simp [intOf]; omega
    ·have hs : (enc m).length = 1 := by rw [enc_lt (by omega)]; rfl
     have HW : Hid (W = L + (enc c).length) := by show _ = _; omega
     clear hs hW hl3
     go_wp2
     go_round
     case rel => exact ⟨k + 1, by omega, by go_num, by rw [HD.out, List.length_append, HW.out, HL.out]⟩
     case measure => simp [intOf]; omega
  ·obtain rfl : k = xs.length := by omega
   clear hl hc hr
   go_wp2
   go_ret
   exact ⟨rfl, rfl⟩

theorem width_any (v : Value) (xs : List Int) (w : World) (h : Sees .u64 w v xs) (hmax : xs.length <= 4194304) :
  Calls Tryz.prog 43 #[v] w fun e w' => e = .returned (.int .i64 (encs xs).length) /\ w = w' := by
 obtain ⟨a, cap, rfl, hl, hm, hn0, hw, hs⟩ := h
 by_cases hne : xs = []
 ·subst hne
  go_enter Tryz.func43, Tryz.ntmps43
  go_wp2
  refine wp_loop_rounds 1 ?_
  rw [rounds_succ]
  go_wp2
  go_ret
  exact ⟨rfl, rfl⟩
 ·obtain ⟨b, off, rfl, _, hc⟩ := hs hne
  exact width_some b off cap xs w hmax hc (fun x hx => by have := bounds_u64 (hw x hx); omega)

theorem step_append_w {w wr w1 : World} {B : Nat} {e : TypeId} {k : IntKind} {v v' : Value} {o : Obj} {ys : List Int} {x : Int} (hown : wr.ownsRow B e 1 v ys.length (ys.map (Value.int k))) (hbe : Below B w wr) (hB : B <= w.heap.size)
  (hown' : w1.ownsRow B e 1 v' (ys.length + 1) (ys.map (Value.int k) ++ [Value.int k x])) (hgrow : (wr.alloc o).grownBy w1 v.ownBlock) :
  w1.ownsRow B e 1 v' (ys ++ [x]).length ((ys ++ [x]).map (Value.int k)) /\ Below B w w1 := by
 have hs := hbe.size
 refine ⟨by simpa using hown', (hbe.alloc (by omega) o).grown hgrow (by simp; omega) (fun k hk => (hown.lt k hk).1)⟩
theorem one_cell_w (k : IntKind) (x : Int) : ∀ u ∈ [Value.int k x], u.oneCell' = true := by intro u hu; simp at hu; subst hu; rfl

set_option maxHeartbeats 800000 in
theorem put_some (b off cap : Nat) (xs : List Int) (w : World) (hb : b < w.heap.size) (hl : xs.length <= cap) (hm : cap <= maxLen) (hmax : xs.length <= 4194304)
  (hc : ∀ i, i < xs.length -> w.cell? ⟨b, off + i, none⟩ = some (.int .u64 (xs.getD i 0)))
  (hr : ∀ x ∈ xs, 0 <= x /\ x < 18446744073709551616) :
  Calls Tryz.prog 19 #[.slice (some ⟨b, off, none⟩) xs.length cap] w fun e w' =>
   ∃ v, e = .returned v /\ w'.ownsRow w.heap.size 5 1 v (encs xs).length ((encs xs).map (Value.int .u8)) /\ Below w.heap.size w w' := by
 obtain ⟨i0, hi, hz0, hz1, hz2⟩ := info_parts Tryz.info5
 have hel := (encs_len xs).1
 go_enter Tryz.func19, Tryz.ntmps19
 go_wp2_with (first
  | (go_at_call 43; refine (width_some b off cap xs _ hmax hc hr).mono ?_; rintro e w' ⟨rfl, rfl⟩)
  | (at_make; refine wpList_make_own _ rfl _ _ 37 rfl w.heap.size 5 i0 (.int .u8 0) 1 Tryz.underlying37 hi hz0 hz1 .i64 .i64 _ (encs xs).length rfl rfl rfl (by rw [hz2]; omega) (by unfold maxLen; omega) (Nat.le_refl _) ?_; intro w1 hown hgrow))
 have hbe : Below w.heap.size w w1 := (Below.refl _ _).grown hgrow (Nat.le_refl _) (by simp)
 clear hgrow
 go_loopw [3, 11] (fun v i wr => ∃ k : Nat, k <= xs.length /\ i = .int .i64 k /\ wr.ownsRow w.heap.size 5 1 v (encs (xs.take k)).length ((encs (xs.take k)).map (Value.int .u8)) /\ Below w.heap.size w wr) (fun _ i _ => xs.length - (intOf i).toNat)
 case atStart => exact ⟨0, by omega, rfl, hown, hbe⟩
 case round =>
  obtain ⟨k, hk, rfl, hown, hbe⟩ := hrel
  have hl' := (encs_len (xs.take k)).1
  rw [List.length_take] at hl'
  by_cases hlt : k < xs.length
  ·obtain ⟨c, hcell, hc0, hc1, HD⟩ : ∃ c, wr.cell? ⟨b, off + k, none⟩ = some (.int .u64 c) /\ 0 <= c /\ c < 18446744073709551616 /\ Hid (encs (xs.take (k + 1)) = encs (xs.take k) ++ enc c) :=
    ⟨_, (hbe.cell (p := ⟨b, off + k, none⟩) hb).trans (hc k hlt), (hr _ (getD_mem_w xs k hlt)).1, (hr _ (getD_mem_w xs k hlt)).2, encs_take xs k hlt⟩
   obtain ⟨ys, HY, hL, hown⟩ : ∃ ys, Hid (ys = encs (xs.take k)) /\ ys.length <= 41943040 /\ wr.ownsRow w.heap.size 5 1 u3 ys.length (ys.map (Value.int .u8)) := ⟨_, rfl, by omega, hown⟩
   have HD : Hid (encs (xs.take (k + 1)) = ys ++ enc c) := by rw [HD.out, HY.out]; rfl
   have hcl := (enc_len c).2
   clear hc hr
   go_wp2
   go_loopw [3, 5] (fun v n wq => ∃ (m : Int) (zs : List Int), 0 <= m /\ m < 18446744073709551616 /\ n = .int .u64 m /\ zs ++ enc m = ys ++ enc c /\ wq.ownsRow w.heap.size 5 1 v zs.length (zs.map (Value.int .u8)) /\ Below w.heap.size w wq) (fun _ n _ => (intOf n).toNat)
   case atStart => exact ⟨c, ys, hc0, hc1, rfl, rfl, hown, hbe⟩
   case round =>
    clear hown hbe hcell
    obtain ⟨m, zs, hm0, hm1, rfl, hz, hown, hbe⟩ := hrel
    have hzl : zs.length <= 41943050 := by have := congrArg List.length hz; simp at this; omega
    have HZ : Hid (zs ++ enc m = ys ++ enc c) := hz
    clear hz
    have hsz := hbe.size
    by_cases hge : 128 <= m
    ·go_wp2_with (at_builtin; go_must (refine wpList_append_own _ rfl _ _ 37 rfl w.heap.size 5 i0 (.int .u8 0) 1 1 Tryz.underlying37 hi hz0 hz1 hz2 rfl (by decide) _ _ _ rfl (hown.alloc _) ⟨_, 0, none⟩ 1 1 [.int .u8 (m % 128 + 128)] rfl rfl (cell_one_new _ _ _) (one_cell_w _ _) (by unfold maxLen; omega) (by omega) (by simp; omega) ?_); intro v' w1 hown' hgrow _; have R := step_append_w hown hbe (Nat.le_refl _) hown' hgrow; clear hown' hgrow)
     go_roundw
     case rel => exact ⟨m / 128, zs ++ [m % 128 + 128], by omega, by omega, rfl, by rw [<- HZ.out, enc_ge hge hm1]; simp, R.1, R.2⟩
     case measure => simp [intOf]; omega
    ·go_wp2_with (at_builtin; go_must (refine wpList_append_own _ rfl _ _ 37 rfl w.heap.size 5 i0 (.int .u8 0) 1 1 Tryz.underlying37 hi hz0 hz1 hz2 rfl (by decide) _ _ _ rfl (hown.alloc _) ⟨_, 0, none⟩ 1 1 [.int .u8 (m)] rfl rfl (cell_one_new _ _ _) (one_cell_w _ _) (by unfold maxLen; omega) (by omega) (by simp; omega) ?_); intro v' w1 hown' hgrow _; have R := step_append_w hown hbe (Nat.le_refl _) hown' hgrow; clear hown' hgrow)
     have HF : Hid (zs ++ [m] = encs (xs.take (k + 1))) := by rw [HD.out, <- HZ.out, enc_lt (by omega)]; rfl
     rw [HF.out] at R
     go_roundw
     case rel => exact ⟨k + 1, by omega, by go_num, R.1, R.2⟩
     case measure => simp [intOf]; omega
  ·obtain rfl : k = xs.length := by omega
   rw [List.take_length] at hown
   clear hc hr
   go_wp2
   go_ret
   exact ⟨_, rfl, hown, hbe⟩

theorem put_any (v : Value) (xs : List Int) (w : World) (h : Sees .u64 w v xs) (hmax : xs.length <= 4194304) :
  Calls Tryz.prog 19 #[v] w fun e w' => ∃ v, e = .returned v /\ w'.ownsRow w.heap.size 5 1 v (encs xs).length ((encs xs).map (Value.int .u8)) /\ Below w.heap.size w w' := by
 have h0 := h
 obtain ⟨a, cap, rfl, hl, hm, hn0, hw, hs⟩ := h
 by_cases hne : xs = []
 ·subst hne
  obtain ⟨i0, hi, hz0, hz1, hz2⟩ := info_parts Tryz.info5
  go_enter Tryz.func19, Tryz.ntmps19
  go_wp2_with (first
   | (go_at_call 43; refine (width_any _ [] _ h0 (by simp)).mono ?_; rintro e w' ⟨rfl, rfl⟩)
   | (at_make; refine wpList_make_own _ rfl _ _ 37 rfl w.heap.size 5 i0 (.int .u8 0) 1 Tryz.underlying37 hi hz0 hz1 .i64 .i64 _ 0 rfl rfl rfl (by rw [hz2]; omega) (by unfold maxLen; omega) (Nat.le_refl _) ?_; intro w1 hown hgrow))
  have hbe : Below w.heap.size w w1 := (Below.refl _ _).grown hgrow (Nat.le_refl _) (by simp)
  clear hgrow
  refine wp_loop_rounds 1 ?_
  rw [rounds_succ]
  go_wp2
  go_ret
  exact ⟨_, rfl, hown, hbe⟩
 ·obtain ⟨b, off, rfl, hlt, hc⟩ := hs hne
  exact put_some b off cap xs w hlt hl hm hmax hc (fun x hx => by have := bounds_u64 (hw x hx); omega)
def foldI (n : Int) : Int := if n < 0 then -2 * n - 1 else 2 * n
def unfoldI (u : Int) : Int := if u % 2 = 1 then -(u / 2) - 1 else u / 2
theorem unfold_fold (n : Int) : unfoldI (foldI n) = n := by unfold unfoldI foldI; split <;> split <;> omega
theorem fold_bd {n : Int} (h : -9223372036854775808 <= n) (h' : n <= 9223372036854775807) : 0 <= foldI n /\ foldI n < 18446744073709551616 := by unfold foldI; split <;> omega

theorem fold_any (n : Int) (w : World) (h : -9223372036854775808 <= n) (h' : n <= 9223372036854775807) :
  Calls Tryz.prog 44 #[.int .i64 n] w fun e w' => e = .returned (.int .u64 (foldI n)) /\ w = w' := by
 unfold foldI
 by_cases h0 : n < 0
 ·go_enter Tryz.func44, Tryz.ntmps44
  go_wp2
  go_ret
  exact ⟨ret1_w (by first | omega | (simp [h0]; omega)), rfl⟩
 ·go_enter Tryz.func44, Tryz.ntmps44
  go_wp2
  go_ret
  exact ⟨ret1_w (by first | omega | (simp [h0]; omega)), rfl⟩

theorem own_base_w {w : World} {base base' : Nat} {e : TypeId} {size : Nat} {v : Value} {n : Nat} {xs : List Value} (h : w.ownsRow base' e size v n xs) (hb : base <= base') : w.ownsRow base e size v n xs := by
 rcases h with ⟨h1, h2 | ⟨g, cap, cur, hv, hg, r⟩⟩
 ·exact ⟨h1, .inl h2⟩
 ·exact ⟨h1, .inr ⟨g, cap, cur, hv, by omega, r⟩⟩
theorem wf_u64 {n : Int} (h : 0 <= n) (h' : n < 18446744073709551616) : (Lit.int .u64 n).wf = true := WalkArith.wf_u64 (by omega)

set_option maxHeartbeats 400000 in
theorem putint_some (b off cap : Nat) (xs : List Int) (w : World) (hb : b < w.heap.size) (hmax : xs.length <= 4194304)
  (hc : ∀ i, i < xs.length -> w.cell? ⟨b, off + i, none⟩ = some (.int .i64 (xs.getD i 0)))
  (hr : ∀ x ∈ xs, -9223372036854775808 <= x /\ x <= 9223372036854775807) :
  Calls Tryz.prog 20 #[.slice (some ⟨b, off, none⟩) xs.length cap] w fun e w' =>
   ∃ v, e = .returned v /\ w'.ownsRow w.heap.size 5 1 v (encs (xs.map foldI)).length ((encs (xs.map foldI)).map (Value.int .u8)) /\ Below w.heap.size w w' := by
 obtain ⟨i0, hi, hz0, hz1, hz2⟩ := info_parts Tryz.info31
 have hwf : ∀ x ∈ xs.map foldI, (Lit.int .u64 x).wf = true := by
  intro x hx
  obtain ⟨y, hy, rfl⟩ := List.mem_map.1 hx
  have := fold_bd (hr y hy).1 (hr y hy).2
  exact wf_u64 this.1 this.2
 go_enter Tryz.func20, Tryz.ntmps20
 go_wp2_with (at_make; go_must (refine wpList_make_own _ rfl _ _ 111 rfl w.heap.size 26 i0 (.int .u64 0) 1 Tryz.underlying111 hi hz0 hz1 .i64 .i64 _ xs.length rfl rfl rfl (by rw [hz2]; omega) (by unfold maxLen; omega) (Nat.le_refl _) ?_); intro w1 hown hgrow)
 have hbe : Below w.heap.size w w1 := (Below.refl _ _).grown hgrow (Nat.le_refl _) (by simp)
 clear hgrow
 go_loopw [3, 11] (fun v i wr => ∃ k : Nat, k <= xs.length /\ i = .int .i64 k /\ wr.ownsRow w.heap.size 26 1 v ((xs.take k).map foldI).length (((xs.take k).map foldI).map (Value.int .u64)) /\ Below w.heap.size w wr) (fun _ i _ => xs.length - (intOf i).toNat)
 case atStart => exact ⟨0, by omega, rfl, hown, hbe⟩
 case round =>
  clear hown hbe
  obtain ⟨k, hk, rfl, hown, hbe⟩ := hrel
  have hsz := hbe.size
  by_cases hlt : k < xs.length
  ·obtain ⟨c, hcell, hc0, hc1, HD⟩ : ∃ c, wr.cell? ⟨b, off + k, none⟩ = some (.int .i64 c) /\ -9223372036854775808 <= c /\ c <= 9223372036854775807 /\ Hid (xs.take (k + 1) = xs.take k ++ [c]) :=
    ⟨_, (hbe.cell (p := ⟨b, off + k, none⟩) hb).trans (hc k hlt), (hr _ (getD_mem_w xs k hlt)).1, (hr _ (getD_mem_w xs k hlt)).2, take_at xs k hlt⟩
   obtain ⟨ys, HY, hL, hown⟩ : ∃ ys, Hid (ys = (xs.take k).map foldI) /\ ys.length <= 4194304 /\ wr.ownsRow w.heap.size 26 1 u3 ys.length (ys.map (Value.int .u64)) := ⟨_, rfl, by simp; omega, hown⟩
   have HF : Hid ((xs.take (k + 1)).map foldI = ys ++ [foldI c]) := by show _ = _; rw [HD.out, HY.out]; simp
   clear hc hr hwf
   go_wp2_with (first
    | (go_at_call 44; go_must (refine (fold_any c _ hc0 hc1).mono ?_); rintro e w' ⟨rfl, rfl⟩)
    | (at_builtin; go_must (refine wpList_append_own _ rfl _ _ 111 rfl w.heap.size 26 i0 (.int .u64 0) 1 8 Tryz.underlying111 hi hz0 hz1 hz2 rfl (by decide) _ _ _ rfl (hown.alloc _) ⟨_, 0, none⟩ 1 1 [.int .u64 (foldI c)] rfl rfl (cell_one_new _ _ _) (one_cell_w _ _) (by unfold maxLen; omega) (by omega) (by simp; omega) ?_); intro v' w1 hown' hgrow _; have R := step_append_w hown hbe (Nat.le_refl _) hown' hgrow; clear hown' hgrow))
   rw [<- HF.out] at R
   go_roundw
   case rel => exact ⟨k + 1, by omega, by go_num, R.1, R.2⟩
   case measure => simp [intOf]; omega
  ·obtain rfl : k = xs.length := by omega
   rw [List.take_length] at hown
   have hsee : Sees .u64 wr u3 (xs.map foldI) := Sees.own hown hwf
   have hl3 : (xs.map foldI).length <= 4194304 := by simpa using hmax
   clear hc hr hwf hown
   go_wp2_with (go_at_call 19; go_must (refine (put_any _ (xs.map foldI) _ hsee hl3).mono ?_); rintro e w2 ⟨v, rfl, hown2, hbe2⟩)
   go_ret
   exact ⟨_, rfl, own_base_w hown2 hsz, hbe.trans (hbe2.mono hsz)⟩

theorem putint_any (v : Value) (xs : List Int) (w : World) (h : Sees .i64 w v xs) (hmax : xs.length <= 4194304) :
  Calls Tryz.prog 20 #[v] w fun e w' => ∃ v, e = .returned v /\ w'.ownsRow w.heap.size 5 1 v (encs (xs.map foldI)).length ((encs (xs.map foldI)).map (Value.int .u8)) /\ Below w.heap.size w w' := by
 obtain ⟨a, cap, rfl, hl, hm, hn0, hw, hs⟩ := h
 by_cases hne : xs = []
 ·subst hne
  obtain ⟨i0, hi, hz0, hz1, hz2⟩ := info_parts Tryz.info31
  go_enter Tryz.func20, Tryz.ntmps20
  go_wp2_with (at_make; go_must (refine wpList_make_own _ rfl _ _ 111 rfl w.heap.size 26 i0 (.int .u64 0) 1 Tryz.underlying111 hi hz0 hz1 .i64 .i64 _ 0 rfl rfl rfl (by rw [hz2]; omega) (by unfold maxLen; omega) (Nat.le_refl _) ?_); intro w1 hown hgrow)
  have hbe : Below w.heap.size w w1 := (Below.refl _ _).grown hgrow (Nat.le_refl _) (by simp)
  have hsz := hbe.size
  have hsee : Sees .u64 w1 (.slice (some ⟨w.heap.size, 0, none⟩) 0 0) [] := Sees.own hown (by simp)
  clear hgrow hown
  refine wp_loop_rounds 1 ?_
  rw [rounds_succ]
  go_wp2_with (go_at_call 19; go_must (refine (put_any _ [] _ hsee (by simp)).mono ?_); rintro e w2 ⟨v, rfl, hown2, hbe2⟩)
  go_ret
  exact ⟨_, rfl, own_base_w hown2 hsz, hbe.trans (hbe2.mono hsz)⟩
 ·obtain ⟨b, off, rfl, hlt, hc⟩ := hs hne
  exact putint_some b off cap xs w hlt hmax hc (fun x hx => bounds_i64 (hw x hx))
theorem putint_one (x : Int) (n : Nat) (w : World) (hn : n = w.heap.size) (h : -9223372036854775808 <= x /\ x <= 9223372036854775807) :
  Calls Tryz.prog 20 #[.slice (some ⟨n, 0, none⟩) 1 1] (w.alloc (.cells #[.int .i64 x] 2)) fun e w' => ∃ v, e = .returned v /\ w'.ownsRow w.heap.size 5 1 v (enc (foldI x)).length ((enc (foldI x)).map (Value.int .u8)) /\ Below w.heap.size w w' := by
 subst hn
 have h2 := putint_any _ [x] _ (Sees.lit w .i64 2 [x] _ 1 rfl rfl (by simp) (by intro y hy; simp at hy; subst hy; exact WalkArith.wf_i64 (by omega))) (by simp)
 have e1 : encs ([x].map foldI) = enc (foldI x) := encs_one (foldI x)
 rw [e1] at h2
 refine h2.mono ?_
 rintro e w' ⟨v, rfl, hown, hbe⟩
 exact ⟨v, rfl, own_base_w hown (by simp), ((Below.refl _ _).alloc (Nat.le_refl _) _).trans (hbe.mono (by simp))⟩
abbrev Rd (α : Type) := Except (Int × Int) (α × Nat)
abbrev St_w := Except (Int × Int) Nat
def Rd.then' {α β : Type} (r : Rd α) (g : α -> Nat -> Rd β) : Rd β := match r with | .ok (a, p) => g a p | .error x => .error x
def Rd.Tells {α : Type} (r : Rd α) (s : St_w) (a : α) : Prop := match s with | .ok p => r = .ok (a, p) | .error x => r = .error x
def After {α : Type} (s : St_w) (f : Nat -> Rd α) (s' : St_w) (a : α) : Prop := match s with | .ok p => (f p).Tells s' a | .error x => s' = .error x
theorem After.then' {α β : Type} {s s1 s2 : St_w} {f : Nat -> Rd α} {g : α -> Nat -> Rd β} {a : α} {b : β} (h : After s f s1 a) (k : After s1 (g a) s2 b) : After s (fun p => (f p).then' g) s2 b := by
 cases s with
 | error x =>
  have h : s1 = .error x := h
  subst h
  exact k
 | ok p =>
  cases s1 with
  | error x =>
   have h : f p = .error x := h
   have k : s2 = .error x := k
   subst k
   show (f p).then' g = .error x
   rw [h]; rfl
  | ok p1 =>
   have h : f p = .ok (a, p1) := h
   show Rd.Tells ((f p).then' g) s2 b
   rw [h]; exact k
theorem After.cast {α : Type} {s s' : St_w} {f g : Nat -> Rd α} {a : α} (h : After s f s' a) (e : ∀ p, s = .ok p -> f p = g p) : After s g s' a := by
 cases s with
 | error x => exact h
 | ok p => show (g p).Tells s' a; rw [<- e p rfl]; exact h

def numR (xs : List Int) (most above : Int) (p : Nat) : Rd Int :=
 if (getL 0 0 (xs.drop p)).2.2 ≠ 0 then .error ((p : Int), (getL 0 0 (xs.drop p)).2.2)
 else if most < (getL 0 0 (xs.drop p)).1 then .error ((p : Int), above) else .ok ((getL 0 0 (xs.drop p)).1, p + (getL 0 0 (xs.drop p)).2.1.toNat)
def sgnR (xs : List Int) (p : Nat) : Rd Int :=
 if (getL 0 0 (xs.drop p)).2.2 ≠ 0 then .error ((p : Int), (getL 0 0 (xs.drop p)).2.2) else .ok (unfoldI (getL 0 0 (xs.drop p)).1, p + (getL 0 0 (xs.drop p)).2.1.toNat)
def instR (xs : List Int) (p0 : Nat) : Rd In :=
 (numR xs 22 12 p0).then' fun op p => (numR xs 63 12 p).then' fun d p => (numR xs 63 12 p).then' fun a p => (numR xs 63 12 p).then' fun b p => (sgnR xs p).then' fun imm p =>
  if rightB op d a b imm = true then .ok (⟨op, d, a, b, imm⟩, p) else .error ((p0 : Int), 12)
def mapsR (xs : List Int) : Nat -> List Int -> Nat -> Rd (List Int)
 | 0, acc, p => .ok (acc, p)
 | k + 1, acc, p => (numR xs 3 12 p).then' fun n p' => if n ∈ acc then .error ((p : Int), 12) else mapsR xs k (acc ++ [n]) p'
def codeR (xs : List Int) : Nat -> List In -> Nat -> Rd (List In)
 | 0, acc, p => .ok (acc, p)
 | k + 1, acc, p => (instR xs p).then' fun i p' => codeR xs k (acc ++ [i]) p'
def headB_w (k : Nat) : Int := if k = 0 then 84 else if k = 1 then 80 else 1
def headR (xs : List Int) : Nat -> Nat -> Rd Unit
 | 0, p => .ok ((), p)
 | k + 1, p => if xs.length <= p then .error ((p : Int), 10) else if xs.getD p 0 ≠ headB_w p then .error ((p : Int), 12) else headR xs k (p + 1)
def mapsA (xs : List Int) (p : Nat) : Rd (List Int) := (numR xs 4 11 p).then' fun n p' => mapsR xs n.toNat [] p'
def codeA (xs : List Int) (p : Nat) : Rd (List In) := (numR xs 64 11 p).then' fun n p' => if n = 0 then .error ((p : Int), 12) else codeR xs n.toNat [] p'
def endR (xs : List Int) (p : Nat) : Rd Unit := if p < xs.length then .error ((p : Int), 13) else .ok ((), p)
def decR (xs : List Int) : Rd (List Int × List In) :=
 (headR xs 3 0).then' fun _ p => (mapsA xs p).then' fun ms p => (codeA xs p).then' fun is p => (endR xs p).then' fun _ p => .ok ((ms, is), p)
def decL (xs : List Int) : (List Int × List In) × Int × Int := match decR xs with | .ok (m, _) => (m, 0, 0) | .error (q, e) => (([], []), q, e)

theorem drop_byte {xs : List Int} (hb : ∀ x ∈ xs, 0 <= x /\ x <= 255) (p : Nat) : ∀ x ∈ xs.drop p, 0 <= x /\ x <= 255 := fun x hx => hb x (List.mem_of_mem_drop hx)

def fitF (acc : List Int) : List Int -> Bool
 | [] => true
 | n :: r => decide (0 <= n) && (decide (n <= 3) && (!decide (n ∈ acc) && fitF (acc ++ [n]) r))
def formedB (ms : List Int) (is : List In) : Bool := decide (ms.length <= 4) && (decide (1 <= is.length) && (decide (is.length <= 64) && (fitF [] ms && is.all In.right)))
def instE (i : In) : List Int := encs [i.op, i.d, i.a, i.b] ++ enc (foldI i.imm)
def codeE (is : List In) : List Int := is.flatMap instE
def modE (ms : List Int) (is : List In) : List Int := [84, 80, 1] ++ (enc ms.length ++ (encs ms ++ (enc is.length ++ codeE is)))
theorem fitF_app : ∀ (a b acc : List Int), fitF acc (a ++ b) = (fitF acc a && fitF (acc ++ a) b)
 | [], b, acc => by simp [fitF]
 | n :: a, b, acc => by
  rw [List.cons_append, fitF, fitF, fitF_app a b (acc ++ [n])]
  simp [Bool.and_assoc]
theorem fitF_take {ms : List Int} {k : Nat} (hk : k < ms.length) : fitF [] (ms.take (k + 1)) = (fitF [] (ms.take k) && (decide (0 <= ms.getD k 0) && (decide (ms.getD k 0 <= 3) && !decide (ms.getD k 0 ∈ ms.take k)))) := by
 rw [take_at ms k hk, fitF_app]
 simp [fitF]
theorem fitF_bad {ms : List Int} {k : Nat} (hk : k < ms.length) (h : ms.getD k 0 < 0 ∨ 3 < ms.getD k 0 ∨ ms.getD k 0 ∈ ms.take k) : fitF [] ms = false := by
 have e : ms = ms.take (k + 1) ++ ms.drop (k + 1) := (List.take_append_drop _ _).symm
 rw [e, fitF_app, fitF_take hk]
 rcases h with h | h | h
 ·have : decide (0 <= ms.getD k 0) = false := decide_eq_false (by omega)
  rw [this]; simp
 ·have : decide (ms.getD k 0 <= 3) = false := decide_eq_false (by omega)
  rw [this]; simp
 ·have : decide (ms.getD k 0 ∈ ms.take k) = true := decide_eq_true h
  rw [this]; simp
theorem fitF_bd : ∀ (ms acc : List Int), fitF acc ms = true -> ∀ n ∈ ms, 0 <= n /\ n <= 3
 | [], _, _ => by simp
 | m :: ms, acc, h => by
  rw [fitF] at h
  simp only [Bool.and_eq_true, decide_eq_true_eq] at h
  intro n hn
  rcases List.mem_cons.1 hn with rfl | hn
  ·exact ⟨h.1, h.2.1⟩
  ·exact fitF_bd ms _ h.2.2.2 n hn
theorem formed_parts {ms : List Int} {is : List In} (h : formedB ms is = true) : ms.length <= 4 /\ 1 <= is.length /\ is.length <= 64 /\ fitF [] ms = true /\ ∀ i ∈ is, i.right = true := by
 simp only [formedB, Bool.and_eq_true, decide_eq_true_eq, List.all_eq_true] at h
 exact ⟨h.1, h.2.1, h.2.2.1, h.2.2.2.1, h.2.2.2.2⟩
theorem right_bd {op d a b imm : Int} (h : rightB op d a b imm = true) : (0 <= op /\ op <= 22) /\ (0 <= d /\ d <= 63) /\ (0 <= a /\ a <= 63) /\ (0 <= b /\ b <= 63) := by
 have ho := right_op h
 refine ⟨ho, ?_⟩
 have hr : ∀ n, regB n = true -> 0 <= n /\ n <= 63 := fun n hn => by have := regB_bd hn; omega
 have hs : ∀ b imm, sourcedB b imm = true -> 0 <= b /\ b <= 63 := fun b imm hb => by have := sourced_b hb; omega
 by_cases h1 : 1 <= op /\ op <= 10
 ·rw [rightB_three h1] at h; simp only [Bool.and_eq_true] at h; exact ⟨hr _ h.1.1, hr _ h.1.2, hs _ _ h.2⟩
 by_cases h2 : 16 <= op /\ op <= 19
 ·rw [rightB_jump h2] at h; simp only [Bool.and_eq_true, decide_eq_true_eq] at h; exact ⟨by omega, hr _ h.1.2, hs _ _ h.2⟩
 have h3 : op = 0 ∨ op = 11 ∨ op = 12 ∨ op = 13 ∨ op = 14 ∨ op = 15 ∨ op = 20 ∨ op = 21 ∨ op = 22 := by omega
 rcases h3 with rfl | rfl | rfl | rfl | rfl | rfl | rfl | rfl | rfl
 ·rw [rightB_0] at h; simp only [Bool.and_eq_true, beq_iff_eq] at h; exact ⟨hr _ h.1.1, by omega, hs _ _ h.2⟩
 ·rw [rightB_11] at h; simp only [Bool.and_eq_true, beq_iff_eq] at h; exact ⟨hr _ h.1.1, by omega, hs _ _ h.2⟩
 ·rw [rightB_12] at h; simp only [Bool.and_eq_true, beq_iff_eq] at h; exact ⟨by omega, hr _ h.1.2, hs _ _ h.2⟩
 ·rw [rightB_13] at h; simp only [Bool.and_eq_true, beq_iff_eq] at h; exact ⟨hr _ h.1.1.1, by omega, by omega⟩
 ·rw [rightB_14] at h; simp only [Bool.and_eq_true, beq_iff_eq] at h; exact ⟨hr _ h.1.1.1.1, by omega, by omega⟩
 ·rw [rightB_15] at h; simp only [Bool.and_eq_true, beq_iff_eq, decide_eq_true_eq] at h; exact ⟨by omega, by omega, by omega⟩
 ·rw [rightB_20] at h; simp only [Bool.and_eq_true, beq_iff_eq, decide_eq_true_eq] at h; exact ⟨by omega, hr _ h.1.1.1.2, by omega⟩
 ·rw [rightB_21] at h; simp only [Bool.and_eq_true, beq_iff_eq, decide_eq_true_eq] at h; exact ⟨by omega, by omega, by omega⟩
 ·rw [rightB_22] at h; simp only [Bool.and_eq_true, beq_iff_eq] at h; exact ⟨by omega, hr _ h.1.1.2, by omega⟩
theorem instE_len (i : In) : 5 <= (instE i).length /\ (instE i).length <= 50 := by
 have h1 := enc_len i.op
 have h2 := enc_len i.d
 have h3 := enc_len i.a
 have h4 := enc_len i.b
 have h5 := enc_len (foldI i.imm)
 simp only [instE, encs_cons, encs_nil, List.append_nil, List.length_append]
 omega
theorem codeE_len (is : List In) : (codeE is).length <= 50 * is.length := by
 induction is with
 | nil => simp [codeE]
 | cons i is ih =>
  have e : codeE (i :: is) = instE i ++ codeE is := rfl
  have := instE_len i
  rw [e, List.length_append, List.length_cons]
  omega
theorem codeE_app (a b : List In) : codeE (a ++ b) = codeE a ++ codeE b := by simp [codeE]
theorem codeE_take (is : List In) (k : Nat) (h : k < is.length) : codeE (is.take (k + 1)) = codeE (is.take k) ++ instE (is.getD k In.nil) := by
 rw [List.take_succ_eq_append_getElem h, codeE_app]
 simp [codeE, List.getD, h]
theorem instE_byte {i : In} (hr : i.right = true) (hw : i.wf) : ∀ x ∈ instE i, 0 <= x /\ x <= 255 := by
 obtain ⟨h1, h2, h3, h4⟩ := right_bd hr
 have h5 := fold_bd (bounds_i64 hw.2.2.2.2).1 (bounds_i64 hw.2.2.2.2).2
 intro x hx
 simp only [instE, List.mem_append] at hx
 rcases hx with hx | hx
 ·refine encs_byte ?_ x hx
  intro n hn
  simp only [List.mem_cons, List.not_mem_nil, or_false] at hn
  rcases hn with rfl | rfl | rfl | rfl <;> omega
 ·exact enc_byte h5.1 h5.2 x hx
theorem codeE_byte {is : List In} (hr : ∀ i ∈ is, i.right = true) (hw : ∀ i ∈ is, i.wf) : ∀ x ∈ codeE is, 0 <= x /\ x <= 255 := by
 intro x hx
 simp only [codeE, List.mem_flatMap] at hx
 obtain ⟨i, hi, hx⟩ := hx
 exact instE_byte (hr i hi) (hw i hi) x hx
theorem modE_byte {ms : List Int} {is : List In} (h : formedB ms is = true) (hw : ∀ i ∈ is, i.wf) : ∀ x ∈ modE ms is, 0 <= x /\ x <= 255 := by
 obtain ⟨h1, h2, h3, h4, h5⟩ := formed_parts h
 intro x hx
 simp only [modE, List.mem_append] at hx
 rcases hx with hx | hx | hx | hx | hx
 ·simp at hx; omega
 ·exact enc_byte (by omega) (by omega) x hx
 ·exact encs_byte (fun n hn => by have := fitF_bd ms [] h4 n hn; omega) x hx
 ·exact enc_byte (by omega) (by omega) x hx
 ·exact codeE_byte h5 hw x hx
theorem unfold_any (u : Int) (w : World) (h : 0 <= u) (h' : u < 18446744073709551616) :
  Calls Tryz.prog 147 #[.int .u64 u] w fun e w' => e = .returned (.int .i64 (unfoldI u)) /\ w = w' := by
 unfold unfoldI
 by_cases h0 : u % 2 = 1
 ·go_enter Tryz.func147, Tryz.ntmps147
  go_wp2
  go_ret
  exact ⟨ret1_w (by first | omega | (simp [h0]; omega)), rfl⟩
 ·go_enter Tryz.func147, Tryz.ntmps147
  go_wp2
  go_ret
  exact ⟨ret1_w (by first | omega | (simp [h0]; omega)), rfl⟩
theorem getint_any (v : Value) (xs : List Int) (w : World) (h : Sees .u8 w v xs) :
  Calls Tryz.prog 118 #[v] w fun e w' =>
   e = .returned (.tuple #[.int .i64 (unfoldI (getL 0 0 xs).1), .int .i64 (getL 0 0 xs).2.1, .int .i64 (getL 0 0 xs).2.2]) /\ w = w' := by
 obtain ⟨n, hn, HN⟩ : ∃ n, (0 <= n /\ n < 18446744073709551616) /\ Hid ((getL 0 0 xs).1 = n) := ⟨_, (getL_bd xs h.bytes), rfl⟩
 go_enter Tryz.func118, Tryz.ntmps118
 rw [HN.out]
 go_wp2_with (first
  | (go_at_call 78; go_must (refine (get_any v xs _ h).mono ?_); rintro e w' ⟨rfl, rfl⟩; rw [HN.out])
  | (go_at_call 147; go_must (refine (unfold_any n _ hn.1 hn.2).mono ?_); rintro e w' ⟨rfl, rfl⟩))
 go_ret3
 exact ⟨rfl, rfl⟩
theorem getint_eq {v : Value} {xs : List Int} {w : World} (h : Sees .u8 w v xs) {a b c : Int} (hr : getL 0 0 xs = (a, b, c)) :
  Calls Tryz.prog 118 #[v] w fun e w' => e = .returned (.tuple #[.int .i64 (unfoldI a), .int .i64 b, .int .i64 c]) /\ w = w' := by
 have := getint_any v xs w h; rw [hr] at this; exact this
def Bytes (ys : List Int) : Prop := ∀ x ∈ ys, 0 <= x /\ x <= 255
def Forth {α : Type} (F : List Int -> Nat -> Rd α) (E : α -> List Int) (P : α -> Prop) : Prop := ∀ (ys : List Int) (p : Nat) (a : α) (rest : List Int), P a -> ys.drop p = E a ++ rest -> F ys p = .ok (a, p + (E a).length)
theorem drop_on {ys a rest : List Int} {p : Nat} (h : ys.drop p = a ++ rest) : ys.drop (p + a.length) = rest := by
 rw [<- List.drop_drop, h, List.drop_left]
theorem numR_forth (most above : Int) : Forth (fun ys p => numR ys most above p) enc (fun n => 0 <= n /\ n <= most /\ n < 18446744073709551616) := by
 intro ys p n rest ⟨h0, h1, h2⟩ hd
 simp only [numR]
 rw [hd, getL_enc h0 h2, if_neg (by simp), if_neg (by simp; omega)]
 simp
theorem num_fwd (most above : Int) (ys : List Int) (p : Nat) (n : Int) (rest : List Int) (h : 0 <= n /\ n <= most /\ n < 18446744073709551616) (hd : ys.drop p = enc n ++ rest) : numR ys most above p = .ok (n, p + (enc n).length) := numR_forth most above ys p n rest h hd
theorem sgnR_forth : Forth sgnR (fun n => enc (foldI n)) (fun n => -9223372036854775808 <= n /\ n <= 9223372036854775807) := by
 intro ys p n rest ⟨h0, h1⟩ hd
 have hb := fold_bd h0 h1
 rw [sgnR, hd, getL_enc hb.1 hb.2, if_neg (by simp)]
 simp [unfold_fold]

abbrev WfR (i : In) : Prop := i.right = true /\ i.wf
theorem instR_forth : Forth instR instE WfR := by
 intro ys p i rest ⟨hr, hw⟩ hd
 have hbd := right_bd hr
 have him := bounds_i64 hw.2.2.2.2
 have e : instE i = enc i.op ++ (enc i.d ++ (enc i.a ++ (enc i.b ++ enc (foldI i.imm)))) := by simp [instE, encs]
 rw [e] at hd ⊢
 simp only [List.append_assoc] at hd
 have h1 := num_fwd 22 12 ys p i.op _ ⟨hbd.1.1, hbd.1.2, by omega⟩ hd
 have d1 := drop_on hd
 have h2 := num_fwd 63 12 ys _ i.d _ ⟨hbd.2.1.1, hbd.2.1.2, by omega⟩ d1
 have d2 := drop_on d1
 have h3 := num_fwd 63 12 ys _ i.a _ ⟨hbd.2.2.1.1, hbd.2.2.1.2, by omega⟩ d2
 have d3 := drop_on d2
 have h4 := num_fwd 63 12 ys _ i.b _ ⟨hbd.2.2.2.1, hbd.2.2.2.2, by omega⟩ d3
 have d4 := drop_on d3
 have h5 := sgnR_forth ys _ i.imm _ him d4
 unfold instR
 rw [h1]
 simp only [Rd.then']
 rw [h2]
 simp only
 rw [h3]
 simp only
 rw [h4]
 simp only
 rw [h5]
 simp only
 rw [if_pos (show rightB i.op i.d i.a i.b i.imm = true from hr)]
 simp only [List.length_append, Nat.add_assoc]

theorem mapsR_forth : ∀ (ms acc : List Int), fitF acc ms = true -> ∀ (ys : List Int) (p : Nat) (rest : List Int), ys.drop p = encs ms ++ rest -> mapsR ys ms.length acc p = .ok (acc ++ ms, p + (encs ms).length)
 | [], acc, _, ys, p, rest, _ => by simp [mapsR, encs]
 | n :: ms, acc, hf, ys, p, rest, hd => by
  rw [fitF] at hf
  simp only [Bool.and_eq_true, decide_eq_true_eq, Bool.not_eq_true', decide_eq_false_iff_not] at hf
  rw [encs_cons, List.append_assoc] at hd
  have h1 := num_fwd 3 12 ys p n _ ⟨hf.1, hf.2.1, by omega⟩ hd
  have h2 := mapsR_forth ms (acc ++ [n]) hf.2.2.2 ys _ rest (drop_on hd)
  rw [List.length_cons, mapsR, h1]
  simp only [Rd.then']
  rw [if_neg hf.2.2.1, h2, encs_cons, List.length_append, Nat.add_assoc, List.append_assoc]
  rfl
theorem mapsA_forth : Forth mapsA (fun ms => enc ms.length ++ encs ms) (fun ms => ms.length <= 4 /\ fitF [] ms = true) := by
 intro ys p ms rest ⟨hl, hf⟩ hd
 rw [List.append_assoc] at hd
 have h1 := num_fwd 4 11 ys p ms.length _ ⟨by omega, by omega, by omega⟩ hd
 have h2 := mapsR_forth ms [] hf ys _ rest (drop_on hd)
 rw [mapsA, h1]
 simp only [Rd.then', Int.toNat_natCast]
 rw [h2, List.length_append, Nat.add_assoc]
 rfl

theorem codeR_forth : ∀ (is acc : List In), (∀ i ∈ is, WfR i) -> ∀ (ys : List Int) (p : Nat) (rest : List Int), ys.drop p = codeE is ++ rest -> codeR ys is.length acc p = .ok (acc ++ is, p + (codeE is).length)
 | [], acc, _, ys, p, rest, _ => by simp [codeR, codeE]
 | i :: is, acc, hf, ys, p, rest, hd => by
  have e : codeE (i :: is) = instE i ++ codeE is := rfl
  rw [e, List.append_assoc] at hd
  have h1 := instR_forth ys p i _ (hf i (by simp)) hd
  have h2 := codeR_forth is (acc ++ [i]) (fun j hj => hf j (by simp [hj])) ys _ rest (drop_on hd)
  rw [List.length_cons, codeR, h1]
  simp only [Rd.then']
  rw [h2, e, List.length_append, Nat.add_assoc, List.append_assoc]
  rfl
abbrev CodeP (is : List In) : Prop := 1 <= is.length /\ is.length <= 64 /\ ∀ i ∈ is, WfR i
theorem codeA_forth : Forth codeA (fun is => enc is.length ++ codeE is) CodeP := by
 intro ys p is rest ⟨h1, hl, hf⟩ hd
 rw [List.append_assoc] at hd
 have h1 := num_fwd 64 11 ys p is.length _ ⟨by omega, by omega, by omega⟩ hd
 have h2 := codeR_forth is [] hf ys _ rest (drop_on hd)
 rw [codeA, h1]
 simp only [Rd.then', Int.toNat_natCast]
 rw [if_neg (by omega), h2, List.length_append, Nat.add_assoc]
 rfl

def bodyR (ys : List Int) (p : Nat) : Rd (List Int × List In) := (mapsA ys p).then' fun ms p => (codeA ys p).then' fun is p => .ok ((ms, is), p)
abbrev bodyE (m : List Int × List In) : List Int := (enc m.1.length ++ encs m.1) ++ (enc m.2.length ++ codeE m.2)
abbrev BodyP (m : List Int × List In) : Prop := formedB m.1 m.2 = true /\ ∀ i ∈ m.2, i.wf
theorem bodyR_forth : Forth bodyR bodyE BodyP := by
 rintro ys p ⟨ms, is⟩ rest ⟨hf, hw⟩ hd
 obtain ⟨f1, f2, f3, f4, f5⟩ := formed_parts hf
 rw [List.append_assoc] at hd
 have h1 := mapsA_forth ys p ms _ ⟨f1, f4⟩ hd
 have h2 := codeA_forth ys _ is _ ⟨f2, f3, fun i hi => ⟨f5 i hi, hw i hi⟩⟩ (drop_on hd)
 rw [bodyR, h1]
 simp only [Rd.then']
 rw [h2]
 simp only [List.length_append, Nat.add_assoc]
theorem modE_body (ms : List Int) (is : List In) : modE ms is = 84 :: 80 :: 1 :: bodyE (ms, is) := by simp [modE, bodyE]
theorem decR_body (ys : List Int) : decR ys = (headR ys 3 0).then' fun _ p => (bodyR ys p).then' fun m p => (endR ys p).then' fun _ p => .ok (m, p) := by
 unfold decR bodyR
 cases headR ys 3 0 with
 | error x => rfl
 | ok y =>
  obtain ⟨u, p⟩ := y
  simp only [Rd.then']
  cases mapsA ys p with
  | error x => rfl
  | ok z =>
   obtain ⟨ms, p2⟩ := z
   simp only
   cases codeA ys p2 with
   | error x => rfl
   | ok t => rfl
theorem head_ok (r : List Int) : headR (84 :: 80 :: 1 :: r) 3 0 = .ok ((), 3) := by simp [headR, headB_w]
theorem end_here {ys : List Int} {p : Nat} (h : p = ys.length) : endR ys p = .ok ((), p) := by rw [endR, if_neg (by omega)]
theorem dec_more {ms : List Int} {is : List In} (hf : formedB ms is = true) (hw : ∀ i ∈ is, i.wf) (more : List Int) : decR (modE ms is ++ more) = if more = [] then .ok ((ms, is), (modE ms is).length) else .error (((modE ms is).length : Int), 13) := by
 have hd : (modE ms is ++ more).drop 3 = bodyE (ms, is) ++ more := by rw [modE_body]; rfl
 have hh : headR (modE ms is ++ more) 3 0 = .ok ((), 3) := by rw [modE_body]; exact head_ok _
 have hb := bodyR_forth (modE ms is ++ more) 3 (ms, is) more ⟨hf, hw⟩ hd
 have hl : 3 + (bodyE (ms, is)).length = (modE ms is).length := by rw [modE_body]; simp; omega
 rw [hl] at hb
 rw [decR_body, hh]
 simp only [Rd.then']
 rw [hb]
 simp only
 by_cases hm : more = []
 ·subst hm
  rw [if_pos rfl, end_here (by simp)]
 ·rw [if_neg hm, endR, if_pos (by
   have : 0 < more.length := List.length_pos_iff.2 hm
   rw [List.length_append]; omega)]
theorem dec_there {ms : List Int} {is : List In} (hf : formedB ms is = true) (hw : ∀ i ∈ is, i.wf) : decL (modE ms is) = ((ms, is), 0, 0) := by
 have h := dec_more hf hw []
 rw [List.append_nil, if_pos rfl] at h
 unfold decL; rw [h]
end Go.Proofs.YtiheafdphgllkaaGreatDoor
