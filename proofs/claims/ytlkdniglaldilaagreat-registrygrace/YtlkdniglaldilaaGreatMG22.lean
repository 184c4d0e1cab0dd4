/-
  KBPlain
  KBBack
  KBGet
  KBPut
  KBFold
  KW4Plain
  KBUnfold
-/
import Derived.Test.YtlkdniglaldilaaGreatMG3
import Derived.Test.YtlkdniglaldilaaGreatMG16
import Derived.WalkKit
import Derived.Laws.BitsAllLaws
import Derived.Test.YtlkdniglaldilaaGreatRows
import Derived.WalkSpells
import Derived.OpenShut
import Derived.Maps.AppendAt
namespace Go.Proofs.YtlkdniglaldilaaGreat
open Go.RowKit
set_option linter.unusedVariables false
def encF : Nat -> Int -> List Int
 | 0, n => [n]
 | f + 1, n => if n < 128 then [n] else (n % 128 + 128) :: encF f (n / 128)
def enc (n : Int) : List Int := encF 9 n
def getL : Nat -> Int -> List Int -> Int × Int × Int
 | _, _, [] => (0, 0, 10)
 | k, X, c :: r =>
  if k = 9 /\ 1 < c then (0, 0, 12)
  else if 0 < k /\ c = 0 then (0, 0, 12)
  else if c < 128 then (X + c % 128 * 2 ^ (7 * k), k + 1, 0)
  else getL (k + 1) (X + c % 128 * 2 ^ (7 * k)) r

theorem or_add (X c : Int) (k : Nat) (hX0 : 0 <= X) (hX : X < 2 ^ (7 * k)) (hc0 : 0 <= c) (hc : c < 128) (hk : k <= 9) (h9 : k = 9 -> c <= 1) :
  bits .or .u64 X (c * 2 ^ (7 * k)) = X + c * 2 ^ (7 * k) := by
 have hp : (0 : Int) < 2 ^ (7 * k) := Int.pow_pos (by decide)
 have hn : 0 <= c * 2 ^ (7 * k) := Int.mul_nonneg hc0 (by omega)
 have hcap : c * 2 ^ (7 * k) < 18446744073709551616 /\ (2 : Int) ^ (7 * k) <= 9223372036854775808 := by
  obtain h | h | h | h | h | h | h | h | h | h : k = 0 ∨ k = 1 ∨ k = 2 ∨ k = 3 ∨ k = 4 ∨ k = 5 ∨ k = 6 ∨ k = 7 ∨ k = 8 ∨ k = 9 := by omega
  all_goals (subst h; simp at *; omega)
 rw [u64_or X (c * 2 ^ (7 * k)) hX0 (by omega) hn hcap.1]
 obtain ⟨x, rfl⟩ := Int.eq_ofNat_of_zero_le hX0
 obtain ⟨d, rfl⟩ := Int.eq_ofNat_of_zero_le hc0
 have e1 : ((d : Int) * 2 ^ (7 * k)).toNat = d * 2 ^ (7 * k) := by
  have : ((d : Int) * 2 ^ (7 * k)) = ((d * 2 ^ (7 * k) : Nat) : Int) := by simp
  rw [this]; exact Int.toNat_natCast _
 have hx : x < 2 ^ (7 * k) := by exact_mod_cast hX
 rw [e1, Int.toNat_natCast, Nat.or_comm, nat_join (7 * k) _ _ (by simp) hx]
 simp; omega
theorem or_add' (X c : Int) (k : Nat) (hX0 : 0 <= X) (hX : X < 2 ^ (7 * k)) (hc0 : 0 <= c) (hc : c <= 255) (hk : k <= 9) (h9 : k = 9 -> c <= 1) :
  bits .or .u64 X (IntKind.u64.wrap (c % 128 * 2 ^ (7 * k))) = X + c % 128 * 2 ^ (7 * k) := by
 have hcap : 0 <= c % 128 * 2 ^ (7 * k) /\ c % 128 * 2 ^ (7 * k) < 18446744073709551616 := by
  obtain h | h | h | h | h | h | h | h | h | h : k = 0 ∨ k = 1 ∨ k = 2 ∨ k = 3 ∨ k = 4 ∨ k = 5 ∨ k = 6 ∨ k = 7 ∨ k = 8 ∨ k = 9 := by omega
  all_goals (subst h; simp at *; omega)
 rw [IntWalk.u64_in _ ⟨hcap.1, by omega⟩]
 exact or_add X (c % 128) k hX0 hX (by omega) (by omega) hk (by omega)
theorem or9 (X c : Int) (hX0 : 0 <= X) (hX : X < 2 ^ (7 * 9)) (hc0 : 0 <= c) (hc : c <= 1) :
  bits .or .u64 X (c % 128 * 9223372036854775808) = X + c % 128 * 2 ^ (7 * 9) := by
 have h := or_add X (c % 128) 9 hX0 hX (by omega) (by omega) (by omega) (by omega)
 simpa using h
theorem or_lt (X c : Int) (k : Nat) (hX0 : 0 <= X) (hX : X < 2 ^ (7 * k)) (hc0 : 0 <= c) (hk : k <= 8) :
  0 <= X + c % 128 * 2 ^ (7 * k) /\ X + c % 128 * 2 ^ (7 * k) < 2 ^ (7 * (k + 1)) := by
 obtain h | h | h | h | h | h | h | h | h : k = 0 ∨ k = 1 ∨ k = 2 ∨ k = 3 ∨ k = 4 ∨ k = 5 ∨ k = 6 ∨ k = 7 ∨ k = 8 := by omega
 all_goals (subst h; simp at *; omega)

theorem getL_form {k : Nat} {X c : Int} {r : List Int} (h : (k = 9 /\ 1 < c) ∨ (0 < k /\ c = 0)) : getL k X (c :: r) = (0, 0, 12) := by
 unfold getL
 rcases h with h | h
 ·rw [if_pos h]
 ·rw [if_pos h]; split <;> rfl
theorem getL_done {k : Nat} {X c : Int} {r : List Int} (h1 : ¬ (k = 9 /\ 1 < c)) (h2 : ¬ (0 < k /\ c = 0)) (h : c < 128) : getL k X (c :: r) = (X + c % 128 * 2 ^ (7 * k), (k : Int) + 1, 0) := by
 rw [getL, if_neg h1, if_neg h2, if_pos h]
theorem getL_more {k : Nat} {X c : Int} {r : List Int} (h1 : ¬ (k = 9 /\ 1 < c)) (h2 : ¬ (0 < k /\ c = 0)) (h : 128 <= c) : getL k X (c :: r) = getL (k + 1) (X + c % 128 * 2 ^ (7 * k)) r := by
 rw [getL, if_neg h1, if_neg h2, if_neg (by omega)]

theorem getL_tells : ∀ (xs : List Int) (k : Nat) (X : Int), k <= 9 -> 0 <= X -> X < 2 ^ (7 * k) -> (∀ x ∈ xs, 0 <= x /\ x <= 255) ->
  (getL k X xs = (0, 0, 10) ∨ getL k X xs = (0, 0, 12)) ∨ ∃ (n : Int) (j : Nat), getL k X xs = (n, (j : Int), 0) /\ 0 <= n /\ n < 18446744073709551616 /\ k + 1 <= j /\ j <= k + xs.length /\ j <= 10
 | [], k, X, _, _, _, _ => .inl (.inl rfl)
 | c :: r, k, X, hk, h0, h1, hb => by
  have hc := hb c (by simp)
  by_cases hf : (k = 9 /\ 1 < c) ∨ (0 < k /\ c = 0)
  ·exact .inl (.inr (getL_form hf))
  ·have g1 : ¬ (k = 9 /\ 1 < c) := fun h => hf (.inl h)
   have g2 : ¬ (0 < k /\ c = 0) := fun h => hf (.inr h)
   by_cases h3 : c < 128
   ·refine .inr ⟨X + c % 128 * 2 ^ (7 * k), k + 1, by rw [getL_done g1 g2 h3]; simp, ?_, ?_, by omega, by simp, by omega⟩
    all_goals
     obtain h | h | h | h | h | h | h | h | h | h : k = 0 ∨ k = 1 ∨ k = 2 ∨ k = 3 ∨ k = 4 ∨ k = 5 ∨ k = 6 ∨ k = 7 ∨ k = 8 ∨ k = 9 := by omega
     all_goals (subst h; simp at *; omega)
   ·have hl := or_lt X c k h0 h1 hc.1 (by omega)
    rw [getL_more g1 g2 (by omega)]
    rcases getL_tells r (k + 1) _ (by omega) hl.1 hl.2 (fun x hx => hb x (by simp [hx])) with h | ⟨n, j, h, a1, a2, a3, a4, a5⟩
    ·exact .inl h
    ·exact .inr ⟨n, j, h, a1, a2, by omega, by simp; omega, a5⟩
theorem getL_bd (xs : List Int) (hb : ∀ x ∈ xs, 0 <= x /\ x <= 255) : 0 <= (getL 0 0 xs).1 /\ (getL 0 0 xs).1 < 18446744073709551616 := by
 rcases getL_tells xs 0 0 (by omega) (by omega) (by simp) hb with (h | h) | ⟨n, j, h, a1, a2, _⟩ <;> rw [h] <;> simp <;> omega

theorem drop_at_w (xs : List Int) (k : Nat) (h : k < xs.length) : xs.drop k = xs.getD k 0 :: xs.drop (k + 1) := by
 rw [List.drop_eq_getElem_cons h]; simp [List.getD, h]
theorem getD_mem_w (xs : List Int) (k : Nat) (h : k < xs.length) : xs.getD k 0 ∈ xs := by
 simp [List.getD, h]

def val : List Int -> Int
 | [] => 0
 | c :: r => c % 128 + 128 * val r
theorem ret3 {k1 k2 k3 : IntKind} {a a' b b' c c' : Int} (h1 : a = a') (h2 : b = b') (h3 : c = c') : Ending.returned (.tuple #[.int k1 a, .int k2 b, .int k3 c]) = .returned (.tuple #[.int k1 a', .int k2 b', .int k3 c']) := by rw [h1, h2, h3]
theorem ret1_w {k : IntKind} {a b : Int} (h : a = b) : Ending.returned (.int k a) = .returned (.int k b) := by rw [h]
theorem Sees.bytes {w : World} {v : Value} {xs : List Int} (h : Sees .u8 w v xs) : ∀ x ∈ xs, 0 <= x /\ x <= 255 := by
 obtain ⟨a, cap, rfl, hl, hm, hn0, hw, hs⟩ := h
 exact fun x hx => bounds_u8 (hw x hx)

set_option maxHeartbeats 400000 in
theorem get_some (b off cap : Nat) (xs : List Int) (w : World) (hmax : xs.length <= 9223372036854775807)
    (hc : ∀ i, i < xs.length -> w.cell? ⟨b, off + i, none⟩ = some (.int .u8 (xs.getD i 0)))
    (hr : ∀ x ∈ xs, 0 <= x /\ x <= 255) :
    Calls Tryz.prog 91 #[.slice (some ⟨b, off, none⟩) xs.length cap] w fun e w' =>
      e = .returned (.tuple #[.int .u64 (getL 0 0 xs).1, .int .i64 (getL 0 0 xs).2.1, .int .i64 (getL 0 0 xs).2.2]) /\ w = w' := by
  go_enter Tryz.func91, Tryz.ntmps91
  go_wp2
  go_loop [5, 10] (fun x i => ∃ (k : Nat) (X : Int), k <= xs.length /\ k <= 9 /\ i = .int .i64 k /\ x = .int .u64 X /\ 0 <= X /\ X < 2 ^ (7 * k) /\ getL 0 0 xs = getL k X (xs.drop k)) (fun _ i => xs.length - (intOf i).toNat)
  case atStart => exact ⟨0, 0, by omega, by omega, rfl, rfl, by omega, by simp, rfl⟩
  case round =>
    obtain ⟨k, X, hk, hk9, rfl, rfl, hX0, hX, hd⟩ := hrel
    have HX : Hid (X < 2 ^ (7 * k)) := hX
    clear hX
    by_cases hlt : k < xs.length
    · obtain ⟨c, hcell, hc0, hc1, HD⟩ : ∃ c, w.cell? ⟨b, off + k, none⟩ = some (.int .u8 c) /\ 0 <= c /\ c <= 255 /\ Hid (getL 0 0 xs = getL k X (c :: xs.drop (k + 1))) :=
        ⟨_, hc k hlt, (hr _ (getD_mem_w xs k hlt)).1, (hr _ (getD_mem_w xs k hlt)).2, by rw [hd, drop_at_w xs k hlt]; rfl⟩
      clear hd hc hr
      by_cases hf : (k = 9 /\ 1 < c) ∨ (0 < k /\ c = 0)
      · have HE : Hid (getL 0 0 xs = (0, 0, 12)) := by rw [HD.out, getL_form hf]; rfl
        clear HD
        go_wp2
        all_goals first
          | (go_ret3; exact ⟨ret3 (by rw [HE.out]) (by rw [HE.out]) (by rw [HE.out]), rfl⟩)
          | (exfalso; have h : (c == 0) = false := by assumption
             have := WalkArith.int_ne h; omega)
          | (exfalso; omega)
      · have h1 : ¬ (k = 9 /\ 1 < c) := fun h => hf (.inl h)
        have h2 : ¬ (0 < k /\ c = 0) := fun h => hf (.inr h)
        have HO : Hid (bits .or .u64 X (IntKind.u64.wrap (c % 128 * 2 ^ (7 * k))) = X + c % 128 * 2 ^ (7 * k)) := or_add' X c k hX0 HX.out hc0 hc1 hk9 (by omega)
        clear hf
        by_cases h3 : c < 128
        · have HE : Hid (getL 0 0 xs = (X + c % 128 * 2 ^ (7 * k), (k : Int) + 1, 0)) := by rw [HD.out, getL_done h1 h2 h3]; rfl
          clear HD
          go_wp2
          all_goals first
            | (go_ret3; exact ⟨ret3 (by rw [HE.out]; exact HO.out) (by rw [HE.out]) (by rw [HE.out]), rfl⟩)
            | (go_ret3; obtain rfl : k = 9 := by omega
               exact ⟨ret3 (by rw [HE.out]; exact or9 X c hX0 HX.out hc0 (by omega)) (by rw [HE.out]; rfl) (by rw [HE.out]), rfl⟩)
            | (exfalso; have h : (c == 0) = true := by assumption
               have := WalkArith.int_eq h; omega)
            | (exfalso; omega)
        · have HE : Hid (getL 0 0 xs = getL (k + 1) (X + c % 128 * 2 ^ (7 * k)) (xs.drop (k + 1))) := by rw [HD.out, getL_more h1 h2 (by omega)]; rfl
          have HL : Hid (0 <= X + c % 128 * 2 ^ (7 * k) /\ X + c % 128 * 2 ^ (7 * k) < 2 ^ (7 * (k + 1))) := or_lt X c k hX0 HX.out hc0 (by omega)
          clear HD
          go_wp2
          all_goals first
            | (go_round
               case rel => exact ⟨k + 1, X + c % 128 * 2 ^ (7 * k), by omega, by omega, by go_num, by rw [HO.out], HL.out.1, HL.out.2, HE.out⟩
               case measure => simp [intOf]; omega)
            | (exfalso; have h : (c == 0) = true := by assumption
               have := WalkArith.int_eq h; omega)
            | (exfalso; omega)
    · have HD : Hid (getL 0 0 xs = getL k X (xs.drop k)) := hd
      clear hd hc hr
      go_wp2
      go_ret3
      exact ⟨by rw [HD.out, List.drop_eq_nil_of_le (by omega)]; rfl, rfl⟩

theorem get_any (v : Value) (xs : List Int) (w : World) (h : Sees .u8 w v xs) :
  Calls Tryz.prog 91 #[v] w fun e w' =>
   e = .returned (.tuple #[.int .u64 (getL 0 0 xs).1, .int .i64 (getL 0 0 xs).2.1, .int .i64 (getL 0 0 xs).2.2]) /\ w = w' := by
 obtain ⟨a, cap, rfl, hl, hm, hn0, hw, hs⟩ := h
 unfold maxLen at hm
 by_cases hne : xs = []
 ·subst hne
  go_enter Tryz.func91, Tryz.ntmps91
  go_wp2
  refine wp_loop_rounds 1 ?_
  rw [rounds_succ]
  go_wp2
  go_ret3
  exact ⟨rfl, rfl⟩
 ·obtain ⟨b, off, rfl, _, hc⟩ := hs hne
  exact get_some b off cap xs w (by omega) hc (fun x hx => bounds_u8 (hw x hx))
theorem get_eq {v : Value} {xs : List Int} {w : World} (h : Sees .u8 w v xs) {a b c : Int} (hr : getL 0 0 xs = (a, b, c)) :
  Calls Tryz.prog 91 #[v] w fun e w' => e = .returned (.tuple #[.int .u64 a, .int .i64 b, .int .i64 c]) /\ w = w' := by
 have := get_any v xs w h; rw [hr] at this; exact this
theorem Tryz.info5 : (Tryz.prog.info? 5).map (fun i => (i.zero, i.size, i.bytes)) = some (some (.int .u8 0), 1, 1) := by kernel_rfl
theorem one_cell_w (k : IntKind) (x : Int) : ∀ u ∈ [Value.int k x], u.oneCell' = true := by intro u hu; simp at hu; subst hu; rfl

def unfoldI (u : Int) : Int := if u % 2 = 1 then -(u / 2) - 1 else u / 2
theorem own_base_w {w : World} {base base' : Nat} {e : TypeId} {size : Nat} {v : Value} {n : Nat} {xs : List Value} (h : w.ownsRow base' e size v n xs) (hb : base <= base') : w.ownsRow base e size v n xs := by
 rcases h with ⟨h1, h2 | ⟨g, cap, cur, hv, hg, r⟩⟩
 ·exact ⟨h1, .inl h2⟩
 ·exact ⟨h1, .inr ⟨g, cap, cur, hv, by omega, r⟩⟩
abbrev Rd (α : Type) := Except (Int × Int) (α × Nat)
abbrev St_w := Except (Int × Int) Nat
def Rd.then' {α β : Type} (r : Rd α) (g : α -> Nat -> Rd β) : Rd β := match r with | .ok (a, p) => g a p | .error x => .error x
def Rd.Tells {α : Type} (r : Rd α) (s : St_w) (a : α) : Prop := match s with | .ok p => r = .ok (a, p) | .error x => r = .error x
def After {α : Type} (s : St_w) (f : Nat -> Rd α) (s' : St_w) (a : α) : Prop := match s with | .ok p => (f p).Tells s' a | .error x => s' = .error x
theorem After.then' {α β : Type} {s s1 s2 : St_w} {f : Nat -> Rd α} {g : α -> Nat -> Rd β} {a : α} {b : β} (h : After s f s1 a) (k : After s1 (g a) s2 b) : After s (fun p => (f p).then' g) s2 b := by
 cases s with
 | error x =>
  have h : s1 = .error x := h
  subst h
  exact k
 | ok p =>
  cases s1 with
  | error x =>
   have h : f p = .error x := h
   have k : s2 = .error x := k
   subst k
   show (f p).then' g = .error x
   rw [h]; rfl
  | ok p1 =>
   have h : f p = .ok (a, p1) := h
   show Rd.Tells ((f p).then' g) s2 b
   rw [h]; exact k
theorem After.cast {α : Type} {s s' : St_w} {f g : Nat -> Rd α} {a : α} (h : After s f s' a) (e : ∀ p, s = .ok p -> f p = g p) : After s g s' a := by
 cases s with
 | error x => exact h
 | ok p => show (g p).Tells s' a; rw [<- e p rfl]; exact h

def numR (xs : List Int) (most above : Int) (p : Nat) : Rd Int :=
 if (getL 0 0 (xs.drop p)).2.2 ≠ 0 then .error ((p : Int), (getL 0 0 (xs.drop p)).2.2)
 else if most < (getL 0 0 (xs.drop p)).1 then .error ((p : Int), above) else .ok ((getL 0 0 (xs.drop p)).1, p + (getL 0 0 (xs.drop p)).2.1.toNat)
def sgnR (xs : List Int) (p : Nat) : Rd Int :=
 if (getL 0 0 (xs.drop p)).2.2 ≠ 0 then .error ((p : Int), (getL 0 0 (xs.drop p)).2.2) else .ok (unfoldI (getL 0 0 (xs.drop p)).1, p + (getL 0 0 (xs.drop p)).2.1.toNat)
def instR (xs : List Int) (p0 : Nat) : Rd In :=
 (numR xs 22 12 p0).then' fun op p => (numR xs 63 12 p).then' fun d p => (numR xs 63 12 p).then' fun a p => (numR xs 63 12 p).then' fun b p => (sgnR xs p).then' fun imm p =>
  if rightB op d a b imm = true then .ok (⟨op, d, a, b, imm⟩, p) else .error ((p0 : Int), 12)
def mapsR (xs : List Int) : Nat -> List Int -> Nat -> Rd (List Int)
 | 0, acc, p => .ok (acc, p)
 | k + 1, acc, p => (numR xs 3 12 p).then' fun n p' => if n ∈ acc then .error ((p : Int), 12) else mapsR xs k (acc ++ [n]) p'
def codeR (xs : List Int) : Nat -> List In -> Nat -> Rd (List In)
 | 0, acc, p => .ok (acc, p)
 | k + 1, acc, p => (instR xs p).then' fun i p' => codeR xs k (acc ++ [i]) p'
def headB_w (k : Nat) : Int := if k = 0 then 84 else if k = 1 then 80 else 1
def headR (xs : List Int) : Nat -> Nat -> Rd Unit
 | 0, p => .ok ((), p)
 | k + 1, p => if xs.length <= p then .error ((p : Int), 10) else if xs.getD p 0 ≠ headB_w p then .error ((p : Int), 12) else headR xs k (p + 1)
def mapsA (xs : List Int) (p : Nat) : Rd (List Int) := (numR xs 4 11 p).then' fun n p' => mapsR xs n.toNat [] p'
def codeA (xs : List Int) (p : Nat) : Rd (List In) := (numR xs 64 11 p).then' fun n p' => if n = 0 then .error ((p : Int), 12) else codeR xs n.toNat [] p'
def endR (xs : List Int) (p : Nat) : Rd Unit := if p < xs.length then .error ((p : Int), 13) else .ok ((), p)
def decR (xs : List Int) : Rd (List Int × List In) :=
 (headR xs 3 0).then' fun _ p => (mapsA xs p).then' fun ms p => (codeA xs p).then' fun is p => (endR xs p).then' fun _ p => .ok ((ms, is), p)
def decL (xs : List Int) : (List Int × List In) × Int × Int := match decR xs with | .ok (m, _) => (m, 0, 0) | .error (q, e) => (([], []), q, e)

theorem drop_byte {xs : List Int} (hb : ∀ x ∈ xs, 0 <= x /\ x <= 255) (p : Nat) : ∀ x ∈ xs.drop p, 0 <= x /\ x <= 255 := fun x hx => hb x (List.mem_of_mem_drop hx)

theorem unfold_any (u : Int) (w : World) (h : 0 <= u) (h' : u < 18446744073709551616) :
  Calls Tryz.prog 131 #[.int .u64 u] w fun e w' => e = .returned (.int .i64 (unfoldI u)) /\ w = w' := by
 unfold unfoldI
 by_cases h0 : u % 2 = 1
 ·go_enter Tryz.func131, Tryz.ntmps131
  go_wp2
  go_ret
  exact ⟨ret1_w (by first | omega | (simp [h0]; omega)), rfl⟩
 ·go_enter Tryz.func131, Tryz.ntmps131
  go_wp2
  go_ret
  exact ⟨ret1_w (by first | omega | (simp [h0]; omega)), rfl⟩
theorem getint_any (v : Value) (xs : List Int) (w : World) (h : Sees .u8 w v xs) :
  Calls Tryz.prog 113 #[v] w fun e w' =>
   e = .returned (.tuple #[.int .i64 (unfoldI (getL 0 0 xs).1), .int .i64 (getL 0 0 xs).2.1, .int .i64 (getL 0 0 xs).2.2]) /\ w = w' := by
 obtain ⟨n, hn, HN⟩ : ∃ n, (0 <= n /\ n < 18446744073709551616) /\ Hid ((getL 0 0 xs).1 = n) := ⟨_, (getL_bd xs h.bytes), rfl⟩
 go_enter Tryz.func113, Tryz.ntmps113
 rw [HN.out]
 go_wp2_with (first
  | (go_at_call 91; go_must (refine (get_any v xs _ h).mono ?_); rintro e w' ⟨rfl, rfl⟩; rw [HN.out])
  | (go_at_call 131; go_must (refine (unfold_any n _ hn.1 hn.2).mono ?_); rintro e w' ⟨rfl, rfl⟩))
 go_ret3
 exact ⟨rfl, rfl⟩
theorem getint_eq {v : Value} {xs : List Int} {w : World} (h : Sees .u8 w v xs) {a b c : Int} (hr : getL 0 0 xs = (a, b, c)) :
  Calls Tryz.prog 113 #[v] w fun e w' => e = .returned (.tuple #[.int .i64 (unfoldI a), .int .i64 b, .int .i64 c]) /\ w = w' := by
 have := getint_any v xs w h; rw [hr] at this; exact this
end Go.Proofs.YtlkdniglaldilaaGreat
