/-
  S6Slices
  S6Box
  S6Ref
  S6RRefB
  S6Inside
-/
import Derived.Test.YtkcofelpndlplaaGreatMT14
import Derived.Test.YtkcofelpndlplaaGreatMT2
import Derived.Deep.MidRow
namespace Go.Proofs.YtkcofelpndlplaaGreat
open Go.ChangeShapes Go.WideShapes Go.ChangeAt Go.RowKit
set_option linter.unusedVariables false
set_option maxRecDepth 100000
open Go.RowKit
set_option maxRecDepth 20000
abbrev Sp : Type := Int × Int
abbrev spC (p : Sp) : List Value := [.int .u64 p.1, .int .u64 p.2]
def wfS (p : Sp) : Prop := W64 p.1 /\ W64 p.2
def AtS (w : World) (b off : Nat) (p : Sp) : Prop := w.cell? ⟨b, off, none⟩ = some (.int .u64 p.1) /\ w.cell? ⟨b, off + 1, none⟩ = some (.int .u64 p.2)
theorem AtS.below {w w' : World} {b off B : Nat} {p : Sp} (h : AtS w b off p) (hb : Below B w w') (hB : b < B) : AtS w' b off p := by
 unfold AtS
 rw [hb.cell (p := ⟨b, off, none⟩) hB, hb.cell (p := ⟨b, off + 1, none⟩) hB]
 exact h
def SeesS (w : World) (v : Value) (xs : List Sp) : Prop :=
 ∃ a cap, v = .slice a xs.length cap /\ xs.length <= cap /\ cap <= maxLen /\ (a = none -> cap = 0) /\
  (xs ≠ [] -> ∃ b off, a = some ⟨b, off, none⟩ /\ b < w.heap.size /\ ∀ k, k < xs.length -> AtS w b (off + k * 2) (xs.getD k (0, 0)))
theorem SeesS.below {w w' : World} {v : Value} {xs : List Sp} (h : SeesS w v xs) (hb : Below w.heap.size w w') : SeesS w' v xs := by
 obtain ⟨a, cap, rfl, h1, h2, h3, h4⟩ := h
 refine ⟨a, cap, rfl, h1, h2, h3, fun hne => ?_⟩
 obtain ⟨b, off, rfl, hlt, hat⟩ := h4 hne
 exact ⟨b, off, rfl, Nat.lt_of_lt_of_le hlt hb.size, fun k hk => (hat k hk).below hb hlt⟩
def flatS (xs : List Sp) : List Value := xs.flatMap spC
theorem flatS_app (l m : List Sp) : flatS l ++ flatS m = flatS (l ++ m) := by simp [flatS]
theorem flatS_len (xs : List Sp) : (flatS xs).length = xs.length * 2 := by
 induction xs with
 | nil => rfl
 | cons x xs ih =>
  have e : flatS (x :: xs) = spC x ++ flatS xs := rfl
  rw [e, List.length_append, ih, List.length_cons]
  simp; omega
theorem flatS_at : ∀ (xs : List Sp) (k j : Nat), k < xs.length -> j < 2 -> (flatS xs)[k * 2 + j]? = (spC (xs.getD k (0, 0)))[j]?
 | [], k, j, hk, _ => by simp at hk
 | x :: xs, 0, j, _, hj => by
  have e : flatS (x :: xs) = spC x ++ flatS xs := rfl
  rw [e, List.getElem?_append_left (by simp [spC]; omega)]
  simp
 | x :: xs, k + 1, j, hk, hj => by
  have e : flatS (x :: xs) = spC x ++ flatS xs := rfl
  have hl : (spC x).length = 2 := rfl
  rw [e, List.getElem?_append_right (by rw [hl]; omega), hl, show (k + 1) * 2 + j - 2 = k * 2 + j by omega, flatS_at xs k j (by simpa using hk) hj]
  simp [List.getD]
theorem cells_atS {w : World} {b off : Nat} {p : Sp} (h : ∀ j, j < 2 -> w.cell? ⟨b, off + j, none⟩ = (spC p)[j]?) : AtS w b off p := ⟨h 0 (by omega), h 1 (by omega)⟩
theorem flatS_one (xs : List Sp) : ∀ u ∈ flatS xs, u.oneCell' = true := by
 intro u hu
 simp only [flatS, List.mem_flatMap] at hu
 obtain ⟨i, _, hi⟩ := hu
 simp only [spC, List.mem_cons, List.not_mem_nil, or_false] at hi
 rcases hi with rfl | rfl <;> rfl
theorem own_seesS {w : World} {base : Nat} {e : TypeId} {v : Value} {xs : List Sp} (h : w.ownsRow base e 2 v xs.length (flatS xs)) : SeesS w v xs := by
 have h0 := h
 rcases h with ⟨h1, ⟨rfl, h2⟩ | ⟨g, cap, cur, rfl, hb, hh, h3, h4, h5, h6⟩⟩
 ·have : xs = [] := List.eq_nil_of_length_eq_zero h2
  subst this
  exact ⟨none, 0, rfl, by simp, by simp [maxLen], fun _ => rfl, fun h => absurd rfl h⟩
 ·refine ⟨_, cap, rfl, h3, h4, fun h => by simp at h, fun hne => ⟨g, 0, rfl, (Array.getElem?_eq_some_iff.1 hh).1, fun k hk => cells_atS fun j hj => ?_⟩⟩
  rw [Nat.zero_add, h0.cellAt (k * 2 + j) (by omega)]
  exact flatS_at xs k j hk hj
theorem SeesS.lit (w : World) (t : TypeId) (xs : List Sp) (cs : Array Value) (n : Nat) (hcs : cs = (flatS xs).toArray) (hn : n = xs.length) (hm : xs.length <= 1048576) : SeesS (w.alloc (.cells cs t)) (.slice (some ⟨w.heap.size, 0, none⟩) n n) xs := by
 subst hn hcs
 refine own_seesS (base := w.heap.size) (e := t) ⟨flatS_len xs, .inr ⟨w.heap.size, xs.length, (flatS xs).toArray, rfl, Nat.le_refl _, ?_, Nat.le_refl _, by unfold maxLen; omega, ?_, ?_⟩⟩
 ·show (w.heap.push _)[w.heap.size]? = _
  simp
 ·rw [List.size_toArray, flatS_len]
 ·rw [<- flatS_len]; simp
abbrev spO (a A : Int) : Obj := .cells #[.int .u64 a, .int .u64 A] 44
theorem qAv {w w1 : World} {o : Obj} (h : Below (w.alloc o).heap.size (w.alloc o) w1) : Below w.heap.size w w1 := ((Below.refl _ _).alloc (Nat.le_refl _) o).trans (h.mono (by simp))
theorem qAb {w : World} {n : Nat} {a A : Int} (h0 : w.cell? ⟨n, 0, none⟩ = some (.int .u64 a)) (h1 : w.cell? ⟨n, 1, none⟩ = some (.int .u64 A)) : (loadVar 44 ⟨n, 0, none⟩).run Tryz.prog w = .ok (.agg #[.int .u64 a, .int .u64 A]) w := by
 refine run_loadVar_mid w n 0 44 [.int .u64 a, .int .u64 A] _ ?_ Tryz.underlying44 rfl (by kernel_rfl)
 intro j v hv
 rw [Nat.zero_add]
 have hj : j < 2 := (List.getElem?_eq_some_iff.1 hv).1
 have hc : j = 0 ∨ j = 1 := by omega
 rcases hc with rfl | rfl <;> simp at hv <;> subst hv <;> assumption
theorem rb {a b : Bool} (h : a = b) : Ending.returned (.bool a) = .returned (.bool b) := by rw [h]
def hasN (a A n : Int) : Bool := decide (a <= A) && decide (a <= n) && decide (n <= A)
def withinB (a A b B : Int) : Bool := decide (a <= A) && decide (b <= B) && hasN b B a && hasN b B A
theorem qAd (a A : Int) (w : World) : Calls Tryz.prog 90 #[.agg #[.int .u64 a, .int .u64 A]] w fun e w' => e = .returned (.bool (decide (a <= A))) /\ w.alloc (spO a A) = w' := by
 by_cases h : A < a
 ·have h' : decide (a <= A) = false := decide_eq_false (by omega)
  go_enter Tryz.func90, Tryz.ntmps90
  go_wp2
  go_ret
  exact ⟨rb (by simp [h]), rfl⟩
 ·have h' : decide (a <= A) = true := decide_eq_true (by omega)
  go_enter Tryz.func90, Tryz.ntmps90
  go_wp2
  go_ret
  exact ⟨rb (by simp), rfl⟩
theorem qAw (a A n : Int) (w : World) : Calls Tryz.prog 91 #[.agg #[.int .u64 a, .int .u64 A], .int .u64 n] w fun e w' => e = .returned (.bool (hasN a A n)) /\ (w.alloc (spO a A)).alloc (spO a A) = w' := by
 go_enter Tryz.func91, Tryz.ntmps91
 go_wp2_with (go_at_call 90; go_must (refine (qAd a A _).mono ?_); rintro e w' ⟨rfl, rfl⟩)
 all_goals go_ret
 ·exact ⟨rb (by simp [hasN, *]), rfl⟩
 ·exact ⟨rb (by simp [hasN]; omega), rfl⟩
 ·exact ⟨rb (by simp [hasN]; omega), rfl⟩
theorem rwithin_any (a A b B : Int) (w : World) : Calls Tryz.prog 69 #[.agg #[.int .u64 a, .int .u64 A], .agg #[.int .u64 b, .int .u64 B]] w fun e w' => e = .returned (.bool (withinB a A b B)) /\ Below w.heap.size w w' := by
 obtain ⟨r1, H1⟩ : ∃ r, Hid (r = decide (a <= A)) := ⟨_, rfl⟩
 obtain ⟨r2, H2⟩ : ∃ r, Hid (r = decide (b <= B)) := ⟨_, rfl⟩
 obtain ⟨r3, H3⟩ : ∃ r, Hid (r = hasN b B a) := ⟨_, rfl⟩
 obtain ⟨r4, H4⟩ : ∃ r, Hid (r = hasN b B A) := ⟨_, rfl⟩
 have HE : Hid (withinB a A b B = (r1 && r2 && r3 && r4)) := by show _ = _; rw [H1.out, H2.out, H3.out, H4.out]; rfl
 have q1 := H1
 have q2 := H2
 have q3 := H3
 have q4 := H4
 cases r1 <;> cases r2 <;> cases r3 <;> cases r4
 all_goals go_enter Tryz.func69, Tryz.ntmps69
 all_goals go_wp2_with (first
  | (go_at_call 90; have hq := q1; clear hq; go_must (refine (qAd a A _).mono ?_); rintro e w' ⟨rfl, rfl⟩; rw [<- H1.out]; clear q1)
  | (go_at_call 90; have hq := q2; clear hq; go_must (refine (qAd b B _).mono ?_); rintro e w' ⟨rfl, rfl⟩; rw [<- H2.out]; clear q2)
  | (go_at_call 91; have hq := q3; clear hq; go_must (refine (qAw b B a _).mono ?_); rintro e w' ⟨rfl, rfl⟩; rw [<- H3.out]; clear q3)
  | (go_at_call 91; have hq := q4; clear hq; go_must (refine (qAw b B A _).mono ?_); rintro e w' ⟨rfl, rfl⟩; rw [<- H4.out]; clear q4))
 all_goals go_ret
 all_goals exact ⟨rb (by rw [HE.out]; rfl), by go_grown⟩
theorem great_iff {a b : Int} (ha : 0 < a) : decide (18446744073709551615 / a < b) = decide (18446744073709551615 < a * b) := by
 apply decide_eq_decide.2
 rw [Int.ediv_lt_iff_lt_mul ha, Int.mul_comm]
theorem qAp (a b : Int) (w : World) (ha : 0 <= a /\ a <= 18446744073709551615) (hb : 0 <= b /\ b <= 18446744073709551615) :
  Calls Tryz.prog 104 #[.int .u64 a, .int .u64 b] w fun e w' => e = .returned (.bool (decide (18446744073709551615 < a * b))) /\ w = w' := by
 by_cases h : 0 < a
 ·rw [<- great_iff h]
  have hne : ¬ a = 0 := by omega
  go_enter Tryz.func104, Tryz.ntmps104
  go_wp2
  go_ret
  exact ⟨rfl, rfl⟩
 ·obtain rfl : a = 0 := by omega
  go_enter Tryz.func104, Tryz.ntmps104
  go_wp2
  go_ret
  exact ⟨rb (by simp), rfl⟩
theorem qAq (n : Int) (w : World) (hn : 0 <= n /\ n <= 18446744073709551615) :
  Calls Tryz.prog 105 #[.int .u64 n] w fun e w' => e = .returned (.int .u64 (formL n)) /\ w = w' := by
 go_enter Tryz.func105, Tryz.ntmps105
 go_wp2
 go_loop [3] (fun m => ∃ (k : Nat) (M : Int), k <= 64 /\ m = .int .u64 M /\ M = 2 ^ k - 1 /\ 0 <= M /\ M <= 18446744073709551615 /\ (0 < k -> (2 : Int) ^ (k - 1) <= n)) (fun m => 18446744073709551615 - (intOf m).toNat)
 case atStart => exact ⟨0, 0, by omega, rfl, by simp, by omega, by omega, fun h => absurd h (by omega)⟩
 case round =>
  obtain ⟨k, M, hk, rfl, hM, hM0, hM1, hlo⟩ := hrel
  by_cases hlt : M < n
  ·have hk64 : k < 64 := by
    rcases Nat.lt_or_ge k 64 with h | h
    ·exact h
    ·obtain rfl : k = 64 := by omega
     have e : (2 : Int) ^ 64 = 18446744073709551616 := by decide
     rw [e] at hM; omega
   have hs := pow_half hk64
   have HN : Hid (2 * M + 1 = 2 ^ (k + 1) - 1 /\ (0 < k + 1 -> (2 : Int) ^ (k + 1 - 1) <= n)) := by
    refine ⟨by rw [Int.pow_succ]; omega, fun _ => ?_⟩
    rw [Nat.add_sub_cancel]; omega
   have hb : 2 * M + 1 <= 18446744073709551615 := by omega
   clear hM hlo hs
   go_wp2
   go_round
   case rel => exact ⟨k + 1, 2 * M + 1, by omega, rfl, HN.out.1, by omega, hb, HN.out.2⟩
   case measure => simp [intOf]; omega
  ·have HE : Hid (M = formL n) := by
    rw [form_eq (k := k) hn.1 hn.2 (by omega) hlo]
    exact hM
   clear hM hlo
   go_wp2
   go_ret
   exact ⟨ret1 HE.out, rfl⟩
theorem half_any (a b : Int) (w : World) (ha : 0 <= a /\ a <= 18446744073709551615) (hb : 0 <= b /\ b <= 18446744073709551615) :
  Calls Tryz.prog 107 #[.int .u64 a, .int .u64 b] w fun e w' => e = .returned (.int .u64 (a / 2 ^ min b.toNat 64)) /\ w = w' := by
 obtain ⟨B, rfl⟩ := Int.eq_ofNat_of_zero_le hb.1
 rw [Int.toNat_natCast]
 go_enter Tryz.func107, Tryz.ntmps107
 go_wp2
 go_loop [0, 5] (fun u i => ∃ (k : Nat) (A : Int), k <= B /\ i = .int .u64 k /\ u = .int .u64 A /\ 0 <= A /\ A <= 18446744073709551615 /\ A = a / 2 ^ k) (fun _ i => B - (intOf i).toNat)
 case atStart => exact ⟨0, a, by omega, rfl, rfl, by omega, by omega, by simp⟩
 case round =>
  obtain ⟨k, A, hk, rfl, rfl, hA0, hA1, hA⟩ := hrel
  have HA : Hid (A = a / 2 ^ k) := hA
  clear hA
  by_cases hlt : k < B /\ 0 < A
  ·obtain ⟨h1, h2⟩ := hlt
   have HN : Hid (A / 2 = a / 2 ^ (k + 1)) := by rw [HA.out, div_pow_add]; rfl
   clear HA
   go_wp2
   go_round
   case rel => exact ⟨k + 1, _, by omega, by go_num, rfl, by omega, by omega, HN.out⟩
   case measure => simp [intOf]; omega
  ·have HE : Hid (A = a / 2 ^ min B 64) := by
    rw [HA.out]
    exact till_zero (f := fun i => a / 2 ^ i) (shr_zero a ha.1 ha.2) (shr_stays a) hk (by
     by_cases h : k = B
     ·exact .inl h
     ·exact .inr (by show _ = (0 : Int); rw [<- HA.out]; omega))
   clear HA
   by_cases h1 : k < B
   ·obtain rfl : A = 0 := by omega
    go_wp2
    go_ret
    exact ⟨ret1 HE.out, rfl⟩
   ·go_wp2
    go_ret
    exact ⟨ret1 HE.out, rfl⟩
theorem sref_same1_16 (a A n : Int) (w : World) (ha : 0 <= a /\ a <= A /\ A <= 18446744073709551615) (hb : 0 <= n /\ n <= 18446744073709551615) (h : hasN a A n = true) :
  Calls Tryz.prog 89 #[.int .i64 16, .agg #[.int .u64 a, .int .u64 A], .agg #[.int .u64 n, .int .u64 n], .bool true] w fun e w' => e = .returned (.tuple #[.agg #[.int .u64 (n), .int .u64 (n)], .bool true]) /\ Below w.heap.size w w' := by
 have h1 : decide (a <= A) = true := decide_eq_true ha.2.1
 have h2 : decide (n <= n) = true := decide_eq_true (Int.le_refl _)
 go_enter Tryz.func89, Tryz.ntmps89
 go_wp2_with (first
  | (go_at_call 90; go_must (refine (qAd _ _ _).mono ?_); rintro e w' ⟨rfl, rfl⟩)
  | (go_at_call 91; go_must (refine (qAw _ _ _ _).mono ?_); rintro e w' ⟨rfl, rfl⟩))
 refine bodyPost_ret (v := .tuple #[.agg #[.int .u64 (n), .int .u64 (n)], .bool true]) ?_ rfl ⟨rfl, by go_grown⟩
 rw [results_cell_tmp rfl]
 simp [asAddr, Result.andThen]
 rw [qAb (a := n) (A := n)]
 all_goals go_cell
theorem sref_same2_16 (a A n : Int) (w : World) (ha : 0 <= a /\ a <= A /\ A <= 18446744073709551615) (hb : 0 <= n /\ n <= 18446744073709551615) (h : hasN a A n = false) :
  Calls Tryz.prog 89 #[.int .i64 16, .agg #[.int .u64 a, .int .u64 A], .agg #[.int .u64 n, .int .u64 n], .bool true] w fun e w' => e = .returned (.tuple #[.agg #[.int .u64 (0), .int .u64 (0)], .bool false]) /\ Below w.heap.size w w' := by
 have h1 : decide (a <= A) = true := decide_eq_true ha.2.1
 have h2 : decide (n <= n) = true := decide_eq_true (Int.le_refl _)
 go_enter Tryz.func89, Tryz.ntmps89
 go_wp2_with (first
  | (go_at_call 90; go_must (refine (qAd _ _ _).mono ?_); rintro e w' ⟨rfl, rfl⟩)
  | (go_at_call 91; go_must (refine (qAw _ _ _ _).mono ?_); rintro e w' ⟨rfl, rfl⟩))
 refine bodyPost_ret (v := .tuple #[.agg #[.int .u64 (0), .int .u64 (0)], .bool false]) ?_ rfl ⟨rfl, by go_grown⟩
 rw [results_cell_tmp rfl]
 simp [asAddr, Result.andThen]
 rw [qAb (a := 0) (A := 0)]
 all_goals go_cell
theorem sref_same1_17 (a A n : Int) (w : World) (ha : 0 <= a /\ a <= A /\ A <= 18446744073709551615) (hb : 0 <= n /\ n <= 18446744073709551615) (h : hasN a A n = true) :
  Calls Tryz.prog 89 #[.int .i64 17, .agg #[.int .u64 a, .int .u64 A], .agg #[.int .u64 n, .int .u64 n], .bool false] w fun e w' => e = .returned (.tuple #[.agg #[.int .u64 (n), .int .u64 (n)], .bool true]) /\ Below w.heap.size w w' := by
 have h1 : decide (a <= A) = true := decide_eq_true ha.2.1
 have h2 : decide (n <= n) = true := decide_eq_true (Int.le_refl _)
 go_enter Tryz.func89, Tryz.ntmps89
 go_wp2_with (first
  | (go_at_call 90; go_must (refine (qAd _ _ _).mono ?_); rintro e w' ⟨rfl, rfl⟩)
  | (go_at_call 91; go_must (refine (qAw _ _ _ _).mono ?_); rintro e w' ⟨rfl, rfl⟩))
 refine bodyPost_ret (v := .tuple #[.agg #[.int .u64 (n), .int .u64 (n)], .bool true]) ?_ rfl ⟨rfl, by go_grown⟩
 rw [results_cell_tmp rfl]
 simp [asAddr, Result.andThen]
 rw [qAb (a := n) (A := n)]
 all_goals go_cell
theorem sref_same2_17 (a A n : Int) (w : World) (ha : 0 <= a /\ a <= A /\ A <= 18446744073709551615) (hb : 0 <= n /\ n <= 18446744073709551615) (h : hasN a A n = false) :
  Calls Tryz.prog 89 #[.int .i64 17, .agg #[.int .u64 a, .int .u64 A], .agg #[.int .u64 n, .int .u64 n], .bool false] w fun e w' => e = .returned (.tuple #[.agg #[.int .u64 (0), .int .u64 (0)], .bool false]) /\ Below w.heap.size w w' := by
 have h1 : decide (a <= A) = true := decide_eq_true ha.2.1
 have h2 : decide (n <= n) = true := decide_eq_true (Int.le_refl _)
 go_enter Tryz.func89, Tryz.ntmps89
 go_wp2_with (first
  | (go_at_call 90; go_must (refine (qAd _ _ _).mono ?_); rintro e w' ⟨rfl, rfl⟩)
  | (go_at_call 91; go_must (refine (qAw _ _ _ _).mono ?_); rintro e w' ⟨rfl, rfl⟩))
 refine bodyPost_ret (v := .tuple #[.agg #[.int .u64 (0), .int .u64 (0)], .bool false]) ?_ rfl ⟨rfl, by go_grown⟩
 rw [results_cell_tmp rfl]
 simp [asAddr, Result.andThen]
 rw [qAb (a := 0) (A := 0)]
 all_goals go_cell
theorem sref_not1_16 (n : Int) (w : World) (ha : 0 <= n /\ n <= n /\ n <= 18446744073709551615) (hb : 0 <= n /\ n <= 18446744073709551615)  :
  Calls Tryz.prog 89 #[.int .i64 16, .agg #[.int .u64 n, .int .u64 n], .agg #[.int .u64 n, .int .u64 n], .bool false] w fun e w' => e = .returned (.tuple #[.agg #[.int .u64 (0), .int .u64 (0)], .bool false]) /\ Below w.heap.size w w' := by
 have h1 : decide (n <= n) = true := decide_eq_true ha.2.1
 have h2 : decide (n <= n) = true := decide_eq_true (Int.le_refl _)
 go_enter Tryz.func89, Tryz.ntmps89
 go_wp2_with (first
  | (go_at_call 90; go_must (refine (qAd _ _ _).mono ?_); rintro e w' ⟨rfl, rfl⟩)
  | (go_at_call 91; go_must (refine (qAw _ _ _ _).mono ?_); rintro e w' ⟨rfl, rfl⟩))
 refine bodyPost_ret (v := .tuple #[.agg #[.int .u64 (0), .int .u64 (0)], .bool false]) ?_ rfl ⟨rfl, by go_grown⟩
 rw [results_cell_tmp rfl]
 simp [asAddr, Result.andThen]
 rw [qAb (a := 0) (A := 0)]
 all_goals go_cell
theorem sref_not2_16 (A n : Int) (w : World) (ha : 0 <= n /\ n <= A /\ A <= 18446744073709551615) (hb : 0 <= n /\ n <= 18446744073709551615) (h : (A == n) = false) (hX : IntKind.u64.wrap (n + 1) = n + 1) :
  Calls Tryz.prog 89 #[.int .i64 16, .agg #[.int .u64 n, .int .u64 A], .agg #[.int .u64 n, .int .u64 n], .bool false] w fun e w' => e = .returned (.tuple #[.agg #[.int .u64 (n + 1), .int .u64 (A)], .bool true]) /\ Below w.heap.size w w' := by
 have h1 : decide (n <= A) = true := decide_eq_true ha.2.1
 have h2 : decide (n <= n) = true := decide_eq_true (Int.le_refl _)
 go_enter Tryz.func89, Tryz.ntmps89
 go_wp2_with (first
  | (go_at_call 90; go_must (refine (qAd _ _ _).mono ?_); rintro e w' ⟨rfl, rfl⟩)
  | (go_at_call 91; go_must (refine (qAw _ _ _ _).mono ?_); rintro e w' ⟨rfl, rfl⟩))
 refine bodyPost_ret (v := .tuple #[.agg #[.int .u64 (n + 1), .int .u64 (A)], .bool true]) ?_ rfl ⟨rfl, by go_grown⟩
 rw [results_cell_tmp rfl]
 simp [asAddr, Result.andThen]
 rw [qAb (a := n + 1) (A := A)]
 all_goals go_cell
theorem sref_not3_16 (a n : Int) (w : World) (ha : 0 <= a /\ a <= n /\ n <= 18446744073709551615) (hb : 0 <= n /\ n <= 18446744073709551615) (h : (a == n) = false) (hX : IntKind.u64.wrap (n - 1) = n - 1) :
  Calls Tryz.prog 89 #[.int .i64 16, .agg #[.int .u64 a, .int .u64 n], .agg #[.int .u64 n, .int .u64 n], .bool false] w fun e w' => e = .returned (.tuple #[.agg #[.int .u64 (a), .int .u64 (n - 1)], .bool true]) /\ Below w.heap.size w w' := by
 have h1 : decide (a <= n) = true := decide_eq_true ha.2.1
 have h2 : decide (n <= n) = true := decide_eq_true (Int.le_refl _)
 go_enter Tryz.func89, Tryz.ntmps89
 go_wp2_with (first
  | (go_at_call 90; go_must (refine (qAd _ _ _).mono ?_); rintro e w' ⟨rfl, rfl⟩)
  | (go_at_call 91; go_must (refine (qAw _ _ _ _).mono ?_); rintro e w' ⟨rfl, rfl⟩))
 refine bodyPost_ret (v := .tuple #[.agg #[.int .u64 (a), .int .u64 (n - 1)], .bool true]) ?_ rfl ⟨rfl, by go_grown⟩
 rw [results_cell_tmp rfl]
 simp [asAddr, Result.andThen]
 rw [qAb (a := a) (A := n - 1)]
 all_goals go_cell
theorem sref_not4_16 (a A n : Int) (w : World) (ha : 0 <= a /\ a <= A /\ A <= 18446744073709551615) (hb : 0 <= n /\ n <= 18446744073709551615) (h : (a == n) = false) (h' : (A == n) = false) :
  Calls Tryz.prog 89 #[.int .i64 16, .agg #[.int .u64 a, .int .u64 A], .agg #[.int .u64 n, .int .u64 n], .bool false] w fun e w' => e = .returned (.tuple #[.agg #[.int .u64 (a), .int .u64 (A)], .bool true]) /\ Below w.heap.size w w' := by
 have h1 : decide (a <= A) = true := decide_eq_true ha.2.1
 have h2 : decide (n <= n) = true := decide_eq_true (Int.le_refl _)
 go_enter Tryz.func89, Tryz.ntmps89
 go_wp2_with (first
  | (go_at_call 90; go_must (refine (qAd _ _ _).mono ?_); rintro e w' ⟨rfl, rfl⟩)
  | (go_at_call 91; go_must (refine (qAw _ _ _ _).mono ?_); rintro e w' ⟨rfl, rfl⟩))
 refine bodyPost_ret (v := .tuple #[.agg #[.int .u64 (a), .int .u64 (A)], .bool true]) ?_ rfl ⟨rfl, by go_grown⟩
 rw [results_cell_tmp rfl]
 simp [asAddr, Result.andThen]
 rw [qAb (a := a) (A := A)]
 all_goals go_cell
theorem sref_not1_17 (n : Int) (w : World) (ha : 0 <= n /\ n <= n /\ n <= 18446744073709551615) (hb : 0 <= n /\ n <= 18446744073709551615)  :
  Calls Tryz.prog 89 #[.int .i64 17, .agg #[.int .u64 n, .int .u64 n], .agg #[.int .u64 n, .int .u64 n], .bool true] w fun e w' => e = .returned (.tuple #[.agg #[.int .u64 (0), .int .u64 (0)], .bool false]) /\ Below w.heap.size w w' := by
 have h1 : decide (n <= n) = true := decide_eq_true ha.2.1
 have h2 : decide (n <= n) = true := decide_eq_true (Int.le_refl _)
 go_enter Tryz.func89, Tryz.ntmps89
 go_wp2_with (first
  | (go_at_call 90; go_must (refine (qAd _ _ _).mono ?_); rintro e w' ⟨rfl, rfl⟩)
  | (go_at_call 91; go_must (refine (qAw _ _ _ _).mono ?_); rintro e w' ⟨rfl, rfl⟩))
 refine bodyPost_ret (v := .tuple #[.agg #[.int .u64 (0), .int .u64 (0)], .bool false]) ?_ rfl ⟨rfl, by go_grown⟩
 rw [results_cell_tmp rfl]
 simp [asAddr, Result.andThen]
 rw [qAb (a := 0) (A := 0)]
 all_goals go_cell
theorem sref_not2_17 (A n : Int) (w : World) (ha : 0 <= n /\ n <= A /\ A <= 18446744073709551615) (hb : 0 <= n /\ n <= 18446744073709551615) (h : (A == n) = false) (hX : IntKind.u64.wrap (n + 1) = n + 1) :
  Calls Tryz.prog 89 #[.int .i64 17, .agg #[.int .u64 n, .int .u64 A], .agg #[.int .u64 n, .int .u64 n], .bool true] w fun e w' => e = .returned (.tuple #[.agg #[.int .u64 (n + 1), .int .u64 (A)], .bool true]) /\ Below w.heap.size w w' := by
 have h1 : decide (n <= A) = true := decide_eq_true ha.2.1
 have h2 : decide (n <= n) = true := decide_eq_true (Int.le_refl _)
 go_enter Tryz.func89, Tryz.ntmps89
 go_wp2_with (first
  | (go_at_call 90; go_must (refine (qAd _ _ _).mono ?_); rintro e w' ⟨rfl, rfl⟩)
  | (go_at_call 91; go_must (refine (qAw _ _ _ _).mono ?_); rintro e w' ⟨rfl, rfl⟩))
 refine bodyPost_ret (v := .tuple #[.agg #[.int .u64 (n + 1), .int .u64 (A)], .bool true]) ?_ rfl ⟨rfl, by go_grown⟩
 rw [results_cell_tmp rfl]
 simp [asAddr, Result.andThen]
 rw [qAb (a := n + 1) (A := A)]
 all_goals go_cell
theorem sref_not3_17 (a n : Int) (w : World) (ha : 0 <= a /\ a <= n /\ n <= 18446744073709551615) (hb : 0 <= n /\ n <= 18446744073709551615) (h : (a == n) = false) (hX : IntKind.u64.wrap (n - 1) = n - 1) :
  Calls Tryz.prog 89 #[.int .i64 17, .agg #[.int .u64 a, .int .u64 n], .agg #[.int .u64 n, .int .u64 n], .bool true] w fun e w' => e = .returned (.tuple #[.agg #[.int .u64 (a), .int .u64 (n - 1)], .bool true]) /\ Below w.heap.size w w' := by
 have h1 : decide (a <= n) = true := decide_eq_true ha.2.1
 have h2 : decide (n <= n) = true := decide_eq_true (Int.le_refl _)
 go_enter Tryz.func89, Tryz.ntmps89
 go_wp2_with (first
  | (go_at_call 90; go_must (refine (qAd _ _ _).mono ?_); rintro e w' ⟨rfl, rfl⟩)
  | (go_at_call 91; go_must (refine (qAw _ _ _ _).mono ?_); rintro e w' ⟨rfl, rfl⟩))
 refine bodyPost_ret (v := .tuple #[.agg #[.int .u64 (a), .int .u64 (n - 1)], .bool true]) ?_ rfl ⟨rfl, by go_grown⟩
 rw [results_cell_tmp rfl]
 simp [asAddr, Result.andThen]
 rw [qAb (a := a) (A := n - 1)]
 all_goals go_cell
theorem sref_not4_17 (a A n : Int) (w : World) (ha : 0 <= a /\ a <= A /\ A <= 18446744073709551615) (hb : 0 <= n /\ n <= 18446744073709551615) (h : (a == n) = false) (h' : (A == n) = false) :
  Calls Tryz.prog 89 #[.int .i64 17, .agg #[.int .u64 a, .int .u64 A], .agg #[.int .u64 n, .int .u64 n], .bool true] w fun e w' => e = .returned (.tuple #[.agg #[.int .u64 (a), .int .u64 (A)], .bool true]) /\ Below w.heap.size w w' := by
 have h1 : decide (a <= A) = true := decide_eq_true ha.2.1
 have h2 : decide (n <= n) = true := decide_eq_true (Int.le_refl _)
 go_enter Tryz.func89, Tryz.ntmps89
 go_wp2_with (first
  | (go_at_call 90; go_must (refine (qAd _ _ _).mono ?_); rintro e w' ⟨rfl, rfl⟩)
  | (go_at_call 91; go_must (refine (qAw _ _ _ _).mono ?_); rintro e w' ⟨rfl, rfl⟩))
 refine bodyPost_ret (v := .tuple #[.agg #[.int .u64 (a), .int .u64 (A)], .bool true]) ?_ rfl ⟨rfl, by go_grown⟩
 rw [results_cell_tmp rfl]
 simp [asAddr, Result.andThen]
 rw [qAb (a := a) (A := A)]
 all_goals go_cell
end Go.Proofs.YtkcofelpndlplaaGreat
