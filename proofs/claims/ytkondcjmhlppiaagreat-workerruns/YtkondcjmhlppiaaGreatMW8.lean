/-
  S10Meth
  S10Raise
  S10Totals
  S10Awake
  W10Marks
  W10Totals
  S10Ask
-/
import Derived.Test.YtkondcjmhlppiaaGreatMW7
import Derived.Test.YtkondcjmhlppiaaGreatMW6
import Derived.Deep.RegionHeld3
import Derived.Lib.MinMax
import Derived.Lib.SliceRun
namespace Go.Proofs.YtkondcjmhlppiaaGreat
open Go.RowKit
set_option linter.unusedVariables false
set_option linter.unusedSimpArgs false
set_option maxRecDepth 100000
def nums (xs : List Int) : List Value := xs.map (Value.int .u64)
structure Sc (w : World) (b : Nat) (ws cs : List Int) : Prop where
 hp : Hp w b 99 (nums ws ++ nums cs)
 lw : ws.length = 16
 lc : cs.length = 16
def nought : List Int := List.replicate 16 0
theorem nums_len (xs : List Int) : (nums xs).length = xs.length := by simp [nums]
theorem nums_at (xs : List Int) {k : Nat} (h : k < xs.length) : (nums xs)[k]? = some (.int .u64 (xs.getD k 0)) := by
 simp [nums, List.getD, List.getElem?_eq_getElem h]
theorem nums_set (xs : List Int) (k : Nat) (n : Int) : (nums xs).set k (.int .u64 n) = nums (xs.set k n) := by
 simp [nums, List.map_set]
theorem Sc.word {w : World} {b : Nat} {ws cs : List Int} (h : Sc w b ws cs) {k : Nat} (hk : k < 16) : w.cell? ⟨b, k, none⟩ = some (.int .u64 (ws.getD k 0)) := by
 refine h.hp.cell ?_
 rw [List.getElem?_append_left (by rw [nums_len, h.lw]; exact hk)]
 exact nums_at ws (by rw [h.lw]; exact hk)
theorem Sc.count {w : World} {b : Nat} {ws cs : List Int} (h : Sc w b ws cs) {k : Nat} (hk : k < 16) : w.cell? ⟨b, 16 + k, none⟩ = some (.int .u64 (cs.getD k 0)) := by
 refine h.hp.cell ?_
 rw [List.getElem?_append_right (by rw [nums_len, h.lw]; omega), nums_len, h.lw, show 16 + k - 16 = k by omega]
 exact nums_at cs (by rw [h.lc]; exact hk)
theorem Sc.setW {w : World} {b : Nat} {ws cs : List Int} (h : Sc w b ws cs) {k : Nat} (hk : k < 16) (n : Int) : Sc (w.setCell ⟨b, k, none⟩ (.int .u64 n)) b (ws.set k n) cs := by
 refine ⟨?_, by simp [h.lw], h.lc⟩
 have := h.hp.set k (.int .u64 n)
 rw [List.set_append_left _ _ (by rw [nums_len, h.lw]; exact hk), nums_set] at this
 exact this
theorem Sc.setC {w : World} {b : Nat} {ws cs : List Int} (h : Sc w b ws cs) {k : Nat} (hk : k < 16) (n : Int) : Sc (w.setCell ⟨b, 16 + k, none⟩ (.int .u64 n)) b ws (cs.set k n) := by
 refine ⟨?_, h.lw, by simp [h.lc]⟩
 have := h.hp.set (16 + k) (.int .u64 n)
 rw [List.set_append_right _ _ (by rw [nums_len, h.lw]; omega), nums_len, h.lw, show 16 + k - 16 = k by omega, nums_set] at this
 exact this
theorem Sc.lt {w : World} {b : Nat} {ws cs : List Int} (h : Sc w b ws cs) : b < w.heap.size := h.hp.lt
theorem Sc.below {w w' : World} {b B : Nat} {ws cs : List Int} (h : Sc w b ws cs) (hb : Below B w w') (hB : b < B) : Sc w' b ws cs := ⟨h.hp.below hb hB, h.lw, h.lc⟩
theorem Sc.grown {w w' : World} {b : Nat} {ws cs : List Int} {row : Option Nat} (h : Sc w b ws cs) (hg : w.grownBy w' row) (hne : some b ≠ row) : Sc w' b ws cs := ⟨h.hp.grown hg hne, h.lw, h.lc⟩
theorem Sc.alloc {w : World} {b : Nat} {ws cs : List Int} (h : Sc w b ws cs) (o : Obj) : Sc (w.alloc o) b ws cs := ⟨h.hp.alloc o, h.lw, h.lc⟩
theorem Sc.drew {w : World} {b : Nat} {ws cs : List Int} (h : Sc w b ws cs) : Sc w.drew b ws cs := ⟨h.hp.drew, h.lw, h.lc⟩
def inB (at' : Int) : Bool := decide (0 <= at' /\ at' < 16)
theorem swithin_any (a m : Int) (w : World) : Calls Tryz.prog 92 #[.int .i64 a, .int .i64 m] w fun e w' => e = .returned (.bool (decide (0 <= a /\ a < m))) /\ w' = w := by
 by_cases h1 : 0 <= a
 ·by_cases h2 : a < m
  ·have h3 : decide (0 <= a /\ a < m) = true := decide_eq_true ⟨h1, h2⟩
   rw [h3]
   go_enter Tryz.func92, Tryz.ntmps92
   go_wp2
   go_ret
   exact ⟨rfl, rfl⟩
  ·have h3 : decide (0 <= a /\ a < m) = false := decide_eq_false (fun h => h2 h.2)
   rw [h3]
   go_enter Tryz.func92, Tryz.ntmps92
   go_wp2
   go_ret
   exact ⟨rfl, rfl⟩
 ·have h3 : decide (0 <= a /\ a < m) = false := decide_eq_false (fun h => h1 h.1)
  rw [h3]
  go_enter Tryz.func92, Tryz.ntmps92
  go_wp2
  go_ret
  exact ⟨rfl, rfl⟩
theorem new_any (w : World) : Calls Tryz.prog 17 #[] w fun e w' => e = .returned (.pointer (some ⟨w.heap.size, 0, none⟩)) /\ Sc w' w.heap.size nought nought /\ w'.heap.size = w.heap.size + 1 /\ Below w.heap.size w w' := by
 go_enter Tryz.func17, Tryz.ntmps17
 go_wp2
 go_ret
 exact ⟨rfl, ⟨Hp.new w _ _, rfl, rfl⟩, by simp, (Below.refl _ _).alloc (Nat.le_refl _) _⟩
theorem swithin_as {a : Int} {r : Bool} (h : Hid (inB a = r)) (w : World) : Calls Tryz.prog 92 #[.int .i64 a, .int .i64 16] w fun e w' => e = .returned (.bool r) /\ w' = w := by
 rw [<- h.out]; exact swithin_any a 16 w
theorem load_any (a : Int) {b : Nat} {ws cs : List Int} (w : World) (h : Sc w b ws cs) : Calls Tryz.prog 68 #[.pointer (some ⟨b, 0, none⟩), .int .i64 a] w fun e w' => e = .returned (.tuple #[.int .u64 (if inB a then ws.getD a.toNat 0 else 0), .int .i64 (if inB a then 0 else 35)]) /\ w' = w := by
 cases hi : inB a with
 | false =>
  have HI : Hid (inB a = false) := hi
  clear hi
  go_enter Tryz.func68, Tryz.ntmps68
  go_wp2_with (go_at_call 92; go_must (refine (swithin_as HI _).mono ?_); rintro e w1 ⟨rfl, rfl⟩)
  go_ret2
  exact ⟨rfl, rfl⟩
 | true =>
  have HI : Hid (inB a = true) := hi
  obtain ⟨h0, h1⟩ : 0 <= a /\ a < 16 := of_decide_eq_true hi
  obtain ⟨k, rfl⟩ : ∃ k : Nat, a = k := ⟨a.toNat, by omega⟩
  have c := h.word (k := k) (by omega)
  obtain ⟨x, HX⟩ : ∃ x, Hid (ws.getD k 0 = x) := ⟨_, rfl⟩
  rw [Int.toNat_natCast]
  rw [HX.out] at c ⊢
  clear hi
  go_enter Tryz.func68, Tryz.ntmps68
  go_wp2_with (go_at_call 92; go_must (refine (swithin_as HI _).mono ?_); rintro e w1 ⟨rfl, rfl⟩)
  go_ret2
  exact ⟨rfl, rfl⟩
theorem store_any (a n : Int) {b : Nat} {ws cs : List Int} (w : World) (h : Sc w b ws cs) : Calls Tryz.prog 69 #[.pointer (some ⟨b, 0, none⟩), .int .i64 a, .int .u64 n] w fun e w' => e = .returned (.int .i64 (if inB a then 0 else 35)) /\ Sc w' b (if inB a then ws.set a.toNat n else ws) cs /\ w.grownBy w' (some b) /\ w'.heap.size = w.heap.size := by
 cases hi : inB a with
 | false =>
  have HI : Hid (inB a = false) := hi
  have HH : Hid (Sc w b ws cs) := h
  clear hi h
  go_enter Tryz.func69, Tryz.ntmps69
  go_wp2_with (go_at_call 92; go_must (refine (swithin_as HI _).mono ?_); rintro e w1 ⟨rfl, rfl⟩)
  go_ret
  exact ⟨rfl, HH.out, grownJ_refl _ _, rfl⟩
 | true =>
  have HI : Hid (inB a = true) := hi
  obtain ⟨h0, h1⟩ : 0 <= a /\ a < 16 := of_decide_eq_true hi
  obtain ⟨k, rfl⟩ : ∃ k : Nat, a = k := ⟨a.toNat, by omega⟩
  have c := h.word (k := k) (by omega)
  have f := h.hp.frozen k
  have HH : Hid (Sc w b ws cs) := h
  rw [Int.toNat_natCast]
  clear hi h
  go_enter Tryz.func69, Tryz.ntmps69
  go_wp2_with (go_at_call 92; go_must (refine (swithin_as HI _).mono ?_); rintro e w1 ⟨rfl, rfl⟩)
  go_ret
  exact ⟨rfl, HH.out.setW (by omega) n, grown_set _ _ _ _, by simp [World.setCell]⟩

theorem wiped (ws : List Int) (cs : List Int) (h : ws.length = 16) : splice (nums ws ++ nums cs) 0 (List.replicate 16 (Value.int .u64 0)) = nums nought ++ nums cs := by
 rw [splice_ahead _ _ _ _ (by simp [nums_len, h]), splice_all _ _ (by simp [nums_len, h])]
 rfl
theorem wipe_any {b : Nat} {ws cs : List Int} (w : World) (h : Sc w b ws cs) : Calls Tryz.prog 34 #[.pointer (some ⟨b, 0, none⟩)] w fun e w' => e = .returned (.tuple #[]) /\ Sc w' b nought cs /\ w.grownBy w' (some b) := by
 have HH : Hid (Sc w b ws cs) := h
 have hcl : ∀ ty, (Builtin.clear_ #[159] ty #[.slice (some ⟨b, 0, none⟩) 16 16]).run Tryz.prog w = .ok (.tuple #[]) (w.setCells b 0 (List.replicate 16 (.int .u64 0))) := fun ty =>
  Lib.run_clear_slice w 159 26 ty (.int .u64 0) Tryz.underlying159 (fun w => by kernel_rfl) rfl rfl b 0 16 16 (by omega) (fun j hj => by rw [Nat.zero_add, h.word hj]; rfl) (fun j hj => h.hp.frozen _)
 clear h
 go_enter Tryz.func34, Tryz.ntmps34
 go_wp2
 have hs := HH.out.hp.sets (List.replicate 16 (Value.int .u64 0)) 0
 rw [wiped ws cs HH.out.lw] at hs
 exact bodyPost_end (results_none rfl _ _ _) rfl ⟨rfl, ⟨hs, rfl, HH.out.lc⟩, grown_sets _ _ _ _⟩
def addW (a b : Int) : Int := (a + b) % 18446744073709551616
def oneUp (cs : List Int) (k : Nat) : List Int := cs.set k (addW (cs.getD k 0) 1)
theorem mark_any (a : Int) {b : Nat} {ws cs : List Int} (w : World) (h : Sc w b ws cs) : Calls Tryz.prog 65 #[.pointer (some ⟨b, 16, none⟩), .int .i64 a] w fun e w' => e = .returned (.tuple #[.int .u64 (if inB a then addW (cs.getD a.toNat 0) 1 else 0), .int .i64 (if inB a then 0 else 35)]) /\ Sc w' b ws (if inB a then oneUp cs a.toNat else cs) /\ w.grownBy w' (some b) /\ w'.heap.size = w.heap.size := by
 cases hi : inB a with
 | false =>
  have HI : Hid (inB a = false) := hi
  have HH : Hid (Sc w b ws cs) := h
  clear hi h
  go_enter Tryz.func65, Tryz.ntmps65
  go_wp2_with (go_at_call 92; go_must (refine (swithin_as HI _).mono ?_); rintro e w1 ⟨rfl, rfl⟩)
  go_ret2
  exact ⟨rfl, HH.out, grownJ_refl _ _, rfl⟩
 | true =>
  have HI : Hid (inB a = true) := hi
  obtain ⟨h0, h1⟩ : 0 <= a /\ a < 16 := of_decide_eq_true hi
  obtain ⟨k, rfl⟩ : ∃ k : Nat, a = k := ⟨a.toNat, by omega⟩
  have c := h.count (k := k) (by omega)
  have f := h.hp.frozen (16 + k)
  have HH : Hid (Sc w b ws cs) := h
  rw [Int.toNat_natCast]
  obtain ⟨x, HX⟩ : ∃ x, Hid (cs.getD k 0 = x) := ⟨_, rfl⟩
  unfold oneUp
  rw [HX.out] at c ⊢
  clear hi h
  go_enter Tryz.func65, Tryz.ntmps65
  go_wp2_with (go_at_call 92; go_must (refine (swithin_as HI _).mono ?_); rintro e w1 ⟨rfl, rfl⟩)
  go_region
  all_goals go_wp2
  all_goals go_ret2
  all_goals exact ⟨rfl, HH.out.drew.setC (by omega) _, grown_undrew (grown_set _ _ _ _), by simp [World.setCell]⟩
theorem load_as {a x r : Int} {b : Nat} {ws cs : List Int} (hx : Hid ((if inB a then ws.getD a.toNat 0 else 0) = x)) (hr : Hid ((if inB a then 0 else 35 : Int) = r)) (w : World) (h : Sc w b ws cs) : Calls Tryz.prog 68 #[.pointer (some ⟨b, 0, none⟩), .int .i64 a] w fun e w' => e = .returned (.tuple #[.int .u64 x, .int .i64 r]) /\ w' = w := by
 rw [<- hx.out, <- hr.out]; exact load_any a w h
theorem store_as {a n r : Int} {b : Nat} {ws cs us : List Int} (hu : Hid ((if inB a then ws.set a.toNat n else ws) = us)) (hr : Hid ((if inB a then 0 else 35 : Int) = r)) (w : World) (h : Sc w b ws cs) : Calls Tryz.prog 69 #[.pointer (some ⟨b, 0, none⟩), .int .i64 a, .int .u64 n] w fun e w' => e = .returned (.int .i64 r) /\ Sc w' b us cs /\ w.grownBy w' (some b) /\ w'.heap.size = w.heap.size := by
 rw [<- hu.out, <- hr.out]; exact store_any a n w h
theorem mark_as {a x r : Int} {b : Nat} {ws cs us : List Int} (hx : Hid ((if inB a then addW (cs.getD a.toNat 0) 1 else 0) = x)) (hu : Hid ((if inB a then oneUp cs a.toNat else cs) = us)) (hr : Hid ((if inB a then 0 else 35 : Int) = r)) (w : World) (h : Sc w b ws cs) : Calls Tryz.prog 65 #[.pointer (some ⟨b, 16, none⟩), .int .i64 a] w fun e w' => e = .returned (.tuple #[.int .u64 x, .int .i64 r]) /\ Sc w' b ws us /\ w.grownBy w' (some b) /\ w'.heap.size = w.heap.size := by
 rw [<- hx.out, <- hu.out, <- hr.out]; exact mark_any a w h
theorem below_alloc10 (w : World) (o : Obj) : Below w.heap.size w (w.alloc o) := (Below.refl _ _).alloc (Nat.le_refl _) _
end Go.Proofs.YtkondcjmhlppiaaGreat
